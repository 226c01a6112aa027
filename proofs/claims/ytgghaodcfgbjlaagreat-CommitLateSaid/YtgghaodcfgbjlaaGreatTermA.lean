/-
 WHAT THE DOCUMENT'S ANSWER FOR LAYER 7 RETURNS: Eval, Cells.
-/
import Derived.Test.YtgghaodcfgbjlaaGreatMemA
import Derived.Test.YtgghaodcfgbjlaaGreatRows
set_option maxRecDepth 100000
namespace Go.Proofs.YtgghaodcfgbjlaaGreat.Term
open Go.ChangeShapes Go.WideShapes Go.ChangeAt Go.RowKit Mem
structure Op where
 kind:Int
 n:Int
 deriving DecidableEq,Inhabited
def oc (o:Op):List Value:= [.int .i64 o.kind,.int .i64 o.n]
def ops (l:List Op):List Value:=l.flatMap oc
theorem oc_len (o:Op):(oc o).length=2:=rfl
theorem ops_len {w:World} {A:Option Addr} {n:Nat} {l:List Op} (hr:Rd w 2 A n (ops l)):l.length=n:=Rd.len oc_len hr (by decide)
theorem at_op {w:World} {A:Option Addr} {n:Nat} {l:List Op} (hr:Rd w 2 A n (ops l)) (k:Nat) (hk:k<n):
  ∃b off,∃x:Op,A=some ⟨b,off,none⟩∧l[k]?=some x∧w.cell? ⟨b,off+k * 2,none⟩=some (.int .i64 x.kind)∧w.cell? ⟨b,off+k * 2+1,none⟩=some (.int .i64 x.n):=
 at_2 Op.kind Op.n (fun _=>rfl) hr k hk
def oneB (o:Op):Bool:=
 if o.kind=1 then Heap.vB o.n else if o.kind=2 then decide (0≤o.n∧o.n≤63) else if o.kind=3 then decide (0≤o.n∧o.n≤7) else decide (4≤o.kind∧o.kind≤11∧o.n=0)
theorem one_kind (o:Op) (h:oneB o=true):1≤o.kind∧o.kind≤11:=by
 unfold oneB at h
 by_cases h1:o.kind=1
 ·omega
 by_cases h2:o.kind=2
 ·omega
 by_cases h3:o.kind=3
 ·omega
 rw[if_neg h1,if_neg h2,if_neg h3]at h
 simp at h;omega
def takes (k:Int):Nat:=if k≤3 then 0 else if k=11 then 1 else 2
theorem takes_le (k:Int):takes k≤2:=by unfold takes;split <;> (try split) <;> omega
theorem takes_0 (k:Int) (h:takes k=0):k≤3:=by unfold takes at h;split at h <;> (try split at h) <;> omega
theorem takes_1 (k:Int) (h:takes k=1):k=11:=by unfold takes at h;split at h <;> (try split at h) <;> omega
theorem takes_2 (k:Int) (h:takes k=2):4≤k∧k≠11:=by unfold takes at h;split at h <;> (try split at h) <;> omega
def pile:List Op→Nat→Nat→Option (Nat × Nat)
 | [],c,d=>some (c,d)
 | o::t,c,d=>if c<takes o.kind then none else pile t (c+1 - takes o.kind) (max d (c+1 - takes o.kind))
inductive Tree
 | leaf (o:Op)
 | un (o:Op) (a:Tree)
 | bin (o:Op) (a b:Tree)
def Tree.ops:Tree→List Op
 | .leaf o=>[o]
 | .un o a=>a.ops++ [o]
 | .bin o a b=>a.ops++(b.ops++ [o])
def Tree.ok:Tree→Prop
 | .leaf o=>takes o.kind=0
 | .un o a=>takes o.kind=1∧a.ok
 | .bin o a b=>takes o.kind=2∧a.ok∧b.ok
def Tree.deep:Tree→Nat
 | .leaf _=>1
 | .un _ a=>a.deep
 | .bin _ a b=>max a.deep (b.deep+1)
theorem Tree.pos (T:Tree):0<T.ops.length:=by cases T <;> simp[Tree.ops] <;> omega
theorem Tree.deep_pos:(T:Tree)→1≤T.deep
 | .leaf _=>Nat.le_refl _
 | .un _ a=>a.deep_pos
 | .bin _ a b=>by have:=a.deep_pos;unfold Tree.deep;omega
theorem pile_tree:(T:Tree)→T.ok→∀(r:List Op) (c d:Nat),pile (T.ops++r) c d=pile r (c+1) (max d (c+T.deep))
 | .leaf o,h,r,c,d=>by
  have h:takes o.kind=0:=h
  simp[Tree.ops,Tree.deep,pile,h]
 | .un o a,h,r,c,d=>by
  obtain ⟨h1,h2⟩:takes o.kind=1∧a.ok:=h
  have ha:=a.deep_pos
  simp only[Tree.ops,Tree.deep,List.append_assoc,pile_tree a h2,List.cons_append,List.nil_append,pile,h1]
  rw[if_neg (by omega)]
  congr 1;omega
 | .bin o a b,h,r,c,d=>by
  obtain ⟨h1,h2,h3⟩:takes o.kind=2∧a.ok∧b.ok:=h
  have ha:=a.deep_pos
  have hb:=b.deep_pos
  simp only[Tree.ops,Tree.deep,List.append_assoc,pile_tree a h2,pile_tree b h3,List.cons_append,List.nil_append,pile,h1]
  rw[if_neg (by omega)]
  congr 1 <;> omega
theorem tree_pile (T:Tree) (h:T.ok):pile T.ops 0 0=some (1,T.deep):=by
 have:=pile_tree T h [] 0 0
 rw[List.append_nil]at this
 rw[this];simp[pile]
theorem last_two {α:Type} (F:List α) (h:2≤F.length):∃G a b,F=G++ [a,b]:=by
 refine ⟨F.take (F.length - 2),F[F.length - 2]'(by omega),F[F.length - 1]'(by omega),?_⟩
 apply List.ext_getElem?
 intro i
 by_cases h1:i<F.length - 2
 ·rw[List.getElem?_append_left (by simp;omega),List.getElem?_take_of_lt h1]
 ·rw [List.getElem?_append_right (by simp;omega),List.length_take]
  by_cases h2:i=F.length - 2
  ·subst h2
   rw[show F.length - 2 - min (F.length - 2) F.length=0 from by omega,List.getElem?_eq_getElem (by omega)];rfl
  ·by_cases h3:i=F.length - 1
   ·subst h3
    rw[show F.length - 1 - min (F.length - 2) F.length=1 from by omega,List.getElem?_eq_getElem (by omega)];rfl
   ·rw[List.getElem?_eq_none (by omega),List.getElem?_eq_none (by simp;omega)]
theorem last_one {α:Type} (F:List α) (h:1≤F.length):∃G a,F=G++ [a]:=
 ⟨F.dropLast,F.getLast (by intro e;rw[e]at h;simp at h),(List.dropLast_concat_getLast _).symm⟩
theorem pile_forest:(t:List Op)→(F:List Tree)→(∀T∈F,T.ok)→∀(d:Nat) (p:Nat × Nat),pile t F.length d=some p→
  ∃G:List Tree,(∀T∈G,T.ok)∧G.length=p.1∧F.flatMap Tree.ops++t=G.flatMap Tree.ops
 | [],F,hF,d,p,h=>by
  simp only[pile,Option.some.injEq]at h
  subst h
  exact ⟨F,hF,rfl,List.append_nil _⟩
 | o ::t,F,hF,d,p,h=>by
  unfold pile at h
  by_cases hlt:F.length<takes o.kind
  ·rw[if_pos hlt]at h;cases h
  rw[if_neg hlt]at h
  have hle:=takes_le o.kind
  rcases (by omega:takes o.kind=0∨takes o.kind=1∨takes o.kind=2) with h0 | h0 | h0
  ·rw [h0]at h
   obtain ⟨G,h1,h2,h3⟩:=pile_forest t (F++ [.leaf o]) (by
    intro T hT;rcases List.mem_append.1 hT with hT | hT
    ·exact hF T hT
    ·rw[List.mem_singleton.1 hT];exact h0) _ p (by rw[List.length_append];exact h)
   exact ⟨G,h1,h2,by rw[←h3];simp[Tree.ops]⟩
  ·obtain ⟨F0,a,rfl⟩:=last_one F (by omega)
   rw[h0]at h
   obtain ⟨G,h1,h2,h3⟩:=pile_forest t (F0++ [.un o a]) (by
    intro T hT;rcases List.mem_append.1 hT with hT | hT
    ·exact hF T (by simp[hT])
    ·rw[List.mem_singleton.1 hT];exact ⟨h0,hF a (by simp)⟩) _ p (by simp at h ⊢;exact h)
   exact ⟨G,h1,h2,by rw[←h3];simp[Tree.ops]⟩
  ·obtain ⟨F0,a,b,rfl⟩:=last_two F (by omega)
   rw[h0]at h
   obtain ⟨G,h1,h2,h3⟩:=pile_forest t (F0++ [.bin o a b]) (by
    intro T hT;rcases List.mem_append.1 hT with hT | hT
    ·exact hF T (by simp[hT])
    ·rw[List.mem_singleton.1 hT];exact ⟨h0,hF a (by simp),hF b (by simp)⟩) _ p (by simp at h ⊢;exact h)
   exact ⟨G,h1,h2,by rw[←h3];simp[Tree.ops]⟩
def wellB (t:List Op):Bool:=match pile t 0 0 with
 | some p=>decide (p.1=1)
 | none=>false
theorem well_tree (t:List Op) (h:wellB t=true):∃T:Tree,T.ok∧T.ops=t:=by
 unfold wellB at h
 cases hp:pile t 0 0 with
 | none=>rw[hp]at h;cases h
 | some p=>
  rw[hp]at h
  have h1:p.1=1:=by simpa using h
  obtain ⟨G,g1,g2,g3⟩:=pile_forest t [] (by simp) 0 p hp
  rw[h1]at g2
  match G,g2 with
  | [T],_=>exact ⟨T,g1 T (by simp),by simpa using g3.symm⟩
theorem tree_well (T:Tree) (h:T.ok):wellB T.ops=true:=by unfold wellB;rw[tree_pile T h];rfl
def checkS (t:List Op):Int:=if (decide (0<t.length∧t.length<13) && t.all oneB)=true then (if wellB t=true then 0 else 2) else 1
theorem check_ok (t:List Op) (h:checkS t=0):0<t.length∧t.length<13∧t.all oneB=true∧wellB t=true:=by
 unfold checkS at h
 split at h
 ·rename_i h1
  rw[Bool.and_eq_true]at h1
  have h2:0<t.length∧t.length<13:=by simpa using h1.1
  split at h
  ·exact ⟨h2.1,h2.2,h1.2,by assumption⟩
  ·cases h
 ·cases h
theorem check_bad (t:List Op) (k:Nat) (x:Op) (hk:t[k]?=some x) (hx:oneB x=false):checkS t=1:=by
 unfold checkS;rw[if_neg (by rw[all_bad t oneB k x hk hx];simp)]
theorem check_len (t:List Op) (h:¬(0<t.length∧t.length<13)):checkS t=1:=by
 unfold checkS;rw[if_neg (by rw[decide_eq_false h];simp)]
def cellsS (t:List Op):List Int:=if checkS t=0 then pick (fun c=>t.any fun o=>decide (o.kind=2) && decide (o.n=(c:Int))) 64 else []
def truthI (b:Bool):Int:=if b then 1 else 0
def two (k a b:Int):Int:=
 if k=4 then Span.sw (a+b) else if k=5 then Span.sw (a - b) else if k=6 then Span.sw (a * b) else if k=7 then truthI (a==b)
 else if k=8 then truthI (decide (a<b)) else if k=9 then truthI (a !=0 && b !=0) else truthI (a !=0 || b !=0)
def tellS (h:List Heap.Cell) (rg:List Int) (o:Op) (xs:List Int):Option Int:=
 if o.kind=1 then some o.n
 else if o.kind=2 then (if Heap.liveAt h o.n=true then some (Heap.valAt h o.n) else none)
 else if o.kind=3 then (rg[o.n.toNat]?).map Span.sw
 else if o.kind=11 then some (truthI (xs.getD 0 0==0))
 else some (two o.kind (xs.getD 0 0) (xs.getD 1 0))
def run (h:List Heap.Cell) (rg:List Int):List Op→List Int→Option (List Int)
 | [],xs=>some xs
 | o::t,xs=>match tellS h rg o (xs.drop (xs.length - takes o.kind)) with
  | none=>none
  | some v=>run h rg t (xs.take (xs.length - takes o.kind)++ [v])
def Tree.val (h:List Heap.Cell) (rg:List Int):Tree→Int × Bool
 | .leaf o=>match tellS h rg o [] with
  | some v=>(v,true)
  | none=>(0,false)
 | .un _ a=>(truthI ((a.val h rg).1==0),(a.val h rg).2)
 | .bin o a b=>(two o.kind (a.val h rg).1 (b.val h rg).1,(b.val h rg).2 && (a.val h rg).2)
def Tree.ev (h:List Heap.Cell) (rg:List Int) (T:Tree):Option Int:=bif (T.val h rg).2 then some (T.val h rg).1 else none
theorem tell_1 (h:List Heap.Cell) (rg:List Int) (o:Op) (x:Int) (hk:takes o.kind=1):tellS h rg o [x]=some (truthI (x==0)):=by
 have:=takes_1 _ hk
 unfold tellS
 rw[if_neg (by omega),if_neg (by omega),if_neg (by omega),if_pos this];rfl
theorem tell_2 (h:List Heap.Cell) (rg:List Int) (o:Op) (x y:Int) (hk:takes o.kind=2):tellS h rg o [x,y]=some (two o.kind x y):=by
 have:=takes_2 _ hk
 unfold tellS
 rw[if_neg (by omega),if_neg (by omega),if_neg (by omega),if_neg (by omega)];rfl
theorem run_tree (h:List Heap.Cell) (rg:List Int):(T:Tree)→T.ok→∀(r:List Op) (xs:List Int),
  run h rg (T.ops++r) xs=match T.ev h rg with
   | none=>none
   | some v=>run h rg r (xs++ [v])
 | .leaf o,hk,r,xs=>by
  have hk:takes o.kind=0:=hk
  simp only[Tree.ops,List.cons_append,List.nil_append,run,hk,Nat.sub_zero,List.drop_length,List.take_length,Tree.ev,Tree.val]
  cases tellS h rg o [] <;> rfl
 | .un o a,hk,r,xs=>by
  obtain ⟨h1,h2⟩:takes o.kind=1∧a.ok:=hk
  simp only[Tree.ops,List.append_assoc,run_tree h rg a h2,Tree.ev,Tree.val,List.cons_append,List.nil_append]
  cases hv:(a.val h rg).2
  ·rfl
  ·simp only[cond_true,run,h1]
   have e:(xs++ [(a.val h rg).1]).length - 1=xs.length:=by simp
   rw[e,List.drop_left,List.take_left,tell_1 _ _ _ _ h1]
 | .bin o a b,hk,r,xs=>by
  obtain ⟨h1,h2,h3⟩:takes o.kind=2∧a.ok∧b.ok:=hk
  simp only[Tree.ops,List.append_assoc,run_tree h rg a h2,run_tree h rg b h3,Tree.ev,Tree.val,List.cons_append,List.nil_append]
  cases hv:(a.val h rg).2
  ·simp
  ·cases hw:(b.val h rg).2
   ·simp
   ·simp only[cond_true,run,h1,Bool.and_self]
    have e:(xs++ [(a.val h rg).1,(b.val h rg).1]).length - 2=xs.length:=by simp
    rw[e,List.drop_left,List.take_left,tell_2 _ _ _ _ _ h1]
theorem tree_run (h:List Heap.Cell) (rg:List Int) (T:Tree) (hk:T.ok):run h rg T.ops []=(T.ev h rg).map (fun v=>[v]):=by
 have:=run_tree h rg T hk [] []
 rw[List.append_nil]at this
 rw[this];cases T.ev h rg <;> rfl
def evalS (t:List Op) (h:List Heap.Cell) (rg:List Int):Int × Int:=
 if checkS t=0 then (if Heap.rightB h=true then (match run h rg t [] with
  | some (v::_)=>(v,0)
  | _=>(0,3)) else (0,1)) else (0,checkS t)
theorem eval_tree (T:Tree) (hk:T.ok) (hc:checkS T.ops=0) (h:List Heap.Cell) (rg:List Int) (hr:Heap.rightB h=true):
  evalS T.ops h rg=if (T.val h rg).2=true then ((T.val h rg).1,0) else (0,3):=by
 unfold evalS
 rw[if_pos hc,if_pos hr,tree_run h rg T hk]
 unfold Tree.ev
 cases (T.val h rg).2 <;> rfl
theorem truth_v (b:Bool):Heap.vB (truthI b)=true:=by cases b <;> decide
theorem sw_v (n:Int):Heap.vB (Span.sw n)=true:=by have:=Span.sw_bd n;unfold Heap.vB;simpa using this
theorem two_v (k a b:Int):Heap.vB (two k a b)=true:=by
 unfold two
 repeat' split
 all_goals first | exact sw_v _ | exact truth_v _
theorem val_v (h:List Heap.Cell) (rg:List Int) (hr:Heap.rightB h=true):(T:Tree)→T.ok→T.ops.all oneB=true→Heap.vB (T.val h rg).1=true
 | .un o a,hk,ho=>truth_v _
 | .bin o a b,hk,ho=>two_v _ _ _
 | .leaf o,hk,ho=>by
  have hk:takes o.kind=0:=hk
  have h3:=takes_0 _ hk
  have ho:oneB o=true:=by simpa [Tree.ops] using ho
  have h1:=one_kind o ho
  unfold Tree.val tellS
  rcases (by omega:o.kind=1∨o.kind=2∨o.kind=3) with e | e | e
  ·rw [if_pos e]
   unfold oneB at ho;rw[if_pos e]at ho;exact ho
  ·rw [if_neg (by omega),if_pos e]
   cases hl:Heap.liveAt h o.n
   ·exact (by decide:Heap.vB 0=true)
   ·obtain ⟨h0,_,x,hx,_⟩:=Heap.live_in h o.n hl
    have hb:Heap.cellB x=true:=by
     unfold Heap.rightB at hr
     rw[Bool.and_eq_true]at hr
     exact List.all_eq_true.1 hr.2 x (List.mem_of_getElem? hx)
    have hv:Heap.valAt h o.n=x.value:=by unfold Heap.valAt;rw[hx];rfl
    rw[if_pos rfl,hv]
    unfold Heap.cellB at hb
    rw[Bool.and_eq_true]at hb
    exact hb.1
  ·rw [if_neg (by omega),if_neg (by omega),if_pos e]
   cases rg[o.n.toNat]?
   ·exact (by decide:Heap.vB 0=true)
   ·exact sw_v _
theorem refone_any (kd nn:Int) (w:World) (b:Bool) (hb:oneB ⟨kd,nn⟩=b):
  Calls Tryz.prog 168 #[.agg #[.int .i64 kd,.int .i64 nn]] w (RetBG w b):=by
 subst hb
 by_cases k1:kd=1
 ·subst k1
  go_enter Tryz.func168,Tryz.ntmps168
  go_wp2_with (go_at_call 125;refine (Span.refright_any _ _).mono ?_;rintro e w' ⟨rfl,rfl⟩)
  go_ret
  exact ⟨ret_bool rfl,(Grew.refl w).alloc _⟩
 by_cases k2:kd=2
 ·subst k2
  rcases (by omega:(0≤nn∧nn≤63)∨(0≤nn∧¬nn≤63)∨¬0≤nn) with ⟨h1,h2⟩ | ⟨h1,h2⟩ | h1
  all_goals
   go_enter Tryz.func168,Tryz.ntmps168
   go_wp2
   go_ret
   exact ⟨ret_bool (by unfold oneB;simp;omega),(Grew.refl w).alloc _⟩
 by_cases k3:kd=3
 ·subst k3
  rcases (by omega:(0≤nn∧nn≤7)∨(0≤nn∧¬nn≤7)∨¬0≤nn) with ⟨h1,h2⟩ | ⟨h1,h2⟩ | h1
  all_goals
   go_enter Tryz.func168,Tryz.ntmps168
   go_wp2
   go_ret
   exact ⟨ret_bool (by unfold oneB;simp;omega),(Grew.refl w).alloc _⟩
 have HK:Hid (oneB ⟨kd,nn⟩=decide (4≤kd∧kd≤11∧nn=0)):=Lh (by unfold oneB;rw[if_neg k1,if_neg k2,if_neg k3])
 have e1:(kd==1)=false:=beq_eq_false_iff_ne.2 k1
 have e2:(kd==2)=false:=beq_eq_false_iff_ne.2 k2
 have e3:(kd==3)=false:=beq_eq_false_iff_ne.2 k3
 clear k1 k2 k3
 by_cases h1:4≤kd
 ·by_cases h2:kd≤11
  ·by_cases h3:nn=0
   ·have HF:Hid (oneB ⟨kd,nn⟩=true):=Lh (by rw[HK.out];simp[h1,h2,h3])
    subst h3
    go_enter Tryz.func168,Tryz.ntmps168
    go_wp2
    go_ret
    exact ⟨ret_bool HF.out.symm,(Grew.refl w).alloc _⟩
   ·have HF:Hid (oneB ⟨kd,nn⟩=false):=Lh (by rw[HK.out];simp[h1,h2,h3])
    have e4:(nn==0)=false:=beq_eq_false_iff_ne.2 h3
    clear h3
    go_enter Tryz.func168,Tryz.ntmps168
    go_wp2
    go_ret
    exact ⟨ret_bool HF.out.symm,(Grew.refl w).alloc _⟩
  ·have HF:Hid (oneB ⟨kd,nn⟩=false):=Lh (by rw[HK.out];simp[h2])
   go_enter Tryz.func168,Tryz.ntmps168
   go_wp2
   go_ret
   exact ⟨ret_bool HF.out.symm,(Grew.refl w).alloc _⟩
 ·have HF:Hid (oneB ⟨kd,nn⟩=false):=Lh (by rw[HK.out];simp[h1])
  go_enter Tryz.func168,Tryz.ntmps168
  go_wp2
  go_ret
  exact ⟨ret_bool HF.out.symm,(Grew.refl w).alloc _⟩
theorem v_bd {n:Int} (h:Heap.vB n=true): -2147483648≤n∧n≤2147483647:=by unfold Heap.vB at h;simpa using h
theorem part_at (P Q X:List Op) (o:Op) (k:Nat) (hk:k=P.length+X.length):(P++(X++ [o]++Q))[k]?=some o:=by
 subst hk
 rw[List.getElem?_append_right (by omega),show P.length+X.length - P.length=X.length from by omega,List.append_assoc,List.getElem?_append_right (Nat.le_refl _),Nat.sub_self];rfl
theorem same_at {w:World} {A:Option Addr} {n:Nat} {l:List Op} (hr:Rd w 2 A n (ops l)) (k:Nat) (o:Op) (ho:l[k]?=some o):
  ∃b off,A=some ⟨b,off,none⟩∧k<n∧w.cell? ⟨b,off+k * 2,none⟩=some (.int .i64 o.kind)∧w.cell? ⟨b,off+k * 2+1,none⟩=some (.int .i64 o.n):=by
 have hkn:k<n:=by rw[←ops_len hr];exact (List.getElem?_eq_some_iff.1 ho).1
 obtain ⟨b,off,x,hA,hx,c0,c1⟩:=at_op hr k hkn
 rw[ho]at hx;injection hx with e;subst e
 exact ⟨b,off,hA,hkn,c0,c1⟩
set_option maxHeartbeats 400000 in
theorem refstart_tree (T:Tree):T.ok→∀(P Q l:List Op) (A:Option Addr) (n c k p:Nat) (w:World),Rd w 2 A n (ops l)→n≤1000000→l=P++(T.ops++Q)→k+1=P.length+T.ops.length→P.length=p→∀z:Int,z=(k:Int)→
  Calls Tryz.prog 169 #[.slice A n c,.int .i64 z] w fun e w' =>e=.returned (.int .i64 (p:Int))∧w=w' :=by
 induction T with
 | leaf o=>
  intro hok P Q l A n c k p w hr hn hl hk hp z hz
  subst hz
  have h3:o.kind≤3:=takes_0 _ hok
  have hkp:k=p:=by simp[Tree.ops]at hk;omega
  obtain ⟨b,off,rfl,hkn,c0,c1⟩:=same_at hr k o (by rw[hl];have:=part_at P Q [] o k (by simp;omega);simpa [Tree.ops] using this)
  subst hkp
  clear hr hl hk hp hok c1
  go_enter Tryz.func169,Tryz.ntmps169
  go_wp2
  go_ret
  exact ⟨rfl,rfl⟩
 | un o a iha=>
  intro hok P Q l A n c k p w hr hn hl hk hp z hz
  subst hz
  obtain ⟨h1,h2⟩:takes o.kind=1∧a.ok:=hok
  have hk11:=takes_1 _ h1
  have hap:=a.pos
  obtain ⟨j,rfl⟩:∃j,k=j+1:=⟨k - 1,by simp[Tree.ops]at hk;omega⟩
  have ih:=Lh (iha h2 P ([o]++Q) l A n c j p w hr hn (by rw[hl];simp[Tree.ops]) (by simp[Tree.ops]at hk;omega) hp)
  obtain ⟨b,off,rfl,hkn,c0,c1⟩:=same_at hr (j+1) o (by rw[hl];exact part_at P Q a.ops o (j+1) (by simp[Tree.ops]at hk;omega))
  obtain ⟨kd,nn⟩:=o
  obtain rfl:kd=11:=hk11
  obtain ⟨k,hkj⟩:∃k,k=j+1:=⟨_,rfl⟩
  rw[←hkj]at hkn c0 c1 ⊢
  have e1:(k:Int) - 1=(j:Int):=by omega
  have HJ:=Lh hkj
  clear hr hl hk hp c1 h1 h2 hap hkj iha
  go_enter Tryz.func169,Tryz.ntmps169
  go_wp2_with (go_at_call 169;refine (ih.out _ (by omega)).mono ?_;rintro e w' ⟨rfl,rfl⟩)
  go_ret
  exact ⟨rfl,rfl⟩
 | bin o a b iha ihb=>
  intro hok P Q l A n c k p w hr hn hl hk hp z hz
  subst hz
  obtain ⟨h1,h2,h3⟩:takes o.kind=2∧a.ok∧b.ok:=hok
  obtain ⟨hk4,hk11⟩:=takes_2 _ h1
  have hap:=a.pos
  have hbp:=b.pos
  obtain ⟨j,hj⟩:∃j,k=j+1:=⟨k - 1,by simp[Tree.ops]at hk;omega⟩
  obtain ⟨i,hi⟩:∃i,P.length+a.ops.length=i+1:=⟨P.length+a.ops.length - 1,by omega⟩
  obtain ⟨q,hq⟩:∃q,q=i+1:=⟨_,rfl⟩
  replace ihb:=Lh (ihb h3 (P++a.ops) ([o]++Q) l A n c j q w hr hn (by rw[hl];simp[Tree.ops]) (by simp[Tree.ops]at hk ⊢;omega) (by simp;omega))
  replace iha:=Lh (iha h2 P (b.ops++([o]++Q)) l A n c i p w hr hn (by rw[hl];simp[Tree.ops]) (by omega) hp)
  obtain ⟨bb,off,rfl,hkn,c0,c1⟩:=same_at hr k o (by rw[hl];have:=part_at P Q (a.ops++b.ops) o k (by simp[Tree.ops]at hk ⊢;omega);simpa [Tree.ops] using this)
  obtain ⟨kd,nn⟩:=o
  have hk4:4≤kd:=hk4
  have e11:(kd==11)=false:=beq_eq_false_iff_ne.2 hk11
  have e1:(k:Int) - 1=(j:Int):=by omega
  have e2:(q:Int) - 1=(i:Int):=by omega
  have hib:i≤1000000:=by have hln:=ops_len hr;rw[hl]at hln;simp[Tree.ops]at hln;omega
  have HJ:=Lh hj
  clear hr hl hk hp c1 h1 h2 h3 hk11 hap hbp hj hi hq
  go_enter Tryz.func169,Tryz.ntmps169
  go_wp2_with fail
  refine (ihb.out _ (by omega)).mono ?_
  rintro e w' ⟨rfl,rfl⟩
  go_wp2_with fail
  refine (iha.out _ (by omega)).mono ?_
  rintro e w' ⟨rfl,rfl⟩
  go_wp2_with fail
  go_ret
  exact ⟨rfl,rfl⟩
def Begins (l:List Op) (b:Int) (q:Int):Prop:=∃(T:Tree) (P Q:List Op),T.ok∧l=P++(T.ops++Q)∧(P.length:Int)=b∧((P.length+T.ops.length:Nat):Int)=q+1
theorem cut_at {α:Type} (l:List α) (k:Nat) (x:α) (h:l[k]?=some x):l=l.take k++([x]++l.drop (k+1)):=by
 obtain ⟨hl,rfl⟩:=List.getElem?_eq_some_iff.1 h
 simp
theorem begins_leaf (l:List Op) (k:Nat) (o:Op) (ho:l[k]?=some o) (h:o.kind≤3):Begins l k k:=by
 have hl:=(List.getElem?_eq_some_iff.1 ho).1
 exact ⟨.leaf o,l.take k,l.drop (k+1),by show takes o.kind=0;unfold takes;rw[if_pos h],cut_at l k o ho,by simp;omega,by simp[Tree.ops];omega⟩
theorem begins_un (l:List Op) (b:Int) (j:Nat) (o:Op) (ho:l[j+1]?=some o) (h:o.kind=11) (hb:Begins l b j):Begins l b ((j+1:Nat):Int):=by
 obtain ⟨T,P,Q,h1,h2,h3,h4⟩:=hb
 have hq:Q= [o]++Q.drop 1:=by
  have :Q[0]?=some o:=by
   rw[h2,←List.append_assoc,List.getElem?_append_right (by simp;omega)]at ho
   rwa [show j+1 - (P++T.ops).length=0 from by simp;omega]at ho
  exact cut_at Q 0 o this
 exact ⟨.un o T,P,Q.drop 1,⟨by unfold takes;rw[if_neg (by omega),if_pos h],h1⟩,by rw[h2];simp only[Tree.ops,List.append_assoc];rw[←hq],h3,by simp[Tree.ops];omega⟩
theorem begins_bin (l:List Op) (b c:Int) (j:Nat) (o:Op) (ho:l[j+1]?=some o) (h3:¬o.kind≤3) (h11:o.kind≠11) (hb:Begins l b j) (hc:Begins l c (b - 1)):Begins l c ((j+1:Nat):Int):=by
 obtain ⟨T,P,Q,g1,g2,g3,g4⟩:=hb
 obtain ⟨U,P',Q',u1,u2,u3,u4⟩:=hc
 have hq:Q= [o]++Q.drop 1:=by
  have :Q[0]?=some o:=by
   rw[g2,←List.append_assoc,List.getElem?_append_right (by simp;omega)]at ho
   rwa [show j+1 - (P++T.ops).length=0 from by simp;omega]at ho
  exact cut_at Q 0 o this
 have hP:P' ++U.ops=P:=by
  have e:(P' ++U.ops)++Q' =P++(T.ops++Q):=by rw[List.append_assoc,←u2,g2]
  have hlen:(P' ++U.ops).length=P.length:=by simp;omega
  exact (List.append_inj e hlen).1
 refine ⟨.bin o U T,P',Q.drop 1,⟨by unfold takes;rw[if_neg h3,if_neg h11],u1,g1⟩,?_,u3,?_⟩
 ·rw[g2,←hP];simp only[Tree.ops,List.append_assoc];rw[←hq]
 ·have :(P' ++U.ops).length=P.length:=by rw[hP]
  simp[Tree.ops]at this ⊢;omega
theorem refstart_any (l:List Op) (A:Option Addr) (n c:Nat) (w:World) (hr:Rd w 2 A n (ops l)) (hn:n≤1000000):(m:Nat)→∀(q:Int),-1≤q→q<m→q<n→
  Calls Tryz.prog 169 #[.slice A n c,.int .i64 q] w fun e w' =>(∃b:Int,e=.returned (.int .i64 b)∧ -1≤b∧b≤q∧Hid (0≤b→Begins l b q))∧w=w'
 | m, q,h1,h2,h3=>by
  by_cases h0:q<0
  ·obtain rfl:q= -1:=by omega
   clear hr
   go_enter Tryz.func169,Tryz.ntmps169
   go_wp2
   go_ret
   exact ⟨⟨-1,rfl,by omega,by omega,Lh (fun h=>by omega)⟩,rfl⟩
  obtain ⟨k,rfl⟩:=Int.eq_ofNat_of_zero_le (by omega:0≤q)
  have HR:=Lh hr
  obtain ⟨b0,off,⟨kd,nn⟩,rfl,hx,c0,c1⟩:=at_op hr k (by omega)
  have HX:=Lh hx
  clear hx c1 hr
  by_cases h4:kd≤3
  ·go_enter Tryz.func169,Tryz.ntmps169
   go_wp2
   go_ret
   exact ⟨⟨k,rfl,by omega,by omega,Lh (fun _=>begins_leaf l k _ HX.out h4)⟩,rfl⟩
  ·obtain ⟨m',rfl⟩:∃m',m=m' +1:=⟨m - 1,by omega⟩
   have ih:=Lh (refstart_any l (some ⟨b0,off,none⟩) n c w HR.out hn m')
   go_enter Tryz.func169,Tryz.ntmps169
   go_wp2_with fail
   refine (ih.out ((k:Int) - 1) (by omega) (by omega) (by omega)).mono ?_
   rintro e w' ⟨⟨b,rfl,b1,b2,HB⟩,rfl⟩
   by_cases h5:b<0
   ·go_wp2_with fail
    go_ret
    exact ⟨⟨b,rfl,b1,by omega,Lh (fun h=>by omega)⟩,rfl⟩
   ·have HJ:Hid (∃j:Nat,k=j+1):=Lh ⟨k - 1,by omega⟩
    have HB2:Hid (∀j:Nat,k=j+1→Begins l b j):=Lh (fun j hj=>by have:=HB.out (by omega);rwa [show (k:Int) - 1=(j:Int) from by omega]at this)
    by_cases h6:kd=11
    ·subst h6
     go_wp2_with fail
     go_ret
     exact ⟨⟨b,rfl,b1,by omega,Lh (fun h=>by obtain ⟨j,rfl⟩:=HJ.out;exact begins_un l b j _ HX.out rfl (HB2.out j rfl))⟩,rfl⟩
    ·have e11:(kd==11)=false:=beq_eq_false_iff_ne.2 h6
     have H6:=Lh h6
     clear h6
     go_wp2_with fail
     refine (ih.out (b - 1) (by omega) (by omega) (by omega)).mono ?_
     rintro e w' ⟨⟨b',rfl,d1,d2,HD⟩,rfl⟩
     go_wp2_with fail
     go_ret
     exact ⟨⟨b',rfl,d1,by omega,Lh (fun h=>by obtain ⟨j,rfl⟩:=HJ.out;exact begins_bin l b b' j _ HX.out (by show¬kd≤3;omega) H6.out (HB2.out j rfl) (HD.out h))⟩,rfl⟩
def RetI (w:World) (v:Int) (e:Ending) (w' :World):Prop:=e=.returned (.int .i64 v)∧Below w.heap.size w w'
theorem refcheck (l:List Op) (A:Option Addr) (n c:Nat) (w:World) (v:Int) (hr:Rd w 2 A n (ops l)) (hn:n≤1000000) (hv:checkS l=v):
  Calls Tryz.prog 126 #[.slice A n c] w (RetI w v):=by
 have HV:=Lh hv
 have HL:=Lh (ops_len hr)
 have HR:=Lh hr
 clear hr hv
 by_cases h0:n<1
 ·have HF:Hid (v=1):=Lh (by rw[←HV.out];exact check_len l (by rw[HL.out];omega))
  go_enter Tryz.func126,Tryz.ntmps126
  go_wp2
  go_ret
  exact ⟨ret_int HF.out.symm,Below.refl _ _⟩
 by_cases h1:12<n
 ·have HF:Hid (v=1):=Lh (by rw[←HV.out];exact check_len l (by rw[HL.out];omega))
  go_enter Tryz.func126,Tryz.ntmps126
  go_wp2
  go_ret
  exact ⟨ret_int HF.out.symm,Below.refl _ _⟩
 go_enter Tryz.func126,Tryz.ntmps126
 go_wp2
 go_loopw [3] (fun i wr=>∃k:Nat,k≤n∧i=.int .i64 k∧Hid (Below w.heap.size w wr)∧Hid ((l.take k).all oneB=true)) (fun i _=>n - (intOf i).toNat)
 case atStart=>exact ⟨0,Nat.zero_le _,rfl,Lh (Below.refl _ _),Lh rfl⟩
 case round=>
  obtain ⟨k,hk,rfl,HB,hall⟩:=hrel
  generalize wr=w2 at *
  by_cases hlt:k<n
  ·obtain ⟨b,off,⟨kd,nn⟩,rfl,hx,c0,c1⟩:=at_op (HR.out.below HB.out) k hlt
   have hs:=Lh (take_all l oneB k _ hx)
   cases hok:oneB ⟨kd,nn⟩
   ·have HOK:=Lh hok
    have HF:Hid (v=1):=Lh (by rw[←HV.out];exact check_bad l k _ hx hok)
    clear hx hok
    go_wp2_with fail
    refine (refone_any _ _ _ false HOK.out).mono ?_
    rintro e w3 ⟨rfl,b3⟩
    have HB3:=Lh (bl_trans HB.out b3.below)
    clear b3
    go_wp2_with fail
    go_ret
    exact ⟨ret_int HF.out.symm,HB3.out⟩
   ·have HOK:=Lh hok
    clear hx hok
    go_wp2_with fail
    refine (refone_any _ _ _ true HOK.out).mono ?_
    rintro e w3 ⟨rfl,b3⟩
    have HB3:=Lh (bl_trans HB.out b3.below)
    clear b3
    go_wp2_with fail
    go_roundw
    case rel=>exact ⟨k+1,by omega,by go_num,HB3,Lh (by rw[hs.out,hall.out,HOK.out];rfl)⟩
    case measure=>simp[intOf];omega
  ·have HA:Hid (l.all oneB=true):=Lh (by
    have:=hall.out
    rwa [List.take_of_length_le (by rw[HL.out];omega)]at this)
   cases hw:wellB l
   ·have HF:Hid (v=2):=Lh (by
     rw[←HV.out];unfold checkS;rw[if_pos (by rw[HA.out,HL.out];simp;omega),hw];rfl)
    have HW:=Lh hw
    clear hw
    go_wp2_with fail
    refine (refstart_any l _ _ _ _ (HR.out.below HB.out) hn n _ (by omega) (by omega) (by omega)).mono ?_
    rintro e w3 ⟨⟨b,rfl,b1,b2,HX⟩,rfl⟩
    have hb0:¬b=0:=by
     intro e
     obtain ⟨T,P,Q,t1,t2,t3,t4⟩:=HX.out (by omega)
     have hp:P= []:=List.eq_nil_of_length_eq_zero (by omega)
     subst hp
     have hq:Q= []:=List.eq_nil_of_length_eq_zero (by
      have h5:=HL.out;rw[t2]at h5;simp at h5 t4;omega)
     subst hq
     have:=tree_well T t1
     rw[show T.ops=l by rw[t2];simp]at this
     rw[HW.out]at this;cases this
    have hb1:(b !=0)=true:=by simpa using hb0
    clear hb0
    go_wp2_with fail
    go_ret
    exact ⟨ret_int HF.out.symm,HB.out⟩
   ·have HF:Hid (v=0):=Lh (by
     rw[←HV.out];unfold checkS;rw[if_pos (by rw[HA.out,HL.out];simp;omega),hw];rfl)
    obtain ⟨T,t1,t2⟩:=well_tree l hw
    have HT:=Lh t2
    clear hw t2
    go_wp2_with fail
    refine (refstart_tree T t1 [] [] l _ _ _ (n - 1) 0 _ (HR.out.below HB.out) hn (by rw[HT.out];simp) (by rw[HT.out];simp;have:=HL.out;omega) rfl _ (by omega)).mono ?_
    rintro e w3 ⟨rfl,rfl⟩
    go_wp2_with fail
    go_ret
    exact ⟨ret_int HF.out.symm,HB.out⟩
def RetV (w:World) (r:Int × Bool) (e:Ending) (w' :World):Prop:=e=.returned (.tuple #[.int .i64 r.1,.bool r.2])∧Below w.heap.size w w'
def RetG (w:World) (r:Int × Int) (e:Ending) (w' :World):Prop:=e=.returned (.tuple #[.int .i64 r.1,.int .i64 r.2])∧Below w.heap.size w w'
def namesB (l:List Op) (c:Nat):Bool:=l.any fun o=>decide (o.kind=2) && decide (o.n=(c:Int))
theorem refcells (l:List Op) (A:Option Addr) (n c:Nat) (w:World) (r:List Int) (q:Nat) (hr:Rd w 2 A n (ops l)) (hn:n≤1000000) (hv:cellsS l=r) (hq:r.length=q):
  Calls Tryz.prog 205 #[.slice A n c] w (RetS w 1 q (zs r)):=by
 have HL:=Lh (ops_len hr)
 have HR:=Lh hr
 have HQ:=Lh hq
 clear hr hq
 by_cases h0:checkS l=0
 ·have H0 :=Lh h0
  have HF:Hid (r=pick (namesB l) 64):=Lh (by rw[←hv];unfold cellsS;rw[if_pos h0];rfl)
  clear h0 hv
  go_enter Tryz.func205,Tryz.ntmps205
  go_wp2_with fail
  refine (refcheck l _ _ _ _ 0 HR.out hn H0.out).mono ?_
  rintro e w1 ⟨rfl,b1⟩
  have HB:=Lh b1
  clear b1
  go_wp2
  go_loopw [3,4] (fun v i wr=>∃k:Nat,k≤64∧i=.int .i64 k∧Own w1 wr 3 1 v (pick (namesB l) k).length (zs (pick (namesB l) k))) (fun _ i _=>64 - (intOf i).toNat)
  case atStart=>exact ⟨0,Nat.zero_le _,rfl,Own.nil_ (Below.refl _ _)⟩
  case round =>
   obtain ⟨k,hk,rfl,hown⟩:=hrel
   generalize wr=w2 at *
   by_cases hlt:k<64
   ·have HO:=Lh hown
    clear hown
    go_wp2
    go_loop [5,6] (fun bv i=>∃j:Nat,j≤n∧i=.int .i64 j∧bv=.bool (namesB (l.take j) k)) (fun _ i=>n - (intOf i).toNat)
    case atStart=>exact ⟨0,Nat.zero_le _,rfl,rfl⟩
    case round=>
     obtain ⟨j,hj,rfl,rfl⟩:=hrel
     by_cases hjt:j<n
     ·obtain ⟨b,off,⟨kd,nn⟩,rfl,hx,c0,c1⟩:=at_op ((HR.out.below HB.out).below HO.out.2) j hjt
      have hs:=Lh (take_any l (fun o=>decide (o.kind=2) && decide (o.n=(k:Int))) j _ hx)
      clear hx
      cases hb:namesB (l.take j) k with
      | true=>
       have HN:Hid (namesB (l.take (j+1)) k=true):=Lh (by unfold namesB at hb ⊢;rw[hs.out,hb];rfl)
       clear hb hs
       go_wp2
       go_round
       case rel=>exact ⟨j+1,by omega,by go_num,by rw[HN.out]⟩
       case measure=>simp[intOf];omega
      | false =>
       by_cases e2:kd=2
       ·subst e2
        cases e3:(nn==(k:Int))
        all_goals
         have HE3:=Lh e3
         have HN:Hid (namesB (l.take (j+1)) k=(nn==(k:Int))):=Lh (by unfold namesB at hb ⊢;rw[hs.out,hb];rfl)
         clear hs hb
         go_wp2
         go_round
         case rel=>exact ⟨j+1,by omega,by go_num,by rw[HN.out,HE3.out]⟩
         case measure=>simp[intOf];omega
       ·have e2' :(kd==2)=false:=beq_eq_false_iff_ne.2 e2
        have HN:Hid (namesB (l.take (j+1)) k=false):=Lh (by unfold namesB at hb ⊢;rw[hs.out,hb];simp[e2])
        clear hs hb e2
        go_wp2
        go_round
        case rel=>exact ⟨j+1,by omega,by go_num,by rw[HN.out]⟩
        case measure=>simp[intOf];omega
     ·have HT:Hid (l.take j=l):=Lh (List.take_of_length_le (by rw[HL.out];omega))
      rw[HT.out]
      have hpl:=pick_len (namesB l) k
      cases hb:namesB l k with
      | true=>
       have HP:=Lh (pick_yes (namesB l) k hb)
       obtain ⟨u,hu⟩:∃u,(pick (namesB l) k).length=u:=⟨_,rfl⟩
       rw[hu]at HO hpl
       have HPL:Hid ((pick (namesB l) (k+1)).length=u+1):=Lh (by rw[HP.out,List.length_append,hu];rfl)
       have HU:=Lh hu
       clear hb hu
       go_wp2_with (at_builtin;refine append_rd rfl _ _ 27 rfl Mem.tInt w1 _ _ _ rfl (HO.out.alloc _) _ 1 1 [.int .i64 (k:Int)] rfl (Rd.built _ 1 1 [.int .i64 (k:Int)] _ rfl) (one_cons rfl one_nil) (by omega) (by omega) ?_;intro v' w' hown' hg;clear hg)
       go_roundw
       case rel=>exact ⟨k+1,by omega,by go_num,by rw[HPL.out,HP.out,zs_app];exact hown'⟩
       case measure=>simp[intOf];omega
      | false=>
       have HP:=Lh (pick_no (namesB l) k hb)
       clear hb
       go_wp2
       go_roundw
       case rel=>exact ⟨k+1,by omega,by go_num,by rw[HP.out];exact HO.out⟩
       case measure=>simp[intOf];omega
   ·have hk64:k=64:=by omega
    obtain ⟨B,d,rfl,hrd⟩:=hown.form
    have HB2:=Lh hown.2
    have HRD:Hid (Rd w2 1 B q (zs r)):=Lh (by rw[←HQ.out,HF.out,←hk64];exact hrd)
    have HPQ:Hid ((pick (namesB l) k).length=q):=Lh (by rw[←HQ.out,HF.out,←hk64])
    clear hrd hown hk64
    go_wp2
    go_ret
    exact ⟨B,d,by rw[HPQ.out];rfl,HRD.out,bl_trans HB.out HB2.out⟩
 ·have HF:Hid (r= []):=Lh (by rw[←hv];unfold cellsS;rw[if_neg h0])
  have HN:Hid (q=0):=Lh (by rw[←HQ.out,HF.out];rfl)
  obtain rfl:=HN.out
  obtain ⟨ck,hck⟩:∃x,checkS l=x:=⟨_,rfl⟩
  have HC:=Lh hck
  have hne:(ck !=0)=true:=by rw[←hck];simpa using h0
  clear h0 hv hck
  go_enter Tryz.func205,Tryz.ntmps205
  go_wp2_with fail
  refine (refcheck l _ _ _ _ ck HR.out hn HC.out).mono ?_
  rintro e w1 ⟨rfl,b1⟩
  have HB:=Lh b1
  clear b1
  go_wp2
  go_ret
  exact ⟨_,_,rfl,by rw[HF.out];exact Rd.none_,HB.out⟩
end Go.Proofs.YtgghaodcfgbjlaaGreat.Term
