/-
 WHAT EACH FUNCTION OF THE LAYER writes RETURNS, AS IT IS WRITTEN: Put, Mark, Keep, Back.
-/
import Derived.Test.YtgghaodcfgbjlaaGreatMemA
import Derived.Deep.LoopGhost
import Derived.Deep.RegionHeld3
import Derived.Lib.SliceRun
import Derived.BigQuiet
import Derived.BigRegion
set_option maxRecDepth 100000
namespace Go.Proofs.YtgghaodcfgbjlaaGreat.Writes
open Mem
open Heap (Write wc ws ws_len vB)
structure Log where
 list:List Write
 marks:List Int
 deriving DecidableEq,Inhabited
def oneB (x:Write):Bool:=decide (0≤x.cell) && vB x.value
def marksB (n:Int):Int→List Int→Bool
 | _,[]=>true
 | lo,m::ms=>(decide (lo≤m) && decide (m≤n)) && marksB n m ms
def listB (l:List Write):Bool:=decide (l.length≤24) && l.all oneB
def markB (n:Int) (ms:List Int):Bool:=decide (ms.length≤6) && marksB n 0 ms
def rightB (l:Log):Bool:=listB l.list && markB (l.list.length:Int) l.marks
def putS (l:Log) (x:Write):Log × Int:=
 if (rightB l && oneB x)=true then (if l.list.length=24 then (l,5) else (⟨l.list++ [x],l.marks⟩,0)) else (l,1)
def getL (l:List Write) (c:Int):Option Int:=l.foldl (fun v w=>if w.cell=c then some w.value else v) none
def orNo:Option Int→Int × Bool
 | some v=>(v,true)
 | none=>(0,false)
def getS (l:Log) (c:Int):Int × Bool:=if rightB l=true then orNo (getL l.list c) else (0,false)
def markS (l:Log):Log × Int:=
 if rightB l=true then (if l.marks.length=6 then (l,5) else (⟨l.list,l.marks++ [(l.list.length:Int)]⟩,0)) else (l,1)
def keepS (l:Log):Log × Int:=
 if rightB l=true then (if l.marks.length=0 then (l,3) else (⟨l.list,l.marks.take (l.marks.length - 1)⟩,0)) else (l,1)
def backS (l:Log):Log × Int:=
 if rightB l=true then (match l.marks[l.marks.length - 1]? with | none=>(l,3) | some m=>(⟨l.list.take m.toNat,l.marks.take (l.marks.length - 1)⟩,0)) else (l,1)
def upd (x:Write):List Write→List Write
 | []=>[x]
 | y::ys=>if y.cell<x.cell then y::upd x ys else if y.cell=x.cell then x::ys else x::y::ys
def lastL (l:List Write):List Write:=l.foldl (fun L x=>upd x L) []
def lastS (l:Log):List Write:=if rightB l=true then lastL l.list else []
def Rises (L:List Write):Prop:=L.Pairwise (fun a b=>a.cell<b.cell)
theorem get_take (l:List Write) (k:Nat) (x:Write) (c:Int) (hk:l[k]?=some x):getL (l.take (k+1)) c=if x.cell=c then some x.value else getL (l.take k) c:=by
 unfold getL;rw[List.take_add_one,hk];simp
theorem last_take (l:List Write) (k:Nat) (x:Write) (hk:l[k]?=some x):lastL (l.take (k+1))=upd x (lastL (l.take k)):=by
 unfold lastL;rw[List.take_add_one,hk];simp
theorem get_fold (l:List Write) (c:Int) (v:Option Int):l.foldl (fun v w=>if w.cell=c then some w.value else v) v=(match getL l c with | some u=>some u | none=>v):=by
 unfold getL
 induction l generalizing v with
 | nil=>rfl
 | cons y l ih=>
  simp only[List.foldl_cons]
  rw[ih (if y.cell=c then some y.value else v),ih (if y.cell=c then some y.value else none)]
  cases l.foldl (fun v w=>if w.cell=c then some w.value else v) none with
  | some u=>rfl
  | none=>by_cases h:y.cell=c <;> simp[h]
theorem get_cons (y:Write) (l:List Write) (c:Int):getL (y::l) c=(match getL l c with | some u=>some u | none=>if y.cell=c then some y.value else none):=by
 have:=get_fold l c (if y.cell=c then some y.value else none)
 unfold getL at *;simpa using this
theorem get_none (l:List Write) (c:Int) (h:∀x∈l,x.cell≠c):getL l c=none:=by
 induction l with
 | nil=>rfl
 | cons y l ih=>
  rw[get_cons,ih (fun x hx=>h x (List.mem_cons_of_mem _ hx))]
  have:=h y (List.mem_cons_self ..)
  simp[this]
theorem get_some (l:List Write) (c v:Int) (h:getL l c=some v):(⟨c,v⟩:Write)∈l:=by
 induction l with
 | nil=>cases h
 | cons y l ih=>
  rw[get_cons]at h
  cases hg:getL l c with
  | some u=>
   rw[hg]at h
   simp only[Option.some.injEq]at h
   subst h
   exact List.mem_cons_of_mem _ (ih hg)
  | none=>
   rw[hg]at h
   by_cases hy:y.cell=c
   ·simp only[hy,if_true,Option.some.injEq]at h
    have:y=⟨c,v⟩:=by cases y;simp_all
    rw[this];exact List.mem_cons_self ..
   ·simp[hy]at h
theorem rise_get (L:List Write) (hr:Rises L) (x:Write) (hx:x∈L):getL L x.cell=some x.value:=by
 induction L with
 | nil=>cases hx
 | cons y L ih=>
  unfold Rises at hr
  rw[List.pairwise_cons]at hr
  rw[get_cons]
  rcases List.mem_cons.1 hx with rfl | hx
  ·rw[get_none L _ (fun z hz=>by have:=hr.1 z hz;omega)];simp
  ·rw[ih hr.2 hx]
theorem upd_get (x:Write) (L:List Write) (hr:Rises L) (c:Int):getL (upd x L) c=if x.cell=c then some x.value else getL L c:=by
 induction L with
 | nil=>unfold upd getL;simp
 | cons y L ih=>
  unfold Rises at hr
  rw[List.pairwise_cons]at hr
  unfold upd
  split
  ·rw [get_cons,ih hr.2,get_cons]
   by_cases h:x.cell=c
   ·simp[h]
   ·simp[h]
  ·rename_i h1
   split
   ·rename_i h2
    rw[get_cons,get_cons]
    by_cases h:x.cell=c
    ·rw[get_none L c (fun z hz=>by have:=hr.1 z hz;omega)];simp[h]
    ·have :¬y.cell=c:=by omega
     simp[h,this]
   ·rename_i h2
    rw[get_cons]
    by_cases h:x.cell=c
    ·rw [get_none (y::L) c (fun z hz=>by
      rcases List.mem_cons.1 hz with rfl | hz
      ·omega
      ·have:=hr.1 z hz;omega)]
    ·simp only[h,if_false]
     cases getL (y::L) c <;> rfl
theorem upd_mem (x z:Write) (L:List Write) (hz:z∈upd x L):z=x∨z∈L:=by
 induction L with
 | nil=>unfold upd at hz;left;simpa using hz
 | cons y L ih=>
  unfold upd at hz
  split at hz
  ·rcases List.mem_cons.1 hz with rfl | hz
   ·right;exact List.mem_cons_self ..
   ·rcases ih hz with h | h
    ·exact .inl h
    ·exact .inr (List.mem_cons_of_mem _ h)
  ·split at hz
   ·rcases List.mem_cons.1 hz with h | h
    ·exact .inl h
    ·exact .inr (List.mem_cons_of_mem _ h)
   ·rcases List.mem_cons.1 hz with h | h
    ·exact .inl h
    ·exact .inr h
theorem upd_rise (x:Write) (L:List Write) (hr:Rises L):Rises (upd x L):=by
 induction L with
 | nil=>unfold upd Rises;simp
 | cons y L ih=>
  unfold Rises at *
  rw[List.pairwise_cons]at hr
  unfold upd
  split
  ·rename_i h1
   rw[List.pairwise_cons]
   refine ⟨fun z hz=>?_,ih hr.2⟩
   rcases upd_mem x z L hz with rfl | hz
   ·exact h1
   ·exact hr.1 z hz
  ·split
   ·rename_i h2
    rw[List.pairwise_cons]
    exact ⟨fun z hz=>by have:=hr.1 z hz;omega,hr.2⟩
   ·rename_i h1 h2
    rw[List.pairwise_cons,List.pairwise_cons]
    refine ⟨fun z hz=>?_,hr.1,hr.2⟩
    rcases List.mem_cons.1 hz with rfl | hz
    ·omega
    ·have:=hr.1 z hz;omega
theorem upd_len (x:Write) (L:List Write):(upd x L).length≤L.length+1:=by
 induction L with
 | nil=>unfold upd;simp
 | cons y L ih=>
  unfold upd
  split
  ·simp only[List.length_cons];omega
  ·split <;> simp
theorem last_both (l:List Write) (L:List Write) (hr:Rises L):Rises (l.foldl (fun L x=>upd x L) L)∧(l.foldl (fun L x=>upd x L) L).length≤L.length+l.length:=by
 induction l generalizing L with
 | nil=>exact ⟨hr,by simp⟩
 | cons x l ih=>
  obtain ⟨h1,h2⟩:=ih (upd x L) (upd_rise x L hr)
  refine ⟨h1,?_⟩
  have:=upd_len x L
  simp only[List.foldl_cons,List.length_cons];omega
theorem last_rise (l:List Write):Rises (lastL l):=(last_both l [] (by unfold Rises;simp)).1
theorem last_len (l:List Write):(lastL l).length≤l.length:=by have:=(last_both l [] (by unfold Rises;simp)).2;simpa [lastL] using this
theorem last_get (l:List Write) (c:Int):getL (lastL l) c=getL l c:=by
 have h:∀k,k≤l.length→getL (lastL (l.take k)) c=getL (l.take k) c:=by
  intro k
  induction k with
  | zero=>intro _;rfl
  | succ k ih=>
   intro hk
   have hx:l[k]?=some l[k]:=List.getElem?_eq_getElem (by omega)
   rw[last_take l k _ hx,upd_get _ _ (last_rise _),ih (by omega),get_take l k _ c hx]
 have:=h l.length (Nat.le_refl _)
 rwa [List.take_length]at this
theorem last_mem (l:List Write) (x:Write) (hx:x∈lastL l):getL l x.cell=some x.value:=by
 rw[←last_get];exact rise_get _ (last_rise l) x hx
theorem last_sub (l:List Write) (x:Write) (hx:x∈lastL l):x∈l:=get_some _ _ _ (last_mem l x hx)
def Found (L:List Write) (c:Int) (p:Nat) (f:Bool):Prop:=
 p≤L.length∧(∀x∈L.take p,x.cell<c)∧(∀x∈L.drop p,c≤x.cell)∧(match L[p]? with | some y=>(y.cell==c) | none=>false)=f
theorem upd_app (x:Write) (A B:List Write) (h:∀a∈A,a.cell<x.cell):upd x (A++B)=A++upd x B:=by
 induction A with
 | nil=>rfl
 | cons a A ih=>
  show upd x (a::(A++B))=a::(A++upd x B)
  rw[upd,if_pos (h a (List.mem_cons_self ..)),ih (fun z hz=>h z (List.mem_cons_of_mem _ hz))]
theorem found_split (L:List Write) (x:Write) (p:Nat) (f:Bool) (h:Found L x.cell p f):upd x L=L.take p++upd x (L.drop p):=by
 have:=upd_app x (L.take p) (L.drop p) h.2.1
 rwa [List.take_append_drop]at this
theorem found_yes (L:List Write) (x:Write) (p:Nat) (h:Found L x.cell p true):p<L.length∧upd x L=L.set p x:=by
 obtain ⟨h1,h2,h3,h4⟩:=h
 cases hp:L[p]? with
 | none=>rw[hp]at h4;cases h4
 | some y=>
  obtain ⟨hl,hy⟩:=List.getElem?_eq_some_iff.1 hp
  rw[hp]at h4
  have hc:y.cell=x.cell:=by simpa using h4
  refine ⟨hl,?_⟩
  rw[found_split L x p true ⟨h1,h2,h3,by rw[hp];exact h4⟩,List.drop_eq_getElem_cons hl,hy,upd,if_neg (by omega),if_pos hc,List.set_eq_take_append_cons_drop,if_pos hl]
theorem found_no (L:List Write) (x:Write) (p:Nat) (h:Found L x.cell p false):upd x L=L.take p++x::L.drop p:=by
 obtain ⟨h1,h2,h3,h4⟩:=h
 rw[found_split L x p false ⟨h1,h2,h3,h4⟩]
 cases hd:L.drop p with
 | nil=>rfl
 | cons y ys=>
  have hp:L[p]?=some y:=by
   have:=congrArg (·[0]?) hd
   simpa using this
  rw[hp]at h4
  have hc:¬y.cell=x.cell:=by simpa using h4
  have:=h3 y (by rw[hd];exact List.mem_cons_self ..)
  rw[upd,if_neg (by omega),if_neg hc]
theorem marks_mono (n n' :Int) (lo:Int) (ms:List Int) (h:marksB n lo ms=true) (hn:n≤n'):marksB n' lo ms=true:=by
 induction ms generalizing lo with
 | nil=>rfl
 | cons m ms ih=>
  rw[marksB]at h ⊢
  simp only[Bool.and_eq_true,decide_eq_true_eq]at h ⊢
  exact ⟨⟨h.1.1,by omega⟩,ih m h.2⟩
theorem marks_snoc (n lo:Int) (ms:List Int) (h:marksB n lo ms=true) (hlo:lo≤n):marksB n lo (ms++ [n])=true:=by
 induction ms generalizing lo with
 | nil=>simp[marksB,hlo]
 | cons m ms ih=>
  simp only[List.cons_append]
  rw[marksB]at h ⊢
  simp only[Bool.and_eq_true,decide_eq_true_eq]at h ⊢
  exact ⟨h.1,ih m h.2 h.1.2⟩
theorem marks_init (n lo:Int) (ms:List Int) (m:Int) (h:marksB n lo (ms++ [m])=true):marksB m lo ms=true∧lo≤m∧m≤n:=by
 induction ms generalizing lo with
 | nil=>simp[marksB]at *;exact h
 | cons x ms ih=>
  simp only[List.cons_append]at h
  rw[marksB]at h ⊢
  simp only[Bool.and_eq_true,decide_eq_true_eq]at h ⊢
  obtain ⟨h1,h2,h3⟩:=ih x h.2
  exact ⟨⟨⟨h.1.1,h2⟩,h1⟩,by omega,h3⟩
theorem marks_drop (n lo:Int) (ms:List Int) (k:Nat) (m:Int) (hk:ms[k]?=some m):marksB n lo (ms.drop k)=((decide (lo≤m) && decide (m≤n)) && marksB n m (ms.drop (k+1))):=by
 obtain ⟨hl,rfl⟩:=List.getElem?_eq_some_iff.1 hk
 rw[List.drop_eq_getElem_cons hl,marksB]
theorem right_parts (l:Log):rightB l=true↔l.list.length≤24∧l.list.all oneB=true∧l.marks.length≤6∧marksB (l.list.length:Int) 0 l.marks=true:=by
 unfold rightB listB markB
 simp only[Bool.and_eq_true,decide_eq_true_eq]
 constructor
 ·rintro ⟨⟨a,b⟩,c,d⟩;exact ⟨a,b,c,d⟩
 ·rintro ⟨a,b,c,d⟩;exact ⟨⟨a,b⟩,c,d⟩
theorem last_split (ms:List Int) (h:ms.length≠0):∃m,ms[ms.length - 1]?=some m∧ms=ms.take (ms.length - 1)++ [m]:=by
 have hl:ms.length - 1<ms.length:=by omega
 refine ⟨ms[ms.length - 1],List.getElem?_eq_getElem hl,?_⟩
 have:=List.take_succ_eq_append_getElem hl
 rw[←this,show ms.length - 1+1=ms.length by omega,List.take_length]
theorem right_last (l:Log) (h:rightB l=true) (h0:l.marks.length≠0):
  ∃m:Nat,l.marks[l.marks.length - 1]?=some (m:Int)∧m≤l.list.length∧marksB (m:Int) 0 (l.marks.take (l.marks.length - 1))=true:=by
 obtain ⟨h1,h2,h3,h4⟩:=(right_parts l).1 h
 obtain ⟨m,hm,e⟩:=last_split l.marks h0
 rw[e]at h4
 obtain ⟨g1,g2,g3⟩:=marks_init _ _ _ _ h4
 obtain ⟨k,rfl⟩:=Int.eq_ofNat_of_zero_le g2
 exact ⟨k,hm,by omega,g1⟩
theorem put_no (l:Log) (x:Write) (h:(rightB l && oneB x)=false):putS l x=(l,1):=by unfold putS;rw[h];rfl
theorem put_big (l:Log) (x:Write) (h:(rightB l && oneB x)=true) (hl:l.list.length=24):putS l x=(l,5):=by unfold putS;rw[if_pos h,if_pos hl]
theorem put_new (l:Log) (x:Write) (h:(rightB l && oneB x)=true) (hl:l.list.length≠24):putS l x=(⟨l.list++ [x],l.marks⟩,0):=by unfold putS;rw[if_pos h,if_neg hl]
theorem mark_no (l:Log) (h:rightB l=false):markS l=(l,1):=by unfold markS;rw[h];rfl
theorem mark_big (l:Log) (h:rightB l=true) (hl:l.marks.length=6):markS l=(l,5):=by unfold markS;rw[if_pos h,if_pos hl]
theorem mark_new (l:Log) (h:rightB l=true) (hl:l.marks.length≠6):markS l=(⟨l.list,l.marks++ [(l.list.length:Int)]⟩,0):=by unfold markS;rw[if_pos h,if_neg hl]
theorem keep_no (l:Log) (h:rightB l=false):keepS l=(l,1):=by unfold keepS;rw[h];rfl
theorem keep_none (l:Log) (h:rightB l=true) (hl:l.marks.length=0):keepS l=(l,3):=by unfold keepS;rw[if_pos h,if_pos hl]
theorem keep_new (l:Log) (h:rightB l=true) (hl:l.marks.length≠0):keepS l=(⟨l.list,l.marks.take (l.marks.length - 1)⟩,0):=by unfold keepS;rw[if_pos h,if_neg hl]
theorem back_no (l:Log) (h:rightB l=false):backS l=(l,1):=by unfold backS;rw[h];rfl
theorem back_none (l:Log) (h:rightB l=true) (hl:l.marks.length=0):backS l=(l,3):=by
 unfold backS;rw[if_pos h,List.getElem?_eq_none (by omega)]
theorem back_new (l:Log) (h:rightB l=true) (m:Nat) (hm:l.marks[l.marks.length - 1]?=some (m:Int)):backS l=(⟨l.list.take m,l.marks.take (l.marks.length - 1)⟩,0):=by
 unfold backS;rw[if_pos h,hm];rfl
theorem put_right (l:Log) (x:Write) (h:rightB l=true) (hx:oneB x=true) (hl:l.list.length≠24):rightB ⟨l.list++ [x],l.marks⟩=true:=by
 obtain ⟨h1,h2,h3,h4⟩:=(right_parts l).1 h
 rw[right_parts]
 refine ⟨by simp;omega,by simp only[List.all_append,h2,List.all_cons,hx,List.all_nil,Bool.and_self],h3,?_⟩
 exact marks_mono _ _ _ _ h4 (by simp;omega)
theorem mark_right (l:Log) (h:rightB l=true) (hl:l.marks.length≠6):rightB ⟨l.list,l.marks++ [(l.list.length:Int)]⟩=true:=by
 obtain ⟨h1,h2,h3,h4⟩:=(right_parts l).1 h
 rw[right_parts]
 exact ⟨h1,h2,by simp;omega,marks_snoc _ _ _ h4 (by omega)⟩
theorem back_right (l:Log) (h:rightB l=true) (m:Nat) (hm:l.marks[l.marks.length - 1]?=some (m:Int)):rightB ⟨l.list.take m,l.marks.take (l.marks.length - 1)⟩=true:=by
 have h0:l.marks.length≠0:=by have:=(List.getElem?_eq_some_iff.1 hm).1;omega
 obtain ⟨m',hm',hle,hmk⟩:=right_last l h h0
 rw[hm]at hm'
 obtain rfl:m=m' :=by injection hm' with e;omega
 obtain ⟨h1,h2,h3,h4⟩:=(right_parts l).1 h
 rw[right_parts]
 refine ⟨by rw[List.length_take];omega,?_,by rw[List.length_take];omega,?_⟩
 ·rw [List.all_eq_true]at *
  exact fun x hx=>h2 x (List.mem_of_mem_take hx)
 ·rw[List.length_take,Nat.min_eq_left hle];exact hmk
theorem lastS_len (l:Log):(lastS l).length≤l.list.length:=by
 unfold lastS
 split
 ·exact last_len _
 ·simp
theorem lastV_get (i:Nat) (l:List Write) (v:Int):Heap.lastV i l v=(getL l (i:Int)).getD v:=by
 unfold Heap.lastV
 induction l generalizing v with
 | nil=>rfl
 | cons y l ih=>
  simp only[List.foldl_cons]
  rw[ih,get_cons]
  cases getL l (i:Int) with
  | some u=>rfl
  | none=>by_cases h:y.cell=(i:Int) <;> simp[h]
end Go.Proofs.YtgghaodcfgbjlaaGreat.Writes
namespace Go.Proofs.YtgghaodcfgbjlaaGreat.Writes
open Go.ChangeShapes Go.WideShapes Go.ChangeAt Go.RowKit Mem
open Heap (Write wc ws ws_len vB at_write)
theorem tWrite:SliceT Tryz.prog 29 97 2 16:=SliceT.mk_ (z:=.agg #[.int .i64 0,.int .i64 0]) Tryz.underlying29 (by kernel_rfl) rfl (by decide)
theorem tInt:SliceT Tryz.prog 27 3 1 8:=SliceT.mk_ (z:=.int .i64 0) Tryz.underlying27 (by kernel_rfl) rfl (by decide)
theorem wc_len (r:Write):(wc r).length=2:=rfl
theorem wc_one (r:Write):∀u∈wc r,u.oneCell' =true:=one_cons rfl (one_cons rfl one_nil)
theorem ws_one (l:List Write):∀u∈ws l,u.oneCell' =true:=flat_one wc_one l
theorem ws_app (a b:List Write):ws (a++b)=ws a++ws b:=by unfold ws;rw[List.flatMap_append]
theorem ws_n {w:World} {A:Option Addr} {n:Nat} {l:List Write} (hr:Rd w 2 A n (ws l)):l.length=n:=Rd.len wc_len hr (by decide)
structure LogAt (w:World) (A:Option Addr) (n c:Nat) (B:Option Addr) (m d:Nat) (l:Log):Prop where
 rl:Rd w 2 A n (ws l.list)
 rm:Rd w 1 B m (zs l.marks)
 nc:n≤c
 md:m≤d
section
variable {w w' :World} {A B:Option Addr} {n c m d:Nat} {l:Log}
theorem LogAt.below (h:LogAt w A n c B m d l) (hb:Below w.heap.size w w'):LogAt w' A n c B m d l:=⟨h.rl.below hb,h.rm.below hb,h.nc,h.md⟩
theorem LogAt.alloc (h:LogAt w A n c B m d l) (o:Obj):LogAt (w.alloc o) A n c B m d l:=⟨h.rl.alloc o,h.rm.alloc o,h.nc,h.md⟩
theorem LogAt.drewN (h:LogAt w A n c B m d l) (q:Nat):LogAt (w.drewN q) A n c B m d l:=⟨h.rl,h.rm,h.nc,h.md⟩
theorem LogAt.ln (h:LogAt w A n c B m d l):l.list.length=n:=ws_n h.rl
theorem LogAt.lm (h:LogAt w A n c B m d l):l.marks.length=m:=zs_len h.rm
end
def RetV (w:World) (r:Int × Bool) (e:Ending) (w' :World):Prop:=e=.returned (.tuple #[.int .i64 r.1,.bool r.2])∧Below w.heap.size w w'
structure Pair (w0 w:World) (v1:Value) (n:Nat) (v2:Value) (m:Nat) (l:Log):Prop where
 ol:Own w0 w 97 2 v1 n (ws l.list)
 om:Own w0 w 3 1 v2 m (zs l.marks)
 ap:Apart v1 v2
section
variable {w0 w w' :World} {v1 v2:Value} {n m:Nat} {l:Log}
theorem Pair.below (h:Pair w0 w v1 n v2 m l) (hb:Below w.heap.size w w'):Pair w0 w' v1 n v2 m l:=⟨h.ol.below hb,h.om.below hb,h.ap⟩
theorem Pair.alloc (h:Pair w0 w v1 n v2 m l) (o:Obj):Pair w0 (w.alloc o) v1 n v2 m l:=⟨h.ol.alloc o,h.om.alloc o,h.ap⟩
theorem Pair.wide {wa:World} (h:Pair w0 w v1 n v2 m l) (hb:Below wa.heap.size wa w0):Pair wa w v1 n v2 m l:=⟨h.ol.wide hb,h.om.wide hb,h.ap⟩
theorem Pair.set_ne {g:Nat} (h:Pair w0 w v1 n v2 m l) (hg:w0.heap.size≤g) (n1:v1.ownBlock≠some g) (n2:v2.ownBlock≠some g) (i:Nat) (u:Value):Pair w0 (w.setCell ⟨g,i,none⟩ u) v1 n v2 m l:=⟨h.ol.set_ne hg n1 i u,h.om.set_ne hg n2 i u,h.ap⟩
theorem Pair.log {A B:Option Addr} {c d:Nat} (h:Pair w0 w (.slice A n c) n (.slice B m d) m l):LogAt w A n c B m d l:=by
 obtain ⟨_,h1,h2⟩:=own_cap h.ol
 obtain ⟨_,h3,h4⟩:=own_cap h.om
 exact ⟨h2,h4,h1,h3⟩
end
def RetLP (w:World) (n m:Nat) (l:Log) (f:Int) (e:Ending) (w' :World):Prop:=
 ∃A c B d,e=.returned (.tuple #[.agg #[.slice A n c,.slice B m d],.int .i64 f])∧Pair w w' (.slice A n c) n (.slice B m d) m l
theorem pair_old {w0 w:World} {v1 v2:Value} {n m g:Nat} {l:Log} (h:Pair w0 w v1 n v2 m l) (hg:g<w0.heap.size):v1.ownBlock≠some g∧v2.ownBlock≠some g:=⟨h.ol.ne_old hg,h.om.ne_old hg⟩
theorem LogAt.set_ne {w:World} {A B:Option Addr} {n c m d g:Nat} {l:Log} (h:LogAt w A n c B m d l) (n1:(Value.slice A n c).ownBlock≠some g) (n2:(Value.slice B m d).ownBlock≠some g) (i:Nat) (u:Value):LogAt (w.setCell ⟨g,i,none⟩ u) A n c B m d l:=
 ⟨h.rl.set_ne (own_ne n1) i u,h.rm.set_ne (own_ne n2) i u,h.nc,h.md⟩
theorem write_c (cl vl:Int) (w:World) (b:Bool) (hb:oneB ⟨cl,vl⟩=b):
  Calls Tryz.prog 210 #[.agg #[.int .i64 cl,.int .i64 vl]] w (RetBG w b):=by
 have HB:=Lh hb
 clear hb
 by_cases h3:0≤cl
 all_goals cases h2:vB vl
 all_goals
  have HF:Hid (b=_):=Lh (by have:=HB.out;unfold oneB at this;simp only[h2,h3,decide_true,decide_false]at this;exact this.symm)
  go_enter Tryz.func210,Tryz.ntmps210
  go_wp2_with (go_at_call 160;refine (Heap.spanright_any _ _).mono ?_;rintro e w' ⟨rfl,rfl⟩)
  go_ret
  exact ⟨ret_bool (by rw[HF.out];first | rfl | (simp;omega)),(Grew.refl w).alloc _⟩
theorem list_c (l:List Write) (A:Option Addr) (n c:Nat) (w:World) (b:Bool) (hr:Rd w 2 A n (ws l)) (hn:n≤1000000) (hb:listB l=b):
  Calls Tryz.prog 175 #[.slice A n c] w (RetB w b):=by
 have HB:=Lh hb
 have LN:=Lh (ws_n hr)
 have HR:=Lh hr
 clear hr hb
 by_cases hlen:24<n
 ·have HF:Hid (b=false):=Lh (by
   rw[←HB.out];unfold listB;rw[LN.out,Bool.and_eq_false_iff];left;simp;omega)
  go_enter Tryz.func175,Tryz.ntmps175
  go_wp2
  go_ret
  exact ⟨ret_bool HF.out.symm,Below.refl _ _⟩
 ·go_enter Tryz.func175,Tryz.ntmps175
  go_wp2
  go_loopw [10] (fun i wr=>∃k:Nat,k≤n∧i=.int .i64 k∧Hid (Below w.heap.size w wr)∧Hid ((l.take k).all oneB=true)) (fun i _=>n - (intOf i).toNat)
  case atStart=>exact ⟨0,Nat.zero_le _,rfl,Lh (Below.refl _ _),Lh rfl⟩
  case round=>
   obtain ⟨k,hk,rfl,HB1,hall⟩:=hrel
   by_cases hlt:k<n
   ·obtain ⟨b1,off,⟨cl,vl⟩,rfl,hx,c0,c1⟩:=at_write (HR.out.below HB1.out) k hlt
    have hs:=Lh (take_all l oneB k _ hx)
    have HX:=Lh hx
    clear hx
    cases ho:oneB ⟨cl,vl⟩ with
    | false=>
     have HO:=Lh ho
     have HF:Hid (b=false):=Lh (by rw[←HB.out];unfold listB;rw[all_bad l oneB k _ HX.out ho,Bool.and_false])
     clear ho
     go_wp2_with fail
     refine (write_c _ _ _ false HO.out).mono ?_
     rintro e w1 ⟨rfl,g1⟩
     have HB2:=Lh (bl_trans (bl_alloc HB1.out _) g1.below)
     clear g1
     go_wp2_with fail
     go_ret
     exact ⟨ret_bool HF.out.symm,HB2.out⟩
    | true=>
     have HO:=Lh ho
     clear ho
     go_wp2_with fail
     refine (write_c _ _ _ true HO.out).mono ?_
     rintro e w1 ⟨rfl,g1⟩
     have HB2:=Lh (bl_trans (bl_alloc HB1.out _) g1.below)
     clear g1
     go_wp2_with fail
     go_roundw
     case rel=>exact ⟨k+1,by omega,by go_num,HB2,Lh (by rw[hs.out,hall.out,HO.out];rfl)⟩
     case measure=>simp[intOf];omega
   ·have HF:Hid (b=true):=Lh (by
     have:=hall.out
     rw[List.take_of_length_le (by rw[LN.out];omega)]at this
     rw[←HB.out];unfold listB;rw[this,LN.out];simp;omega)
    go_wp2
    go_ret
    exact ⟨ret_bool HF.out.symm,HB1.out⟩
theorem marks_c (l:List Int) (A:Option Addr) (n c z:Nat) (w:World) (b:Bool) (hr:Rd w 1 A n (zs l)) (hn:n≤1000000) (hb:markB (z:Int) l=b):
  Calls Tryz.prog 176 #[.slice A n c,.int .i64 z] w (RetB w b):=by
 have HB:=Lh hb
 have LN:=Lh (zs_len hr)
 have HR:=Lh hr
 clear hr hb
 by_cases hlen:6<n
 ·have HF:Hid (b=false):=Lh (by
   rw[←HB.out];unfold markB;rw[LN.out,Bool.and_eq_false_iff];left;simp;omega)
  go_enter Tryz.func176,Tryz.ntmps176
  go_wp2
  go_ret
  exact ⟨ret_bool HF.out.symm,Below.refl _ _⟩
 ·go_enter Tryz.func176,Tryz.ntmps176
  go_wp2
  go_loop [5,13] (fun s i=>∃k:Nat,∃lo:Int,k≤n∧s=.int .i64 lo∧i=.int .i64 k∧Hid (marksB (z:Int) 0 l=marksB (z:Int) lo (l.drop k))) (fun _ i=>n - (intOf i).toNat)
  case atStart=>exact ⟨0,0,Nat.zero_le _,rfl,rfl,Lh rfl⟩
  case round=>
   obtain ⟨k,lo,hk,rfl,rfl,hmk⟩:=hrel
   by_cases hlt:k<n
   ·obtain ⟨b1,off,zx,rfl,hx,c0⟩:=at_z HR.out k hlt
    have hs:=Lh (marks_drop (z:Int) lo l k _ hx)
    clear hx
    by_cases h1:zx<lo
    ·have HF:Hid (b=false):=Lh (by
      rw[←HB.out];unfold markB;rw[hmk.out,hs.out,decide_eq_false (p:=lo≤zx) (by omega)];simp)
     go_wp2
     go_ret
     exact ⟨ret_bool HF.out.symm,Below.refl _ _⟩
    ·by_cases h2:(z:Int)<zx
     ·have HF:Hid (b=false):=Lh (by
       rw[←HB.out];unfold markB;rw[hmk.out,hs.out,decide_eq_false (p:=zx≤(z:Int)) (by omega)];simp)
      go_wp2
      go_ret
      exact ⟨ret_bool HF.out.symm,Below.refl _ _⟩
     ·have HN:Hid (marksB (z:Int) 0 l=marksB (z:Int) zx (l.drop (k+1))):=Lh (by
       rw[hmk.out,hs.out,decide_eq_true (p:=lo≤zx) (by omega),decide_eq_true (p:=zx≤(z:Int)) (by omega)];rfl)
      go_wp2
      go_round
      case rel=>exact ⟨k+1,zx,by omega,rfl,by go_num,HN⟩
      case measure=>simp[intOf];omega
   ·have HF:Hid (b=true):=Lh (by
     have h1:=hmk.out
     rw[List.drop_of_length_le (by rw[LN.out];omega)]at h1
     rw[←HB.out];unfold markB;rw[LN.out,h1];simp[marksB];omega)
    go_wp2
    go_ret
    exact ⟨ret_bool HF.out.symm,Below.refl _ _⟩
theorem right_c (l:Log) (A B:Option Addr) (n c m d:Nat) (w:World) (b:Bool) (hl:LogAt w A n c B m d l) (hn:n≤1000000) (hm:m≤1000000) (hb:rightB l=b):
  Calls Tryz.prog 133 #[.agg #[.slice A n c,.slice B m d]] w (RetB w b):=by
 have HB:=Lh hb
 have LN:=Lh hl.ln
 have HL:=Lh hl
 clear hb hl
 have K0:Hid (Blk (w.alloc (.cells #[.slice A n c,.slice B m d] 31)) w.heap.size 31 #[.slice A n c,.slice B m d]):=Lh (Blk.new _ _ _)
 cases h1:listB l.list with
 | false=>
  have H1:=Lh h1
  have HF:Hid (b=false):=Lh (by rw[←HB.out];unfold rightB;rw[h1];rfl)
  clear h1
  go_enter Tryz.func133,Tryz.ntmps133
  go_wp2_with fail
  refine (list_c l.list _ _ _ _ false (HL.out.rl.alloc _) hn H1.out).mono ?_
  rintro e w1 ⟨rfl,b1⟩
  go_wp2
  go_ret
  exact ⟨ret_bool HF.out.symm,bl_trans (bl_alloc (Below.refl _ _) _) b1⟩
 | true=>
  have H1:=Lh h1
  have HF:Hid (markB (n:Int) l.marks=b):=Lh (by rw[←HB.out];unfold rightB;rw[h1,LN.out];rfl)
  clear h1
  go_enter Tryz.func133,Tryz.ntmps133
  go_wp2_with fail
  refine (list_c l.list _ _ _ _ true (HL.out.rl.alloc _) hn H1.out).mono ?_
  rintro e w1 ⟨rfl,b1⟩
  have p0:=(K0.out.below b1).cell 0 _ rfl
  have p1:=(K0.out.below b1).cell 1 _ rfl
  have HB1:=Lh (bl_trans (bl_alloc (Below.refl w.heap.size w) _) b1)
  clear b1
  go_wp2_with fail
  refine (marks_c l.marks _ _ _ _ _ b (HL.out.rm.below HB1.out) hm HF.out).mono ?_
  rintro e w2 ⟨rfl,b2⟩
  clear p0 p1
  cases b
  all_goals
   go_wp2
   go_ret
   exact ⟨rfl,bl_trans HB1.out b2⟩
theorem get_c (l:Log) (A B:Option Addr) (n c m d:Nat) (cl:Int) (w:World) (r:Int × Bool) (hl:LogAt w A n c B m d l) (hn:n≤1000000) (hm:m≤1000000) (hr:getS l cl=r):
  Calls Tryz.prog 206 #[.agg #[.slice A n c,.slice B m d],.int .i64 cl] w (RetV w r):=by
 have HR:=Lh hr
 have LN:=Lh hl.ln
 have HL:=Lh hl
 clear hr hl
 have K0:Hid (Blk (w.alloc (.cells #[.slice A n c,.slice B m d] 31)) w.heap.size 31 #[.slice A n c,.slice B m d]):=Lh (Blk.new _ _ _)
 cases h1:rightB l with
 | false=>
  have H1:=Lh h1
  have HF:Hid (r=(0,false)):=Lh (by rw[←HR.out];unfold getS;rw[h1];rfl)
  clear h1
  go_enter Tryz.func206,Tryz.ntmps206
  go_wp2_with fail
  refine (right_c l _ _ _ _ _ _ _ false (HL.out.alloc _) hn hm H1.out).mono ?_
  rintro e w1 ⟨rfl,b1⟩
  go_wp2
  go_ret2
  exact ⟨by rw[HF.out];rfl,bl_trans (bl_alloc (Below.refl _ _) _) b1⟩
 | true =>
  have H1:=Lh h1
  have HF:Hid (r=orNo (getL l.list cl)):=Lh (by rw[←HR.out];unfold getS;rw[if_pos h1])
  clear h1
  go_enter Tryz.func206,Tryz.ntmps206
  go_wp2_with fail
  refine (right_c l _ _ _ _ _ _ _ true (HL.out.alloc _) hn hm H1.out).mono ?_
  rintro e w1 ⟨rfl,b1⟩
  have p0:=(K0.out.below b1).cell 0 _ rfl
  have HB1:=Lh (bl_trans (bl_alloc (Below.refl w.heap.size w) _) b1)
  clear b1
  go_wp2
  go_loopg [6] n (fun kx i wr=>∃k:Nat,k≤n∧k≤kx∧i=.int .i64 ((k:Int) - 1)∧wr=w1∧Hid (getL l.list cl=getL (l.list.take k) cl))
  case atStart=>exact ⟨n,Nat.le_refl _,Nat.le_refl _,rfl,rfl,Lh (by rw[List.take_of_length_le (by rw[LN.out];omega)])⟩
  case round=>
   obtain ⟨k,hk,hkx,rfl,rfl,hg⟩:=hrel
   cases k with
   | zero=>
    have HG:Hid (r=(0,false)):=Lh (by rw[HF.out,hg.out];rfl)
    go_wp2
    go_ret2
    exact ⟨by rw[HG.out];rfl,HB1.out⟩
   | succ k=>
    have hkn:k<n:=by omega
    have e1:(((k+1:Nat):Int) - 1)=(k:Int):=by omega
    obtain ⟨b1,off,⟨cx,vx⟩,rfl,hx,c0,c1⟩:=at_write (HL.out.rl.below HB1.out) k hkn
    have hs:=Lh (get_take l.list k _ cl hx)
    clear hx
    by_cases heq:cx=cl
    ·have HG:Hid (r=(vx,true)):=Lh (by rw[HF.out,hg.out,hs.out,if_pos heq];rfl)
     rw[e1]
     go_wp2
     go_ret2
     exact ⟨by rw[HG.out];rfl,HB1.out⟩
    ·have HN:Hid (getL l.list cl=getL (l.list.take k) cl):=Lh (by rw[hg.out,hs.out,if_neg heq])
     rw[e1]
     go_wp2
     go_roundg k
     case measure=>omega
     case rel=>exact ⟨k,by omega,Nat.le_refl _,by go_num,rfl,HN⟩
theorem clonew_c (h:List Write) (A:Option Addr) (n c:Nat) (w:World) (hr:Rd w 2 A n (ws h)) (hn:n≤1000000):
  Calls Tryz.prog 112 #[.slice A n c] w (Mem.RetO w 97 2 n (ws h)):=by
 have hnil:=fun W=>Lib.run_eql_slice_nil (P:=Tryz.prog) W 29 97 A n c 0 0 Tryz.underlying29
 rcases A with _ | ad
 ·obtain ⟨rfl,hx⟩:=rd_nil hr
  have HX:=Lh hx
  clear hr hx
  go_enter Tryz.func112,Tryz.ntmps112
  go_wp2
  go_ret
  exact ⟨_,rfl,by rw[HX.out];exact Own.nil_ (Below.refl _ _)⟩
 ·have HR:=Lh hr
  clear hr
  go_enter Tryz.func112,Tryz.ntmps112
  go_wp2_with (at_builtin;refine append_rd rfl _ _ 29 rfl tWrite w _ 0 [] rfl (Own.empty w _ _) _ n c (ws h) rfl (HR.out.alloc _) (ws_one h) (by omega) (by omega) ?_;intro v' w' hown' hg;have HO:=Lh hown';clear hown' hg)
  go_ret
  exact ⟨v',rfl,by have:=HO.out;simpa using this⟩
theorem clonei_c (h:List Int) (A:Option Addr) (n c:Nat) (w:World) (hr:Rd w 1 A n (zs h)) (hn:n≤1000000):
  Calls Tryz.prog 77 #[.slice A n c] w (Mem.RetO w 3 1 n (zs h)):=by
 have hnil:=fun W=>Lib.run_eql_slice_nil (P:=Tryz.prog) W 27 3 A n c 0 0 Tryz.underlying27
 rcases A with _ | ad
 ·obtain ⟨rfl,hx⟩:=rd_nil hr
  have HX:=Lh hx
  clear hr hx
  go_enter Tryz.func77,Tryz.ntmps77
  go_wp2
  go_ret
  exact ⟨_,rfl,by rw[HX.out];exact Own.nil_ (Below.refl _ _)⟩
 ·have HR:=Lh hr
  clear hr
  go_enter Tryz.func77,Tryz.ntmps77
  go_wp2_with (at_builtin;refine append_rd rfl _ _ 27 rfl tInt w _ 0 [] rfl (Own.empty w _ _) _ n c (zs h) rfl (HR.out.alloc _) (zs_one h) (by omega) (by omega) ?_;intro v' w' hown' hg;have HO:=Lh hown';clear hown' hg)
  go_ret
  exact ⟨v',rfl,by have:=HO.out;simpa using this⟩
theorem own_apart {w0 w1 w2:World} {e size n e2 size2 n2:Nat} {v1 v2:Value} {xs ys:List Value} (h1:Own w0 w1 e size v1 n xs) (h2:Own w1 w2 e2 size2 v2 n2 ys):Apart v1 v2:=by
 cases hv:v1.ownBlock with
 | none=>exact .inl hv
 | some g=>
  refine .inr (.inr ?_)
  rw[hv]
  intro e
  have l1:=h1.lt g hv
  have l2:=h2.base g e.symm
  omega
def RetP (w:World) (n m:Nat) (l:Log) (e:Ending) (w' :World):Prop:=
 ∃A c B d,e=.returned (.agg #[.slice A n c,.slice B m d])∧Pair w w' (.slice A n c) n (.slice B m d) m l
set_option maxHeartbeats 4000000 in
theorem clone_c (l:Log) (A B:Option Addr) (n c m d:Nat) (w:World) (hl:LogAt w A n c B m d l) (hn:n≤1000000) (hm:m≤1000000):
    Calls Tryz.prog 158 #[.agg #[.slice A n c,.slice B m d]] w (RetP w n m l):=by
  have HL:=Lh hl
  clear hl
  go_enter Tryz.func158,Tryz.ntmps158
  go_wp2_with fail
  have HB1:Hid (Below w.heap.size w ((w.alloc (.cells #[.slice A n c,.slice B m d] 31)).alloc (.cells #[.slice none 0 0,.slice none 0 0] 31))):=Lh (bl_alloc (bl_alloc (Below.refl _ _) _) _)
  have KL:Hid (Blk ((w.alloc (.cells #[.slice A n c,.slice B m d] 31)).alloc (.cells #[.slice none 0 0,.slice none 0 0] 31)) w.heap.size 31 #[.slice A n c,.slice B m d]):=Lh ((Blk.new _ _ _).alloc _)
  have KR:Hid (Blk ((w.alloc (.cells #[.slice A n c,.slice B m d] 31)).alloc (.cells #[.slice none 0 0,.slice none 0 0] 31)) (w.heap.size+1) 31 #[.slice none 0 0,.slice none 0 0]):=Lh (by
    have:=Blk.new (w.alloc (.cells #[.slice A n c,.slice B m d] 31)) 31 #[.slice none 0 0,.slice none 0 0];simpa using this)
  generalize (w.alloc (.cells #[.slice A n c,.slice B m d] 31)).alloc (.cells #[.slice none 0 0,.slice none 0 0] 31)=w1 at *
  have C0:Hid (∀W,Below w1.heap.size w1 W→W.cell? ⟨w.heap.size,0,none⟩=some (.slice A n c)):=Lh (fun W h=>(KL.out.below h).cell 0 _ rfl)
  have C1:Hid (∀W,Below w1.heap.size w1 W→W.cell? ⟨w.heap.size,1,none⟩=some (.slice B m d)):=Lh (fun W h=>(KL.out.below h).cell 1 _ rfl)
  have BD:Hid (Below w1.heap.size w1 w1.drew):=Lh (Below.refl _ _).drew
  have i0:w1.drew.cell? ⟨w.heap.size,0,none⟩=some (.slice A n c):=C0.out _ BD.out
  have i1:w1.drew.cell? ⟨w.heap.size,1,none⟩=some (.slice B m d):=C1.out _ BD.out
  go_region_held3 (fun w' =>w'.cell? ⟨w.heap.size,0,none⟩=some (.slice A n c)∧w'.cell? ⟨w.heap.size,1,none⟩=some (.slice B m d)) (first | exact ⟨a0,a1⟩ | exact ⟨b0,b1⟩ | exact ⟨i0,i1⟩ | go_keep)
    (first
      | (go_at_call 112
         refine (clonew_c l.list _ _ _ _ (by first | exact HL.out.rl.below (bl_trans HB1.out BB.out) | exact HL.out.rl.below (bl_trans HB1.out BD.out)) hn).mono ?_
         rintro e w5 ⟨v5,rfl,o5⟩
         have BA:Hid (Below w1.heap.size w1 w5):=Lh (by first | exact bl_trans BB.out o5.2 | exact bl_trans BD.out o5.2)
         have a0:=C0.out _ BA.out
         have a1:=C1.out _ BA.out
         have ra0:=(KR.out.below BA.out).cell 0 _ rfl
         have ra1:=(KR.out.below BA.out).cell 1 _ rfl
         have raf:=(KR.out.below BA.out).frozen
         obtain ⟨A5,c5,rfl,-,-⟩:=own_room o5
         have OA:=Lh o5
         clear o5)
      | (go_at_call 77
         refine (clonei_c l.marks _ _ _ _ (by first | exact HL.out.rm.below (bl_trans HB1.out BA.out) | exact HL.out.rm.below (bl_trans HB1.out BD.out)) hm).mono ?_
         rintro e w8 ⟨v8,rfl,o8⟩
         have BB:Hid (Below w1.heap.size w1 w8):=Lh (by first | exact bl_trans BA.out o8.2 | exact bl_trans BD.out o8.2)
         have b0:=C0.out _ BB.out
         have b1:=C1.out _ BB.out
         have rb0:=(KR.out.below BB.out).cell 0 _ rfl
         have rb1:=(KR.out.below BB.out).cell 1 _ rfl
         have rbf:=(KR.out.below BB.out).frozen
         obtain ⟨B8,d8,rfl,-,-⟩:=own_room o8
         have OB:=Lh o8
         clear o8))
  clear i0 i1 a0 a1 b0 b1 ra0 ra1 raf
  have PR:Hid (Pair w w8 (.slice A5 n c5) n (.slice B8 m d8) m l):=Lh ⟨(OA.out.below OB.out.2).wide (bl_trans HB1.out BD.out),OB.out.wide (bl_trans HB1.out BA.out),own_apart OA.out OB.out⟩
  have n5:(Value.slice A5 n c5).ownBlock≠some (w.heap.size+1):=OA.out.ne_old KR.out.lt
  have n8:(Value.slice B8 m d8).ownBlock≠some (w.heap.size+1):=OB.out.ne_old (KR.out.below BA.out).lt
  go_wp2
  have hk:=((KR.out.below BB.out).set_ 0 (.slice A5 n c5)).set_ 1 (.slice B8 m d8)
  have q0:=hk.cell 0 _ rfl
  have q1:=hk.cell 1 _ rfl
  clear hk
  (try simp only[Exit.inBlock,Exit.then])
  refine bodyPost_ret (v:=.agg #[.slice A5 n c5,.slice B8 m d8]) (by simp[results,Tryz.results158,go_sem,q0,q1]) rfl ?_
  exact ⟨A5,c5,B8,d8,rfl,(PR.out.set_ne (by omega) n5 n8 _ _).set_ne (by omega) n5 n8 _ _⟩
theorem own_cut {τ:Type} {K:Nat} {code:τ→List Value} (hcode:∀x,(code x).length=K) {w0 w:World} {e n d:Nat} {B:Option Addr} {l:List τ} (h:Own w0 w e K (.slice B n d) n (l.flatMap code)) (k:Nat) (hk:k≤n) (hK:0<K):
  Own w0 w e K (.slice B k d) k ((l.take k).flatMap code):=by
 have hl:l.length=n:=by have:=h.1.1;rw[flat_len hcode]at this;exact Nat.eq_of_mul_eq_mul_right hK this
 refine ⟨⟨by rw[flat_len hcode,List.length_take,hl,Nat.min_eq_left hk],?_⟩,h.2⟩
 rcases h.1.2 with ⟨hv,hn⟩ | ⟨g,cap,cur,hv,hb,hh,hnc,hcm,hsz,htk⟩
 ·injection hv with e1 e2 e3
  subst e1 e3 hn
  obtain rfl:k=0:=by omega
  exact .inl ⟨rfl,rfl⟩
 ·injection hv with e1 e2 e3
  subst e1 e3
  refine .inr ⟨g,d,cur,rfl,hb,hh,by omega,hcm,hsz,?_⟩
  have e:l.flatMap code=(l.take k).flatMap code++(l.drop k).flatMap code:=by rw[←List.flatMap_append,List.take_append_drop]
  have h1:cur.toList.take (k * K)=(cur.toList.take (n * K)).take (k * K):=by rw[List.take_take,Nat.min_eq_left (Nat.mul_le_mul_right K hk)]
  rw[h1,htk,e,List.take_append_of_le_length (by rw[flat_len hcode,List.length_take,hl,Nat.min_eq_left hk];exact Nat.le_refl _),List.take_of_length_le (by rw[flat_len hcode,List.length_take,hl,Nat.min_eq_left hk];exact Nat.le_refl _)]
theorem Pair.cut {w0 w:World} {A B:Option Addr} {n c m d:Nat} {l:Log} (h:Pair w0 w (.slice A n c) n (.slice B m d) m l) (j k:Nat) (hj:j≤n) (hk:k≤m):Pair w0 w (.slice A j c) j (.slice B k d) k ⟨l.list.take j,l.marks.take k⟩:=
 ⟨own_cut wc_len h.ol j hj (by decide),own_cut zc_len h.om k hk (by decide),by
  rcases h.ap with h | h | h
  ·exact .inl (by cases A <;> exact h)
  ·exact .inr (.inl (by cases B <;> exact h))
  ·exact .inr (.inr (by cases A <;> cases B <;> exact h))⟩
set_option maxHeartbeats 4000000 in
theorem put_p (l : Log) (A B:Option Addr) (n c m d:Nat) (cl vl:Int) (w:World) (a:Log × Int) (p q:Nat) (hl:LogAt w A n c B m d l) (hn:n≤1000000) (hm:m≤1000000)
    (ha:putS l ⟨cl,vl⟩=a) (hp:a.1.list.length=p) (hq:a.1.marks.length=q):
    Calls Tryz.prog 165 #[.agg #[.slice A n c,.slice B m d],.agg #[.int .i64 cl,.int .i64 vl]] w (RetLP w p q a.1 a.2):=by
  have HA:=Lh ha
  have HP:=Lh hp
  have HQ:=Lh hq
  have HL:=Lh hl
  have LN:=Lh hl.ln
  have LM:=Lh hl.lm
  clear ha hp hq hl
  obtain ⟨br,h1⟩:∃b,rightB l=b:=⟨_,rfl⟩
  have H1:=Lh h1
  clear h1
  go_enter Tryz.func165,Tryz.ntmps165
  go_wp2_with fail
  have HB1:Hid (Below w.heap.size w (((w.alloc (.cells #[.slice A n c,.slice B m d] 31)).alloc (.cells #[.int .i64 cl,.int .i64 vl] 97)).alloc (.cells #[.slice none 0 0,.slice none 0 0] 31))):=Lh (bl_alloc (bl_alloc (bl_alloc (Below.refl _ _) _) _) _)
  have KL:Hid (Blk (((w.alloc (.cells #[.slice A n c,.slice B m d] 31)).alloc (.cells #[.int .i64 cl,.int .i64 vl] 97)).alloc (.cells #[.slice none 0 0,.slice none 0 0] 31)) w.heap.size 31 #[.slice A n c,.slice B m d]):=Lh (((Blk.new _ _ _).alloc _).alloc _)
  have KX:Hid (Blk (((w.alloc (.cells #[.slice A n c,.slice B m d] 31)).alloc (.cells #[.int .i64 cl,.int .i64 vl] 97)).alloc (.cells #[.slice none 0 0,.slice none 0 0] 31)) (w.heap.size+1) 97 #[.int .i64 cl,.int .i64 vl]):=Lh (by
    have:=(Blk.new (w.alloc (.cells #[.slice A n c,.slice B m d] 31)) 97 #[.int .i64 cl,.int .i64 vl]).alloc (.cells #[.slice none 0 0,.slice none 0 0] 31);simpa using this)
  have KR:Hid (Blk (((w.alloc (.cells #[.slice A n c,.slice B m d] 31)).alloc (.cells #[.int .i64 cl,.int .i64 vl] 97)).alloc (.cells #[.slice none 0 0,.slice none 0 0] 31)) (w.heap.size+1+1) 31 #[.slice none 0 0,.slice none 0 0]):=Lh (by
    have:=Blk.new ((w.alloc (.cells #[.slice A n c,.slice B m d] 31)).alloc (.cells #[.int .i64 cl,.int .i64 vl] 97)) 31 #[.slice none 0 0,.slice none 0 0];simpa using this)
  generalize ((w.alloc (.cells #[.slice A n c,.slice B m d] 31)).alloc (.cells #[.int .i64 cl,.int .i64 vl] 97)).alloc (.cells #[.slice none 0 0,.slice none 0 0] 31)=w1 at *
  refine (clone_c l _ _ _ _ _ _ _ (HL.out.below HB1.out) hn hm).mono ?_
  rintro e w2 ⟨A2,c2,B2,d2,rfl,pr⟩
  have b2:=pr.ol.2
  have PR3:Hid (∀o,Pair w1 (w2.alloc o) (.slice A2 n c2) n (.slice B2 m d2) m l):=Lh (fun o=>pr.alloc o)
  have KL3:Hid (∀o,Blk (w2.alloc o) w.heap.size 31 #[.slice A n c,.slice B m d]):=Lh (fun o=>(KL.out.below b2).alloc o)
  have KR3:Hid (∀o,Blk (w2.alloc o) (w.heap.size+1+1) 31 #[.slice none 0 0,.slice none 0 0]):=Lh (fun o=>(KR.out.below b2).alloc o)
  have KX3:Hid (∀o,Blk (w2.alloc o) (w.heap.size+1) 97 #[.int .i64 cl,.int .i64 vl]):=Lh (fun o=>(KX.out.below b2).alloc o)
  have KO3:Hid (Blk (w2.alloc (.cells #[.slice A2 n c2,.slice B2 m d2] 31)) w2.heap.size 31 #[.slice A2 n c2,.slice B2 m d2]):=Lh (Blk.new _ _ _)
  have HL3:Hid (∀o,LogAt (w2.alloc o) A n c B m d l):=Lh (fun o=>((HL.out.below HB1.out).below b2).alloc o)
  have hr1:Hid (w.heap.size+1+1<w1.heap.size):=Lh KR.out.lt
  have hr2:Hid (w1.heap.size≤w2.heap.size):=Lh b2.size
  have n1:=Lh (pair_old pr KR.out.lt)
  have no1:Hid ((Value.slice A2 n c2).ownBlock≠some w2.heap.size∧(Value.slice B2 m d2).ownBlock≠some w2.heap.size):=Lh ⟨fun e=>by have:=pr.ol.lt _ e;omega,fun e=>by have:=pr.om.lt _ e;omega⟩
  have l0a:∀o,(w2.alloc o).cell? ⟨w.heap.size,0,none⟩=some (.slice A n c):=fun o=>(KL3.out o).cell 0 _ rfl
  have l1a:∀o,(w2.alloc o).cell? ⟨w.heap.size,1,none⟩=some (.slice B m d):=fun o=>(KL3.out o).cell 1 _ rfl
  clear pr b2
  go_wp2_with fail
  refine (right_c l _ _ _ _ _ _ _ br (HL3.out _) hn hm H1.out).mono ?_
  rintro e w4 ⟨rfl,b4⟩
  have PR4:=Lh ((PR3.out _).below b4)
  have KL4:=Lh ((KL3.out _).below b4)
  have KR4:=Lh ((KR3.out _).below b4)
  have KO4:=Lh (KO3.out.below b4)
  have KX4:=Lh ((KX3.out _).below b4)
  clear KX KX3
  clear b4 l0a l1a PR3 KL3 KR3 KO3 HL3 KL KR
  cases br with
  | false=>
    have HF:Hid (a=(l,1)):=Lh (by rw[←HA.out];exact put_no _ _ (by rw[H1.out];rfl))
    have HN:Hid (p=n∧q=m):=Lh (by rw[←HP.out,←HQ.out,HF.out];exact ⟨LN.out,LM.out⟩)
    obtain ⟨rfl,rfl⟩:=HN.out
    have o0:=KO4.out.cell 0 _ rfl
    have o1:=KO4.out.cell 1 _ rfl
    have r0:=KR4.out.cell 0 _ rfl
    have r1:=KR4.out.cell 1 _ rfl
    have rf:=KR4.out.frozen
    go_wp2
    have hk:=(KR4.out.set_ 0 (.slice A2 p c2)).set_ 1 (.slice B2 q d2)
    have q0:=hk.cell 0 _ rfl
    have q1:=hk.cell 1 _ rfl
    clear hk
    (try simp only[Exit.inBlock,Exit.then])
    refine bodyPost_ret (v:=.tuple #[.agg #[.slice A2 p c2,.slice B2 q d2],.int .i64 1]) (by simp[results,Tryz.results165,go_sem,q0,q1]) rfl ?_
    have pr:=((PR4.out.wide HB1.out).set_ne (g:=w.heap.size+1+1) (by omega) n1.out.1 n1.out.2 0 (.slice A2 p c2)).set_ne (g:=w.heap.size+1+1) (by omega) n1.out.1 n1.out.2 1 (.slice B2 q d2)
    exact ⟨A2,c2,B2,d2,by rw[HF.out],by rw[HF.out];exact pr⟩
  | true =>
    obtain ⟨bo,h2⟩:∃b,oneB ⟨cl,vl⟩=b:=⟨_,rfl⟩
    have H2:=Lh h2
    clear h2
    have x0:=KX4.out.cell 0 _ rfl
    have x1:=KX4.out.cell 1 _ rfl
    go_wp2_with fail
    refine (write_c _ _ _ bo H2.out).mono ?_
    rintro e w5 ⟨rfl,g5⟩
    have PR5:=Lh (PR4.out.below g5.below)
    have KR5:=Lh (KR4.out.below g5.below)
    have KO5:=Lh (KO4.out.below g5.below)
    have KX5:=Lh (KX4.out.below g5.below)
    have l0:=(KL4.out.below g5.below).cell 0 _ rfl
    clear g5 x0 x1 PR4 KR4 KO4 KX4
    cases bo with
    | false=>
      have HF:Hid (a=(l,1)):=Lh (by rw[←HA.out];exact put_no _ _ (by rw[H1.out,H2.out];rfl))
      have HN:Hid (p=n∧q=m):=Lh (by rw[←HP.out,←HQ.out,HF.out];exact ⟨LN.out,LM.out⟩)
      obtain ⟨rfl,rfl⟩:=HN.out
      have o0:=KO5.out.cell 0 _ rfl
      have o1:=KO5.out.cell 1 _ rfl
      have r0:=KR5.out.cell 0 _ rfl
      have r1:=KR5.out.cell 1 _ rfl
      have rf:=KR5.out.frozen
      go_wp2
      have hk:=(KR5.out.set_ 0 (.slice A2 p c2)).set_ 1 (.slice B2 q d2)
      have q0:=hk.cell 0 _ rfl
      have q1:=hk.cell 1 _ rfl
      clear hk
      (try simp only[Exit.inBlock,Exit.then])
      refine bodyPost_ret (v:=.tuple #[.agg #[.slice A2 p c2,.slice B2 q d2],.int .i64 1]) (by simp[results,Tryz.results165,go_sem,q0,q1]) rfl ?_
      have pr:=((PR5.out.wide HB1.out).set_ne (g:=w.heap.size+1+1) (by omega) n1.out.1 n1.out.2 0 (.slice A2 p c2)).set_ne (g:=w.heap.size+1+1) (by omega) n1.out.1 n1.out.2 1 (.slice B2 q d2)
      exact ⟨A2,c2,B2,d2,by rw[HF.out],by rw[HF.out];exact pr⟩
    | true =>
      have HY:Hid ((rightB l && oneB ⟨cl,vl⟩)=true):=Lh (by rw[H1.out,H2.out];rfl)
      by_cases h24:n=24
      · have HF:Hid (a=(l,5)):=Lh (by rw[←HA.out];exact put_big _ _ HY.out (by rw[LN.out];exact h24))
        have HN:Hid (p=n∧q=m):=Lh (by rw[←HP.out,←HQ.out,HF.out];exact ⟨LN.out,LM.out⟩)
        obtain ⟨rfl,rfl⟩:=HN.out
        have t24:((p:Int)==24)=true:=by simp[h24]
        clear h24
        have o0:=KO5.out.cell 0 _ rfl
        have o1:=KO5.out.cell 1 _ rfl
        have r0:=KR5.out.cell 0 _ rfl
        have r1:=KR5.out.cell 1 _ rfl
        have rf:=KR5.out.frozen
        go_wp2
        have hk:=(KR5.out.set_ 0 (.slice A2 p c2)).set_ 1 (.slice B2 q d2)
        have q0:=hk.cell 0 _ rfl
        have q1:=hk.cell 1 _ rfl
        clear hk
        (try simp only[Exit.inBlock,Exit.then])
        refine bodyPost_ret (v:=.tuple #[.agg #[.slice A2 p c2,.slice B2 q d2],.int .i64 5]) (by simp[results,Tryz.results165,go_sem,q0,q1]) rfl ?_
        have pr:=((PR5.out.wide HB1.out).set_ne (g:=w.heap.size+1+1) (by omega) n1.out.1 n1.out.2 0 (.slice A2 p c2)).set_ne (g:=w.heap.size+1+1) (by omega) n1.out.1 n1.out.2 1 (.slice B2 q d2)
        exact ⟨A2,c2,B2,d2,by rw[HF.out],by rw[HF.out];exact pr⟩
      · have HF : Hid (a=(⟨l.list++ [⟨cl,vl⟩],l.marks⟩,0)):=Lh (by rw[←HA.out];exact put_new _ _ HY.out (by rw[LN.out];exact h24))
        have HN:Hid (p=n+1∧q=m):=Lh (by rw[←HP.out,←HQ.out,HF.out];exact ⟨by simp[LN.out],LM.out⟩)
        obtain ⟨rfl,rfl⟩:=HN.out
        have t24:((n:Int)==24)=false:=beq_eq_false_iff_ne.2 (by omega)
        clear h24
        have x0:=KX5.out.cell 0 _ rfl
        have x1:=KX5.out.cell 1 _ rfl
        have o0:=KO5.out.cell 0 _ rfl
        have E9:Hid (ws (l.list++ [⟨cl,vl⟩])=ws l.list++wc ⟨cl,vl⟩):=Lh (by rw[ws_app];rfl)
        go_wp2_with (at_builtin; refine append_at rfl _ _ 29 rfl tWrite w1 (.slice A2 n c2) n _ rfl (PR5.out.ol.alloc _) _ 1 1 (wc ⟨cl,vl⟩) rfl (Rd.built _ 2 1 (wc ⟨cl,vl⟩) _ rfl) (wc_one _) (by omega) (by omega) ?_
                     intro v6 w6 o6 g6 at6
                     have ko:=(KO5.out.alloc _).grown g6 no1.out.1
                     have kr:=(KR5.out.alloc _).grown g6 n1.out.1
                     have ne6:=grown_ne (g:=w2.heap.size) at6 no1.out.1 (by have:=KO5.out.lt;simp;omega)
                     have nr6:=grown_ne (g:=w.heap.size+1+1) at6 n1.out.1 (by have:=KR5.out.lt;simp;omega)
                     obtain ⟨om6,ap6⟩:=(PR5.out.om.alloc _).beside PR5.out.ap (PR5.out.ol.alloc _) g6 at6
                     obtain ⟨A6,c6,rfl,-,-⟩:=own_room o6
                     have y0:=ko.cell 0 _ rfl
                     have yf:=ko.frozen
                     have KO6:=Lh (ko.set_ 0 (.slice A6 (n+1) c6))
                     have KR6:=Lh (kr.beside (g' :=w2.heap.size) (by have:=hr1.out;have:=hr2.out;omega) 0 (.slice A6 (n+1) c6))
                     have o7:Own w1 w6 97 2 (.slice A6 (n+1) c6) (n+1) (ws (l.list++ [⟨cl,vl⟩])):=by rw[E9.out];exact o6
                     have pr6:Pair w1 w6 (.slice A6 (n+1) c6) (n+1) (.slice B2 q d2) q ⟨l.list++ [⟨cl,vl⟩],l.marks⟩:=⟨o7,om6,ap6⟩
                     have PR6:=Lh (pr6.set_ne hr2.out ne6 no1.out.2 0 (.slice A6 (n+1) c6))
                     have NR6:=Lh nr6
                     have z0:=KO6.out.cell 0 _ rfl
                     have z1:=KO6.out.cell 1 _ rfl
                     have r0:=KR6.out.cell 0 _ rfl
                     have r1:=KR6.out.cell 1 _ rfl
                     have rf:=KR6.out.frozen
                     clear o6 g6 at6 ko kr ne6 nr6 om6 ap6 o7 pr6)
        have hk:=(KR6.out.set_ 0 (.slice A6 (n+1) c6)).set_ 1 (.slice B2 q d2)
        have q0:=hk.cell 0 _ rfl
        have q1:=hk.cell 1 _ rfl
        clear hk
        (try simp only[Exit.inBlock,Exit.then])
        refine bodyPost_ret (v:=.tuple #[.agg #[.slice A6 (n+1) c6,.slice B2 q d2],.int .i64 0]) (by simp[results,Tryz.results165,go_sem,q0,q1]) rfl ?_
        have pr:=((PR6.out.wide HB1.out).set_ne (g:=w.heap.size+1+1) (by omega) NR6.out n1.out.2 0 (.slice A6 (n+1) c6)).set_ne (g:=w.heap.size+1+1) (by omega) NR6.out n1.out.2 1 (.slice B2 q d2)
        exact ⟨A6,c6,B2,d2,by rw[HF.out],by rw[HF.out];exact pr⟩
set_option maxHeartbeats 4000000 in
theorem mark_p (l : Log) (A B:Option Addr) (n c m d:Nat) (w:World) (a:Log × Int) (p q:Nat) (hl:LogAt w A n c B m d l) (hn:n≤1000000) (hm:m≤1000000)
    (ha:markS l=a) (hp:a.1.list.length=p) (hq:a.1.marks.length=q):
    Calls Tryz.prog 167 #[.agg #[.slice A n c,.slice B m d]] w (RetLP w p q a.1 a.2):=by
  have HA:=Lh ha
  have HP:=Lh hp
  have HQ:=Lh hq
  have HL:=Lh hl
  have LN:=Lh hl.ln
  have LM:=Lh hl.lm
  clear ha hp hq hl
  obtain ⟨br,h1⟩:∃b,rightB l=b:=⟨_,rfl⟩
  have H1:=Lh h1
  clear h1
  go_enter Tryz.func167,Tryz.ntmps167
  go_wp2_with fail
  have HB1:Hid (Below w.heap.size w ((w.alloc (.cells #[.slice A n c,.slice B m d] 31)).alloc (.cells #[.slice none 0 0,.slice none 0 0] 31))):=Lh (bl_alloc (bl_alloc (Below.refl _ _) _) _)
  have KL:Hid (Blk ((w.alloc (.cells #[.slice A n c,.slice B m d] 31)).alloc (.cells #[.slice none 0 0,.slice none 0 0] 31)) w.heap.size 31 #[.slice A n c,.slice B m d]):=Lh ((Blk.new _ _ _).alloc _)
  have KR:Hid (Blk ((w.alloc (.cells #[.slice A n c,.slice B m d] 31)).alloc (.cells #[.slice none 0 0,.slice none 0 0] 31)) (w.heap.size+1) 31 #[.slice none 0 0,.slice none 0 0]):=Lh (by
    have:=Blk.new (w.alloc (.cells #[.slice A n c,.slice B m d] 31)) 31 #[.slice none 0 0,.slice none 0 0];simpa using this)
  generalize (w.alloc (.cells #[.slice A n c,.slice B m d] 31)).alloc (.cells #[.slice none 0 0,.slice none 0 0] 31)=w1 at *
  refine (clone_c l _ _ _ _ _ _ _ (HL.out.below HB1.out) hn hm).mono ?_
  rintro e w2 ⟨A2,c2,B2,d2,rfl,pr⟩
  have b2:=pr.ol.2
  have PR3:Hid (∀o,Pair w1 (w2.alloc o) (.slice A2 n c2) n (.slice B2 m d2) m l):=Lh (fun o=>pr.alloc o)
  have KL3:Hid (∀o,Blk (w2.alloc o) w.heap.size 31 #[.slice A n c,.slice B m d]):=Lh (fun o=>(KL.out.below b2).alloc o)
  have KR3:Hid (∀o,Blk (w2.alloc o) (w.heap.size+1) 31 #[.slice none 0 0,.slice none 0 0]):=Lh (fun o=>(KR.out.below b2).alloc o)
  have KO3:Hid (Blk (w2.alloc (.cells #[.slice A2 n c2,.slice B2 m d2] 31)) w2.heap.size 31 #[.slice A2 n c2,.slice B2 m d2]):=Lh (Blk.new _ _ _)
  have HL3:Hid (∀o,LogAt (w2.alloc o) A n c B m d l):=Lh (fun o=>((HL.out.below HB1.out).below b2).alloc o)
  have hr1:Hid (w.heap.size+1<w1.heap.size):=Lh KR.out.lt
  have hr2:Hid (w1.heap.size≤w2.heap.size):=Lh b2.size
  have n1:=Lh (pair_old pr KR.out.lt)
  have no1:Hid ((Value.slice A2 n c2).ownBlock≠some w2.heap.size∧(Value.slice B2 m d2).ownBlock≠some w2.heap.size):=Lh ⟨fun e=>by have:=pr.ol.lt _ e;omega,fun e=>by have:=pr.om.lt _ e;omega⟩
  have l0a:∀o,(w2.alloc o).cell? ⟨w.heap.size,0,none⟩=some (.slice A n c):=fun o=>(KL3.out o).cell 0 _ rfl
  have l1a:∀o,(w2.alloc o).cell? ⟨w.heap.size,1,none⟩=some (.slice B m d):=fun o=>(KL3.out o).cell 1 _ rfl
  clear pr b2
  go_wp2_with fail
  refine (right_c l _ _ _ _ _ _ _ br (HL3.out _) hn hm H1.out).mono ?_
  rintro e w4 ⟨rfl,b4⟩
  have PR4:=Lh ((PR3.out _).below b4)
  have KL4:=Lh ((KL3.out _).below b4)
  have KR4:=Lh ((KR3.out _).below b4)
  have KO4:=Lh (KO3.out.below b4)
  clear b4 l0a l1a PR3 KL3 KR3 KO3 HL3 KL KR
  cases br with
  | false=>
    have HF:Hid (a=(l,1)):=Lh (by rw[←HA.out];exact mark_no _ H1.out)
    have HN:Hid (p=n∧q=m):=Lh (by rw[←HP.out,←HQ.out,HF.out];exact ⟨LN.out,LM.out⟩)
    obtain ⟨rfl,rfl⟩:=HN.out
    have o0:=KO4.out.cell 0 _ rfl
    have o1:=KO4.out.cell 1 _ rfl
    have r0:=KR4.out.cell 0 _ rfl
    have r1:=KR4.out.cell 1 _ rfl
    have rf:=KR4.out.frozen
    go_wp2
    have hk:=(KR4.out.set_ 0 (.slice A2 p c2)).set_ 1 (.slice B2 q d2)
    have q0:=hk.cell 0 _ rfl
    have q1:=hk.cell 1 _ rfl
    clear hk
    (try simp only[Exit.inBlock,Exit.then])
    refine bodyPost_ret (v:=.tuple #[.agg #[.slice A2 p c2,.slice B2 q d2],.int .i64 1]) (by simp[results,Tryz.results167,go_sem,q0,q1]) rfl ?_
    have pr:=((PR4.out.wide HB1.out).set_ne (g:=w.heap.size+1) (by omega) n1.out.1 n1.out.2 0 (.slice A2 p c2)).set_ne (g:=w.heap.size+1) (by omega) n1.out.1 n1.out.2 1 (.slice B2 q d2)
    exact ⟨A2,c2,B2,d2,by rw[HF.out],by rw[HF.out];exact pr⟩
  | true =>
    have l0:=KL4.out.cell 0 _ rfl
    have l1:=KL4.out.cell 1 _ rfl
    by_cases h6:m=6
    · have HF:Hid (a=(l,5)):=Lh (by rw[←HA.out];exact mark_big _ H1.out (by rw[LM.out];exact h6))
      have HN:Hid (p=n∧q=m):=Lh (by rw[←HP.out,←HQ.out,HF.out];exact ⟨LN.out,LM.out⟩)
      obtain ⟨rfl,rfl⟩:=HN.out
      have t6:((q:Int)==6)=true:=by simp[h6]
      clear h6
      have o0:=KO4.out.cell 0 _ rfl
      have o1:=KO4.out.cell 1 _ rfl
      have r0:=KR4.out.cell 0 _ rfl
      have r1:=KR4.out.cell 1 _ rfl
      have rf:=KR4.out.frozen
      go_wp2
      have hk:=(KR4.out.set_ 0 (.slice A2 p c2)).set_ 1 (.slice B2 q d2)
      have q0:=hk.cell 0 _ rfl
      have q1:=hk.cell 1 _ rfl
      clear hk
      (try simp only[Exit.inBlock,Exit.then])
      refine bodyPost_ret (v:=.tuple #[.agg #[.slice A2 p c2,.slice B2 q d2],.int .i64 5]) (by simp[results,Tryz.results167,go_sem,q0,q1]) rfl ?_
      have pr:=((PR4.out.wide HB1.out).set_ne (g:=w.heap.size+1) (by omega) n1.out.1 n1.out.2 0 (.slice A2 p c2)).set_ne (g:=w.heap.size+1) (by omega) n1.out.1 n1.out.2 1 (.slice B2 q d2)
      exact ⟨A2,c2,B2,d2,by rw[HF.out],by rw[HF.out];exact pr⟩
    · have HF : Hid (a=(⟨l.list,l.marks++ [(n:Int)]⟩,0)):=Lh (by rw[←HA.out,←LN.out];exact mark_new _ H1.out (by rw[LM.out];exact h6))
      have HN:Hid (p=n∧q=m+1):=Lh (by rw[←HP.out,←HQ.out,HF.out];exact ⟨LN.out,by simp[LM.out]⟩)
      obtain ⟨rfl,rfl⟩:=HN.out
      have t6:((m:Int)==6)=false:=beq_eq_false_iff_ne.2 (by omega)
      clear h6
      have o1:=KO4.out.cell 1 _ rfl
      have E9:Hid (zs (l.marks++ [(p:Int)])=zs l.marks++zs [(p:Int)]):=Lh (zs_app _ _)
      go_wp2_with (at_builtin; refine append_at rfl _ _ 27 rfl tInt w1 (.slice B2 m d2) m _ rfl (PR4.out.om.alloc _) _ 1 1 (zs [(p:Int)]) rfl (Rd.built _ 1 1 (zs [(p:Int)]) _ rfl) (zs_one _) (by omega) (by omega) ?_
                   intro v6 w6 o6 g6 at6
                   have ko:=(KO4.out.alloc _).grown g6 no1.out.2
                   have kr:=(KR4.out.alloc _).grown g6 n1.out.2
                   have ne6:=grown_ne (g:=w2.heap.size) at6 no1.out.2 (by have:=KO4.out.lt;simp;omega)
                   have nr6:=grown_ne (g:=w.heap.size+1) at6 n1.out.2 (by have:=KR4.out.lt;simp;omega)
                   obtain ⟨ol6,ap6⟩:=(PR4.out.ol.alloc _).beside PR4.out.ap.symm (PR4.out.om.alloc _) g6 at6
                   obtain ⟨B6,d6,rfl,-,-⟩:=own_room o6
                   have y1:=ko.cell 1 _ rfl
                   have yf:=ko.frozen
                   have KO6:=Lh (ko.set_ 1 (.slice B6 (m+1) d6))
                   have KR6:=Lh (kr.beside (g' :=w2.heap.size) (by have:=hr1.out;have:=hr2.out;omega) 1 (.slice B6 (m+1) d6))
                   have o7:Own w1 w6 3 1 (.slice B6 (m+1) d6) (m+1) (zs (l.marks++ [(p:Int)])):=by rw[E9.out];exact o6
                   have pr6:Pair w1 w6 (.slice A2 p c2) p (.slice B6 (m+1) d6) (m+1) ⟨l.list,l.marks++ [(p:Int)]⟩:=⟨ol6,o7,ap6.symm⟩
                   have PR6:=Lh (pr6.set_ne hr2.out no1.out.1 ne6 1 (.slice B6 (m+1) d6))
                   have NR6:=Lh nr6
                   have z0:=KO6.out.cell 0 _ rfl
                   have z1:=KO6.out.cell 1 _ rfl
                   have r0:=KR6.out.cell 0 _ rfl
                   have r1:=KR6.out.cell 1 _ rfl
                   have rf:=KR6.out.frozen
                   clear o6 g6 at6 ko kr ne6 nr6 ol6 ap6 o7 pr6)
      have hk:=(KR6.out.set_ 0 (.slice A2 p c2)).set_ 1 (.slice B6 (m+1) d6)
      have q0:=hk.cell 0 _ rfl
      have q1:=hk.cell 1 _ rfl
      clear hk
      (try simp only[Exit.inBlock,Exit.then])
      refine bodyPost_ret (v:=.tuple #[.agg #[.slice A2 p c2,.slice B6 (m+1) d6],.int .i64 0]) (by simp[results,Tryz.results167,go_sem,q0,q1]) rfl ?_
      have pr:=((PR6.out.wide HB1.out).set_ne (g:=w.heap.size+1) (by omega) n1.out.1 NR6.out 0 (.slice A2 p c2)).set_ne (g:=w.heap.size+1) (by omega) n1.out.1 NR6.out 1 (.slice B6 (m+1) d6)
      exact ⟨A2,c2,B6,d6,by rw[HF.out],by rw[HF.out];exact pr⟩
set_option maxHeartbeats 4000000 in
theorem keep_p (l:Log) (A B:Option Addr) (n c m d:Nat) (w:World) (a:Log × Int) (p q:Nat) (hl:LogAt w A n c B m d l) (hn:n≤1000000) (hm:m≤1000000)
  (ha:keepS l=a) (hp:a.1.list.length=p) (hq:a.1.marks.length=q):
  Calls Tryz.prog 106 #[.agg #[.slice A n c,.slice B m d]] w (RetLP w p q a.1 a.2):=by
 have HA:=Lh ha
 have HP:=Lh hp
 have HQ:=Lh hq
 have HL:=Lh hl
 have LN:=Lh hl.ln
 have LM:=Lh hl.lm
 clear ha hp hq hl
 obtain ⟨br,h1⟩:∃b,rightB l=b:=⟨_,rfl⟩
 have H1:=Lh h1
 clear h1
 go_enter Tryz.func106,Tryz.ntmps106
 go_wp2_with fail
 have HB1:Hid (Below w.heap.size w ((w.alloc (.cells #[.slice A n c,.slice B m d] 31)).alloc (.cells #[.slice none 0 0,.slice none 0 0] 31))):=Lh (bl_alloc (bl_alloc (Below.refl _ _) _) _)
 have KL:Hid (Blk ((w.alloc (.cells #[.slice A n c,.slice B m d] 31)).alloc (.cells #[.slice none 0 0,.slice none 0 0] 31)) w.heap.size 31 #[.slice A n c,.slice B m d]):=Lh ((Blk.new _ _ _).alloc _)
 have KR:Hid (Blk ((w.alloc (.cells #[.slice A n c,.slice B m d] 31)).alloc (.cells #[.slice none 0 0,.slice none 0 0] 31)) (w.heap.size+1) 31 #[.slice none 0 0,.slice none 0 0]):=Lh (by
  have:=Blk.new (w.alloc (.cells #[.slice A n c,.slice B m d] 31)) 31 #[.slice none 0 0,.slice none 0 0];simpa using this)
 generalize (w.alloc (.cells #[.slice A n c,.slice B m d] 31)).alloc (.cells #[.slice none 0 0,.slice none 0 0] 31)=w1 at *
 refine (clone_c l _ _ _ _ _ _ _ (HL.out.below HB1.out) hn hm).mono ?_
 rintro e w2 ⟨A2,c2,B2,d2,rfl,pr⟩
 have b2:=pr.ol.2
 have PR3:Hid (∀o,Pair w1 (w2.alloc o) (.slice A2 n c2) n (.slice B2 m d2) m l):=Lh (fun o=>pr.alloc o)
 have KL3:Hid (∀o,Blk (w2.alloc o) w.heap.size 31 #[.slice A n c,.slice B m d]):=Lh (fun o=>(KL.out.below b2).alloc o)
 have KR3:Hid (∀o,Blk (w2.alloc o) (w.heap.size+1) 31 #[.slice none 0 0,.slice none 0 0]):=Lh (fun o=>(KR.out.below b2).alloc o)
 have KO3:Hid (Blk (w2.alloc (.cells #[.slice A2 n c2,.slice B2 m d2] 31)) w2.heap.size 31 #[.slice A2 n c2,.slice B2 m d2]):=Lh (Blk.new _ _ _)
 have HL3:Hid (∀o,LogAt (w2.alloc o) A n c B m d l):=Lh (fun o=>((HL.out.below HB1.out).below b2).alloc o)
 have hr1:Hid (w.heap.size+1<w1.heap.size):=Lh KR.out.lt
 have hr2:Hid (w1.heap.size≤w2.heap.size):=Lh b2.size
 have n1:=Lh (pair_old pr KR.out.lt)
 have no1:Hid ((Value.slice A2 n c2).ownBlock≠some w2.heap.size∧(Value.slice B2 m d2).ownBlock≠some w2.heap.size):=Lh ⟨fun e=>by have:=pr.ol.lt _ e;omega,fun e=>by have:=pr.om.lt _ e;omega⟩
 have l0a:∀o,(w2.alloc o).cell? ⟨w.heap.size,0,none⟩=some (.slice A n c):=fun o=>(KL3.out o).cell 0 _ rfl
 have l1a:∀o,(w2.alloc o).cell? ⟨w.heap.size,1,none⟩=some (.slice B m d):=fun o=>(KL3.out o).cell 1 _ rfl
 clear pr b2
 go_wp2_with fail
 refine (right_c l _ _ _ _ _ _ _ br (HL3.out _) hn hm H1.out).mono ?_
 rintro e w4 ⟨rfl,b4⟩
 have PR4:=Lh ((PR3.out _).below b4)
 have KL4:=Lh ((KL3.out _).below b4)
 have KR4:=Lh ((KR3.out _).below b4)
 have KO4:=Lh (KO3.out.below b4)
 clear b4 l0a l1a PR3 KL3 KR3 KO3 HL3 KL KR
 cases br with
 | false=>
  have HF:Hid (a=(l,1)):=Lh (by rw[←HA.out];exact keep_no _ H1.out)
  have HN:Hid (p=n∧q=m):=Lh (by rw[←HP.out,←HQ.out,HF.out];exact ⟨LN.out,LM.out⟩)
  obtain ⟨rfl,rfl⟩:=HN.out
  have o0:=KO4.out.cell 0 _ rfl
  have o1:=KO4.out.cell 1 _ rfl
  have r0:=KR4.out.cell 0 _ rfl
  have r1:=KR4.out.cell 1 _ rfl
  have rf:=KR4.out.frozen
  go_wp2
  have hk:=(KR4.out.set_ 0 (.slice A2 p c2)).set_ 1 (.slice B2 q d2)
  have q0:=hk.cell 0 _ rfl
  have q1:=hk.cell 1 _ rfl
  clear hk
  (try simp only[Exit.inBlock,Exit.then])
  refine bodyPost_ret (v:=.tuple #[.agg #[.slice A2 p c2,.slice B2 q d2],.int .i64 1]) (by simp[results,Tryz.results106,go_sem,q0,q1]) rfl ?_
  have pr:=((PR4.out.wide HB1.out).set_ne (g:=w.heap.size+1) (by omega) n1.out.1 n1.out.2 0 (.slice A2 p c2)).set_ne (g:=w.heap.size+1) (by omega) n1.out.1 n1.out.2 1 (.slice B2 q d2)
  exact ⟨A2,c2,B2,d2,by rw[HF.out],by rw[HF.out];exact pr⟩
 | true =>
  have l1:=KL4.out.cell 1 _ rfl
  by_cases h0:m=0
  ·have HF:Hid (a=(l,3)):=Lh (by rw[←HA.out];exact keep_none _ H1.out (by rw[LM.out];exact h0))
   have HN:Hid (p=n∧q=m):=Lh (by rw[←HP.out,←HQ.out,HF.out];exact ⟨LN.out,LM.out⟩)
   obtain ⟨rfl,rfl⟩:=HN.out
   have t0:((q:Int)==0)=true:=by simp[h0]
   clear h0
   have o0:=KO4.out.cell 0 _ rfl
   have o1:=KO4.out.cell 1 _ rfl
   have r0:=KR4.out.cell 0 _ rfl
   have r1:=KR4.out.cell 1 _ rfl
   have rf:=KR4.out.frozen
   go_wp2
   have hk:=(KR4.out.set_ 0 (.slice A2 p c2)).set_ 1 (.slice B2 q d2)
   have q0:=hk.cell 0 _ rfl
   have q1:=hk.cell 1 _ rfl
   clear hk
   (try simp only[Exit.inBlock,Exit.then])
   refine bodyPost_ret (v:=.tuple #[.agg #[.slice A2 p c2,.slice B2 q d2],.int .i64 3]) (by simp[results,Tryz.results106,go_sem,q0,q1]) rfl ?_
   have pr:=((PR4.out.wide HB1.out).set_ne (g:=w.heap.size+1) (by omega) n1.out.1 n1.out.2 0 (.slice A2 p c2)).set_ne (g:=w.heap.size+1) (by omega) n1.out.1 n1.out.2 1 (.slice B2 q d2)
   exact ⟨A2,c2,B2,d2,by rw[HF.out],by rw[HF.out];exact pr⟩
  ·obtain ⟨k,hk⟩:∃k,m - 1=k:=⟨_,rfl⟩
   have HF:Hid (a=(⟨l.list,l.marks.take k⟩,0)):=Lh (by
    have h2:=keep_new l H1.out (by rw[LM.out];exact h0)
    rw[LM.out,hk]at h2
    rw[←HA.out];exact h2)
   have HN:Hid (p=n∧q=k):=Lh (by rw[←HP.out,←HQ.out,HF.out];exact ⟨LN.out,by rw[List.length_take,LM.out];omega⟩)
   have hkm:(m:Int) - 1=(k:Int):=by omega
   have hmd:=PR4.out.log.md
   have hkd:k≤d2:=by omega
   have HKM:Hid (k≤m):=Lh (by omega)
   have t0:((m:Int)==0)=false:=beq_eq_false_iff_ne.2 (by omega)
   obtain ⟨rfl,rfl⟩:=HN.out
   clear h0 hk
   have o0:=KO4.out.cell 0 _ rfl
   have o1:=KO4.out.cell 1 _ rfl
   have of:=KO4.out.frozen
   have KR5:=Lh (KR4.out.beside (g' :=w2.heap.size) (by have:=hr1.out;have:=hr2.out;omega) 1 (.slice B2 q d2))
   have KO5:=Lh (KO4.out.set_ 1 (.slice B2 q d2))
   have z0:=KO5.out.cell 0 _ rfl
   have z1:=KO5.out.cell 1 _ rfl
   have r0:=KR5.out.cell 0 _ rfl
   have r1:=KR5.out.cell 1 _ rfl
   have rf:=KR5.out.frozen
   go_wp2
   have hk:=(KR5.out.set_ 0 (.slice A2 p c2)).set_ 1 (.slice B2 q d2)
   have q0:=hk.cell 0 _ rfl
   have q1:=hk.cell 1 _ rfl
   clear hk
   (try simp only[Exit.inBlock,Exit.then])
   refine bodyPost_ret (v:=.tuple #[.agg #[.slice A2 p c2,.slice B2 q d2],.int .i64 0]) (by simp[results,Tryz.results106,go_sem,q0,q1]) rfl ?_
   have p0:=(PR4.out.wide HB1.out).cut p q (Nat.le_refl _) HKM.out
   rw[List.take_of_length_le (by rw[LN.out];omega)]at p0
   have n2:(Value.slice B2 q d2).ownBlock≠some w2.heap.size:=fun e=>no1.out.2 (by cases B2 <;> exact e)
   have n3:(Value.slice B2 q d2).ownBlock≠some (w.heap.size+1):=fun e=>n1.out.2 (by cases B2 <;> exact e)
   have pr:=((p0.set_ne (g:=w2.heap.size) (by have:=hr2.out;have:=HB1.out.size;omega) no1.out.1 n2 1 (.slice B2 q d2)).set_ne (g:=w.heap.size+1) (by omega) n1.out.1 n3 0 (.slice A2 p c2)).set_ne (g:=w.heap.size+1) (by omega) n1.out.1 n3 1 (.slice B2 q d2)
   exact ⟨A2,c2,B2,d2,by rw[HF.out],by rw[HF.out];exact pr⟩
set_option maxHeartbeats 4000000 in
theorem back_p (l:Log) (A B:Option Addr) (n c m d:Nat) (w:World) (a:Log × Int) (p q:Nat) (hl:LogAt w A n c B m d l) (hn:n≤1000000) (hm:m≤1000000)
  (ha:backS l=a) (hp:a.1.list.length=p) (hq:a.1.marks.length=q):
  Calls Tryz.prog 166 #[.agg #[.slice A n c,.slice B m d]] w (RetLP w p q a.1 a.2):=by
 have HA:=Lh ha
 have HP:=Lh hp
 have HQ:=Lh hq
 have HL:=Lh hl
 have LN:=Lh hl.ln
 have LM:=Lh hl.lm
 clear ha hp hq hl
 have KL:Hid (∀o,Blk ((w.alloc (.cells #[.slice A n c,.slice B m d] 31)).alloc o) w.heap.size 31 #[.slice A n c,.slice B m d]):=Lh (fun o=>(Blk.new _ _ _).alloc _)
 have KR:Hid (∀o,Blk ((w.alloc o).alloc (.cells #[.slice none 0 0,.slice none 0 0] 31)) (w.heap.size+1) 31 #[.slice none 0 0,.slice none 0 0]):=Lh (fun o=>by
  have:=Blk.new (w.alloc o) 31 #[.slice none 0 0,.slice none 0 0];simpa using this)
 obtain ⟨⟨kl,ke⟩,hke⟩:∃y,keepS l=y:=⟨_,rfl⟩
 obtain ⟨kn,hkn⟩:∃y,kl.list.length=y:=⟨_,rfl⟩
 obtain ⟨km,hkm⟩:∃y,kl.marks.length=y:=⟨_,rfl⟩
 have HKE:=Lh hke
 have HKN:=Lh hkn
 have HKM:=Lh hkm
 clear hke hkn hkm
 go_enter Tryz.func166,Tryz.ntmps166
 go_wp2_with fail
 refine (keep_p l _ _ _ _ _ _ _ (kl,ke) kn km ((HL.out.alloc _).alloc _) hn hm HKE.out HKN.out HKM.out).mono ?_
 rintro e w2 ⟨A2,c2,B2,d2,rfl,pr⟩
 have b2:=pr.ol.2
 have HB2:Hid (Below w.heap.size w w2):=Lh (bl_trans (bl_alloc (bl_alloc (Below.refl _ _) _) _) b2)
 have KL3:Hid (∀o,Blk (w2.alloc o) w.heap.size 31 #[.slice A n c,.slice B m d]):=Lh (fun o=>((KL.out _).below b2).alloc o)
 have KR3:Hid (∀o,Blk (w2.alloc o) (w.heap.size+1) 31 #[.slice none 0 0,.slice none 0 0]):=Lh (fun o=>((KR.out _).below b2).alloc o)
 have KO3:Hid (Blk (w2.alloc (.cells #[.slice A2 kn c2,.slice B2 km d2] 31)) w2.heap.size 31 #[.slice A2 kn c2,.slice B2 km d2]):=Lh (Blk.new _ _ _)
 have lt2:Hid (w.heap.size+1<w2.heap.size):=Lh ((KR.out _).below b2).lt
 have n1:=Lh (pair_old (g:=w.heap.size+1) pr (by simp))
 have no1:Hid ((Value.slice A2 kn c2).ownBlock≠some w2.heap.size∧(Value.slice B2 km d2).ownBlock≠some w2.heap.size):=Lh ⟨fun e=>by have:=pr.ol.lt _ e;omega,fun e=>by have:=pr.om.lt _ e;omega⟩
 have PR3:Hid (∀o,Pair w (w2.alloc o) (.slice A2 kn c2) kn (.slice B2 km d2) km kl):=Lh (fun o=>(pr.wide (bl_alloc (bl_alloc (Below.refl _ _) _) _)).alloc o)
 have BB3:Hid (∀o,Below w.heap.size w (w2.alloc o)):=Lh (fun o=>bl_alloc HB2.out o)
 clear b2 pr KL KR
 by_cases he:ke=0
 ·have hg:rightB l=true∧m≠0:=by
   cases hr:rightB l with
   | false=>have:=HKE.out;rw[keep_no l hr]at this;injection this with _ h9;omega
   | true=>
    refine ⟨rfl,fun h0=>?_⟩
    have:=HKE.out
    rw[keep_none l hr (by rw[LM.out];exact h0)]at this
    injection this with _ h9
    omega
  have H1:=Lh hg.1
  obtain ⟨j,hj,hjn,-⟩:=right_last l hg.1 (by rw[LM.out];exact hg.2)
  rw[LM.out]at hj
  rw[LN.out]at hjn
  obtain ⟨k,hk⟩:∃k,m - 1=k:=⟨_,rfl⟩
  have HK:Hid (m - 1=k∧m=k+1):=Lh ⟨hk,by omega⟩
  rw[hk]at hj
  have HKL:Hid (kl=⟨l.list,l.marks.take k⟩):=Lh (by
   have h2:=keep_new l hg.1 (by rw[LM.out];exact hg.2)
   rw[LM.out,hk,HKE.out]at h2
   injection h2)
  have HNN:Hid (kn=n∧km=k):=Lh (by rw[←HKN.out,←HKM.out,HKL.out];exact ⟨LN.out,by rw[List.length_take,LM.out];omega⟩)
  have HF:Hid (a=(⟨l.list.take j,l.marks.take k⟩,0)):=Lh (by
   have h2:=back_new l hg.1 j (by rw[LM.out,hk];exact hj)
   rw[LM.out,hk]at h2
   rw[←HA.out];exact h2)
  have HN:Hid (p=j∧q=k):=Lh (by rw[←HP.out,←HQ.out,HF.out];exact ⟨by rw[List.length_take,LN.out];omega,by rw[List.length_take,LM.out];omega⟩)
  have hkm:(m:Int) - 1=(k:Int):=by omega
  have hklt:k<m:=by omega
  obtain ⟨b1,off,zj,rfl,gz,c0⟩:=at_z (HL.out.rm.below (BB3.out (.cells #[.slice A2 kn c2,.slice B2 km d2] 31))) k hklt
  obtain rfl:(j:Int)=zj:=by rw[hj]at gz;injection gz
  have hnc:n≤c2:=by have:=(PR3.out (.cells #[.slice A2 kn c2,.slice B2 km d2] 31)).log.nc;have:=HNN.out.1;omega
  have hjc:j≤c2:=by omega
  subst he
  obtain ⟨rfl,rfl⟩:=HN.out
  obtain ⟨rfl,rfl⟩:=HNN.out
  clear gz hj hk hg
  have HKQ:=Lh hklt
  have HJN:=Lh hjn
  have l1:=(KL3.out (.cells #[.slice A2 kn c2,.slice B2 km d2] 31)).cell 1 _ rfl
  have o0:=KO3.out.cell 0 _ rfl
  have of:=KO3.out.frozen
  have PC:Hid (Pair w (w2.alloc (.cells #[.slice A2 kn c2,.slice B2 km d2] 31)) (.slice A2 p c2) p (.slice B2 km d2) km ⟨l.list.take p,l.marks.take km⟩):=Lh (by
   have h9:=(PR3.out (.cells #[.slice A2 kn c2,.slice B2 km d2] 31)).cut p km HJN.out (Nat.le_refl _)
   rw[HKL.out]at h9
   have e9:(l.marks.take km).take km=l.marks.take km:=by rw[List.take_take];simp
   rw[show (Log.mk l.list (l.marks.take km)).marks.take km=l.marks.take km from e9]at h9
   exact h9)
  have KR4:Hid (∀u,Blk ((w2.alloc (.cells #[.slice A2 kn c2,.slice B2 km d2] 31)).setCell ⟨w2.heap.size,0,none⟩ u) (w.heap.size+1) 31 #[.slice none 0 0,.slice none 0 0]):=Lh (fun u=>(KR3.out _).beside (by have:=lt2.out;omega) 0 u)
  have KO4:Hid (∀u,Blk ((w2.alloc (.cells #[.slice A2 kn c2,.slice B2 km d2] 31)).setCell ⟨w2.heap.size,0,none⟩ u) w2.heap.size 31 #[u,.slice B2 km d2]):=Lh (fun u=>KO3.out.set_ 0 u)
  have n2:Hid ((Value.slice A2 p c2).ownBlock≠some w2.heap.size∧(Value.slice A2 p c2).ownBlock≠some (w.heap.size+1)):=Lh ⟨fun e=>no1.out.1 (by cases A2 <;> exact e),fun e=>n1.out.1 (by cases A2 <;> exact e)⟩
  have hsz:Hid (w.heap.size≤w2.heap.size):=Lh HB2.out.size
  clear PR3 KL3 BB3 KR3 KO3
  go_wp2_with fail
  generalize w2.alloc (.cells #[.slice A2 kn c2,.slice B2 km d2] 31)=w3 at *
  go_big_region
  have PD:Hid (Pair w ((w3.setCell ⟨w2.heap.size,0,none⟩ (.slice A2 p c2)).drew) (.slice A2 p c2) p (.slice B2 km d2) km ⟨l.list.take p,l.marks.take km⟩):=Lh (by
   have h9:=PC.out.set_ne (g:=w2.heap.size) hsz.out n2.out.1 no1.out.2 0 (.slice A2 p c2)
   exact ⟨h9.ol.drew,h9.om.drew,h9.ap⟩)
  have KR5:Hid (Blk ((w3.setCell ⟨w2.heap.size,0,none⟩ (.slice A2 p c2)).drew) (w.heap.size+1) 31 #[.slice none 0 0,.slice none 0 0]):=Lh (KR4.out _)
  have KO5:Hid (Blk ((w3.setCell ⟨w2.heap.size,0,none⟩ (.slice A2 p c2)).drew) w2.heap.size 31 #[.slice A2 p c2,.slice B2 km d2]):=Lh (KO4.out _)
  clear o0 of l1 c0 PC KR4 KO4
  generalize (w3.setCell ⟨w2.heap.size,0,none⟩ (.slice A2 p c2)).drew=w5 at *
  have z0:=KO5.out.cell 0 _ rfl
  have z1:=KO5.out.cell 1 _ rfl
  have r0:=KR5.out.cell 0 _ rfl
  have r1:=KR5.out.cell 1 _ rfl
  have rf:=KR5.out.frozen
  go_wp2
  have hk:=(KR5.out.set_ 0 (.slice A2 p c2)).set_ 1 (.slice B2 km d2)
  have q0:=hk.cell 0 _ rfl
  have q1:=hk.cell 1 _ rfl
  clear hk
  (try simp only[Exit.inBlock,Exit.then])
  refine bodyPost_ret (v:=.tuple #[.agg #[.slice A2 p c2,.slice B2 km d2],.int .i64 0]) (by simp[results,Tryz.results166,go_sem,q0,q1]) rfl ?_
  have pr:=(PD.out.set_ne (g:=w.heap.size+1) (by omega) n2.out.2 n1.out.2 0 (.slice A2 p c2)).set_ne (g:=w.heap.size+1) (by omega) n2.out.2 n1.out.2 1 (.slice B2 km d2)
  exact ⟨A2,c2,B2,d2,by rw[HF.out],by rw[HF.out];exact pr⟩
 ·have he1:(ke==0)=false:=beq_eq_false_iff_ne.2 he
  have HKL:Hid (kl=l∧a=(l,ke)):=Lh (by
   have h2:=HKE.out
   rw[←HA.out]
   cases hr:rightB l with
   | false=>rw[keep_no l hr]at h2;rw[back_no l hr];injection h2 with h3 h4;rw[←h3,←h4];exact ⟨rfl,rfl⟩
   | true=>
    by_cases h0:l.marks.length=0
    ·rw[keep_none l hr h0]at h2;rw[back_none l hr h0];injection h2 with h3 h4;rw[←h3,←h4];exact ⟨rfl,rfl⟩
    ·rw[keep_new l hr h0]at h2;injection h2 with _ h4;exact absurd h4.symm he)
  have HNN:Hid (kn=n∧km=m∧p=n∧q=m):=Lh (by rw[←HKN.out,←HKM.out,←HP.out,←HQ.out,HKL.out.1,HKL.out.2];exact ⟨LN.out,LM.out,LN.out,LM.out⟩)
  obtain ⟨rfl,rfl,rfl,rfl⟩:=HNN.out
  clear he
  have o0:=KO3.out.cell 0 _ rfl
  have o1:=KO3.out.cell 1 _ rfl
  have r0:=(KR3.out (.cells #[.slice A2 p c2,.slice B2 q d2] 31)).cell 0 _ rfl
  have r1:=(KR3.out (.cells #[.slice A2 p c2,.slice B2 q d2] 31)).cell 1 _ rfl
  have rf:=(KR3.out (.cells #[.slice A2 p c2,.slice B2 q d2] 31)).frozen
  have PD:=Lh (PR3.out (.cells #[.slice A2 p c2,.slice B2 q d2] 31))
  have KR5:=Lh (KR3.out (.cells #[.slice A2 p c2,.slice B2 q d2] 31))
  go_wp2
  have hk:=(KR5.out.set_ 0 (.slice A2 p c2)).set_ 1 (.slice B2 q d2)
  have q0:=hk.cell 0 _ rfl
  have q1:=hk.cell 1 _ rfl
  clear hk
  (try simp only[Exit.inBlock,Exit.then])
  refine bodyPost_ret (v:=.tuple #[.agg #[.slice A2 p c2,.slice B2 q d2],.int .i64 ke]) (by simp[results,Tryz.results166,go_sem,q0,q1]) rfl ?_
  have pr:=(PD.out.set_ne (g:=w.heap.size+1) (by omega) n1.out.1 n1.out.2 0 (.slice A2 p c2)).set_ne (g:=w.heap.size+1) (by omega) n1.out.1 n1.out.2 1 (.slice B2 q d2)
  rw[HKL.out.1]at pr
  exact ⟨A2,c2,B2,d2,by rw[HKL.out.2],by rw[HKL.out.2];exact pr⟩
end Go.Proofs.YtgghaodcfgbjlaaGreat.Writes
