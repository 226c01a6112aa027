/-
 PLAIN LEMMAS ON CODES: two codes in an Either, two one behind the other, Eithers in Eithers, a Skip, a step alone. No conditions beyond those that each theorem states. Nothing of the program is named here.
-/
import Derived.Test.YtgghaodcfgbjlaaGreatTermA
import Derived.Test.YtgghaodcfgbjlaaGreatMemA
import Derived.Laws.Cover1
import Derived.Test.YtgghaodcfgbjlaaGreatTermB
import Derived.Deep.RegionHeld3
set_option maxRecDepth 100000
namespace Go.Proofs.YtgghaodcfgbjlaaGreat.Code
open Go.ChangeShapes Go.WideShapes Go.ChangeAt Go.RowKit Mem Term
structure Step where
 d:Int
 a:Int
 b:Int
 t:List Term.Op
 deriving DecidableEq,Inhabited
structure Raw where
 s:Step
 T:Option Addr
 n:Nat
 c:Nat
 deriving Inhabited
def rc (r:Raw):List Value:= [.int .i64 r.s.d,.int .i64 r.s.a,.int .i64 r.s.b,.slice r.T r.n r.c]
def rs (l:List Raw):List Value:=l.flatMap rc
def ss (l:List Raw):List Step:=l.map Raw.s
theorem rc_len (r:Raw):(rc r).length=4:=rfl
theorem ss_app (a b:List Raw):ss (a++b)=ss a++ss b:=by unfold ss;rw[List.map_append]
theorem ss_len (l:List Raw):(ss l).length=l.length:=by unfold ss;rw[List.length_map]
def Terms (w:World) (l:List Raw):Prop:=∀r∈l,Rd w 2 r.T r.n (Term.ops r.s.t)∧r.n≤r.c∧r.c≤9223372036854775807
def At (w:World) (A:Option Addr) (n:Nat) (l:List Raw):Prop:=Rd w 4 A n (rs l)∧Terms w l
section
variable {w w' :World} {A:Option Addr} {n:Nat} {l m:List Raw}
theorem Terms.below (h:Terms w l) (hb:Below w.heap.size w w'):Terms w' l:=fun r hr=>⟨(h r hr).1.below hb,(h r hr).2⟩
theorem Terms.nil_:Terms w []:=by intro r hr;cases hr
theorem Terms.sub (h:Terms w l) (hm:∀r∈m,r∈l):Terms w m:=fun r hr=>h r (hm r hr)
theorem At.below (h:At w A n l) (hb:Below w.heap.size w w'):At w' A n l:=⟨h.1.below hb,h.2.below hb⟩
theorem At.alloc (h:At w A n l) (o:Obj):At (w.alloc o) A n l:=h.below (bl_alloc (Below.refl _ _) o)
theorem At.len (h:At w A n l):l.length=n:=Rd.len rc_len h.1 (by decide)
theorem At.none_:At w A 0 []:=⟨Rd.none_,Terms.nil_⟩
theorem At.at_ (h:At w A n l) (k:Nat) (hk:k<n):
  ∃ b off,∃r:Raw,A=some ⟨b,off,none⟩∧l[k]?=some r∧w.cell? ⟨b,off+k * 4,none⟩=some (.int .i64 r.s.d)∧w.cell? ⟨b,off+k * 4+1,none⟩=some (.int .i64 r.s.a)∧
   w.cell? ⟨b,off+k * 4+2,none⟩=some (.int .i64 r.s.b)∧w.cell? ⟨b,off+k * 4+3,none⟩=some (.slice r.T r.n r.c)∧Rd w 2 r.T r.n (Term.ops r.s.t)∧r.n≤9223372036854775807:=by
 obtain ⟨b,off,r,hA,hr,hc⟩:=Rd.at_ rc_len h.1 (by decide) k hk
 have ht:=h.2 r (List.mem_of_getElem? hr)
 exact ⟨b,off,r,hA,hr,by have:=hc 0 _ rfl;simpa using this,hc 1 _ rfl,hc 2 _ rfl,hc 3 _ rfl,ht.1,by omega⟩
theorem ss_at (l:List Raw) (k:Nat) (r:Raw) (h:l[k]?=some r):(ss l)[k]?=some r.s:=by unfold ss;rw[List.getElem?_map,h];rfl
end
def reckonsB (t:List Term.Op):Bool:=decide (Term.checkS t=0) && decide ((Term.cellsS t).length=0)
def oneB (s:Step):Bool:=
 if s.d=1 then decide (s.t.length=0) && decide (0≤s.a∧s.a≤7∧0≤s.b∧s.b≤63)
 else if s.d=2 then reckonsB s.t && decide (0≤s.a∧s.a≤7∧s.b=0)
 else if s.d=3 then reckonsB s.t && decide (0≤s.a∧s.a≤63∧s.b=0)
 else if s.d=4 then reckonsB s.t && decide (1≤s.a∧s.a≤24∧s.b=0)
 else if s.d=5 then decide (s.t.length=0) && decide (s.a=0∧s.b=0)
 else if s.d=6 then decide (s.t.length=0) && decide (0≤s.a∧s.a≤255∧s.b=0)
 else decide (s.d=7) && (decide (s.t.length=0) && decide (1≤s.a∧s.a≤24∧1≤s.b∧s.b≤24))
theorem one_d (s:Step) (h:oneB s=true):1≤s.d∧s.d≤7:=by
 unfold oneB at h
 repeat' split at h
 all_goals first | omega | (simp at h;omega)
theorem one_skip (s:Step) (h:oneB s=true) (hd:s.d=4):1≤s.a∧s.a≤24:=by
 unfold oneB at h
 rw[if_neg (by omega),if_neg (by omega),if_neg (by omega),if_pos hd]at h
 simp at h;omega
theorem one_either (s:Step) (h:oneB s=true) (hd:s.d=7):1≤s.a∧s.a≤24∧1≤s.b∧s.b≤24:=by
 unfold oneB at h
 rw[if_neg (by omega),if_neg (by omega),if_neg (by omega),if_neg (by omega),if_neg (by omega),if_neg (by omega)]at h
 simp at h;omega
def wellF :Nat→List Step→Nat × Bool
  | 0,_=>(0,true)
  | _+1,[]=>(0,true)
  | f + 1,s::c=>
    if s.d=4∧(c.length:Int)<s.a then (0,false)
    else if s.d=7 then
      if (c.length:Int)<s.a+s.b then (0,false)
      else (max (max (wellF f (c.drop (s.a.toNat+s.b.toNat))).1 (1+(wellF f (c.take s.a.toNat)).1)) (1+(wellF f ((c.drop s.a.toNat).take s.b.toNat)).1),
        ((wellF f (c.take s.a.toNat)).2 && (wellF f ((c.drop s.a.toNat).take s.b.toNat)).2) && (wellF f (c.drop (s.a.toNat+s.b.toNat))).2)
    else wellF f c
def wellP (c:List Step):Nat × Bool:=wellF c.length c
theorem well_same (f:Nat):∀(g:Nat) (c:List Step),c.length≤f→c.length≤g→wellF f c=wellF g c:=by
 induction f with
 | zero=>
  intro g c h1 _
  obtain rfl:c= []:=List.eq_nil_of_length_eq_zero (by omega)
  cases g <;> rfl
 | succ f ih=>
  intro g c h1 h2
  cases c with
  | nil=>cases g <;> rfl
  | cons s c=>
   cases g with
   | zero=>simp at h2
   | succ g=>
    simp only[List.length_cons]at h1 h2
    have e:∀x:List Step,x.length≤c.length→wellF f x=wellF g x:=fun x hx=>ih g x (by omega) (by omega)
    simp only[wellF]
    rw[e c (Nat.le_refl _),e (c.drop (s.a.toNat+s.b.toNat)) (by simp),e (c.take s.a.toNat) (by simp;omega),e ((c.drop s.a.toNat).take s.b.toNat) (by simp;omega)]
theorem well_nil:wellP []=(0,true):=rfl
theorem well_skip (s:Step) (c:List Step) (hd:s.d=4) (h:(c.length:Int)<s.a):wellP (s::c)=(0,false):=by
 unfold wellP;simp only[List.length_cons,wellF];rw[if_pos ⟨hd,h⟩]
theorem well_plain (s:Step) (c:List Step) (hd:s.d≠7) (h:¬(s.d=4∧(c.length:Int)<s.a)):wellP (s::c)=wellP c:=by
 unfold wellP;simp only[List.length_cons,wellF];rw[if_neg h,if_neg hd]
theorem well_out (s:Step) (c:List Step) (hd:s.d=7) (h:(c.length:Int)<s.a+s.b):wellP (s::c)=(0,false):=by
 unfold wellP;simp only[List.length_cons,wellF];rw[if_neg (by omega),if_pos hd,if_pos h]
theorem well_either (s:Step) (U V R:List Step) (hd:s.d=7) (ha:s.a=(U.length:Int)) (hb:s.b=(V.length:Int)):
  wellP (s::(U++(V++R)))=(max (max (wellP R).1 (1+(wellP U).1)) (1+(wellP V).1),((wellP U).2 && (wellP V).2) && (wellP R).2):=by
 have e1:(U++(V++R)).drop (s.a.toNat+s.b.toNat)=R:=by
  rw[ha,hb,Int.toNat_natCast,Int.toNat_natCast,←List.append_assoc,←List.length_append,List.drop_left]
 have e2:(U++(V++R)).take s.a.toNat=U:=by rw[ha,Int.toNat_natCast,List.take_left]
 have e3:((U++(V++R)).drop s.a.toNat).take s.b.toNat=V:=by rw[ha,hb,Int.toNat_natCast,Int.toNat_natCast,List.drop_left,List.take_left]
 have hl:(U++(V++R)).length=U.length+V.length+R.length:=by simp;omega
 unfold wellP
 simp only[List.length_cons,wellF]
 rw[if_neg (by omega),if_pos hd,if_neg (by rw[hl];omega),e1,e2,e3,well_same _ R.length R (by omega) (Nat.le_refl _),well_same _ U.length U (by omega) (Nat.le_refl _),well_same _ V.length V (by omega) (Nat.le_refl _)]
theorem either_parts {α:Type} (c:List α) (a b:Int) (ha:0≤a) (hb:0≤b) (h:a+b≤(c.length:Int)):∃U V R,c=U++(V++R)∧a=(U.length:Int)∧b=(V.length:Int):=by
 refine ⟨c.take a.toNat,(c.drop a.toNat).take b.toNat,(c.drop a.toNat).drop b.toNat,by rw[List.take_append_drop,List.take_append_drop],?_,?_⟩
 ·simp;omega
 ·simp;omega
theorem well_deep (f:Nat):∀c:List Step,c.length≤f→c.all oneB=true→(wellP c).1≤c.length:=by
 induction f with
 | zero=>
  intro c h _
  obtain rfl:c= []:=List.eq_nil_of_length_eq_zero (by omega)
  exact Nat.le_refl _
 | succ f ih=>
  intro c h h1
  cases c with
  | nil=>exact Nat.le_refl _
  | cons s c=>
   rw[List.all_cons,Bool.and_eq_true]at h1
   simp only[List.length_cons]at h ⊢
   by_cases h4:s.d=4∧(c.length:Int)<s.a
   ·rw[well_skip s c h4.1 h4.2];exact Nat.zero_le _
   by_cases h7:s.d=7
   ·by_cases ho:(c.length:Int)<s.a+s.b
    ·rw[well_out s c h7 ho];exact Nat.zero_le _
    ·obtain ⟨g1,_,g3,_⟩:=one_either s h1.1 h7
     obtain ⟨U,V,R,rfl,ha,hb⟩:=either_parts c s.a s.b (by omega) (by omega) (by omega)
     rw[List.all_append,List.all_append,Bool.and_eq_true,Bool.and_eq_true]at h1
     simp only[List.length_append]at h ⊢
     rw[well_either s U V R h7 ha hb]
     have i1:=ih U (by omega) h1.2.1
     have i2:=ih V (by omega) h1.2.2.1
     have i3:=ih R (by omega) h1.2.2.2
     simp only;omega
   ·rw [well_plain s c h7 h4]
    have:=ih c (by omega) h1.2
    omega
def checkS (c:List Step):Int:=
 if (decide (c.length≤24) && c.all oneB)=true then (if (wellP c).2=true then (if 6<(wellP c).1 then 5 else 0) else 2) else 1
def namesB (c:List Step) (n:Nat):Bool:=c.any fun s=>(decide (s.d=1) && decide (s.b=(n:Int))) || (decide (s.d=3) && decide (s.a=(n:Int)))
def cellsS (c:List Step):List Int:=if checkS c=0 then pick (namesB c) 64 else []
theorem check_ok (c:List Step) (h:checkS c=0):c.length≤24∧c.all oneB=true∧(wellP c).2=true∧(wellP c).1≤6:=by
 unfold checkS at h
 split at h
 ·rename_i h1
  rw[Bool.and_eq_true]at h1
  have h2:c.length≤24:=by simpa using h1.1
  split at h
  ·split at h
   ·cases h
   ·exact ⟨h2,h1.2,by assumption,by omega⟩
  ·cases h
 ·cases h
theorem check_bad (c:List Step) (k:Nat) (x:Step) (hk:c[k]?=some x) (hx:oneB x=false):checkS c=1:=by
 unfold checkS;rw[if_neg (by rw[all_bad c oneB k x hk hx];simp)]
theorem check_many (c:List Step) (h:24<c.length):checkS c=1:=by
 unfold checkS;rw[if_neg (by rw[decide_eq_false (by omega)];simp)]
end Go.Proofs.YtgghaodcfgbjlaaGreat.Code
namespace Go.Proofs.YtgghaodcfgbjlaaGreat.Code
open Go.ChangeShapes Go.WideShapes Go.ChangeAt Go.RowKit Mem
theorem refreckons (t:List Term.Op) (A:Option Addr) (n c:Nat) (w:World) (b:Bool) (hr:Rd w 2 A n (Term.ops t)) (hn:n≤1000000) (hb:reckonsB t=b):
  Calls Tryz.prog 159 #[.slice A n c] w (RetB w b):=by
 have HR:=Lh hr
 have HB:=Lh hb
 obtain ⟨ck,hck⟩:∃x,Term.checkS t=x:=⟨_,rfl⟩
 have HC:=Lh hck
 obtain ⟨cz,hcz⟩:∃x,Term.cellsS t=x:=⟨_,rfl⟩
 obtain ⟨cq,hcq⟩:∃x,cz.length=x:=⟨_,rfl⟩
 have HZ:=Lh hcz
 have HQ:=Lh hcq
 have HF:Hid (b=(decide (ck=0) && decide (cq=0))):=Lh (by rw[←hb];unfold reckonsB;rw[hck,hcz,hcq])
 clear hr hb hcz hcq hck
 by_cases h0:ck=0
 ·subst h0
  by_cases h1:cq=0
  all_goals
   have HF2:Hid (b=decide (cq=0)):=Lh (by rw[HF.out];rfl)
   have q1:((cq:Int)==0)=decide (cq=0):=by simp[h1]
   go_enter Tryz.func159,Tryz.ntmps159
   go_wp2_with fail
   refine (Term.refcheck t _ _ _ _ 0 HR.out hn HC.out).mono ?_
   rintro e w1 ⟨rfl,b1⟩
   go_wp2_with fail
   refine (Term.refcells t _ _ _ _ cz cq (HR.out.below b1) hn HZ.out HQ.out).mono ?_
   rintro e w2 ⟨B,d,rfl,_,b2⟩
   go_wp2
   go_ret
   exact ⟨ret_bool (by rw[HF2.out];simp[h1]),bl_trans b1 b2⟩
 ·have q1:(ck==0)=false:=beq_eq_false_iff_ne.2 h0
  have HF2:Hid (b=false):=Lh (by rw[HF.out,decide_eq_false h0];rfl)
  clear h0
  go_enter Tryz.func159,Tryz.ntmps159
  go_wp2_with fail
  refine (Term.refcheck t _ _ _ _ ck HR.out hn HC.out).mono ?_
  rintro e w1 ⟨rfl,b1⟩
  go_wp2
  go_ret
  exact ⟨ret_bool HF2.out.symm,b1⟩
set_option maxHeartbeats 1000000 in
theorem refone (r:Raw) (w:World) (v:Bool) (hr:Rd w 2 r.T r.n (Term.ops r.s.t)) (hn:r.n≤1000000) (hv:oneB r.s=v):
  Calls Tryz.prog 107 #[.agg #[.int .i64 r.s.d,.int .i64 r.s.a,.int .i64 r.s.b,.slice r.T r.n r.c]] w (RetB w v):=by
 obtain ⟨⟨dd,aa,bb,t⟩,T,n,c⟩:=r
 simp only at hr hn
 have HL:=Lh (Term.ops_len hr)
 have HR:=Lh hr
 have HV:=Lh hv
 obtain ⟨hs,hhs⟩:∃x,reckonsB t=x:=⟨_,rfl⟩
 have HH:=Lh hhs
 have HK:Hid (Blk (w.alloc (.cells #[.int .i64 dd,.int .i64 aa,.int .i64 bb,.slice T n c] 128)) w.heap.size 128 #[.int .i64 dd,.int .i64 aa,.int .i64 bb,.slice T n c]):=Lh (Blk.new _ _ _)
 clear hr hv hhs
 rcases (by omega:dd=1∨dd=2∨dd=3∨dd=4∨dd=5∨dd=6∨dd=7∨(dd≠1∧dd≠2∧dd≠3∧dd≠4∧dd≠5∧dd≠6∧dd≠7)) with rfl | rfl | rfl | rfl | rfl | rfl | rfl | ⟨e1,e2,e3,e4,e5,e6,e7⟩
 rotate_right
 ·have HF:Hid (v=false):=Lh (by rw[←HV.out];unfold oneB;simp[e1,e2,e3,e4,e5,e6,e7])
  have g1:(dd==1)=false:=beq_eq_false_iff_ne.2 e1
  have g2:(dd==2)=false:=beq_eq_false_iff_ne.2 e2
  have g3:(dd==3)=false:=beq_eq_false_iff_ne.2 e3
  have g4:(dd==4)=false:=beq_eq_false_iff_ne.2 e4
  have g5:(dd==5)=false:=beq_eq_false_iff_ne.2 e5
  have g6:(dd==6)=false:=beq_eq_false_iff_ne.2 e6
  have g7:(dd==7)=false:=beq_eq_false_iff_ne.2 e7
  clear e1 e2 e3 e4 e5 e6 e7
  go_enter Tryz.func107,Tryz.ntmps107
  go_wp2_with fail
  refine (refreckons t _ _ _ _ _ (HR.out.alloc _) hn HH.out).mono ?_
  rintro e w1 ⟨rfl,b1⟩
  have HB:=Lh (bl_trans (bl_alloc (Below.refl _ _) _) b1)
  have k1:=HK.out.below b1
  have c0:=k1.cell 0 _ rfl
  have c1:=k1.cell 1 _ rfl
  have c2:=k1.cell 2 _ rfl
  have c3:=k1.cell 3 _ rfl
  clear k1 b1
  go_wp2
  all_goals
   go_ret
   exact ⟨ret_bool HF.out.symm,HB.out⟩
 all_goals cases hs
 all_goals
  go_enter Tryz.func107,Tryz.ntmps107
  go_wp2_with fail
  refine (refreckons t _ _ _ _ _ (HR.out.alloc _) hn HH.out).mono ?_
  rintro e w1 ⟨rfl,b1⟩
  have HB:=Lh (bl_trans (bl_alloc (Below.refl _ _) _) b1)
  have k1:=HK.out.below b1
  have c0:=k1.cell 0 _ rfl
  have c1:=k1.cell 1 _ rfl
  have c2:=k1.cell 2 _ rfl
  have c3:=k1.cell 3 _ rfl
  clear k1 b1
  go_wp2
  all_goals
   go_ret
   refine ⟨ret_bool ?_,HB.out⟩
   have hl:=HL.out
   have hh:=HH.out
   rw[←HV.out]
   unfold oneB
   rw[Bool.eq_iff_iff]
   simp[hl,hh]
   try omega
def RetNB (w:World) (r:Nat × Bool) (e:Ending) (w' :World):Prop:=e=.returned (.tuple #[.int .i64 (r.1:Int),.bool r.2])∧Below w.heap.size w w'
theorem at_mid {α:Type} (P Q X:List α) (s:α) (k:Nat) (hk:P.length=k):(P++((s::X)++Q))[k]?=some s:=by
 subst hk;rw[List.getElem?_append_right (Nat.le_refl _)];simp
set_option maxHeartbeats 4000000 in
theorem refwell (f:Nat):∀(P X Q l:List Raw) (A:Option Addr) (n c p q:Nat) (w:World) (r:Nat × Bool),X.length≤f→At w A n l→n≤1000→l=P++(X++Q)→P.length=p→P.length+X.length=q→(ss X).all oneB=true→wellP (ss X)=r→
  ∀z y:Int,z=(p:Int)→y=(q:Int)→Calls Tryz.prog 108 #[.slice A n c,.int .i64 z,.int .i64 y] w (RetNB w r):=by
 induction f with
 | zero=>
  intro P X Q l A n c p q w r hX hat hn hl hp hq ho hr z y hz hy
  obtain rfl:X= []:=List.eq_nil_of_length_eq_zero (by omega)
  have hpq:q=p:=by simp at hq;omega
  subst hpq hz hy
  have HF:Hid (r=(0,true)):=Lh hr.symm
  clear hr ho hl hat hq hp
  go_enter Tryz.func108,Tryz.ntmps108
  go_wp2
  go_ret2
  exact ⟨by rw[HF.out];rfl,Below.refl _ _⟩
 | succ f ih=>
  intro P X Q l A n c p q w r hX hat hn hl hp hq ho hr z y hz hy
  subst hz hy
  cases X with
  | nil=>
   have hpq:q=p:=by simp at hq;omega
   subst hpq
   have HF:Hid (r=(0,true)):=Lh hr.symm
   clear hr ho hl hat hq hp
   go_enter Tryz.func108,Tryz.ntmps108
   go_wp2
   go_ret2
   exact ⟨by rw[HF.out];rfl,Below.refl _ _⟩
  | cons s X=>
   have hln:=hat.len
   have hlen:l.length=P.length+(X.length+1+Q.length):=by rw[hl];simp;omega
   have hx:l[p]?=some s:=by rw[hl];exact at_mid P Q X s p hp
   simp only[List.length_cons]at hX hq
   have hpn:p<n:=by omega
   obtain ⟨b,off,⟨⟨sd,sa,sb,st⟩,T,tn,tc⟩,rfl,hx2,c0,c1,c2,c3,_,_⟩:=hat.at_ p hpn
   obtain rfl:s=⟨⟨sd,sa,sb,st⟩,T,tn,tc⟩:=by rw[hx]at hx2;injection hx2
   simp only at c0 c1 c2 c3
   have hss:ss (⟨⟨sd,sa,sb,st⟩,T,tn,tc⟩::X)=⟨sd,sa,sb,st⟩::ss X:=rfl
   rw[hss]at hr ho
   rw[List.all_cons,Bool.and_eq_true]at ho
   obtain ⟨ho1,ho2⟩:=ho
   have HSL:=Lh (ss_len X)
   have HAT:=Lh hat
   have HBK:Hid (Blk (w.alloc (.cells #[.int .i64 sd,.int .i64 sa,.int .i64 sb,.slice T tn tc] 128)) w.heap.size 128 #[.int .i64 sd,.int .i64 sa,.int .i64 sb,.slice T tn tc]):=Lh (Blk.new _ _ _)
   have hq2:q=p+(X.length+1):=by omega
   have hpq:((p:Int)==(q:Int))=false:=by apply beq_eq_false_iff_ne.2;omega
   have hxn:p+1+X.length=q:=by omega
   obtain ⟨xl,hxl⟩:∃xl,X.length=xl:=⟨_,rfl⟩
   rw[hxl]at hX hq hlen hq2 hxn
   have HXL:=Lh hxl
   have hqn:q≤n:=by omega
   have hpq1:p+1≤q:=by omega
   have hd:=one_d _ ho1
   simp only at hd
   have IH1:Hid (∀(r:Nat × Bool),wellP (ss X)=r→∀W,At W (some ⟨b,off,none⟩) n l→∀z y:Int,z=((p+1:Nat):Int)→y=(q:Int)→Calls Tryz.prog 108 #[.slice (some ⟨b,off,none⟩) n c,.int .i64 z,.int .i64 y] W (RetNB W r)):=
    Lh (fun r hr W hW=>ih (P++ [⟨⟨sd,sa,sb,st⟩,T,tn,tc⟩]) X Q l _ n c (p+1) q W r (by rw[hxl];omega) hW hn (by rw[hl];simp) (by simp[hp]) (by simp[hp,hxl];omega) ho2 hr)
   by_cases h4:sd=4
   ·subst h4
    have h24:=one_skip _ ho1 rfl
    simp only at h24
    obtain ⟨h24a,h24b⟩:=h24
    by_cases hfar:(xl:Int)<sa
    ·have HF:Hid (r=(0,false)):=Lh (by rw[←hr];exact well_skip _ _ rfl (by rw[HSL.out,HXL.out];exact hfar))
     have hgt:(q:Int)<(p:Int)+1+sa:=by omega
     clear hr ho1 ho2 hss hln hx hx2 hat hl hp ih hxl hq hq2 hlen hxn IH1
     go_enter Tryz.func108,Tryz.ntmps108
     go_wp2
     go_ret2
     exact ⟨by rw[HF.out];rfl,bl_alloc (Below.refl _ _) _⟩
    ·have HF:Hid (wellP (ss X)=r):=Lh (by rw[←hr];exact (well_plain _ _ (by simp) (by rw[HSL.out,HXL.out];rintro ⟨_,h9⟩;exact hfar h9)).symm)
     have hgt:(p:Int)+1+sa≤(q:Int):=by omega
     clear hr ho1 ho2 hss hln hx hx2 hat hl hp ih hxl hq hq2 hlen hxn
     go_enter Tryz.func108,Tryz.ntmps108
     go_wp2_with fail
     refine (IH1.out r HF.out _ (HAT.out.alloc _) _ _ (by omega) rfl).mono ?_
     rintro e w1 ⟨rfl,b1⟩
     go_wp2
     go_ret2
     exact ⟨rfl,bl_trans (bl_alloc (Below.refl _ _) _) b1⟩
   by_cases h7:sd=7
   ·subst h7
    obtain ⟨g1,g2,g3,g4⟩:=one_either _ ho1 rfl
    simp only at g1 g2 g3 g4
    by_cases hfar:(xl:Int)<sa+sb
    ·have HF:Hid (r=(0,false)):=Lh (by rw[←hr];exact well_out _ _ rfl (by rw[HSL.out,HXL.out];exact hfar))
     have hgt:(q:Int)<(p:Int)+1+sa+sb:=by omega
     clear hr ho1 ho2 hss hln hx hx2 hat hl hp ih hxl hq hq2 hlen hxn IH1
     go_enter Tryz.func108,Tryz.ntmps108
     go_wp2
     go_ret2
     exact ⟨by rw[HF.out];rfl,bl_alloc (Below.refl _ _) _⟩
    ·obtain ⟨U,V,R,hX2,hsa,hsb⟩:=either_parts X sa sb (by omega) (by omega) (by rw[hxl];omega)
     obtain ⟨ul,hul⟩:∃x,U.length=x:=⟨_,rfl⟩
     obtain ⟨vl,hvl⟩:∃x,V.length=x:=⟨_,rfl⟩
     have hrl:xl=ul+(vl+R.length):=by rw[←hxl,hX2];simp[hul,hvl]
     rw[hul]at hsa
     rw[hvl]at hsb
     have hall:(ss U).all oneB=true∧(ss V).all oneB=true∧(ss R).all oneB=true:=by
      rw[hX2,ss_app,ss_app,List.all_append,List.all_append,Bool.and_eq_true,Bool.and_eq_true]at ho2;exact ho2
     obtain ⟨pm,hpm⟩:∃x,x=p+1+ul:=⟨_,rfl⟩
     obtain ⟨pe,hpe⟩:∃x,x=pm+vl:=⟨_,rfl⟩
     obtain ⟨⟨ud,ub⟩,hU⟩:∃x,wellP (ss U)=x:=⟨_,rfl⟩
     obtain ⟨⟨vd,vb⟩,hV⟩:∃x,wellP (ss V)=x:=⟨_,rfl⟩
     obtain ⟨⟨rd,rb⟩,hR⟩:∃x,wellP (ss R)=x:=⟨_,rfl⟩
     have dU:ud≤1000:=by have:=well_deep _ (ss U) (Nat.le_refl _) hall.1;rw[hU,ss_len]at this;simp only at this;omega
     have dV:vd≤1000:=by have:=well_deep _ (ss V) (Nat.le_refl _) hall.2.1;rw[hV,ss_len]at this;simp only at this;omega
     have dR:rd≤1000:=by have:=well_deep _ (ss R) (Nat.le_refl _) hall.2.2;rw[hR,ss_len]at this;simp only at this;omega
     have HF:Hid (r=(max (max rd (1+ud)) (1+vd),(ub && vb) && rb)):=Lh (by
      rw[←hr,hX2,ss_app,ss_app,well_either _ (ss U) (ss V) (ss R) rfl (by rw[ss_len,hul];exact hsa) (by rw[ss_len,hvl];exact hsb),hU,hV,hR])
     have IU:Hid (∀W,At W (some ⟨b,off,none⟩) n l→∀z y:Int,z=((p+1:Nat):Int)→y=(pm:Int)→Calls Tryz.prog 108 #[.slice (some ⟨b,off,none⟩) n c,.int .i64 z,.int .i64 y] W (RetNB W (ud,ub))):=
      Lh (fun W hW=>ih (P++ [⟨⟨7,sa,sb,st⟩,T,tn,tc⟩]) U (V++(R++Q)) l _ n c (p+1) pm W _ (by omega) hW hn (by rw[hl,hX2];simp) (by simp[hp]) (by simp[hp,hul];omega) hall.1 hU)
     have IV:Hid (∀W,At W (some ⟨b,off,none⟩) n l→∀z y:Int,z=(pm:Int)→y=(pe:Int)→Calls Tryz.prog 108 #[.slice (some ⟨b,off,none⟩) n c,.int .i64 z,.int .i64 y] W (RetNB W (vd,vb))):=
      Lh (fun W hW=>ih (P++([⟨⟨7,sa,sb,st⟩,T,tn,tc⟩]++U)) V (R++Q) l _ n c pm pe W _ (by omega) hW hn (by rw[hl,hX2];simp) (by simp[hp,hul];omega) (by simp[hp,hul,hvl];omega) hall.2.1 hV)
     have IR:Hid (∀W,At W (some ⟨b,off,none⟩) n l→∀z y:Int,z=(pe:Int)→y=(q:Int)→Calls Tryz.prog 108 #[.slice (some ⟨b,off,none⟩) n c,.int .i64 z,.int .i64 y] W (RetNB W (rd,rb))):=
      Lh (fun W hW=>ih (P++([⟨⟨7,sa,sb,st⟩,T,tn,tc⟩]++(U++V))) R Q l _ n c pe q W _ (by omega) hW hn (by rw[hl,hX2];simp) (by simp[hp,hul,hvl];omega) (by simp[hp,hul,hvl];omega) hall.2.2 hR)
     have em:(p:Int)+1+sa=(pm:Int):=by omega
     have ee:(pm:Int)+sb=(pe:Int):=by omega
     have hle:pe≤q:=by omega
     have hmn:pm≤1000:=by omega
     have hen:pe≤1000:=by omega
     clear hr ho1 ho2 hss hln hx hx2 hat hl hp ih hxl hq hq2 hlen hxn IH1 hall hU hV hR hX2 hul hvl hrl hpm hpe hsa hsb hfar
     go_enter Tryz.func108,Tryz.ntmps108
     go_wp2_with fail
     refine (IU.out _ (HAT.out.alloc _) _ _ (by omega) rfl).mono ?_
     rintro e w1 ⟨rfl,b1⟩
     have bb:=Lh (bl_trans (bl_alloc (Below.refl _ _) _) b1)
     clear b1
     go_wp2_with fail
     refine (IV.out _ (HAT.out.below bb.out) _ _ rfl rfl).mono ?_
     rintro e w2 ⟨rfl,b1⟩
     replace bb:=Lh (bl_trans bb.out b1)
     clear b1
     go_wp2_with fail
     refine (IR.out _ (HAT.out.below bb.out) _ _ rfl rfl).mono ?_
     rintro e w3 ⟨rfl,b1⟩
     replace bb:=Lh (bl_trans bb.out b1)
     clear b1
     obtain ⟨mx,hmx⟩:∃mx:Nat,max (max rd (1+ud)) (1+vd)=mx:=⟨_,rfl⟩
     have hmi:(if (1:Int)+(vd:Int) > (if (1:Int)+(ud:Int) > (rd:Int) then 1+(ud:Int) else (rd:Int)) then 1+(vd:Int) else (if (1:Int)+(ud:Int) > (rd:Int) then 1+(ud:Int) else (rd:Int)))=(mx:Int):=by
      rw[←hmx]
      split <;> split <;> omega
     rw[hmx]at HF
     clear hmx
     cases ub <;> cases vb <;> cases rb
     all_goals
      go_wp2
      go_ret2
      exact ⟨by rw[HF.out];rfl,bb.out⟩
   ·have HF:Hid (wellP (ss X)=r):=Lh (by rw[←hr];exact (well_plain _ _ h7 (fun h9=>h4 h9.1)).symm)
    have e4:(sd==4)=false:=beq_eq_false_iff_ne.2 h4
    have e7:(sd !=7)=true:=by simpa using h7
    clear hr ho1 ho2 hss hln hx hx2 hat hl hp ih hxl hq hq2 hlen hxn h4 h7
    go_enter Tryz.func108,Tryz.ntmps108
    go_wp2_with fail
    refine (IH1.out r HF.out _ (HAT.out.alloc _) _ _ (by omega) rfl).mono ?_
    rintro e w1 ⟨rfl,b1⟩
    go_wp2
    go_ret2
    exact ⟨rfl,bl_trans (bl_alloc (Below.refl _ _) _) b1⟩
def RetI (w:World) (v:Int) (e:Ending) (w' :World):Prop:=e=.returned (.int .i64 v)∧Below w.heap.size w w'
def Lim (l:List Raw):Prop:=∀r∈l,r.n≤1000000
set_option maxHeartbeats 1000000 in
theorem refcheck (l:List Raw) (A:Option Addr) (n c:Nat) (w:World) (v:Int) (hat:At w A n l) (hlim:Lim l) (hn:n≤1000000) (hv:checkS (ss l)=v):
  Calls Tryz.prog 54 #[.slice A n c] w (RetI w v):=by
 have HL:=Lh hat.len
 have HA:=Lh hat
 have HV:=Lh hv
 have HM:=Lh hlim
 clear hat hv hlim
 by_cases h24:24<n
 ·have HF:Hid (v=1):=Lh (by rw[←HV.out];exact check_many _ (by rw[ss_len,HL.out];exact h24))
  go_enter Tryz.func54,Tryz.ntmps54
  go_wp2
  go_ret
  exact ⟨ret_int HF.out.symm,Below.refl _ _⟩
 ·go_enter Tryz.func54,Tryz.ntmps54
  go_wp2
  go_loopw [3] (fun i wr=>∃k:Nat,k≤n∧i=.int .i64 k∧Hid (Below w.heap.size w wr)∧Hid (((ss l).take k).all oneB=true)) (fun i _=>n - (intOf i).toNat)
  case atStart=>exact ⟨0,Nat.zero_le _,rfl,Lh (Below.refl _ _),Lh rfl⟩
  case round=>
   obtain ⟨k,hk,rfl,bb,HALL⟩:=hrel
   generalize wr=w1 at *
   by_cases hlt:k<n
   ·obtain ⟨b,off,⟨⟨sd,sa,sb,st⟩,T,tn,tc⟩,rfl,hx,c0,c1,c2,c3,hrd,_⟩:=(HA.out.below bb.out).at_ k hlt
    simp only at c0 c1 c2 c3
    have hs:=Lh (take_all (ss l) oneB k _ (ss_at l k _ hx))
    have HX:=Lh hx
    have htn:tn≤1000000:=HM.out _ (List.mem_of_getElem? hx)
    have HRD:=Lh hrd
    obtain ⟨ov,hov⟩:∃x,oneB ⟨sd,sa,sb,st⟩=x:=⟨_,rfl⟩
    have HOV:=Lh hov
    clear hx hrd hov
    go_wp2_with fail
    refine (refone ⟨⟨sd,sa,sb,st⟩,T,tn,tc⟩ _ ov HRD.out htn HOV.out).mono ?_
    rintro e w2 ⟨rfl,b2⟩
    have HB2:=Lh (bl_trans bb.out b2)
    clear b2
    cases ov with
    | true=>
     go_wp2
     go_roundw
     case rel=>exact ⟨k+1,by omega,by go_num,HB2,Lh (by rw[hs.out,HALL.out,HOV.out];rfl)⟩
     case measure=>simp[intOf];omega
    | false=>
     have HF:Hid (v=1):=Lh (by rw[←HV.out];exact check_bad _ k _ (ss_at l k _ HX.out) HOV.out)
     go_wp2
     go_ret
     exact ⟨ret_int HF.out.symm,HB2.out⟩
   ·have HO:Hid ((ss l).all oneB=true):=Lh (by have:=HALL.out;rwa [List.take_of_length_le (by rw[ss_len,HL.out];omega)]at this)
    obtain ⟨⟨dp,wl⟩,hw⟩:∃x,wellP (ss l)=x:=⟨_,rfl⟩
    have hdp:dp≤24:=by have:=well_deep _ (ss l) (Nat.le_refl _) HO.out;rw[hw,ss_len,HL.out]at this;simp only at this;omega
    have HW:=Lh hw
    have HCV:Hid (v=if wl=true then (if 6<dp then 5 else 0) else 2):=Lh (by
     rw[←HV.out];unfold checkS;rw[if_pos (by rw[HO.out,ss_len,HL.out];simp;omega),hw])
    clear hw HALL
    go_wp2_with fail
    refine (refwell l.length [] l [] l _ n c 0 n _ (dp,wl) (Nat.le_refl _) (HA.out.below bb.out) (by omega) (by simp) rfl (by simp[HL.out]) HO.out HW.out _ _ rfl rfl).mono ?_
    rintro e w2 ⟨rfl,b2⟩
    have HB2:=Lh (bl_trans bb.out b2)
    clear b2
    cases wl with
    | false=>
     go_wp2
     go_ret
     exact ⟨ret_int (by rw[HCV.out];rfl),HB2.out⟩
    | true=>
     by_cases h6:6<dp
     ·go_wp2
      go_ret
      exact ⟨ret_int (by rw[HCV.out];simp[h6]),HB2.out⟩
     ·go_wp2
      go_ret
      exact ⟨ret_int (by rw[HCV.out];simp[h6]),HB2.out⟩
def smallB (l:List Raw):Bool:=l.all (fun r=>decide (r.n≤20)) && decide (l.length≤40)
def smallI (l:List Raw):Int:=if smallB l=true then (l.length:Int) else -1
theorem small_lim (l:List Raw) (h:smallB l=true):Lim l∧l.length≤40:=by
 unfold smallB at h
 rw[Bool.and_eq_true]at h
 refine ⟨fun r hr=>?_,by simpa using h.2⟩
 have:=List.all_eq_true.1 h.1 r hr
 have:r.n≤20:=by simpa using this
 omega
theorem small_c (l:List Raw) (A:Option Addr) (n c:Nat) (w:World) (v:Int) (hat:At w A n l) (hn:n≤9223372036854775807) (hv:smallI l=v):
  Calls Tryz.prog 10 #[.slice A n c] w (RetI w v):=by
 have HL:=Lh hat.len
 have HA:=Lh hat
 have HV:=Lh hv
 clear hat hv
 go_enter Tryz.func10,Tryz.ntmps10
 go_wp2
 go_loopw [7] (fun i wr=>∃k:Nat,k≤n∧i=.int .i64 k∧Hid (Below w.heap.size w wr)∧Hid ((l.take k).all (fun r=>decide (r.n≤20))=true)) (fun i _=>n - (intOf i).toNat)
 case atStart=>exact ⟨0,Nat.zero_le _,rfl,Lh (Below.refl _ _),Lh rfl⟩
 case round=>
  obtain ⟨k,hk,rfl,bb,HALL⟩:=hrel
  generalize wr=w1 at *
  by_cases hlt:k<n
  ·obtain ⟨b,off,⟨⟨sd,sa,sb,st⟩,T,tn,tc⟩,rfl,hx,c0,c1,c2,c3,hrd,htn⟩:=(HA.out.below bb.out).at_ k hlt
   simp only at c0 c1 c2 c3 htn
   have hs:=Lh (take_all l (fun r=>decide (r.n≤20)) k _ hx)
   have HX:=Lh hx
   have HB2:=Lh (bl_alloc bb.out (.cells #[.int .i64 sd,.int .i64 sa,.int .i64 sb,.slice T tn tc] 113))
   clear hx hrd
   by_cases h20:20<tn
   ·have HF:Hid (v= -1):=Lh (by
     rw[←HV.out];unfold smallI smallB
     rw[all_bad l (fun r=>decide (r.n≤20)) k _ HX.out (by simpa using h20)];rfl)
    go_wp2
    go_ret
    exact ⟨ret_int HF.out.symm,HB2.out⟩
   ·go_wp2
    go_roundw
    case rel=>exact ⟨k+1,by omega,by go_num,HB2,Lh (by rw[hs.out,HALL.out];simpa using h20)⟩
    case measure=>simp[intOf];omega
  ·have HO:Hid (l.all (fun r=>decide (r.n≤20))=true):=Lh (by have:=HALL.out;rwa [List.take_of_length_le (by rw[HL.out];omega)]at this)
   by_cases h40:40<n
   ·have HF:Hid (v= -1):=Lh (by rw[←HV.out];unfold smallI smallB;rw[HO.out,HL.out,decide_eq_false (by omega)];rfl)
    go_wp2
    go_ret
    exact ⟨ret_int HF.out.symm,bb.out⟩
   ·have HF:Hid (v=(n:Int)):=Lh (by rw[←HV.out];unfold smallI smallB;rw[HO.out,HL.out,decide_eq_true (by omega)];rfl)
    go_wp2
    go_ret
    exact ⟨ret_int HF.out.symm,bb.out⟩
def Off (v:Value) (l:List Raw):Prop:=∀r∈l,∀b off,r.T=some ⟨b,off,none⟩→0<r.n→v.ownBlock≠some b
section
variable {w w' :World} {v v' :Value} {l m:List Raw} {o:Option Nat}
theorem cell_grown {a:Addr} {u:Value} (h:w.cell? a=some u) (hg:w.grownBy w' o) (hne:o≠some a.block):w'.cell? a=some u:=by
 obtain ⟨_,_,_,_,hb⟩:=hg
 have e:=hb a.block (cell_lt h) (fun e=>hne e.symm)
 unfold World.cell? at h ⊢
 rw[e];exact h
theorem rd_grown {k n:Nat} {A:Option Addr} {xs:List Value} (h:Rd w k A n xs) (hg:w.grownBy w' o) (hne:∀b off,A=some ⟨b,off,none⟩→0<n→o≠some b):Rd w' k A n xs:=
 ⟨h.1, fun hn=>by
  obtain ⟨b,off,e,hc⟩:=h.2 hn
  exact ⟨b,off,e,fun j u hu=>cell_grown (hc j u hu) hg (hne b off e hn)⟩⟩
theorem Terms.grown (h:Terms w l) (ho:Off v l) (hg:w.grownBy w' v.ownBlock):Terms w' l:=fun r hr=>
 ⟨rd_grown (h r hr).1 hg (fun b off e hn=>ho r hr b off e hn),(h r hr).2⟩
theorem rd_lt {k n b off:Nat} {A:Option Addr} {xs:List Value} (h:Rd w k A n xs) (hk:0<k) (hn:0<n) (e:A=some ⟨b,off,none⟩):b<w.heap.size:=by
 obtain ⟨b',off',e',hc⟩:=h.2 hn
 rw[e]at e'
 injection e' with e'
 injection e' with e1 e2
 subst e1 e2
 have hl:0<xs.length:=by rw[h.1];exact Nat.mul_pos hn hk
 have:=hc 0 _ (List.getElem?_eq_getElem hl)
 have:=cell_lt this
 simpa using this
theorem Off.grown (h:Terms w l) (ho:Off v l) (hat:v'.ownBlock=v.ownBlock∨v'.ownBlock=some w.heap.size):Off v' l:=by
 intro r hr b off e hn
 rcases hat with hat | hat
 ·rw[hat];exact ho r hr b off e hn
 ·rw [hat]
  have:=rd_lt (h r hr).1 (by decide) hn e
  intro e2;injection e2 with e2;omega
end
end Go.Proofs.YtgghaodcfgbjlaaGreat.Code
namespace Go.Proofs.YtgghaodcfgbjlaaGreat.Code
open Go.ChangeShapes Go.WideShapes Go.ChangeAt Go.RowKit Go.Deep Mem
theorem slice_cell {H:Type} {enc:TypeId × Value→H} {P:Program} {W:World} {fuel:Nat} {t e:TypeId} {c0:Value} {x:DataW H × List MemPlace} (ht:P.underlying t=some (.slice e))
  (hf:DataW.trod enc P W 0 (fun _=>true) true fuel t [c0]=some x):∃A n c,c0=.slice A n c:=by
 rcases open_slice ht hf with ⟨hcs,_⟩ | ⟨a,len,cap,m,n',D,Pl,hcs,_⟩
 ·simp at hcs
  exact ⟨_,_,_,hcs⟩
 ·simp at hcs
  exact ⟨_,_,_,hcs⟩
def Good (W:World) (y:Raw):Prop:=(Rd W 2 y.T y.n (Term.ops y.s.t)∧y.n≤y.c∧y.c≤9223372036854775807)∧Fits y.s.d∧Fits y.s.a∧Fits y.s.b
theorem trod_step {H:Type} {enc:TypeId × Value→H} {W:World} {fuel:Nat} {cs' :List Value} {x:DataW H × List MemPlace} (hl:cs'.length=4)
  (ht:DataW.trod enc Tryz.prog W 0 (fun _=>true) true fuel 113 cs' =some x):∃y:Raw,cs' =rc y∧Good W y:=by
 obtain ⟨xs,n',_,_,_,hxl,hf⟩:=DataW.trod_struct Tryz.underlying113 ht
 match cs',hl with
 | [c0,c1,c2,c3],_=>
  have g0:=hf 0 _ rfl
  have g1:=hf 1 _ rfl
  have g2:=hf 2 _ rfl
  have g3:=hf 3 _ rfl
  have k3:Tryz.prog.cellsOf 3=1:=by kernel_rfl
  have k4:Tryz.prog.cellsOf 111=1:=by kernel_rfl
  match xs,hxl with
  | [y0,y1,y2,y3],_=>
   simp[k3,k4]at g0 g1 g2 g3
   obtain ⟨m0,e0,_,wf0⟩:=DataW.trod_int Tryz.underlying3 g0
   obtain ⟨m1,e1,_,wf1⟩:=DataW.trod_int Tryz.underlying3 g1
   obtain ⟨m2,e2,_,wf2⟩:=DataW.trod_int Tryz.underlying3 g2
   obtain ⟨A,n,c,rfl⟩:=slice_cell Tryz.underlying111 g3
   obtain ⟨hnc,hc,lst,hr,_,_⟩:=Term.open_ops (A:=A) (n:=n) (c:=c) (d:=y3.1) (p:=y3.2) ⟨_,g3⟩
   simp at e0 e1 e2
   subst e0 e1 e2
   exact ⟨⟨⟨m0,m1,m2,lst⟩,A,n,c⟩,rfl,⟨hr,hnc,hc⟩,bounds_i64 wf0,bounds_i64 wf1,bounds_i64 wf2⟩
theorem open_steps {H:Type} {enc:TypeId × Value→H} {W:World} {A:Option Addr} {n c:Nat} {d:DataW H} {p:List MemPlace}
  (h:DataW.Trod enc Tryz.prog W 0 (fun _=>true) true 22 (.slice A n c) d p):
  n≤c∧c≤9223372036854775807∧∃xs:List Raw,Rd W 4 A n (rs xs)∧xs.length=n∧∀x∈xs,Good W x:=
 open_rows Tryz.underlying22 4 (by kernel_rfl) (by decide) rc (fun _=>rfl) (Good W) (fun _ _ _ hl ht=>trod_step hl ht) h
theorem good_at {W:World} {A:Option Addr} {n:Nat} {xs:List Raw} (hr:Rd W 4 A n (rs xs)) (hg:∀x∈xs,Good W x):At W A n xs:=⟨hr,fun r h=>(hg r h).1⟩
end Go.Proofs.YtgghaodcfgbjlaaGreat.Code
namespace Go.Proofs.YtgghaodcfgbjlaaGreat.Code
open Mem
theorem behind_well (f:Nat):∀a b:List Step,a.length≤f→a.all oneB=true→(wellP a).2=true→(wellP b).2=true→wellP (a++b)=(max (wellP a).1 (wellP b).1,true):=by
 induction f with
 | zero=>
  intro a b h _ _ hb
  obtain rfl:a= []:=List.eq_nil_of_length_eq_zero (by omega)
  rw[List.nil_append,well_nil,←hb]
  simp only
  rw[Nat.zero_max]
 | succ f ih=>
  intro a b h ho ha hb
  cases a with
  | nil=>
   rw[List.nil_append,well_nil,←hb]
   simp only
   rw[Nat.zero_max]
  | cons s c=>
   rw[List.all_cons,Bool.and_eq_true]at ho
   simp only[List.length_cons]at h
   rw[List.cons_append]
   by_cases h4:s.d=4∧(c.length:Int)<s.a
   ·rw[well_skip s c h4.1 h4.2]at ha;cases ha
   by_cases h7:s.d=7
   ·by_cases hout:(c.length:Int)<s.a+s.b
    ·rw[well_out s c h7 hout]at ha;cases ha
    ·obtain ⟨g1,_,g3,_⟩:=one_either s ho.1 h7
     obtain ⟨U,V,R,rfl,hsa,hsb⟩:=either_parts c s.a s.b (by omega) (by omega) (by omega)
     rw[List.all_append,List.all_append,Bool.and_eq_true,Bool.and_eq_true]at ho
     simp only[List.length_append]at h
     rw[well_either s U V R h7 hsa hsb]at ha ⊢
     simp only[Bool.and_eq_true]at ha
     have e:=ih R b (by omega) ho.2.2.2 ha.2 hb
     have e2:U++(V++R)++b=U++(V++(R++b)):=by simp
     rw[e2,well_either s U V (R++b) h7 hsa hsb,e,ha.1.1,ha.1.2]
     simp only[Bool.and_self]
     congr 1
     omega
   ·rw [well_plain s c h7 h4]at ha ⊢
    rw [well_plain s (c++b) h7 (by
     rintro ⟨h8,h9⟩
     apply h4
     refine ⟨h8,?_⟩
     rw[List.length_append]at h9
     omega)]
    exact ih c b (by omega) ho.2 ha hb
def nest:Nat→List (Int × Int × Int)
 | 0=>[(5,0,0)]
 | i+1=>(7,((2 * i+1:Nat):Int),1)::(nest i++ [(5,0,0)])
end Go.Proofs.YtgghaodcfgbjlaaGreat.Code
