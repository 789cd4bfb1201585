import Derived.Test.YtfgogedgolgnaaaHk03
namespace Go.Proofs.Ytfgogedgolgnaaa
open Go.RowKit
set_option linter.unusedVariables false
set_option maxHeartbeats 6400000
set_option maxRecDepth 20000
theorem fY (va level:Int) (h0:0<=level) (h2:level<=2):0<=eR va level∧eR va level<ch level:=by
 unfold eR ch;rcases (show level=0∨level=1∨level=2 by omega) with rfl | rfl | rfl <;> simp <;> omega
theorem dj {pte level:Int} (h:aw pte level≠0):0<=level∧level<=2:=by
 unfold aw at h;split at h
 ·exact absurd rfl h
 ·omega
theorem ei (level va satp pte:Int) (p:Bool) (hk:aw pte level=bJ p):ah (dS level va satp pte) p=true:=by
 have hl:0<=level∧level<=2:=dj (by rw [hk];cases p <;> decide);have ht:=fY va level hl.1 hl.2;have ha:bk satp<=65535:=by unfold bk;omega
 simp [ah,dS,hl.1,hl.2,ht.2,ha,hk]
theorem fa (level va satp pte:Int) (p:Bool) (hk:aw pte level=bJ p):0<=(dS level va satp pte).tag:=by
 have hl:0<=level∧level<=2:=dj (by rw [hk];cases p <;> decide);exact (fY va level hl.1 hl.2).1
theorem dK (va satp pick:Int):∀(rs:List ce) (p:TlbM),ap p true=true->ap (ej va satp pick rs p) true=true
 | [],p,h=>h
 | r::rs,p,h=>by
  rw [ej];refine dK va satp pick rs _ ?_;split
  ·rename_i hk;exact cd p _ pick true h (ei _ _ _ _ true hk) (fa _ _ _ _ true hk)
  ·exact h
theorem cH (zs:List Int) (va:Int):∀(l:Nat) (n:Int),(aR zs va l n).1=1->aw (aR zs va l n).2.2.1 (aR zs va l n).2.1=2
 | 0,n=>by
  intro h;unfold aR at h |-;split at h
  ·simp at h
  ·rename_i h1;rw [if_neg h1];split at h
   ·simp at h
   ·rename_i h2;rw [if_neg h2];split at h
    ·rename_i h3;rw [if_pos h3];exact h3
    ·simp at h
 | l+1,n=>by
  intro h;unfold aR at h |-;split at h
  ·simp at h
  ·rename_i h1;rw [if_neg h1];split at h
   ·simp at h
   ·rename_i h2;rw [if_neg h2];split at h
    ·rename_i h3;rw [if_pos h3];exact h3
    ·rename_i h3;rw [if_neg h3];exact cH zs va l _ h
theorem fJ (zs:List Int) (root va:Int) (h:(bj zs root va).1=1):aw (bj zs root va).2.2.1 (bj zs root va).2.1=2:=by
 unfold bj at h |-;split at h
 ·simp at h
 ·rename_i hc;rw [if_neg hc];exact cH zs va 2 _ h
theorem gW (kind:Int):dk kind≠0:=by
 unfold dk;split
 ·decide
 ·split <;> decide
theorem fK (kind:Int):cw kind≠0:=by
 unfold cw;split
 ·decide
 ·split <;> decide
theorem fL (zs:List Int) (mode:Int) (sum mxr:Bool) (satp:Int) (k:KM) (kind va pick:Int) (hk:aK k=true) (h1:0<=kind∧kind<=2) (h2:0<=mode∧mode<=2) (h3:0<=pick∧pick<=255):
 aK (bg zs mode sum mxr satp k kind va pick).2=true:=by
 have hk':=hk;simp only [aK,Bool.and_eq_true] at hk';obtain ⟨⟨gi,gd⟩,gp⟩:=hk';unfold bg;rw [if_neg (by rw [hk];simp;omega)];split
 ·exact hk
 ·split
  ·exact hk
  ·split
   ·exact hk
   ·simp only;have gp':=dK va satp pick (aQ zs satp va (aS k.p va (bk satp))).2.2.2 k.p gp;split
    ·rename_i ha;have hkind:aw (aQ zs satp va (aS k.p va (bk satp))).2.2.1 (aQ zs satp va (aS k.p va (bk satp))).2.1=2:=by
      have hcode:(aQ zs satp va (aS k.p va (bk satp))).1=1:=by
       have hc:(aQ zs satp va (aS k.p va (bk satp))).1=1∨(aQ zs satp va (aS k.p va (bk satp))).1=2∨(aQ zs satp va (aS k.p va (bk satp))).1=3:=by
        unfold aQ;split
        ·exact cF zs va _ _
        ·exact fF zs satp va
       unfold cf at ha;rcases hc with hc | hc | hc
       ·exact hc
       ·rw [if_pos hc] at ha;exact absurd ha (gW kind)
       ·rw [if_neg (by rw [hc];decide),if_pos hc] at ha;exact absurd ha (fK kind)
      unfold aQ at hcode |-;split at hcode
      ·rename_i hu;rw [if_pos hu];exact cH zs va _ _ hcode
      ·rename_i hu;rw [if_neg hu];exact fJ zs satp va hcode
     have hge:=ei _ va satp _ false hkind;have hgt:=fa _ va satp _ false hkind;unfold iM cS;split
     ·simp only [aK,Bool.and_eq_true];exact ⟨⟨cd _ _ pick false gi hge hgt,gd⟩,gp'⟩
     ·simp only [aK,Bool.and_eq_true];exact ⟨⟨gi,cd _ _ pick false gd hge hgt⟩,gp'⟩
    ·simp only [aK,Bool.and_eq_true];exact ⟨⟨gi,gd⟩,gp'⟩
section
attribute [local go_sem ↓] Go.wp_at_zero Go.wp_at_succ
theorem aH {e:TypeId} {size:Nat} {w w':World} {base n g cap r:Nat} {cs:List Value} (h:w.ownsRow base e size (.slice (some ⟨g,0,none⟩) n cap) n cs) (hg:w.grownBy w' (some r)) (hr:g≠r):w'.ownsRow base e size (.slice (some ⟨g,0,none⟩) n cap) n cs:=by
 refine h.kept hg (.inr ?_);simp [Value.ownBlock];omega
end
def bV (s t:Value):Prop:=∀g,s.ownBlock=some g->t.ownBlock≠some g
def iG (base:Nat) (w:World) (v:Value) (k:KM):Prop:=
 ∃g1 c1 g2 c2 g3 c3,v=.agg #[.int .i64 k.i.sets,.int .i64 k.i.ways,.slice (some ⟨g1,0,none⟩) k.i.es.length c1,.int .i64 k.d.sets,.int .i64 k.d.ways,.slice (some ⟨g2,0,none⟩) k.d.es.length c2,.int .i64 k.p.sets,.int .i64 k.p.ways,.slice (some ⟨g3,0,none⟩) k.p.es.length c3]∧
  w.ownsRow base 42 6 (.slice (some ⟨g1,0,none⟩) k.i.es.length c1) k.i.es.length (ak k.i.es)∧w.ownsRow base 42 6 (.slice (some ⟨g2,0,none⟩) k.d.es.length c2) k.d.es.length (ak k.d.es)∧w.ownsRow base 42 6 (.slice (some ⟨g3,0,none⟩) k.p.es.length c3) k.p.es.length (ak k.p.es)∧
  g1≠g2∧g1≠g3∧g2≠g3
theorem TlbAt.row {w:World} {a:Option Addr} {c:Nat} {t:TlbM} (h:TlbAt w (.agg #[.int .i64 t.sets,.int .i64 t.ways,.slice a t.es.length c]) t):RowC w a t.es.length 6 (ak t.es)∧t.es.length<=1048576:=by
 obtain ⟨a',c',he,hr,_,_,_,hl,_⟩:=h;simp at he;obtain ⟨rfl,rfl⟩:=he;exact ⟨hr,hl⟩
theorem gc {v:World} {p:Nat} {T:TypeId} {a b c d e f g h i x y z:Value} (hh:v.heap[p]?=some (.cells #[a,b,c,d,e,f,g,h,i] T (0,0))):(((v.setCell ⟨p,0,none⟩ x).setCell ⟨p,1,none⟩ y).setCell ⟨p,2,none⟩ z).heap[p]?=some (.cells #[x,y,z,d,e,f,g,h,i] T (0,0)):=by
 simp [World.setCell,Array.getElem?_modify,hh]
theorem ge {v:World} {p:Nat} {T:TypeId} {a b c d e f g h i x y z:Value} (hh:v.heap[p]?=some (.cells #[a,b,c,d,e,f,g,h,i] T (0,0))):(((v.setCell ⟨p,3,none⟩ x).setCell ⟨p,4,none⟩ y).setCell ⟨p,5,none⟩ z).heap[p]?=some (.cells #[a,b,c,x,y,z,g,h,i] T (0,0)):=by
 simp [World.setCell,Array.getElem?_modify,hh]
theorem eu (k:KM) (a1 a2 a3:Option Addr) (c1 c2 c3:Nat) (w:World) (r1:RowC w a1 k.i.es.length 6 (ak k.i.es)) (r2:RowC w a2 k.d.es.length 6 (ak k.d.es)) (r3:RowC w a3 k.p.es.length 6 (ak k.p.es)) (l1:k.i.es.length<=1048576) (l2:k.d.es.length<=1048576) (l3:k.p.es.length<=1048576):
 Calls Try.prog 57 #[.agg #[.int .i64 k.i.sets,.int .i64 k.i.ways,.slice a1 k.i.es.length c1,.int .i64 k.d.sets,.int .i64 k.d.ways,.slice a2 k.d.es.length c2,.int .i64 k.p.sets,.int .i64 k.p.ways,.slice a3 k.p.es.length c3]] w fun e w'=>(∃x,e=.returned x∧iG w.heap.size w' x k)∧Below w.heap.size w w':=by
 have HT1:Hid (∀u,Below w.heap.size w u->Calls Try.prog 10 #[.agg #[.int .i64 k.i.sets,.int .i64 k.i.ways,.slice a1 k.i.es.length c1]] u fun e w'=>(∃x,e=.returned x∧TlbOwn u.heap.size w' x k.i)∧Below u.heap.size u w'):=fun u hu=>cY k.i.sets k.i.ways a1 k.i.es.length c1 k.i.es u (r1.keep hu) rfl l1;have HT2:Hid (∀u,Below w.heap.size w u->Calls Try.prog 10 #[.agg #[.int .i64 k.d.sets,.int .i64 k.d.ways,.slice a2 k.d.es.length c2]] u fun e w'=>(∃x,e=.returned x∧TlbOwn u.heap.size w' x k.d)∧Below u.heap.size u w'):=fun u hu=>cY k.d.sets k.d.ways a2 k.d.es.length c2 k.d.es u (r2.keep hu) rfl l2;have HT3:Hid (∀u,Below w.heap.size w u->Calls Try.prog 10 #[.agg #[.int .i64 k.p.sets,.int .i64 k.p.ways,.slice a3 k.p.es.length c3]] u fun e w'=>(∃x,e=.returned x∧TlbOwn u.heap.size w' x k.p)∧Below u.heap.size u w'):=fun u hu=>cY k.p.sets k.p.ways a3 k.p.es.length c3 k.p.es u (r3.keep hu) rfl l3;clear r1 r2 r3;have n1:=(((Below.refl w.heap.size w).alloc (Nat.le_refl _) (Obj.cells #[.int .i64 k.i.sets,.int .i64 k.i.ways,.slice a1 k.i.es.length c1,.int .i64 k.d.sets,.int .i64 k.d.ways,.slice a2 k.d.es.length c2,.int .i64 k.p.sets,.int .i64 k.p.ways,.slice a3 k.p.es.length c3] 55)).alloc (by simp) (Obj.cells #[.int .i64 0,.int .i64 0,.slice none 0 0,.int .i64 0,.int .i64 0,.slice none 0 0,.int .i64 0,.int .i64 0,.slice none 0 0] 61)).alloc (by simp;omega) (Obj.cells #[.int .i64 0,.int .i64 0,.slice none 0 0,.int .i64 0,.int .i64 0,.slice none 0 0,.int .i64 0,.int .i64 0,.slice none 0 0] 61);have H1:Hid ((((w.alloc (Obj.cells #[.int .i64 k.i.sets,.int .i64 k.i.ways,.slice a1 k.i.es.length c1,.int .i64 k.d.sets,.int .i64 k.d.ways,.slice a2 k.d.es.length c2,.int .i64 k.p.sets,.int .i64 k.p.ways,.slice a3 k.p.es.length c3] 55)).alloc (Obj.cells #[.int .i64 0,.int .i64 0,.slice none 0 0,.int .i64 0,.int .i64 0,.slice none 0 0,.int .i64 0,.int .i64 0,.slice none 0 0] 61)).alloc (Obj.cells #[.int .i64 0,.int .i64 0,.slice none 0 0,.int .i64 0,.int .i64 0,.slice none 0 0,.int .i64 0,.int .i64 0,.slice none 0 0] 61)).heap[w.heap.size]?=some (.cells #[.int .i64 k.i.sets,.int .i64 k.i.ways,.slice a1 k.i.es.length c1,.int .i64 k.d.sets,.int .i64 k.d.ways,.slice a2 k.d.es.length c2,.int .i64 k.p.sets,.int .i64 k.p.ways,.slice a3 k.p.es.length c3] 55 (0,0))):=by
  show _=_;rw [heap_alloc_old _ _ (by simp;omega),heap_alloc_old _ _ (by simp)];exact heap_alloc_new w _
 have H2:Hid ((((w.alloc (Obj.cells #[.int .i64 k.i.sets,.int .i64 k.i.ways,.slice a1 k.i.es.length c1,.int .i64 k.d.sets,.int .i64 k.d.ways,.slice a2 k.d.es.length c2,.int .i64 k.p.sets,.int .i64 k.p.ways,.slice a3 k.p.es.length c3] 55)).alloc (Obj.cells #[.int .i64 0,.int .i64 0,.slice none 0 0,.int .i64 0,.int .i64 0,.slice none 0 0,.int .i64 0,.int .i64 0,.slice none 0 0] 61)).alloc (Obj.cells #[.int .i64 0,.int .i64 0,.slice none 0 0,.int .i64 0,.int .i64 0,.slice none 0 0,.int .i64 0,.int .i64 0,.slice none 0 0] 61)).heap[w.heap.size+1]?=some (.cells #[.int .i64 0,.int .i64 0,.slice none 0 0,.int .i64 0,.int .i64 0,.slice none 0 0,.int .i64 0,.int .i64 0,.slice none 0 0] 61 (0,0))):=by
  show _=_;rw [heap_alloc_old _ _ (by simp)];have:=heap_alloc_new (w.alloc (Obj.cells #[.int .i64 k.i.sets,.int .i64 k.i.ways,.slice a1 k.i.es.length c1,.int .i64 k.d.sets,.int .i64 k.d.ways,.slice a2 k.d.es.length c2,.int .i64 k.p.sets,.int .i64 k.p.ways,.slice a3 k.p.es.length c3] 55)) (Obj.cells #[.int .i64 0,.int .i64 0,.slice none 0 0,.int .i64 0,.int .i64 0,.slice none 0 0,.int .i64 0,.int .i64 0,.slice none 0 0] 61);simp only [World.size_alloc] at this;exact this
 have H3:Hid ((((w.alloc (Obj.cells #[.int .i64 k.i.sets,.int .i64 k.i.ways,.slice a1 k.i.es.length c1,.int .i64 k.d.sets,.int .i64 k.d.ways,.slice a2 k.d.es.length c2,.int .i64 k.p.sets,.int .i64 k.p.ways,.slice a3 k.p.es.length c3] 55)).alloc (Obj.cells #[.int .i64 0,.int .i64 0,.slice none 0 0,.int .i64 0,.int .i64 0,.slice none 0 0,.int .i64 0,.int .i64 0,.slice none 0 0] 61)).alloc (Obj.cells #[.int .i64 0,.int .i64 0,.slice none 0 0,.int .i64 0,.int .i64 0,.slice none 0 0,.int .i64 0,.int .i64 0,.slice none 0 0] 61)).heap[w.heap.size+1+1]?=some (.cells #[.int .i64 0,.int .i64 0,.slice none 0 0,.int .i64 0,.int .i64 0,.slice none 0 0,.int .i64 0,.int .i64 0,.slice none 0 0] 61 (0,0))):=by
  have:=heap_alloc_new ((w.alloc (Obj.cells #[.int .i64 k.i.sets,.int .i64 k.i.ways,.slice a1 k.i.es.length c1,.int .i64 k.d.sets,.int .i64 k.d.ways,.slice a2 k.d.es.length c2,.int .i64 k.p.sets,.int .i64 k.p.ways,.slice a3 k.p.es.length c3] 55)).alloc (Obj.cells #[.int .i64 0,.int .i64 0,.slice none 0 0,.int .i64 0,.int .i64 0,.slice none 0 0,.int .i64 0,.int .i64 0,.slice none 0 0] 61)) (Obj.cells #[.int .i64 0,.int .i64 0,.slice none 0 0,.int .i64 0,.int .i64 0,.slice none 0 0,.int .i64 0,.int .i64 0,.slice none 0 0] 61);simp only [World.size_alloc] at this;exact this
 have l1:w.heap.size+1+1<(((w.alloc (Obj.cells #[.int .i64 k.i.sets,.int .i64 k.i.ways,.slice a1 k.i.es.length c1,.int .i64 k.d.sets,.int .i64 k.d.ways,.slice a2 k.d.es.length c2,.int .i64 k.p.sets,.int .i64 k.p.ways,.slice a3 k.p.es.length c3] 55)).alloc (Obj.cells #[.int .i64 0,.int .i64 0,.slice none 0 0,.int .i64 0,.int .i64 0,.slice none 0 0,.int .i64 0,.int .i64 0,.slice none 0 0] 61)).alloc (Obj.cells #[.int .i64 0,.int .i64 0,.slice none 0 0,.int .i64 0,.int .i64 0,.slice none 0 0,.int .i64 0,.int .i64 0,.slice none 0 0] 61)).heap.size:=by simp
 go_enter Try.func57,Try.ntmps57;go_wp2_with fail;generalize ((w.alloc (Obj.cells #[.int .i64 k.i.sets,.int .i64 k.i.ways,.slice a1 k.i.es.length c1,.int .i64 k.d.sets,.int .i64 k.d.ways,.slice a2 k.d.es.length c2,.int .i64 k.p.sets,.int .i64 k.p.ways,.slice a3 k.p.es.length c3] 55)).alloc (Obj.cells #[.int .i64 0,.int .i64 0,.slice none 0 0,.int .i64 0,.int .i64 0,.slice none 0 0,.int .i64 0,.int .i64 0,.slice none 0 0] 61)).alloc (Obj.cells #[.int .i64 0,.int .i64 0,.slice none 0 0,.int .i64 0,.int .i64 0,.slice none 0 0,.int .i64 0,.int .i64 0,.slice none 0 0] 61)=u1 at n1 H1 H2 H3 l1 |-;refine (HT1.out u1 n1).mono ?_;rintro e v1 ⟨⟨x,rfl,g1,e1,rfl,o1⟩,m1⟩;have lg1:=(bs o1).2;simp only at lg1;have lm1:=m1.size;have P1:=aa H1 m1;have P2:=aa H2 m1;have P3:=aa H3 m1;obtain ⟨b0,b1,b2,b3,b4,b5,b6,b7,b8⟩:=az P1.out;obtain ⟨q0,q1,q2,q3,q4,q5,q6,q7,q8⟩:=az P3.out;have ff:=bX P3.out;have f0:=ff 0;have f1:=ff 1;have f2:=ff 2;clear ff;have ls:w.heap.size<v1.heap.size:=by omega
 have lp:w.heap.size+1+1<v1.heap.size:=by omega
 have O1:Hid (v1.ownsRow u1.heap.size 42 6 (.slice (some ⟨g1,0,none⟩) k.i.es.length e1) k.i.es.length (ak k.i.es)):=o1;clear o1;have ne1:w.heap.size≠w.heap.size+1+1:=by omega
 go_wp2_with fail;have gS:=au (au (au (aO v1 (some (w.heap.size+1+1))) 0 (.int .i64 k.i.sets)) 1 (.int .i64 k.i.ways)) 2 (.slice (some ⟨g1,0,none⟩) k.i.es.length e1);have n2:=(Below.step n1 m1 (Nat.le_refl _)).grown gS (by omega) (fun q hq=>by cases hq;omega);clear H1 H2 H3;have H1:Hid ((((v1.setCell ⟨w.heap.size+1+1,0,none⟩ (.int .i64 k.i.sets)).setCell ⟨w.heap.size+1+1,1,none⟩ (.int .i64 k.i.ways)).setCell ⟨w.heap.size+1+1,2,none⟩ (.slice (some ⟨g1,0,none⟩) k.i.es.length e1)).heap[w.heap.size]?=_):=bB P1.out gS (by omega);have H2:Hid ((((v1.setCell ⟨w.heap.size+1+1,0,none⟩ (.int .i64 k.i.sets)).setCell ⟨w.heap.size+1+1,1,none⟩ (.int .i64 k.i.ways)).setCell ⟨w.heap.size+1+1,2,none⟩ (.slice (some ⟨g1,0,none⟩) k.i.es.length e1)).heap[w.heap.size+1]?=_):=bB P2.out gS (by omega);have H3:Hid ((((v1.setCell ⟨w.heap.size+1+1,0,none⟩ (.int .i64 k.i.sets)).setCell ⟨w.heap.size+1+1,1,none⟩ (.int .i64 k.i.ways)).setCell ⟨w.heap.size+1+1,2,none⟩ (.slice (some ⟨g1,0,none⟩) k.i.es.length e1)).heap[w.heap.size+1+1]?=_):=gc P3.out;replace O1:Hid ((((v1.setCell ⟨w.heap.size+1+1,0,none⟩ (.int .i64 k.i.sets)).setCell ⟨w.heap.size+1+1,1,none⟩ (.int .i64 k.i.ways)).setCell ⟨w.heap.size+1+1,2,none⟩ (.slice (some ⟨g1,0,none⟩) k.i.es.length e1)).ownsRow u1.heap.size 42 6 (.slice (some ⟨g1,0,none⟩) k.i.es.length e1) k.i.es.length (ak k.i.es)):=aH O1.out gS (by omega);have lt1:=gS.size;generalize (((v1.setCell ⟨w.heap.size+1+1,0,none⟩ (.int .i64 k.i.sets)).setCell ⟨w.heap.size+1+1,1,none⟩ (.int .i64 k.i.ways)).setCell ⟨w.heap.size+1+1,2,none⟩ (.slice (some ⟨g1,0,none⟩) k.i.es.length e1))=u2 at n2 H1 H2 H3 lt1 O1 |-;clear P1 P2 P3 b0 b1 b2 b3 b4 b5 b6 b7 b8 q0 q1 q2 q3 q4 q5 q6 q7 q8 f0 f1 f2 gS ls lp ne1;refine (HT2.out u2 n2).mono ?_;rintro e v2 ⟨⟨x,rfl,g2,e2,rfl,o2⟩,m2⟩;have lg2:=(bs o2).2;simp only at lg2;have lm2:=m2.size;have P1:=aa H1 m2;have P2:=aa H2 m2;have P3:=aa H3 m2;obtain ⟨b0,b1,b2,b3,b4,b5,b6,b7,b8⟩:=az P1.out;obtain ⟨q0,q1,q2,q3,q4,q5,q6,q7,q8⟩:=az P3.out;have ff:=bX P3.out;have f0:=ff 3;have f1:=ff 4;have f2:=ff 5;clear ff;have ls:w.heap.size<v2.heap.size:=by omega
 have lp:w.heap.size+1+1<v2.heap.size:=by omega
 have O2:Hid (v2.ownsRow u2.heap.size 42 6 (.slice (some ⟨g2,0,none⟩) k.d.es.length e2) k.d.es.length (ak k.d.es)):=o2;replace O1:Hid (v2.ownsRow u1.heap.size 42 6 (.slice (some ⟨g1,0,none⟩) k.i.es.length e1) k.i.es.length (ak k.i.es)):=aq O1.out m2;clear o2;have ne1:w.heap.size≠w.heap.size+1+1:=by omega
 go_wp2_with fail;have gS:=au (au (au (aO v2 (some (w.heap.size+1+1))) 3 (.int .i64 k.d.sets)) 4 (.int .i64 k.d.ways)) 5 (.slice (some ⟨g2,0,none⟩) k.d.es.length e2);have n3:=(Below.step n2 m2 (Nat.le_refl _)).grown gS (by omega) (fun q hq=>by cases hq;omega);clear H1 H2 H3;have H1:Hid ((((v2.setCell ⟨w.heap.size+1+1,3,none⟩ (.int .i64 k.d.sets)).setCell ⟨w.heap.size+1+1,4,none⟩ (.int .i64 k.d.ways)).setCell ⟨w.heap.size+1+1,5,none⟩ (.slice (some ⟨g2,0,none⟩) k.d.es.length e2)).heap[w.heap.size]?=_):=bB P1.out gS (by omega);have H2:Hid ((((v2.setCell ⟨w.heap.size+1+1,3,none⟩ (.int .i64 k.d.sets)).setCell ⟨w.heap.size+1+1,4,none⟩ (.int .i64 k.d.ways)).setCell ⟨w.heap.size+1+1,5,none⟩ (.slice (some ⟨g2,0,none⟩) k.d.es.length e2)).heap[w.heap.size+1]?=_):=bB P2.out gS (by omega);have H3:Hid ((((v2.setCell ⟨w.heap.size+1+1,3,none⟩ (.int .i64 k.d.sets)).setCell ⟨w.heap.size+1+1,4,none⟩ (.int .i64 k.d.ways)).setCell ⟨w.heap.size+1+1,5,none⟩ (.slice (some ⟨g2,0,none⟩) k.d.es.length e2)).heap[w.heap.size+1+1]?=_):=ge P3.out;replace O1:Hid ((((v2.setCell ⟨w.heap.size+1+1,3,none⟩ (.int .i64 k.d.sets)).setCell ⟨w.heap.size+1+1,4,none⟩ (.int .i64 k.d.ways)).setCell ⟨w.heap.size+1+1,5,none⟩ (.slice (some ⟨g2,0,none⟩) k.d.es.length e2)).ownsRow u1.heap.size 42 6 (.slice (some ⟨g1,0,none⟩) k.i.es.length e1) k.i.es.length (ak k.i.es)):=aH O1.out gS (by omega);replace O2:Hid ((((v2.setCell ⟨w.heap.size+1+1,3,none⟩ (.int .i64 k.d.sets)).setCell ⟨w.heap.size+1+1,4,none⟩ (.int .i64 k.d.ways)).setCell ⟨w.heap.size+1+1,5,none⟩ (.slice (some ⟨g2,0,none⟩) k.d.es.length e2)).ownsRow u2.heap.size 42 6 (.slice (some ⟨g2,0,none⟩) k.d.es.length e2) k.d.es.length (ak k.d.es)):=aH O2.out gS (by omega);have lt2:=gS.size;generalize (((v2.setCell ⟨w.heap.size+1+1,3,none⟩ (.int .i64 k.d.sets)).setCell ⟨w.heap.size+1+1,4,none⟩ (.int .i64 k.d.ways)).setCell ⟨w.heap.size+1+1,5,none⟩ (.slice (some ⟨g2,0,none⟩) k.d.es.length e2))=u3 at n3 H1 H2 H3 lt2 O1 O2 |-;clear P1 P2 P3 b0 b1 b2 b3 b4 b5 b6 b7 b8 q0 q1 q2 q3 q4 q5 q6 q7 q8 f0 f1 f2 gS ls lp ne1;refine (HT3.out u3 n3).mono ?_;rintro e v3 ⟨⟨x,rfl,g3,e3,rfl,o3⟩,m3⟩;have lg3:=(bs o3).2;simp only at lg3;have lm3:=m3.size;have P1:=aa H1 m3;have P2:=aa H2 m3;have P3:=aa H3 m3;obtain ⟨b0,b1,b2,b3,b4,b5,b6,b7,b8⟩:=az P1.out;obtain ⟨q0,q1,q2,q3,q4,q5,q6,q7,q8⟩:=az P3.out;have ff:=bX P3.out;have f0:=ff 6;have f1:=ff 7;have f2:=ff 8;clear ff;have ls:w.heap.size<v3.heap.size:=by omega
 have lp:w.heap.size+1+1<v3.heap.size:=by omega
 have O3:Hid (v3.ownsRow u3.heap.size 42 6 (.slice (some ⟨g3,0,none⟩) k.p.es.length e3) k.p.es.length (ak k.p.es)):=o3;replace O1:Hid (v3.ownsRow u1.heap.size 42 6 (.slice (some ⟨g1,0,none⟩) k.i.es.length e1) k.i.es.length (ak k.i.es)):=aq O1.out m3;replace O2:Hid (v3.ownsRow u2.heap.size 42 6 (.slice (some ⟨g2,0,none⟩) k.d.es.length e2) k.d.es.length (ak k.d.es)):=aq O2.out m3;clear o3;obtain ⟨j0,j1,j2,j3,j4,j5,j6,j7,j8⟩:=az P2.out;have gg:=bX P2.out;have d0:=gg 0;have d1:=gg 1;have d2:=gg 2;have d3:=gg 3;have d4:=gg 4;have d5:=gg 5;have d6:=gg 6;have d7:=gg 7;have d8:=gg 8;clear gg;have ne1:w.heap.size+1≠w.heap.size+1+1:=by omega
 have ne2:w.heap.size+1+1≠w.heap.size+1:=by omega
 have lr:w.heap.size+1<v3.heap.size:=by omega
 go_wp2_with fail;have gS:=au (au (au (aO v3 (some (w.heap.size+1+1))) 6 (.int .i64 k.p.sets)) 7 (.int .i64 k.p.ways)) 8 (.slice (some ⟨g3,0,none⟩) k.p.es.length e3);have n4:=(Below.step n3 m3 (Nat.le_refl _)).grown gS (by omega) (fun q hq=>by cases hq;omega);have gR:=fun w=>gb9 w (w.heap.size+1);have gR:=gb9 (((v3.setCell ⟨w.heap.size+1+1,6,none⟩ (.int .i64 k.p.sets)).setCell ⟨w.heap.size+1+1,7,none⟩ (.int .i64 k.p.ways)).setCell ⟨w.heap.size+1+1,8,none⟩ (.slice (some ⟨g3,0,none⟩) k.p.es.length e3)) (w.heap.size+1);have hh:=bB P2.out gS (by omega);generalize (((v3.setCell ⟨w.heap.size+1+1,6,none⟩ (.int .i64 k.p.sets)).setCell ⟨w.heap.size+1+1,7,none⟩ (.int .i64 k.p.ways)).setCell ⟨w.heap.size+1+1,8,none⟩ (.slice (some ⟨g3,0,none⟩) k.p.es.length e3))=v4 at gS n4 gR hh |-;clear j0 j1 j2 j3 j4 j5 j6 j7 j8;obtain ⟨j0,j1,j2,j3,j4,j5,j6,j7,j8⟩:=az hh;refine bodyPost_ret (v:=.agg #[.int .i64 k.i.sets,.int .i64 k.i.ways,.slice (some ⟨g1,0,none⟩) k.i.es.length e1,.int .i64 k.d.sets,.int .i64 k.d.ways,.slice (some ⟨g2,0,none⟩) k.d.es.length e2,.int .i64 k.p.sets,.int .i64 k.p.ways,.slice (some ⟨g3,0,none⟩) k.p.es.length e3]) (by simp [results,Try.results57,go_sem,j0,j1,j2,j3,j4,j5,j6,j7,j8]) rfl ⟨⟨_,rfl,g1,e1,g2,e2,g3,e3,rfl,?_,?_,?_,by omega,by omega,by omega⟩,iJ n4 (by omega) _ _ _ _ _ _ _ _ _⟩
 ·exact bH (aH (aH O1.out gS (by omega)) (gR _ _ _ _ _ _ _ _ _) (by omega)) (by omega)
 ·exact bH (aH (aH O2.out gS (by omega)) (gR _ _ _ _ _ _ _ _ _) (by omega)) (by omega)
 ·exact bH (aH (aH O3.out gS (by omega)) (gR _ _ _ _ _ _ _ _ _) (by omega)) (by omega)
def RowS (w:World) (s:Value) (n:Nat) (cs:List Value):Prop:=∃a cap,s=.slice a n cap∧RowC w a n 6 cs
theorem RowS.keep {w w':World} {s:Value} {n:Nat} {cs:List Value} (h:RowS w s n cs) (hb:Below w.heap.size w w'):RowS w' s n cs:=by
 obtain ⟨a,c,h1,h2⟩:=h;exact ⟨a,c,h1,h2.keep hb⟩
theorem db (sets ways:Int) (s t:Value) (es:List EntM) (w:World) (h:RowS w s es.length (ak es)) (h':RowS w t es.length (ak es)) (hl:es.length<=1048576):
 Calls Try.prog 12 #[.agg #[.int .i64 sets,.int .i64 ways,s],.agg #[.int .i64 sets,.int .i64 ways,t]] w fun e w'=>e=.returned (.bool true)∧Below w.heap.size w w':=by
 obtain ⟨a,ca,rfl,h1⟩:=h;obtain ⟨b,cb,rfl,h2⟩:=h';exact fB sets ways a b es.length ca cb es w h1 h2 rfl hl
theorem ev (k:KM) (s1 s2 s3 t1 t2 t3:Value) (w:World) (hs1:RowS w s1 k.i.es.length (ak k.i.es)) (hs2:RowS w s2 k.d.es.length (ak k.d.es)) (hs3:RowS w s3 k.p.es.length (ak k.p.es)) (ht1:RowS w t1 k.i.es.length (ak k.i.es)) (ht2:RowS w t2 k.d.es.length (ak k.d.es)) (ht3:RowS w t3 k.p.es.length (ak k.p.es)) (l1:k.i.es.length<=1048576) (l2:k.d.es.length<=1048576) (l3:k.p.es.length<=1048576):
 Calls Try.prog 62 #[.agg #[.int .i64 k.i.sets,.int .i64 k.i.ways,s1,.int .i64 k.d.sets,.int .i64 k.d.ways,s2,.int .i64 k.p.sets,.int .i64 k.p.ways,s3],.agg #[.int .i64 k.i.sets,.int .i64 k.i.ways,t1,.int .i64 k.d.sets,.int .i64 k.d.ways,t2,.int .i64 k.p.sets,.int .i64 k.p.ways,t3]] w fun e w'=>e=.returned (.bool true)∧Below w.heap.size w w':=by
 have os:∀s n cs,RowS w s n cs->s.oneCell'=true:=by
  rintro s n cs ⟨a,c,rfl,_⟩;rfl
 have E1:Hid (∀u,Below w.heap.size w u->Calls Try.prog 12 #[.agg #[.int .i64 k.i.sets,.int .i64 k.i.ways,s1],.agg #[.int .i64 k.i.sets,.int .i64 k.i.ways,t1]] u fun e w'=>e=.returned (.bool true)∧Below u.heap.size u w'):=fun u hu=>db k.i.sets k.i.ways s1 t1 k.i.es u (hs1.keep hu) (ht1.keep hu) l1;have E2:Hid (∀u,Below w.heap.size w u->Calls Try.prog 12 #[.agg #[.int .i64 k.d.sets,.int .i64 k.d.ways,s2],.agg #[.int .i64 k.d.sets,.int .i64 k.d.ways,t2]] u fun e w'=>e=.returned (.bool true)∧Below u.heap.size u w'):=fun u hu=>db k.d.sets k.d.ways s2 t2 k.d.es u (hs2.keep hu) (ht2.keep hu) l2;have E3:Hid (∀u,Below w.heap.size w u->Calls Try.prog 12 #[.agg #[.int .i64 k.p.sets,.int .i64 k.p.ways,s3],.agg #[.int .i64 k.p.sets,.int .i64 k.p.ways,t3]] u fun e w'=>e=.returned (.bool true)∧Below u.heap.size u w'):=fun u hu=>db k.p.sets k.p.ways s3 t3 k.p.es u (hs3.keep hu) (ht3.keep hu) l3;obtain ⟨sa1,sc1,rfl,_⟩:=hs1;obtain ⟨ta1,tc1,rfl,_⟩:=ht1;obtain ⟨sa2,sc2,rfl,_⟩:=hs2;obtain ⟨ta2,tc2,rfl,_⟩:=ht2;obtain ⟨sa3,sc3,rfl,_⟩:=hs3;obtain ⟨ta3,tc3,rfl,_⟩:=ht3;clear os;have n1:=((Below.refl w.heap.size w).alloc (Nat.le_refl _) (Obj.cells #[.int .i64 k.i.sets,.int .i64 k.i.ways,.slice sa1 k.i.es.length sc1,.int .i64 k.d.sets,.int .i64 k.d.ways,.slice sa2 k.d.es.length sc2,.int .i64 k.p.sets,.int .i64 k.p.ways,.slice sa3 k.p.es.length sc3] 61)).alloc (by simp) (Obj.cells #[.int .i64 k.i.sets,.int .i64 k.i.ways,.slice ta1 k.i.es.length tc1,.int .i64 k.d.sets,.int .i64 k.d.ways,.slice ta2 k.d.es.length tc2,.int .i64 k.p.sets,.int .i64 k.p.ways,.slice ta3 k.p.es.length tc3] 61);have H1:Hid (((w.alloc (Obj.cells #[.int .i64 k.i.sets,.int .i64 k.i.ways,.slice sa1 k.i.es.length sc1,.int .i64 k.d.sets,.int .i64 k.d.ways,.slice sa2 k.d.es.length sc2,.int .i64 k.p.sets,.int .i64 k.p.ways,.slice sa3 k.p.es.length sc3] 61)).alloc (Obj.cells #[.int .i64 k.i.sets,.int .i64 k.i.ways,.slice ta1 k.i.es.length tc1,.int .i64 k.d.sets,.int .i64 k.d.ways,.slice ta2 k.d.es.length tc2,.int .i64 k.p.sets,.int .i64 k.p.ways,.slice ta3 k.p.es.length tc3] 61)).heap[w.heap.size]?=some (.cells #[.int .i64 k.i.sets,.int .i64 k.i.ways,.slice sa1 k.i.es.length sc1,.int .i64 k.d.sets,.int .i64 k.d.ways,.slice sa2 k.d.es.length sc2,.int .i64 k.p.sets,.int .i64 k.p.ways,.slice sa3 k.p.es.length sc3] 61 (0,0))):=by
  show _=_;rw [heap_alloc_old _ _ (by simp)];exact heap_alloc_new w _
 have H2:Hid (((w.alloc (Obj.cells #[.int .i64 k.i.sets,.int .i64 k.i.ways,.slice sa1 k.i.es.length sc1,.int .i64 k.d.sets,.int .i64 k.d.ways,.slice sa2 k.d.es.length sc2,.int .i64 k.p.sets,.int .i64 k.p.ways,.slice sa3 k.p.es.length sc3] 61)).alloc (Obj.cells #[.int .i64 k.i.sets,.int .i64 k.i.ways,.slice ta1 k.i.es.length tc1,.int .i64 k.d.sets,.int .i64 k.d.ways,.slice ta2 k.d.es.length tc2,.int .i64 k.p.sets,.int .i64 k.p.ways,.slice ta3 k.p.es.length tc3] 61)).heap[w.heap.size+1]?=some (.cells #[.int .i64 k.i.sets,.int .i64 k.i.ways,.slice ta1 k.i.es.length tc1,.int .i64 k.d.sets,.int .i64 k.d.ways,.slice ta2 k.d.es.length tc2,.int .i64 k.p.sets,.int .i64 k.p.ways,.slice ta3 k.p.es.length tc3] 61 (0,0))):=by
  have:=heap_alloc_new (w.alloc (Obj.cells #[.int .i64 k.i.sets,.int .i64 k.i.ways,.slice sa1 k.i.es.length sc1,.int .i64 k.d.sets,.int .i64 k.d.ways,.slice sa2 k.d.es.length sc2,.int .i64 k.p.sets,.int .i64 k.p.ways,.slice sa3 k.p.es.length sc3] 61)) (Obj.cells #[.int .i64 k.i.sets,.int .i64 k.i.ways,.slice ta1 k.i.es.length tc1,.int .i64 k.d.sets,.int .i64 k.d.ways,.slice ta2 k.d.es.length tc2,.int .i64 k.p.sets,.int .i64 k.p.ways,.slice ta3 k.p.es.length tc3] 61);simp only [World.size_alloc] at this;exact this
 go_enter Try.func62,Try.ntmps62;go_wp2_with fail;generalize (w.alloc (Obj.cells #[.int .i64 k.i.sets,.int .i64 k.i.ways,.slice sa1 k.i.es.length sc1,.int .i64 k.d.sets,.int .i64 k.d.ways,.slice sa2 k.d.es.length sc2,.int .i64 k.p.sets,.int .i64 k.p.ways,.slice sa3 k.p.es.length sc3] 61)).alloc (Obj.cells #[.int .i64 k.i.sets,.int .i64 k.i.ways,.slice ta1 k.i.es.length tc1,.int .i64 k.d.sets,.int .i64 k.d.ways,.slice ta2 k.d.es.length tc2,.int .i64 k.p.sets,.int .i64 k.p.ways,.slice ta3 k.p.es.length tc3] 61)=u1 at n1 H1 H2 |-;refine (E1.out u1 n1).mono ?_;rintro e u2 ⟨rfl,m1⟩;have n2:=Below.step n1 m1 (Nat.le_refl _);replace H1:=aa H1 m1;replace H2:=aa H2 m1;obtain ⟨b0,b1,b2,b3,b4,b5,b6,b7,b8⟩:=az H1.out;obtain ⟨q0,q1,q2,q3,q4,q5,q6,q7,q8⟩:=az H2.out;go_wp2_with fail;clear b0 b1 b2 b3 b4 b5 b6 b7 b8 q0 q1 q2 q3 q4 q5 q6 q7 q8;refine (E2.out u2 n2).mono ?_;rintro e u3 ⟨rfl,m2⟩;have n3:=Below.step n2 m2 (Nat.le_refl _);replace H1:=aa H1 m2;replace H2:=aa H2 m2;obtain ⟨b0,b1,b2,b3,b4,b5,b6,b7,b8⟩:=az H1.out;obtain ⟨q0,q1,q2,q3,q4,q5,q6,q7,q8⟩:=az H2.out;go_wp2_with fail;clear b0 b1 b2 b3 b4 b5 b6 b7 b8 q0 q1 q2 q3 q4 q5 q6 q7 q8;refine (E3.out u3 n3).mono ?_;rintro e u4 ⟨rfl,m3⟩;have n4:=Below.step n3 m3 (Nat.le_refl _);replace H1:=aa H1 m3;replace H2:=aa H2 m3;obtain ⟨b0,b1,b2,b3,b4,b5,b6,b7,b8⟩:=az H1.out;obtain ⟨q0,q1,q2,q3,q4,q5,q6,q7,q8⟩:=az H2.out;go_wp2_with fail;clear b0 b1 b2 b3 b4 b5 b6 b7 b8 q0 q1 q2 q3 q4 q5 q6 q7 q8;go_ret;exact ⟨rfl,n4⟩
structure Mid (R:Nat->Prop) (w w':World):Prop where
 os:w'.os=w.os
 tape:w'.tape=w.tape
 output:w'.output=w.output
 size:w.heap.size<=w'.heap.size
 block:∀i,i<w.heap.size->¬R i->w'.heap[i]?=w.heap[i]?
theorem Mid.trans {R:Nat->Prop} {a b c:World} (h:Mid R a b) (k:Mid R b c):Mid R a c:=
 ⟨k.os.trans h.os,k.tape.trans h.tape,k.output.trans h.output,Nat.le_trans h.size k.size,fun i hi' hh=>(k.block i (Nat.lt_of_lt_of_le hi' h.size) hh).trans (h.block i hi' hh)⟩
theorem Mid.heap {R:Nat->Prop} {g:Nat} {w w':World} {o:Obj} (h:Mid R w w') (hg:w.heap[g]?=some o) (hh:¬R g):w'.heap[g]?=some o:=
 (h.block g (Array.getElem?_eq_some_iff.1 hg).1 hh).trans hg
def iE (s1 s2 s3:Value) (i:Nat):Prop:=s1.ownBlock=some i∨s2.ownBlock=some i∨s3.ownBlock=some i
theorem ci {e:TypeId} {size base n:Nat} {w w':World} {s t:Value} {cs:List Value} (h:w.ownsRow base e size s n cs) (hg:w.grownBy w' t.ownBlock) (ha:bV s t):w'.ownsRow base e size s n cs:=by
 refine h.kept hg ?_;cases hs:s.ownBlock with
 | none=>exact .inl rfl
 | some g=>exact .inr fun he=>ha g hs he.symm
def Cur (T:TypeId) (w:World) (p:Nat) (a:Option Addr) (len cap:Nat) (code:List Int):Prop:=
 ∃(i:Nat) (h:Int),i<=len∧w.heap[p]?=some (.cells #[.slice a len cap,.int .i64 i,.int .i64 h] T (0,0))∧Byt w a len code∧(0<len->∀x,a=some x->x.block<p)∧len<=1048576
theorem Cur.lt {T:TypeId} {w:World} {p:Nat} {a:Option Addr} {len cap:Nat} {code:List Int} (h:Cur T w p a len cap code):p<w.heap.size:=by
 obtain ⟨_,_,_,hh,_⟩:=h;exact (Array.getElem?_eq_some_iff.1 hh).1
theorem Cur.step {T:TypeId} {w v:World} {p:Nat} {a:Option Addr} {len cap:Nat} {code:List Int} {i i':Nat} {h h':Int}
 (hh:w.heap[p]?=some (.cells #[.slice a len cap,.int .i64 i,.int .i64 h] T (0,0))) (hb:Byt w a len code) (hlt:0<len->∀x,a=some x->x.block<p) (hl:len<=1048576) (hi:i'<=len)
 (hv:v.heap[p]?=some (.cells #[.slice a len cap,.int .i64 i',.int .i64 h'] T (0,0))) (hg:w.grownBy v (some p)):Cur T v p a len cap code:=by
 refine ⟨i',h',hi,hv,?_,hlt,hl⟩;obtain ⟨h1,h2,h3⟩:=hb;refine ⟨h1,h2,?_⟩;by_cases h0:len=0
 ·exact .inl h0
 rcases h3 with h3 | ⟨b,off,rfl,hbw,hc⟩
 ·exact .inl h3
 ·have hbp:b<p:=hlt (by omega) ⟨b,off,none⟩ rfl;exact .inr ⟨b,off,rfl,Nat.lt_of_lt_of_le hbw hg.size,fun j hj=>(World.cell?_of_block (hg.block b hbw (by simp;omega))).trans (hc j hj)⟩
theorem gD {w v:World} {r:Option Nat} (h:w.grownBy v r) (n:Nat):w.grownBy (v.drewN n) r:=⟨h.os,h.tape,h.output,h.size,h.block⟩
theorem fs {w v u:World} {r:Option Nat} (h:w.grownBy v r) (k:v.grownBy u r):w.grownBy u r:=
 ⟨k.os.trans h.os,k.tape.trans h.tape,k.output.trans h.output,Nat.le_trans h.size k.size,fun i hi hn=>(k.block i (Nat.lt_of_lt_of_le hi h.size) hn).trans (h.block i hi hn)⟩
def Drew (T:TypeId) (w:World) (p:Nat) (a:Option Addr) (len cap:Nat) (code:List Int) (w':World):Prop:=Cur T w' p a len cap code∧w.grownBy w' (some p)
theorem Drew.trans {T:TypeId} {w v u:World} {p:Nat} {a:Option Addr} {len cap:Nat} {code:List Int} (h:Drew T w p a len cap code v) (k:Drew T v p a len cap code u):Drew T w p a len cap code u:=⟨k.1,fs h.2 k.2⟩
structure HartM where
 mem:List Int
 regs:List Int
 pc:Int
 mode:Int
 sum:Bool
 mxr:Bool
 satp:Int
 tvec:Int
 epc:Int
 emode:Int
 cause:Int
 tval:Int
 k:KM
structure RunM where
 h:HartM
 cause:Int
 tval:Int
 looks:List (Int × Int)
 fenced:Bool
 fence:FenceM
def aY (satp:Int):Bool:=satp/1152921504606846976%16 == 0 || satp/1152921504606846976%16 == 8
def bc (n:Nat):Bool:=decide (n%64=0∧64<=n∧n<=4096)
def bo (h:HartM):Bool:=
 decide (h.regs.length=8) && (h.regs[0]?.getD 0 == 0) && decide (0<=h.mode∧h.mode<=2) && decide (0<=h.emode∧h.emode<=2) && aY h.satp && (h.tvec%4 == 0) && decide (0<=h.cause∧h.cause<=63)
def aT (h:HartM):Bool:=bc h.mem.length && bo h && aK h.k
def bF (plain:Bool) (pick:Int) (h:HartM) (kind va:Int):(Int × Int) × KM:=
 if plain=true then (de h.mem h.mode h.sum h.mxr h.satp kind va,h.k) else bg h.mem h.mode h.sum h.mxr h.satp h.k kind va pick
def iA (h:HartM) (k:KM):HartM:=⟨h.mem,h.regs,h.pc,h.mode,h.sum,h.mxr,h.satp,h.tvec,h.epc,h.emode,h.cause,h.tval,k⟩
def iX (r:RunM) (cause tval:Int):RunM:=⟨r.h,cause,tval,r.looks,r.fenced,r.fence⟩
def fg (plain:Bool) (pick:Int) (r:RunM) (kind va:Int):RunM:=
 ⟨iA r.h (bF plain pick r.h kind va).2,r.cause,r.tval,r.looks++[(kind,va)],r.fenced,r.fence⟩
abbrev dL:=Int × Int × Int
def bu (plain:Bool) (pick kind:Int):RunM->List dL->RunM × List dL
 | r,[]=>(r,[])
 | r,p::ps=>
  if (bF plain pick r.h kind p.1).1.1=0 then
   ((bu plain pick kind (fg plain pick r kind p.1) ps).1,(p.1,p.2.1,(bF plain pick r.h kind p.1).1.2)::(bu plain pick kind (fg plain pick r kind p.1) ps).2)
  else (iX (fg plain pick r kind p.1) (bF plain pick r.h kind p.1).1.1 p.1,p::ps)
abbrev dG:=Int × Int × Bool × ce
def iU (g:dG) (e:EntM):Prop:=g.1=e.tag∧g.2.1=e.asid∧g.2.2.1=e.glob∧g.2.2.2.1=e.level∧g.2.2.2.2.2=e.pte
def CovT (t:TlbM) (gs:List dG):Prop:=∀e∈t.es,e.valid=true->∃g∈gs,iU g e
def CovK (k:KM) (gs:List dG):Prop:=CovT k.i gs∧CovT k.d gs∧CovT k.p gs
theorem CovT.mono {t:TlbM} {gs gs':List dG} (h:CovT t gs) (hs:∀g∈gs,g∈gs'):CovT t gs':=fun e he hv=>by
 obtain ⟨g,hg,hs'⟩:=h e he hv;exact ⟨g,hs g hg,hs'⟩
theorem CovK.mono {k:KM} {gs gs':List dG} (h:CovK k gs) (hs:∀g∈gs,g∈gs'):CovK k gs':=⟨h.1.mono hs,h.2.1.mono hs,h.2.2.mono hs⟩
theorem eY (a k:Nat):(a &&& 2^k != 0)=(a/2^k%2 == 1):=by
 have e:(a/2^k%2 == 1)=a.testBit k:=by rw [Nat.testBit_eq_decide_div_mod_eq];rfl
 rw [e];cases h:a.testBit k
 ·have:a &&& 2^k=0:=by
   apply Nat.eq_of_testBit_eq;intro i;rw [Nat.testBit_and,Nat.testBit_two_pow,Nat.zero_testBit];by_cases hi:k=i
   ·subst hi;simp [h]
   ·simp [hi]
  simp [this]
 ·have:a &&& 2^k≠0:=by
   intro h0;have:=congrArg (fun n=>n.testBit k) h0;simp [Nat.testBit_and,h] at this
  simpa using this
theorem cc (a m n:Nat):(a &&& (m ||| n) != 0)=((a &&& m != 0) || (a &&& n != 0)):=by
 rw [Nat.and_or_distrib_left];cases h:(a &&& m != 0) <;> cases h':(a &&& n != 0) <;> simp_all [Nat.or_eq_zero_iff]
def dc (x m:Int):Bool:=bits .and .u64 x m != 0
theorem bz (a m:Nat) (ha:a<18446744073709551616) (hm:m<18446744073709551616):dc a m=(a &&& m != 0):=by
 rw [dc,u64_and_nat a m ha hm];cases h:(a &&& m != 0)
 ·simp at h;simp [h]
 ·simp at h;simp;omega
theorem bf (k:Nat) (x p:Int) (hp:p=2^k) (hk:p<18446744073709551616) (h0:0<=x) (h1:x<=18446744073709551615):dc x p=aF x p:=by
 obtain ⟨a,rfl⟩:=Int.eq_ofNat_of_zero_le h0;have e:p=((2^k:Nat):Int):=by rw [hp];push_cast;rfl
 rw [e] at hk |-;rw [bz a (2^k) (by omega) (by omega),eY,aF];rw [show ((a:Int)/((2^k:Nat):Int)%2)=((a/2^k%2:Nat):Int) by omega];generalize a/2^k%2=t;rw [Bool.eq_iff_iff];simp only [beq_iff_eq];omega
theorem gO (x:Int) (h0:0<=x) (h1:x<=18446744073709551615):dc x 14=(aF x 2 || aF x 4 || aF x 8):=by
 rw [<-bf 1 x 2 rfl (by omega) h0 h1,<-bf 2 x 4 rfl (by omega) h0 h1,<-bf 3 x 8 rfl (by omega) h0 h1];obtain ⟨a,rfl⟩:=Int.eq_ofNat_of_zero_le h0;rw [show (14:Int)=((14:Nat):Int) from rfl,show (2:Int)=((2:Nat):Int) from rfl,show (4:Int)=((4:Nat):Int) from rfl,show (8:Int)=((8:Nat):Int) from rfl];rw [bz a 14 (by omega) (by omega),bz a 2 (by omega) (by omega),bz a 4 (by omega) (by omega),bz a 8 (by omega) (by omega)];rw [<-cc,<-cc];rfl
theorem gP (x:Int) (h0:0<=x) (h1:x<=18446744073709551615):dc x 208=(aF x 16 || aF x 64 || aF x 128):=by
 rw [<-bf 4 x 16 rfl (by omega) h0 h1,<-bf 6 x 64 rfl (by omega) h0 h1,<-bf 7 x 128 rfl (by omega) h0 h1];obtain ⟨a,rfl⟩:=Int.eq_ofNat_of_zero_le h0;rw [show (208:Int)=((208:Nat):Int) from rfl,show (16:Int)=((16:Nat):Int) from rfl,show (64:Int)=((64:Nat):Int) from rfl,show (128:Int)=((128:Nat):Int) from rfl];rw [bz a 208 (by omega) (by omega),bz a 16 (by omega) (by omega),bz a 64 (by omega) (by omega),bz a 128 (by omega) (by omega)];rw [<-cc,<-cc];rfl
end Go.Proofs.Ytfgogedgolgnaaa
