import Derived.Test.YtaoaifmkhbgaiaaGreatPk43
import Derived.Test.YtaoaifmkhbgaiaaGreatPk42
import Derived.Test.YtaoaifmkhbgaiaaGreatPk10
namespace Go.Proofs.YtaoaifmkhbgaiaaGreat
open Go.RowKit
set_option linter.unusedVariables false
def qA (z0:Nat) (z1:Bool):Prop:=∀(v:Value) (t:TlbM) (va asid:Int) (w:World) (h:TlbAt w v t) (hv0:0≤va) (hv1:va≤18446744073709551615),Calls Tryz.prog z0 #[v,.int .u64 va,.int .u64 asid] w fun e w'=>kB (aG t z1) (aO t va asid) e∧Below w.heap.size w w'
set_option maxHeartbeats 1600000 in
theorem sh:qA 68 false∧qA 69 true:=by
 refine ⟨?_,?_⟩;have mL:Hid True:=trivial
 rotate_left
 have mP:Hid True:=trivial
 rotate_left
 all_goals
  intro v t va asid w h hv0 hv1;have HK:Hid (ex t):=TlbAt.ok h;have HT:Hid (TlbAt w v t):=h;obtain ⟨a,cap,rfl,_⟩:=h;have n1:=((Below.refl w.heap.size w).alloc (Nat.le_refl _) (Obj.cells #[.int .i64 t.sets,.int .i64 t.ways,.slice a t.es.length cap] 28)).alloc (by simp) (Obj.cells #[.bool false,.int .i64 0,.int .i64 0,.int .u64 0] 57);have HT1:Hid (TlbAt ((w.alloc (Obj.cells #[.int .i64 t.sets,.int .i64 t.ways,.slice a t.es.length cap] 28)).alloc (Obj.cells #[.bool false,.int .i64 0,.int .i64 0,.int .u64 0] 57)) (.agg #[.int .i64 t.sets,.int .i64 t.ways,.slice a t.es.length cap]) t):=HT.out.keep n1;have H2:Hid (((w.alloc (Obj.cells #[.int .i64 t.sets,.int .i64 t.ways,.slice a t.es.length cap] 28)).alloc (Obj.cells #[.bool false,.int .i64 0,.int .i64 0,.int .u64 0] 57)).heap[w.heap.size+1]?=some (.cells #[.bool false,.int .i64 0,.int .i64 0,.int .u64 0] 57 (0,0))):=by
   have:=heap_alloc_new (w.alloc (Obj.cells #[.int .i64 t.sets,.int .i64 t.ways,.slice a t.es.length cap] 28)) (Obj.cells #[.bool false,.int .i64 0,.int .i64 0,.int .u64 0] 57);simp only [World.size_alloc] at this;exact this
  have l1:w.heap.size+1<((w.alloc (Obj.cells #[.int .i64 t.sets,.int .i64 t.ways,.slice a t.es.length cap] 28)).alloc (Obj.cells #[.bool false,.int .i64 0,.int .i64 0,.int .u64 0] 57)).heap.size:=by simp
  clear HT;first
   | (replace mL:=mL;obtain ⟨q,hq⟩:∃q,aG t false=q:=⟨_,rfl⟩)
   | (replace mP:=mP;obtain ⟨q,hq⟩:∃q,aG t true=q:=⟨_,rfl⟩)
  first
   | (replace mL:=mL;have HQ:Hid (aG t false=q):=hq)
   | (replace mP:=mP;have HQ:Hid (aG t true=q):=hq)
  rw [hq];clear hq;first
   | (replace mL:=mL;go_enter Tryz.func68,Tryz.ntmps68)
   | (replace mP:=mP;go_enter Tryz.func69,Tryz.ntmps69)
  go_wp2_with fail;generalize ((w.alloc (Obj.cells #[.int .i64 t.sets,.int .i64 t.ways,.slice a t.es.length cap] 28)).alloc (Obj.cells #[.bool false,.int .i64 0,.int .i64 0,.int .u64 0] 57))=v1 at n1 HT1 H2 l1 ⊢;first
   | (replace mL:=mL;refine (eO.1 _ t v1 HT1.out).mono ?_)
   | (replace mP:=mP;refine (eO.2 _ t v1 HT1.out).mono ?_)
  rw [HQ.out];rintro e v2 ⟨hc,n2⟩;have A2:=Below.step n1 n2 (Nat.le_refl _);have K2:=ae H2 n2;have l2:w.heap.size+1<v2.heap.size:=Nat.lt_of_lt_of_le l1 n2.size;clear n1 n2 H2 HT1;obtain ⟨⟨d0,d1,d2,d3⟩,e0,e1,e2,e3⟩:=aw K2.out;cases q
  ·dsimp only [cond] at hc;subst hc;go_wp2_with fail;first
    | (replace mL:=mL;exact bodyPost_ret (v:=.tuple #[.agg #[.bool false,.int .i64 0,.int .i64 0,.int .u64 0],.bool false]) (by simp [results,Tryz.results68,go_sem,d0,d1,d2,d3,l2]) rfl ⟨rfl,by first | exact (iB A2 (by omega) _ _ _ _).alloc (by simp;omega) _ | exact iB (A2.alloc A2.size _) (by omega) _ _ _ _⟩)
    | (replace mP:=mP;exact bodyPost_ret (v:=.tuple #[.agg #[.bool false,.int .i64 0,.int .i64 0,.int .u64 0],.bool false]) (by simp [results,Tryz.results69,go_sem,d0,d1,d2,d3,l2]) rfl ⟨rfl,by first | exact (iB A2 (by omega) _ _ _ _).alloc (by simp;omega) _ | exact iB (A2.alloc A2.size _) (by omega) _ _ _ _⟩)
  ·dsimp only [cond] at hc;obtain ⟨g,rfl,ho⟩:=hc;have hg:=bI ho;obtain ⟨_,hg1,hg2⟩:=hg;simp only at hg1 hg2;first
    | (replace mL:=mL;have n3:=(Below.refl v2.heap.size v2).alloc (Nat.le_refl _) (Obj.cells #[.int .i64 t.sets,.int .i64 t.ways,.slice (some ⟨g,0,none⟩) t.es.length t.es.length] 106))
    | (replace mP:=mP;have n3:=(Below.refl v2.heap.size v2).alloc (Nat.le_refl _) (Obj.cells #[.int .i64 t.sets,.int .i64 t.ways,.slice (some ⟨g,0,none⟩) t.es.length t.es.length] 109))
   first
    | (replace mL:=mL;have H3:Hid ((v2.alloc (Obj.cells #[.int .i64 t.sets,.int .i64 t.ways,.slice (some ⟨g,0,none⟩) t.es.length t.es.length] 106)).heap[v2.heap.size]?=some (.cells #[.int .i64 t.sets,.int .i64 t.ways,.slice (some ⟨g,0,none⟩) t.es.length t.es.length] 106 (0,0))):=heap_alloc_new v2 _)
    | (replace mP:=mP;have H3:Hid ((v2.alloc (Obj.cells #[.int .i64 t.sets,.int .i64 t.ways,.slice (some ⟨g,0,none⟩) t.es.length t.es.length] 109)).heap[v2.heap.size]?=some (.cells #[.int .i64 t.sets,.int .i64 t.ways,.slice (some ⟨g,0,none⟩) t.es.length t.es.length] 109 (0,0))):=heap_alloc_new v2 _)
   first
    | (replace mL:=mL;have l3:v2.heap.size<(v2.alloc (Obj.cells #[.int .i64 t.sets,.int .i64 t.ways,.slice (some ⟨g,0,none⟩) t.es.length t.es.length] 106)).heap.size:=by simp)
    | (replace mP:=mP;have l3:v2.heap.size<(v2.alloc (Obj.cells #[.int .i64 t.sets,.int .i64 t.ways,.slice (some ⟨g,0,none⟩) t.es.length t.es.length] 109)).heap.size:=by simp)
   first
    | (replace mL:=mL;have R3:Hid (RowC (v2.alloc (Obj.cells #[.int .i64 t.sets,.int .i64 t.ways,.slice (some ⟨g,0,none⟩) t.es.length t.es.length] 106)) (some ⟨g,0,none⟩) t.es.length 6 (aH t.es)):=(en ho).keep n3)
    | (replace mP:=mP;have R3:Hid (RowC (v2.alloc (Obj.cells #[.int .i64 t.sets,.int .i64 t.ways,.slice (some ⟨g,0,none⟩) t.es.length t.es.length] 109)) (some ⟨g,0,none⟩) t.es.length 6 (aH t.es)):=(en ho).keep n3)
   have K3:=ae K2 n3;have A3:=Below.step A2 n3 (Nat.le_refl _);clear ho n3 d0 d1 d2 d3 e0 e1 e2 e3;go_wp2_with fail;first
    | (replace mL:=mL;generalize v2.alloc (Obj.cells #[.int .i64 t.sets,.int .i64 t.ways,.slice (some ⟨g,0,none⟩) t.es.length t.es.length] 106)=v3 at H3 l3 R3 K3 A3 ⊢)
    | (replace mP:=mP;generalize v2.alloc (Obj.cells #[.int .i64 t.sets,.int .i64 t.ways,.slice (some ⟨g,0,none⟩) t.es.length t.es.length] 109)=v3 at H3 l3 R3 K3 A3 ⊢)
   obtain ⟨⟨p0,p1,p2⟩,_,_,_⟩:=ao H3.out;first
    | (replace mL:=mL;refine (jY.1 v2.heap.size 0 g t.es.length t va asid v3 rfl HK.out.2.2.2 HQ.out l3 p0 p1 p2 R3.out hv0 hv1).mono ?_)
    | (replace mP:=mP;refine (jY.2 v2.heap.size 0 g t.es.length t va asid v3 rfl HK.out.2.2.2 HQ.out l3 p0 p1 p2 R3.out hv0 hv1).mono ?_)
   obtain ⟨⟨f,i,l,pt⟩,hX⟩:∃X,aO t va asid=X:=⟨_,rfl⟩;rw [hX];have HX:Hid (aO t va asid=(f,i,l,pt)):=hX;clear hX;rintro e v4 ⟨rfl,n4⟩;have A4:=Below.step A3 n4 (Nat.le_refl _);have K4:=ae K3 n4;have H4:=ae H3 n4;have R4:Hid _:=R3.out.keep n4;have l4:v2.heap.size<v4.heap.size:=Nat.lt_of_lt_of_le l3 n4.size;clear n4 K3 H3 R3 A3 p0 p1 p2;obtain ⟨⟨d0,d1,d2,d3⟩,e0,e1,e2,e3⟩:=aw K4.out;obtain ⟨⟨p0,p1,p2⟩,_,_,_⟩:=ao H4.out;cases f
   ·have hz:(i,l,pt)=(0,0,0):=rW HX.out;simp only [Prod.mk.injEq] at hz;obtain ⟨rfl,rfl,rfl⟩:=hz;go_wp2_with fail;first
     | (replace mL:=mL;exact bodyPost_ret (v:=.tuple #[.agg #[.bool false,.int .i64 0,.int .i64 0,.int .u64 0],.bool true]) (by simp [results,Tryz.results68,go_sem,d0,d1,d2,d3]) rfl ⟨by unfold kB;rw [HX.out];rfl,iB A4 (by omega) _ _ _ _⟩)
     | (replace mP:=mP;exact bodyPost_ret (v:=.tuple #[.agg #[.bool false,.int .i64 0,.int .i64 0,.int .u64 0],.bool true]) (by simp [results,Tryz.results69,go_sem,d0,d1,d2,d3]) rfl ⟨by unfold kB;rw [HX.out];rfl,iB A4 (by omega) _ _ _ _⟩)
   ·obtain ⟨k,x,hx,hi,hlv,hpt,_,_⟩:=kM t va asid (by rw [HX.out]);rw [HX.out] at hi hlv hpt;simp only at hi hlv hpt;subst hi hlv hpt;have hkl:k<t.es.length:=(List.getElem?_eq_some_iff.1 hx).1;have hln:=HK.out.2.2.2;have CE:∀j u,j<6→(fj x)[j]?=some u→v4.cell? ⟨g,k*6+j,none⟩=some u:=fun j u hj hu=>fR R4.out rfl k _ hx j u hj hu;have g0:v4.cell? ⟨g,k*6,none⟩=some (.int .i64 x.level):=CE 0 _ (by omega) rfl;have g1:v4.cell? ⟨g,k*6+1,none⟩=some (.int .u64 x.tag):=CE 1 _ (by omega) rfl;have g2:v4.cell? ⟨g,k*6+2,none⟩=some (.int .u64 x.asid):=CE 2 _ (by omega) rfl;have g3:v4.cell? ⟨g,k*6+3,none⟩=some (.bool x.glob):=CE 3 _ (by omega) rfl;have g4:v4.cell? ⟨g,k*6+4,none⟩=some (.bool x.valid):=CE 4 _ (by omega) rfl;have g5:v4.cell? ⟨g,k*6+5,none⟩=some (.int .u64 x.pte):=CE 5 _ (by omega) rfl;clear CE hx R4;have m1:w.heap.size+1<v4.heap.size:=by omega
    generalize x.level=lv at *;generalize x.tag=tg at *;generalize x.asid=asd at *;generalize x.glob=gl at *;generalize x.valid=vv at *;generalize x.pte=pt at *;go_wp2_with fail;first
     | (replace mL:=mL;exact bodyPost_ret (v:=.tuple #[.agg #[.bool true,.int .i64 k,.int .i64 lv,.int .u64 pt],.bool true]) (by simp [results,Tryz.results68,go_sem,d0,d1,d2,d3,m1]) rfl ⟨by unfold kB;rw [HX.out];rfl,by first | exact (iB A4 (by omega) _ _ _ _).alloc (by simp;omega) _ | exact iB (A4.alloc A4.size _) (by omega) _ _ _ _⟩)
     | (replace mP:=mP;exact bodyPost_ret (v:=.tuple #[.agg #[.bool true,.int .i64 k,.int .i64 lv,.int .u64 pt],.bool true]) (by simp [results,Tryz.results69,go_sem,d0,d1,d2,d3,m1]) rfl ⟨by unfold kB;rw [HX.out];rfl,by first | exact (iB A4 (by omega) _ _ _ _).alloc (by simp;omega) _ | exact iB (A4.alloc A4.size _) (by omega) _ _ _ _⟩)
end Go.Proofs.YtaoaifmkhbgaiaaGreat

namespace Go.Proofs.YtaoaifmkhbgaiaaGreat
open Go.RowKit
set_option linter.unusedVariables false
set_option maxHeartbeats 1600000 in
theorem i9 (v:Value) (t:TlbM) (va asid:Int) (w:World) (h:TlbAt w v t) (hv0:0≤va) (hv1:va≤18446744073709551615):
 Calls Tryz.prog 19 #[v,.int .u64 va,.int .u64 asid] w fun e w'=>
  e=.returned (.agg #[.bool (aO t va asid).1,.int .i64 (aO t va asid).2.1,.int .i64 (aO t va asid).2.2.1,.int .u64 (aO t va asid).2.2.2])∧Below w.heap.size w w':=by
 have HT:Hid (TlbAt w v t):=h;obtain ⟨a,cap,rfl,_⟩:=h;have n1:=((Below.refl w.heap.size w).alloc (Nat.le_refl _) (Obj.cells #[.int .i64 t.sets,.int .i64 t.ways,.slice a t.es.length cap] 28)).alloc (by simp) (Obj.cells #[.bool false,.int .i64 0,.int .i64 0,.int .u64 0] 57);have HT1:Hid (TlbAt ((w.alloc (Obj.cells #[.int .i64 t.sets,.int .i64 t.ways,.slice a t.es.length cap] 28)).alloc (Obj.cells #[.bool false,.int .i64 0,.int .i64 0,.int .u64 0] 57)) (.agg #[.int .i64 t.sets,.int .i64 t.ways,.slice a t.es.length cap]) t):=HT.out.keep n1;have H1:Hid (((w.alloc (Obj.cells #[.int .i64 t.sets,.int .i64 t.ways,.slice a t.es.length cap] 28)).alloc (Obj.cells #[.bool false,.int .i64 0,.int .i64 0,.int .u64 0] 57)).heap[w.heap.size]?=some (.cells #[.int .i64 t.sets,.int .i64 t.ways,.slice a t.es.length cap] 28 (0,0))):=by
  show _=_;rw [heap_alloc_old _ _ (by simp)];exact heap_alloc_new w _
 have H2:Hid (((w.alloc (Obj.cells #[.int .i64 t.sets,.int .i64 t.ways,.slice a t.es.length cap] 28)).alloc (Obj.cells #[.bool false,.int .i64 0,.int .i64 0,.int .u64 0] 57)).heap[w.heap.size+1]?=some (.cells #[.bool false,.int .i64 0,.int .i64 0,.int .u64 0] 57 (0,0))):=by
  have:=heap_alloc_new (w.alloc (Obj.cells #[.int .i64 t.sets,.int .i64 t.ways,.slice a t.es.length cap] 28)) (Obj.cells #[.bool false,.int .i64 0,.int .i64 0,.int .u64 0] 57);simp only [World.size_alloc] at this;exact this
 have l1:w.heap.size+1<((w.alloc (Obj.cells #[.int .i64 t.sets,.int .i64 t.ways,.slice a t.es.length cap] 28)).alloc (Obj.cells #[.bool false,.int .i64 0,.int .i64 0,.int .u64 0] 57)).heap.size:=by simp
 clear HT;obtain ⟨q,hq⟩:∃q,aG t false=q:=⟨_,rfl⟩;obtain ⟨q2,hq2⟩:∃q,aG t true=q:=⟨_,rfl⟩;have HE:Hid (cY t=(q2 || q)):=by show _=_;unfold cY;rw [hq,hq2]
 obtain ⟨X,hX⟩:∃X,aO t va asid=X:=⟨_,rfl⟩;have HZ:Hid (q=false→q2=false→X=(false,0,0,0)):=fun h1 h2=>by
  rw [←hX];unfold aO;rw [if_pos (by rw [HE.out,h1,h2];rfl)]
 have HL:Hid (∀u,TlbAt u (.agg #[.int .i64 t.sets,.int .i64 t.ways,.slice a t.es.length cap]) t→Calls Tryz.prog 68 #[.agg #[.int .i64 t.sets,.int .i64 t.ways,.slice a t.es.length cap],.int .u64 va,.int .u64 asid] u fun e w'=>kB q X e∧Below u.heap.size u w'):=fun u hu=>by
  have:=sh.1 _ t va asid u hu hv0 hv1;rw [hq,hX] at this;exact this
 have HP:Hid (∀u,TlbAt u (.agg #[.int .i64 t.sets,.int .i64 t.ways,.slice a t.es.length cap]) t→Calls Tryz.prog 69 #[.agg #[.int .i64 t.sets,.int .i64 t.ways,.slice a t.es.length cap],.int .u64 va,.int .u64 asid] u fun e w'=>kB q2 X e∧Below u.heap.size u w'):=fun u hu=>by
  have:=sh.2 _ t va asid u hu hv0 hv1;rw [hq2,hX] at this;exact this
 rw [hX];clear hX hq hq2 HE;obtain ⟨f,i,l,pt⟩:=X;go_enter Tryz.func19,Tryz.ntmps19;go_wp2_with fail;generalize ((w.alloc (Obj.cells #[.int .i64 t.sets,.int .i64 t.ways,.slice a t.es.length cap] 28)).alloc (Obj.cells #[.bool false,.int .i64 0,.int .i64 0,.int .u64 0] 57))=v1 at n1 HT1 H1 H2 l1 ⊢;refine (HL.out v1 HT1.out).mono ?_;rintro e v2 ⟨he,n2⟩;unfold kB at he;have A2:=Below.step n1 n2 (Nat.le_refl _);have HT2:Hid (TlbAt v2 (.agg #[.int .i64 t.sets,.int .i64 t.ways,.slice a t.es.length cap]) t):=HT1.out.keep n2;have K1:=ae H1 n2;have K2:=ae H2 n2;have l2:w.heap.size+1<v2.heap.size:=Nat.lt_of_lt_of_le l1 n2.size;clear n1 n2 H1 H2 HT1 HL;obtain ⟨⟨c0,c1,c2⟩,_,_,_⟩:=ao K1.out;obtain ⟨⟨d0,d1,d2,d3⟩,e0,e1,e2,e3⟩:=aw K2.out;cases q
 ·subst he;simp only [qt,Bool.false_eq_true,if_false];have n3:=(Below.refl v2.heap.size v2).alloc (Nat.le_refl _) (Obj.cells #[.bool false,.int .i64 0,.int .i64 0,.int .u64 0] 57);have HT3:Hid (TlbAt (v2.alloc (Obj.cells #[.bool false,.int .i64 0,.int .i64 0,.int .u64 0] 57)) (.agg #[.int .i64 t.sets,.int .i64 t.ways,.slice a t.es.length cap]) t):=HT2.out.keep n3;have K3:=ae K2 n3;have A3:=Below.step A2 n3 (Nat.le_refl _);have l0:w.heap.size<v2.heap.size:=by omega
  have l3:w.heap.size+1<(v2.alloc (Obj.cells #[.bool false,.int .i64 0,.int .i64 0,.int .u64 0] 57)).heap.size:=by simp;omega
  go_wp2_with fail;generalize v2.alloc (Obj.cells #[.bool false,.int .i64 0,.int .i64 0,.int .u64 0] 57)=v3 at HT3 K3 A3 l3 ⊢;refine (HP.out v3 HT3.out).mono ?_;rintro e v4 ⟨he,n4⟩;unfold kB at he;have A4:=Below.step A3 n4 (Nat.le_refl _);have K4:=ae K3 n4;have l4:w.heap.size+1<v4.heap.size:=Nat.lt_of_lt_of_le l3 n4.size;clear n3 n4 HT2 HT3 K1 K2 K3 A2 A3 HP c0 c1 c2 d0 d1 d2 d3 e0 e1 e2 e3;obtain ⟨⟨d0,d1,d2,d3⟩,e0,e1,e2,e3⟩:=aw K4.out;subst he;cases q2
  ·have hz:=HZ.out (by trivial) (by trivial);simp only [Prod.mk.injEq] at hz;obtain ⟨rfl,rfl,rfl,rfl⟩:=hz;simp only [qt,Bool.false_eq_true,if_false];go_wp2_with fail;exact bodyPost_ret (v:=.agg #[.bool false,.int .i64 0,.int .i64 0,.int .u64 0]) (by simp [results,Tryz.results19,go_sem,d0,d1,d2,d3,l4]) rfl ⟨rfl,by first | exact (iB A4 (by omega) _ _ _ _).alloc (by simp;omega) _ | exact iB (A4.alloc A4.size _) (by omega) _ _ _ _⟩
  ·simp only [qt,if_true];go_wp2_with fail;exact bodyPost_ret (v:=.agg #[.bool f,.int .i64 i,.int .i64 l,.int .u64 pt]) (by simp [results,Tryz.results19,go_sem,d0,d1,d2,d3,l4]) rfl ⟨rfl,by first | exact (iB A4 (by omega) _ _ _ _).alloc (by simp;omega) _ | exact iB (A4.alloc A4.size _) (by omega) _ _ _ _⟩
 ·subst he;simp only [qt,if_true];go_wp2_with fail;exact bodyPost_ret (v:=.agg #[.bool f,.int .i64 i,.int .i64 l,.int .u64 pt]) (by simp [results,Tryz.results19,go_sem,d0,d1,d2,d3,l2]) rfl ⟨rfl,by first | exact (iB A2 (by omega) _ _ _ _).alloc (by simp;omega) _ | exact iB (A2.alloc A2.size _) (by omega) _ _ _ _⟩
end Go.Proofs.YtaoaifmkhbgaiaaGreat
