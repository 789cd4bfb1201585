import Derived.Test.YthekickjjaleaaaGreatPack34
import Derived.Test.YthekickjjaleaaaGreatPack36
import Derived.Test.YthekickjjaleaaaGreatPack33
import Derived.StillTailTactics
import Derived.Test.YthekickjjaleaaaGreatPack35
import Derived.Test.YthekickjjaleaaaGreatPack10
namespace Go.Proofs.YthekickjjaleaaaGreat
open Go.RowKit
set_option linter.unusedVariables false
def mK (z0:Nat) (z1:Nat):Prop:=∀(B:Nat) (cv:Value) (f:FenceM) (b o g n base:Nat) (es:List EntM) (sets ways:Int) (w:World) (hC:CovVal B w cv f) (hBg:B≤g) (hv0:0≤f.va) (hv1:f.va≤18446744073709551615) (hn:es.length=n) (hn1:n≤1048576) (hbl:b<w.heap.size) (hbg:b≠g)
 (c2:w.cell? ⟨b,o+2,none⟩=some (.slice (some ⟨g,0,none⟩) n n)) (ho:w.ownsRow base z1 6 (.slice (some ⟨g,0,none⟩) n n) n (aE es)) (hlv:∀(j:Nat) (x:EntM),es[j]?=some x→x.valid=true→0≤x.level∧x.level≤2),Calls Tryz.prog z0 #[.pointer (some ⟨b,o,none⟩),cv] w fun x w'=>x=.returned (.tuple #[])∧w'.ownsRow base z1 6 (.slice (some ⟨g,0,none⟩) n n) n (aE (es.map (bW f)))∧w.grownBy w' (some g)
set_option maxHeartbeats 1600000 in
theorem oQ:mK 159 261∧mK 162 271:=by
 refine ⟨?_,?_⟩;have mL:Hid True:=trivial
 rotate_left
 have mP:Hid True:=trivial
 rotate_left
 all_goals
  intro B cv f b o g n base es sets ways w hC hBg hv0 hv1 hn hn1 hbl hbg c2 ho hlv;obtain ⟨hv,fva,ha,fa⟩:=f;rcases hC with ⟨h1,h2,rfl⟩ | ⟨h1,pf,pv,rfl,lf,lp,hF,hV⟩
  ·first
    | (replace mL:=mL;have:=mD.1 hv fva ha fa 0 0 b o g n base es sets ways w hn hn1 hbl hbg c2 ho hlv)
    | (replace mP:=mP;have:=mD.2 hv fva ha fa 0 0 b o g n base es sets ways w hn hn1 hbl hbg c2 ho hlv)
   rw [uL _ h1 h2];exact this
  ·first
    | (replace mL:=mL;exact mC.1 hv fva ha fa pf pv b o g n base es sets ways w hn hn1 hbl hbg hv0 hv1 h1 (by omega) (by omega) hF hV c2 ho hlv)
    | (replace mP:=mP;exact mC.2 hv fva ha fa pf pv b o g n base es sets ways w hn hn1 hbl hbg hv0 hv1 h1 (by omega) (by omega) hF hV c2 ho hlv)
def tL (base:Nat) (w:World) (e:Ending) (t:TlbM):Prop:=∃x,e=.returned (.tuple #[x,.bool true])∧TlbOwn base w x t
def tM (base:Nat) (w:World) (e:Ending) (t:TlbM):Prop:=∃x,e=.returned (.tuple #[x,.bool true])∧TlbOwn base w x t
set_option maxHeartbeats 3200000 in
theorem jx:(∀(v:Value) (t:TlbM) (cv:Value) (f:FenceM) (w:World) (h:TlbAt w v t) (hC:CovVal w.heap.size w cv f) (hv0:0≤f.va) (hv1:f.va≤18446744073709551615),Calls Tryz.prog 87 #[v,cv] w fun e w'=>cond (aI t false) (tL w.heap.size w' e ⟨t.sets,t.ways,t.es.map (bW f)⟩) (e=.returned (.tuple #[.agg #[.int .i64 0,.int .i64 0,.slice none 0 0],.bool false]))∧Below w.heap.size w w')∧
 (∀(v:Value) (t:TlbM) (cv:Value) (f:FenceM) (w:World) (h:TlbAt w v t) (hC:CovVal w.heap.size w cv f) (hv0:0≤f.va) (hv1:f.va≤18446744073709551615),Calls Tryz.prog 88 #[v,cv] w fun e w'=>cond (aI t true) (tM w.heap.size w' e ⟨t.sets,t.ways,t.es.map (bW f)⟩) (e=.returned (.tuple #[.agg #[.int .i64 0,.int .i64 0,.slice none 0 0],.bool false]))∧Below w.heap.size w w'):=by
 refine ⟨?_,?_⟩;have mL:Hid True:=trivial
 rotate_left
 have mP:Hid True:=trivial
 rotate_left
 all_goals
  intro v t cv f w h hC hv0 hv1;have HK:Hid (dA t):=TlbAt.ok h;have HT:Hid (TlbAt w v t):=h;obtain ⟨a,cap,rfl,_⟩:=h;obtain ⟨sets,ways,es⟩:=t;simp only at *;obtain ⟨n,hn⟩:∃n,es.length=n:=⟨_,rfl⟩;have HN:Hid (es.length=n):=hn;rw [hn] at HT ⊢;have n1:=((Below.refl w.heap.size w).alloc (Nat.le_refl _) (Obj.cells #[.int .i64 sets,.int .i64 ways,.slice a n cap] 41)).alloc (by simp) (Obj.cells #[.int .i64 0,.int .i64 0,.slice none 0 0] 41);have HT1:Hid (TlbAt ((w.alloc (Obj.cells #[.int .i64 sets,.int .i64 ways,.slice a n cap] 41)).alloc (Obj.cells #[.int .i64 0,.int .i64 0,.slice none 0 0] 41)) (.agg #[.int .i64 sets,.int .i64 ways,.slice a n cap]) ⟨sets,ways,es⟩):=HT.out.keep n1;have H3:Hid (((w.alloc (Obj.cells #[.int .i64 sets,.int .i64 ways,.slice a n cap] 41)).alloc (Obj.cells #[.int .i64 0,.int .i64 0,.slice none 0 0] 41)).heap[w.heap.size+1]?=some (.cells #[.int .i64 0,.int .i64 0,.slice none 0 0] 41 (0,0))):=by
   have:=heap_alloc_new (w.alloc (Obj.cells #[.int .i64 sets,.int .i64 ways,.slice a n cap] 41)) (Obj.cells #[.int .i64 0,.int .i64 0,.slice none 0 0] 41);simp only [World.size_alloc] at this;exact this
  have l1:w.heap.size+1<((w.alloc (Obj.cells #[.int .i64 sets,.int .i64 ways,.slice a n cap] 41)).alloc (Obj.cells #[.int .i64 0,.int .i64 0,.slice none 0 0] 41)).heap.size:=by simp
  have HCV:Hid (∀u,Below w.heap.size w u→CovVal w.heap.size u cv f):=fun u hu=>hC.keep hu;clear HT hn hC;first
   | (replace mL:=mL;obtain ⟨qv,hqv⟩:∃q,aI ⟨sets,ways,es⟩ false=q:=⟨_,rfl⟩)
   | (replace mP:=mP;obtain ⟨qv,hqv⟩:∃q,aI ⟨sets,ways,es⟩ true=q:=⟨_,rfl⟩)
  first
   | (replace mL:=mL;have HQ:Hid (aI ⟨sets,ways,es⟩ false=qv):=hqv)
   | (replace mP:=mP;have HQ:Hid (aI ⟨sets,ways,es⟩ true=qv):=hqv)
  obtain ⟨Y,hY⟩:∃Y,es.map (bW f)=Y:=⟨_,rfl⟩;have HY:Hid (es.map (bW f)=Y):=hY;have HYl:Hid (Y.length=n):=by show _=_;rw [←hY,List.length_map];exact HN.out
  rw [hqv,hY];clear hqv hY;first
   | (replace mL:=mL;go_enter Tryz.func87,Tryz.ntmps87)
   | (replace mP:=mP;go_enter Tryz.func88,Tryz.ntmps88)
  go_wp2_with fail;generalize ((w.alloc (Obj.cells #[.int .i64 sets,.int .i64 ways,.slice a n cap] 41)).alloc (Obj.cells #[.int .i64 0,.int .i64 0,.slice none 0 0] 41))=v1 at n1 HT1 H3 l1 ⊢;first
   | (replace mL:=mL;refine (eS.1 _ ⟨sets,ways,es⟩ v1 HT1.out).mono ?_)
   | (replace mP:=mP;refine (eS.2 _ ⟨sets,ways,es⟩ v1 HT1.out).mono ?_)
  rw [HQ.out];rintro e v2 ⟨hc,n2⟩;have A2:=Below.step n1 n2 (Nat.le_refl _);have K3:=ae H3 n2;have l2:w.heap.size+1<v2.heap.size:=Nat.lt_of_lt_of_le l1 n2.size;have s1:=n1.size;clear n1 HT1 H3;cases qv
  ·dsimp only [cond] at hc;subst hc;obtain ⟨⟨d0,d1,d2⟩,e0,e1,e2⟩:=ao K3.out;go_wp2_with fail;first
    | (replace mL:=mL;exact bodyPost_ret (v:=.tuple #[.agg #[.int .i64 0,.int .i64 0,.slice none 0 0],.bool false]) (by simp [results,Tryz.results87,go_sem,d0,d1,d2,l2]) rfl ⟨rfl,by first | exact (du A2 (by omega) _ _ _).alloc (by simp;omega) _ | exact du (A2.alloc A2.size _) (by omega) _ _ _⟩)
    | (replace mP:=mP;exact bodyPost_ret (v:=.tuple #[.agg #[.int .i64 0,.int .i64 0,.slice none 0 0],.bool false]) (by simp [results,Tryz.results88,go_sem,d0,d1,d2,l2]) rfl ⟨rfl,by first | exact (du A2 (by omega) _ _ _).alloc (by simp;omega) _ | exact du (A2.alloc A2.size _) (by omega) _ _ _⟩)
  ·dsimp only [cond] at hc;obtain ⟨g,rfl,ho⟩:=hc;have hg:=bV ho;obtain ⟨_,hg1,hg2⟩:=hg;simp only at hg1 hg2 ho ⊢;rw [HN.out] at ho ⊢;first
    | (replace mL:=mL;have n3:=(Below.refl v2.heap.size v2).alloc (Nat.le_refl _) (Obj.cells #[.int .i64 sets,.int .i64 ways,.slice (some ⟨g,0,none⟩) n n] 120))
    | (replace mP:=mP;have n3:=(Below.refl v2.heap.size v2).alloc (Nat.le_refl _) (Obj.cells #[.int .i64 sets,.int .i64 ways,.slice (some ⟨g,0,none⟩) n n] 123))
   first
    | (replace mL:=mL;have H3:Hid ((v2.alloc (Obj.cells #[.int .i64 sets,.int .i64 ways,.slice (some ⟨g,0,none⟩) n n] 120)).heap[v2.heap.size]?=some (.cells #[.int .i64 sets,.int .i64 ways,.slice (some ⟨g,0,none⟩) n n] 120 (0,0))):=heap_alloc_new v2 _)
    | (replace mP:=mP;have H3:Hid ((v2.alloc (Obj.cells #[.int .i64 sets,.int .i64 ways,.slice (some ⟨g,0,none⟩) n n] 123)).heap[v2.heap.size]?=some (.cells #[.int .i64 sets,.int .i64 ways,.slice (some ⟨g,0,none⟩) n n] 123 (0,0))):=heap_alloc_new v2 _)
   first
    | (replace mL:=mL;have O3:Hid ((v2.alloc (Obj.cells #[.int .i64 sets,.int .i64 ways,.slice (some ⟨g,0,none⟩) n n] 120)).ownsRow v1.heap.size 261 6 (.slice (some ⟨g,0,none⟩) n n) n (aE es)):=ak ho n3)
    | (replace mP:=mP;have O3:Hid ((v2.alloc (Obj.cells #[.int .i64 sets,.int .i64 ways,.slice (some ⟨g,0,none⟩) n n] 123)).ownsRow v1.heap.size 271 6 (.slice (some ⟨g,0,none⟩) n n) n (aE es)):=ak ho n3)
   have A3:=Below.step A2 n3 (Nat.le_refl _);have J3:=ae K3 n3;first
    | (replace mL:=mL;have l3:v2.heap.size<(v2.alloc (Obj.cells #[.int .i64 sets,.int .i64 ways,.slice (some ⟨g,0,none⟩) n n] 120)).heap.size:=by simp)
    | (replace mP:=mP;have l3:v2.heap.size<(v2.alloc (Obj.cells #[.int .i64 sets,.int .i64 ways,.slice (some ⟨g,0,none⟩) n n] 123)).heap.size:=by simp)
   clear ho;go_wp2_with fail;first
    | (replace mL:=mL;generalize v2.alloc (Obj.cells #[.int .i64 sets,.int .i64 ways,.slice (some ⟨g,0,none⟩) n n] 120)=v5 at n3 H3 O3 A3 J3 l3 ⊢)
    | (replace mP:=mP;generalize v2.alloc (Obj.cells #[.int .i64 sets,.int .i64 ways,.slice (some ⟨g,0,none⟩) n n] 123)=v5 at n3 H3 O3 A3 J3 l3 ⊢)
   obtain ⟨⟨p0,p1,p2⟩,_,_,_⟩:=ao H3.out;first
    | (replace mL:=mL;refine (oQ.1 w.heap.size cv f v2.heap.size 0 g n v1.heap.size es sets ways v5 (HCV.out v5 A3) (by omega) hv0 hv1 HN.out (by rw [←HN.out];exact HK.out.2.2.2) (by omega) (by omega) p2 O3.out (fun j x hx hv=>ei (t:=⟨sets,ways,es⟩) (eR HQ.out) j x hx hv)).mono ?_)
    | (replace mP:=mP;refine (oQ.2 w.heap.size cv f v2.heap.size 0 g n v1.heap.size es sets ways v5 (HCV.out v5 A3) (by omega) hv0 hv1 HN.out (by rw [←HN.out];exact HK.out.2.2.2) (by omega) (by omega) p2 O3.out (fun j x hx hv=>ei (t:=⟨sets,ways,es⟩) (eR HQ.out) j x hx hv)).mono ?_)
   rintro e v6 ⟨rfl,o6,m6⟩;rw [HY.out] at o6;first
    | (replace mL:=mL;have O6:Hid (v6.ownsRow v1.heap.size 261 6 (.slice (some ⟨g,0,none⟩) n n) n (aE Y)):=o6)
    | (replace mP:=mP;have O6:Hid (v6.ownsRow v1.heap.size 271 6 (.slice (some ⟨g,0,none⟩) n n) n (aE Y)):=o6)
   first
    | (replace mL:=mL;have H6:Hid (v6.heap[v2.heap.size]?=some (.cells #[.int .i64 sets,.int .i64 ways,.slice (some ⟨g,0,none⟩) n n] 120 (0,0))):=aw H3.out m6 (by omega))
    | (replace mP:=mP;have H6:Hid (v6.heap[v2.heap.size]?=some (.cells #[.int .i64 sets,.int .i64 ways,.slice (some ⟨g,0,none⟩) n n] 123 (0,0))):=aw H3.out m6 (by omega))
   have J6:Hid (v6.heap[w.heap.size+1]?=some (.cells #[.int .i64 0,.int .i64 0,.slice none 0 0] 41 (0,0))):=aw J3.out m6 (by omega);have l6:v5.heap.size≤v6.heap.size:=m6.size;have A6:Below w.heap.size w v6:=A3.grown m6 A3.size (fun k hk=>by cases hk;omega);clear o6 m6 p0 p1 p2 H3 J3 O3 A3;obtain ⟨⟨p0,p1,p2⟩,_,_,_⟩:=ao H6.out;go_wp2_with fail;first
    | (replace mL:=mL;refine (lH.1 v2.heap.size 0 g n ⟨sets,ways,Y⟩ v6 HYl.out (by rw [←HN.out];exact HK.out.2.2.2) (by omega) (by omega) p0 p1 p2 (fH O6.out)).mono ?_)
    | (replace mP:=mP;refine (lH.2 v2.heap.size 0 g n ⟨sets,ways,Y⟩ v6 HYl.out (by rw [←HN.out];exact HK.out.2.2.2) (by omega) (by omega) p0 p1 p2 (fH O6.out)).mono ?_)
   rintro e v7 ⟨⟨y,rfl,gy,cy,rfl,oy⟩,n7⟩;simp only at oy ⊢;have J7:=ae J6 n7;have A7:=Below.step A6 n7 (Nat.le_refl _);have gy1:=(bV oy).2.1;simp only at gy1;obtain ⟨⟨d0,d1,d2⟩,e0,e1,e2⟩:=ao J7.out;go_wp2_with fail;first
    | (replace mL:=mL;exact bodyPost_ret (v:=.tuple #[.agg #[.int .i64 sets,.int .i64 ways,.slice (some ⟨gy,0,none⟩) Y.length cy],.bool true]) (by simp [results,Tryz.results87,go_sem,d0,d1,d2]) rfl ⟨⟨_,rfl,gy,cy,rfl,aX (cK oy (gb3 v7 (w.heap.size+1) _ _ _) (by omega)) (by omega)⟩,du A7 (by omega) _ _ _⟩)
    | (replace mP:=mP;exact bodyPost_ret (v:=.tuple #[.agg #[.int .i64 sets,.int .i64 ways,.slice (some ⟨gy,0,none⟩) Y.length cy],.bool true]) (by simp [results,Tryz.results88,go_sem,d0,d1,d2]) rfl ⟨⟨_,rfl,gy,cy,rfl,aX (cK oy (gb3 v7 (w.heap.size+1) _ _ _) (by omega)) (by omega)⟩,du A7 (by omega) _ _ _⟩)
end Go.Proofs.YthekickjjaleaaaGreat

namespace Go.Proofs.YthekickjjaleaaaGreat
open Go.RowKit
set_option linter.unusedVariables false
theorem mp {base:Nat} {w w':World} {v:Value} {t:TlbM} {g:Nat} (h:TlbOwn base w v t) (hg:w.grownBy w' (some g)) (hb:g<base):TlbOwn base w' v t:=by
 obtain ⟨q,c,rfl,o⟩:=h;exact ⟨q,c,rfl,cK o hg hb⟩
theorem oV {base base':Nat} {w:World} {v:Value} {t:TlbM} (h:TlbOwn base w v t) (hb:base'≤base):TlbOwn base' w v t:=by
 obtain ⟨q,c,rfl,o⟩:=h;exact ⟨q,c,rfl,aX o hb⟩
set_option maxHeartbeats 3200000 in
theorem pQ (v:Value) (t:TlbM) (f:FenceM) (w:World) (h:TlbAt w v t) (hf0:0≤f.va) (hf1:f.va≤18446744073709551615):
 Calls Tryz.prog 26 #[v,.agg #[.bool f.hasVa,.int .u64 f.va,.bool f.hasAsid,.int .u64 f.asid]] w fun e w'=>(∃y,e=.returned y∧TlbOwn w.heap.size w' y (dg t f))∧Below w.heap.size w w':=by
 have HT:Hid (TlbAt w v t):=h;obtain ⟨a,cap,rfl,_⟩:=h;obtain ⟨hv,fva,ha,fa⟩:=f;obtain ⟨sets,ways,es⟩:=t;simp only at *;obtain ⟨n,hn⟩:∃n,es.length=n:=⟨_,rfl⟩;rw [hn] at HT ⊢;clear hn;have n1:=(((Below.refl w.heap.size w).alloc (Nat.le_refl _) (Obj.cells #[.int .i64 sets,.int .i64 ways,.slice a n cap] 41)).alloc (by simp) (Obj.cells #[.bool hv,.int .u64 fva,.bool ha,.int .u64 fa] 51)).alloc (by simp;omega) (Obj.cells #[.int .i64 0,.int .i64 0,.slice none 0 0] 41);have HT1:Hid (TlbAt (((w.alloc (Obj.cells #[.int .i64 sets,.int .i64 ways,.slice a n cap] 41)).alloc (Obj.cells #[.bool hv,.int .u64 fva,.bool ha,.int .u64 fa] 51)).alloc (Obj.cells #[.int .i64 0,.int .i64 0,.slice none 0 0] 41)) (.agg #[.int .i64 sets,.int .i64 ways,.slice a n cap]) ⟨sets,ways,es⟩):=HT.out.keep n1;have H1:Hid ((((w.alloc (Obj.cells #[.int .i64 sets,.int .i64 ways,.slice a n cap] 41)).alloc (Obj.cells #[.bool hv,.int .u64 fva,.bool ha,.int .u64 fa] 51)).alloc (Obj.cells #[.int .i64 0,.int .i64 0,.slice none 0 0] 41)).heap[w.heap.size]?=some (.cells #[.int .i64 sets,.int .i64 ways,.slice a n cap] 41 (0,0))):=by
  show _=_;rw [heap_alloc_old _ _ (by simp;omega),heap_alloc_old _ _ (by simp)];exact heap_alloc_new w _
 have H3:Hid ((((w.alloc (Obj.cells #[.int .i64 sets,.int .i64 ways,.slice a n cap] 41)).alloc (Obj.cells #[.bool hv,.int .u64 fva,.bool ha,.int .u64 fa] 51)).alloc (Obj.cells #[.int .i64 0,.int .i64 0,.slice none 0 0] 41)).heap[w.heap.size+1+1]?=some (.cells #[.int .i64 0,.int .i64 0,.slice none 0 0] 41 (0,0))):=by
  have:=heap_alloc_new ((w.alloc (Obj.cells #[.int .i64 sets,.int .i64 ways,.slice a n cap] 41)).alloc (Obj.cells #[.bool hv,.int .u64 fva,.bool ha,.int .u64 fa] 51)) (Obj.cells #[.int .i64 0,.int .i64 0,.slice none 0 0] 41);simp only [World.size_alloc] at this;exact this
 have l1:w.heap.size+1+1<(((w.alloc (Obj.cells #[.int .i64 sets,.int .i64 ways,.slice a n cap] 41)).alloc (Obj.cells #[.bool hv,.int .u64 fva,.bool ha,.int .u64 fa] 51)).alloc (Obj.cells #[.int .i64 0,.int .i64 0,.slice none 0 0] 41)).heap.size:=by simp
 obtain ⟨qL,hqL⟩:∃q,aI ⟨sets,ways,es⟩ false=q:=⟨_,rfl⟩;obtain ⟨qP,hqP⟩:∃q,aI ⟨sets,ways,es⟩ true=q:=⟨_,rfl⟩;obtain ⟨Y,hY⟩:∃Y,es.map (bW ⟨hv,fva,ha,fa⟩)=Y:=⟨_,rfl⟩;obtain ⟨R,hR⟩:∃R,dg ⟨sets,ways,es⟩ ⟨hv,fva,ha,fa⟩=R:=⟨_,rfl⟩;have HRt:Hid ((qL=true∨qP=true)→R=⟨sets,ways,Y⟩):=fun h1=>by
  rw [←hR,←hY];unfold dg cN;rw [hqL,hqP,if_pos (by rcases h1 with h1 | h1 <;> rw [h1] <;> simp)]
 have HRf:Hid ((qL=false∧qP=false)→R=⟨sets,ways,es⟩):=fun h1=>by
  rw [←hR];unfold dg cN;rw [hqL,hqP,h1.1,h1.2,if_neg (by simp)]
 have HL:Hid (∀cv u,TlbAt u (.agg #[.int .i64 sets,.int .i64 ways,.slice a n cap]) ⟨sets,ways,es⟩→CovVal u.heap.size u cv ⟨hv,fva,ha,fa⟩→Calls Tryz.prog 87 #[.agg #[.int .i64 sets,.int .i64 ways,.slice a n cap],cv] u fun e w'=>cond qL (tL u.heap.size w' e ⟨sets,ways,Y⟩) (e=.returned (.tuple #[.agg #[.int .i64 0,.int .i64 0,.slice none 0 0],.bool false]))∧Below u.heap.size u w'):=fun cv u hu hc=>by
  have:=jx.1 _ ⟨sets,ways,es⟩ cv ⟨hv,fva,ha,fa⟩ u hu hc hf0 hf1;rw [hqL,hY] at this;exact this
 have HP:Hid (∀cv u,TlbAt u (.agg #[.int .i64 sets,.int .i64 ways,.slice a n cap]) ⟨sets,ways,es⟩→CovVal u.heap.size u cv ⟨hv,fva,ha,fa⟩→Calls Tryz.prog 88 #[.agg #[.int .i64 sets,.int .i64 ways,.slice a n cap],cv] u fun e w'=>cond qP (tM u.heap.size w' e ⟨sets,ways,Y⟩) (e=.returned (.tuple #[.agg #[.int .i64 0,.int .i64 0,.slice none 0 0],.bool false]))∧Below u.heap.size u w'):=fun cv u hu hc=>by
  have:=jx.2 _ ⟨sets,ways,es⟩ cv ⟨hv,fva,ha,fa⟩ u hu hc hf0 hf1;rw [hqP,hY] at this;exact this
 have HC:Hid (∀u,TlbAt u (.agg #[.int .i64 sets,.int .i64 ways,.slice a n cap]) ⟨sets,ways,es⟩→Calls Tryz.prog 89 #[.agg #[.int .i64 sets,.int .i64 ways,.slice a n cap]] u fun e w'=>(∃y,e=.returned y∧TlbOwn u.heap.size w' y ⟨sets,ways,es⟩)∧Below u.heap.size u w'):=fun u hu=>jV _ ⟨sets,ways,es⟩ u hu;rw [hR];clear hqL hqP hY hR HT;go_enter Tryz.func26,Tryz.ntmps26;go_wp2_with fail;generalize (((w.alloc (Obj.cells #[.int .i64 sets,.int .i64 ways,.slice a n cap] 41)).alloc (Obj.cells #[.bool hv,.int .u64 fva,.bool ha,.int .u64 fa] 51)).alloc (Obj.cells #[.int .i64 0,.int .i64 0,.slice none 0 0] 41))=v0 at n1 HT1 H1 H3 l1 ⊢;refine (oz hv fva ha fa v0 hf0 hf1).mono ?_;rintro e v1 ⟨hcov,n0⟩;obtain ⟨cv,rfl,hcv⟩:=hcov.val;have HCv:Hid (CovVal v1.heap.size v1 cv ⟨hv,fva,ha,fa⟩):=hcv;replace H1:=ae H1 n0;replace H3:=ae H3 n0;replace HT1:Hid (TlbAt v1 (.agg #[.int .i64 sets,.int .i64 ways,.slice a n cap]) ⟨sets,ways,es⟩):=HT1.out.keep n0;replace n1:=Below.step n1 n0 (Nat.le_refl _);replace l1:w.heap.size+1+1<v1.heap.size:=Nat.lt_of_lt_of_le l1 n0.size;clear hcov hcv n0;obtain ⟨⟨c0,c1,c2⟩,_,_,_⟩:=ao H1.out;go_wp2_with fail;refine (HL.out cv v1 HT1.out HCv.out).mono ?_;rintro e v2 ⟨hc,n2⟩;have A2:=Below.step n1 n2 (Nat.le_refl _);have K1:=ae H1 n2;have J2:=ae H3 n2;have T2:TlbAt v2 (.agg #[.int .i64 sets,.int .i64 ways,.slice a n cap]) ⟨sets,ways,es⟩:=HT1.out.keep n2;have C2:=HCv.out.keep n2;have l2:w.heap.size+1+1<v2.heap.size:=Nat.lt_of_lt_of_le l1 n2.size;have n2':=n2.size;clear n2 n1 HT1 H1 H3 HCv c0 c1 c2 HL;cases qL
 ·dsimp only [cond] at hc;subst hc;have n3:=(Below.refl v2.heap.size v2).alloc (Nat.le_refl _) (Obj.cells #[.int .i64 0,.int .i64 0,.slice none 0 0] 41);have A3:=Below.step A2 n3 (Nat.le_refl _);have P1:=ae K1 n3;have J3:=ae J2 n3;have T3:=T2.keep n3;have C3:=C2.keep n3;have m0:w.heap.size<v2.heap.size:=by omega
  have l3:w.heap.size+1+1<(v2.alloc (Obj.cells #[.int .i64 0,.int .i64 0,.slice none 0 0] 41)).heap.size:=by simp;omega
  obtain ⟨⟨c0,c1,c2⟩,_,_,_⟩:=ao K1.out;go_wp2_with fail;generalize v2.alloc (Obj.cells #[.int .i64 0,.int .i64 0,.slice none 0 0] 41)=v3 at n3 A3 P1 J3 T3 C3 l3 ⊢;refine (HP.out cv v3 T3 (C3.up (Nat.le_trans n2' n3.size))).mono ?_;rintro e v4 ⟨hc,n4⟩;have A4:=Below.step A3 n4 (Nat.le_refl _);have J4:=ae J3 n4;have R1:=ae P1 n4;have T4:=T3.keep n4;have l4:w.heap.size+1+1<v4.heap.size:=Nat.lt_of_lt_of_le l3 n4.size;have n4s:=n4.size;have n3s:=n3.size;clear n3 n4 A3 J3 P1 T3 K1 J2 T2 A2 C2 C3 c0 c1 c2;cases qP
  ·dsimp only [cond] at hc;subst hc;have hr:=HRf.out ⟨by trivial,by trivial⟩;subst hr;have n5:=(Below.refl v4.heap.size v4).alloc (Nat.le_refl _) (Obj.cells #[.int .i64 0,.int .i64 0,.slice none 0 0] 41);have A5:=Below.step A4 n5 (Nat.le_refl _);have J5:=ae J4 n5;have T5:=T4.keep n5;have l5:w.heap.size+1+1<(v4.alloc (Obj.cells #[.int .i64 0,.int .i64 0,.slice none 0 0] 41)).heap.size:=by simp;omega
   have m2:w.heap.size<v4.heap.size:=by omega
   obtain ⟨⟨c0,c1,c2⟩,_,_,_⟩:=ao R1.out;go_wp2_with fail;generalize v4.alloc (Obj.cells #[.int .i64 0,.int .i64 0,.slice none 0 0] 41)=v5 at n5 A5 J5 T5 l5 ⊢;refine (HC.out v5 T5).mono ?_;rintro e v6 ⟨⟨y,rfl,hy⟩,n6⟩;have J6:=ae J5 n6;have A6:=Below.step A5 n6 (Nat.le_refl _);have hy2:=hy;obtain ⟨gy,cy,rfl,_⟩:=hy2;obtain ⟨⟨d0,d1,d2⟩,e0,e1,e2⟩:=ao J6.out;simp only at hy ⊢;go_wp2_with fail;exact bodyPost_ret (v:=.agg #[.int .i64 sets,.int .i64 ways,.slice (some ⟨gy,0,none⟩) es.length cy]) (by simp [results,Tryz.results26,go_sem,d0,d1,d2]) rfl ⟨⟨_,rfl,oV (mp hy (gb3 v6 (w.heap.size+1+1) _ _ _) (by omega)) (by omega)⟩,du A6 (by omega) _ _ _⟩
  ·dsimp only [cond] at hc;have hr:=HRt.out (.inr (by trivial));subst hr;obtain ⟨y,rfl,hy⟩:=hc;have hy2:=hy;obtain ⟨gy,cy,rfl,oy⟩:=hy2;have hgy:=(bV oy).2.2;simp only at hy hgy ⊢;obtain ⟨⟨d0,d1,d2⟩,e0,e1,e2⟩:=ao J4.out;go_wp2_with fail;exact bodyPost_ret (v:=.agg #[.int .i64 sets,.int .i64 ways,.slice (some ⟨gy,0,none⟩) Y.length cy]) (by simp [results,Tryz.results26,go_sem,d0,d1,d2,l4]) rfl ⟨⟨_,rfl,oV (TlbOwn.keep (mp hy (gb3 v4 (w.heap.size+1+1) _ _ _) (by omega)) ((Below.refl _ _).alloc (Nat.le_refl _) _)) (by omega)⟩,(du A4 (by omega) _ _ _).alloc (by simp;omega) _⟩
 ·dsimp only [cond] at hc;have hr:=HRt.out (.inl (by trivial));subst hr;obtain ⟨y,rfl,hy⟩:=hc;have hy2:=hy;obtain ⟨gy,cy,rfl,oy⟩:=hy2;have hgy:=(bV oy).2.2;simp only at hy hgy ⊢;obtain ⟨⟨d0,d1,d2⟩,e0,e1,e2⟩:=ao J2.out;go_wp2_with fail;exact bodyPost_ret (v:=.agg #[.int .i64 sets,.int .i64 ways,.slice (some ⟨gy,0,none⟩) Y.length cy]) (by simp [results,Tryz.results26,go_sem,d0,d1,d2,l2]) rfl ⟨⟨_,rfl,oV (TlbOwn.keep (mp hy (gb3 v2 (w.heap.size+1+1) _ _ _) (by omega)) ((Below.refl _ _).alloc (Nat.le_refl _) _)) (by omega)⟩,(du A2 (by omega) _ _ _).alloc (by simp;omega) _⟩
end Go.Proofs.YthekickjjaleaaaGreat

namespace Go.Proofs.YthekickjjaleaaaGreat
open Go.RowKit
set_option linter.unusedVariables false
attribute [local go_sem ↓] Go.wp_at_zero Go.wp_at_succ
theorem xn (w:World) (g i:Nat) (x y z u v t:Value):w.grownBy ((((((w.setCell ⟨g,i,none⟩ x).setCell ⟨g,i+1,none⟩ y).setCell ⟨g,i+2,none⟩ z).setCell ⟨g,i+3,none⟩ u).setCell ⟨g,i+4,none⟩ v).setCell ⟨g,i+5,none⟩ t) (some g):=
 aq (aq (aq (aq (aq (aq (az w (some g)) _ _) _ _) _ _) _ _) _ _) _ _
theorem xo (w:World) (g i:Nat) (x y z u v t:Value):w.grownBy ((((((w.setCell ⟨g,i,none⟩ x).setCell ⟨g,i+1,none⟩ y).setCell ⟨g,i+2,none⟩ z).setCell ⟨g,i+3,none⟩ u).setCell ⟨g,i+4,none⟩ v).setCell ⟨g,i+5,none⟩ t) (some g):=
 aq (aq (aq (aq (aq (aq (az w (some g)) _ _) _ _) _ _) _ _) _ _) _ _
def lB (z0:Nat) (z1:Nat):Prop:=∀(b o g n base:Nat) (t:TlbM) (e:EntM) (pick:Int) (w:World) (hn:t.es.length=n) (hn1:n≤1048576) (hs4:t.sets=1∨t.sets=2∨t.sets=4∨t.sets=8) (hw1:1≤t.ways) (hw4:t.ways≤4) (hnw:(n:Int)=t.sets*t.ways) (hbl:b<w.heap.size) (hbg:b≠g)
 (c0:w.cell? ⟨b,o,none⟩=some (.int .i64 t.sets)) (c1:w.cell? ⟨b,o+1,none⟩=some (.int .i64 t.ways)) (c2:w.cell? ⟨b,o+2,none⟩=some (.slice (some ⟨g,0,none⟩) n n)) (ho:w.ownsRow base z1 6 (.slice (some ⟨g,0,none⟩) n n) n (aE t.es)) (ht0:0≤e.tag) (ht1:e.tag≤18446744073709551615) (hp0:0≤pick) (hp1:pick≤255),Calls Tryz.prog z0 #[.pointer (some ⟨b,o,none⟩),cz e,.int .i64 pick] w fun x w'=>x=.returned (.tuple #[])∧w'.ownsRow base z1 6 (.slice (some ⟨g,0,none⟩) n n) n (aE (t.es.set (ek t e+gY t e pick) e))∧w.grownBy w' (some g)
set_option maxRecDepth 20000 in
set_option maxHeartbeats 3200000 in
theorem mS:lB 181 261∧lB 183 271:=by
 refine ⟨?_,?_⟩;have mL:Hid True:=trivial
 rotate_left
 have mP:Hid True:=trivial
 rotate_left
 all_goals
  intro b o g n base t e pick w hn hn1 hs4 hw1 hw4 hnw hbl hbg c0 c1 c2 ho ht0 ht1 hp0 hp1;obtain ⟨sets,ways,es⟩:=t;obtain ⟨vv,lv,tg,asd,gl,pt⟩:=e;simp only at *;first
   | (replace mL:=mL;have HO:Hid (w.ownsRow base 261 6 (.slice (some ⟨g,0,none⟩) n n) n (aE es)):=ho)
   | (replace mP:=mP;have HO:Hid (w.ownsRow base 271 6 (.slice (some ⟨g,0,none⟩) n n) n (aE es)):=ho)
  have HN:Hid (es.length=n):=hn;have hg:=(bV ho).2.2;simp only at hg;clear ho hn;obtain ⟨sx,hsx⟩:∃sx,tg%sets=sx:=⟨_,rfl⟩;have hsb:0≤sx∧sx<sets:=by rw [←hsx];exact ⟨Int.emod_nonneg _ (by omega),Int.emod_lt_of_pos _ (by omega)⟩
  obtain ⟨f,hf⟩:∃f:Nat,(f:Int)=sx*ways:=⟨(sx*ways).toNat,Int.toNat_of_nonneg (Int.mul_nonneg hsb.1 (by omega))⟩;have hfn:(f:Int)+ways≤n:=by
   rw [hnw,hf];have:(sx+1)*ways≤sets*ways:=Int.mul_le_mul_of_nonneg_right (by omega) (by omega);rw [Int.add_mul,Int.one_mul] at this;exact this
  have HFi:Hid (ek ⟨sets,ways,es⟩ ⟨vv,lv,tg,asd,gl,pt⟩=f):=by
   show _=_;unfold ek;simp only;rw [hsx,←hf];simp
  have HWm:Hid (sx*ways=(f:Int)):=hf.symm;obtain ⟨P,hP⟩:∃P,gY ⟨sets,ways,es⟩ ⟨vv,lv,tg,asd,gl,pt⟩ pick=P:=⟨_,rfl⟩;have HW:Hid (gY ⟨sets,ways,es⟩ ⟨vv,lv,tg,asd,gl,pt⟩ pick=P):=hP;rw [HFi.out,hP];clear hP hnw;unfold cz;simp only;first
   | (replace mL:=mL;have n1:=(Below.refl w.heap.size w).alloc (Nat.le_refl _) (Obj.cells #[.int .i64 lv,.int .u64 tg,.int .u64 asd,.bool gl,.bool vv,.int .u64 pt] 261))
   | (replace mP:=mP;have n1:=(Below.refl w.heap.size w).alloc (Nat.le_refl _) (Obj.cells #[.int .i64 lv,.int .u64 tg,.int .u64 asd,.bool gl,.bool vv,.int .u64 pt] 271))
  first
   | (replace mL:=mL;have H1:Hid ((w.alloc (Obj.cells #[.int .i64 lv,.int .u64 tg,.int .u64 asd,.bool gl,.bool vv,.int .u64 pt] 261)).heap[w.heap.size]?=some (.cells #[.int .i64 lv,.int .u64 tg,.int .u64 asd,.bool gl,.bool vv,.int .u64 pt] 261 (0,0))):=heap_alloc_new w _)
   | (replace mP:=mP;have H1:Hid ((w.alloc (Obj.cells #[.int .i64 lv,.int .u64 tg,.int .u64 asd,.bool gl,.bool vv,.int .u64 pt] 271)).heap[w.heap.size]?=some (.cells #[.int .i64 lv,.int .u64 tg,.int .u64 asd,.bool gl,.bool vv,.int .u64 pt] 271 (0,0))):=heap_alloc_new w _)
  first
   | (replace mL:=mL;have l1:(w.alloc (Obj.cells #[.int .i64 lv,.int .u64 tg,.int .u64 asd,.bool gl,.bool vv,.int .u64 pt] 261)).heap.size=w.heap.size+1:=by simp)
   | (replace mP:=mP;have l1:(w.alloc (Obj.cells #[.int .i64 lv,.int .u64 tg,.int .u64 asd,.bool gl,.bool vv,.int .u64 pt] 271)).heap.size=w.heap.size+1:=by simp)
  first
   | (replace mL:=mL;go_enter Tryz.func181,Tryz.ntmps181)
   | (replace mP:=mP;go_enter Tryz.func183,Tryz.ntmps183)
  go_wp2_with fail;first
   | (replace mL:=mL;generalize w.alloc (Obj.cells #[.int .i64 lv,.int .u64 tg,.int .u64 asd,.bool gl,.bool vv,.int .u64 pt] 261)=v1 at n1 H1 l1 ⊢)
   | (replace mP:=mP;generalize w.alloc (Obj.cells #[.int .i64 lv,.int .u64 tg,.int .u64 asd,.bool gl,.bool vv,.int .u64 pt] 271)=v1 at n1 H1 l1 ⊢)
  have r0:v1.cell? ⟨b,o,none⟩=some (.int .i64 sets):=Below.cell2 n1 c0 hbl;have r1:v1.cell? ⟨b,o+1,none⟩=some (.int .i64 ways):=Below.cell2 n1 c1 hbl;obtain ⟨⟨x0,x1,x2,x3,x4,x5⟩,_⟩:=fB H1.out;first
   | (replace mL:=mL;have HSt:Hid (∀q,Calls Tryz.prog 206 #[.pointer (some ⟨b,o,none⟩),.int .u64 tg] (v1.drewN q) fun e w'=>e=.returned (.int .i64 sx)∧w'=v1.drewN q):=fun q=>by
        have:=me b o sets tg (v1.drewN q) hs4 r0 ht0 ht1
        rw [hsx] at this
        exact this)
   | (replace mP:=mP;have HSt:Hid (∀q,Calls Tryz.prog 208 #[.pointer (some ⟨b,o,none⟩),.int .u64 tg] (v1.drewN q) fun e w'=>e=.returned (.int .i64 sx)∧w'=v1.drewN q):=fun q=>by
        have:=mf b o sets tg (v1.drewN q) hs4 r0 ht0 ht1
        rw [hsx] at this
        exact this)
  clear hsx hf;go_cut [6] (fun s6 wx=>s6=.int .i64 f∧∃q,wx=v1.drewN q)
  case first=>
   first
    | (replace mL:=mL;go_quiet ((go_at_call 206;exact Calls.quiet_of_same (HSt.out _))))
    | (replace mP:=mP;go_quiet ((go_at_call 208;exact Calls.quiet_of_same (HSt.out _))))
   go_wp2_with fail;go_meet;exact ⟨by rw [HWm.out];(try (rw [show wrap64 (f:Int)=f from by unfold wrap64;omega])),nq,rfl⟩
  case rest=>
   obtain ⟨rfl,q,rfl⟩:=hcut;have n2:Below w.heap.size w (v1.drewN q):=below_drewN n1 q;first
    | (replace mL:=mL;have H2:Hid ((v1.drewN q).heap[w.heap.size]?=some (.cells #[.int .i64 lv,.int .u64 tg,.int .u64 asd,.bool gl,.bool vv,.int .u64 pt] 261 (0,0))):=H1)
    | (replace mP:=mP;have H2:Hid ((v1.drewN q).heap[w.heap.size]?=some (.cells #[.int .i64 lv,.int .u64 tg,.int .u64 asd,.bool gl,.bool vv,.int .u64 pt] 271 (0,0))):=H1)
   have l2:(v1.drewN q).heap.size=w.heap.size+1:=l1;generalize v1.drewN q=v2 at n2 H2 l2 ⊢;first
    | (replace mL:=mL;have O2:Hid (v2.ownsRow base 261 6 (.slice (some ⟨g,0,none⟩) n n) n (aE es)):=ak HO.out n2)
    | (replace mP:=mP;have O2:Hid (v2.ownsRow base 271 6 (.slice (some ⟨g,0,none⟩) n n) n (aE es)):=ak HO.out n2)
   clear r0 r1 x0 x1 x2 x3 x4 x5 HSt H1 n1 l1 HWm;have r1:v2.cell? ⟨b,o+1,none⟩=some (.int .i64 ways):=Below.cell2 n2 c1 hbl;have r2:v2.cell? ⟨b,o+2,none⟩=some (.slice (some ⟨g,0,none⟩) n n):=Below.cell2 n2 c2 hbl;obtain ⟨⟨x0,x1,x2,x3,x4,x5⟩,_⟩:=fB H2.out;have hll:(aE es).length=n*6:=by rw [dR,HN.out]
   have hgw:g≠w.heap.size:=by omega
   have hwg:w.heap.size≠g:=by omega
   go_wp2_with fail
   go_loop [7] (fun i=>∃q:Nat,f≤q∧(q:Int)≤f+ways∧i=.int .i64 q∧Hid (∀q':Nat,f≤q'→q'<q→(es[q']?.getD bQ).valid=true)) (fun i=>f+4-(intOf i).toNat)
   case atStart=>exact ⟨f,Nat.le_refl _,by omega,rfl,fun q' h h'=>absurd h' (by omega)⟩
   case round=>
    obtain ⟨q,hq1,hq2,rfl,HQ⟩:=hrel;by_cases hqt:(q:Int)<f+ways
    ·have hqn:q<n:=by omega
     obtain ⟨⟨wv,wl,wt,wa,wg,wp⟩,hx⟩:∃x,es[q]?=some x:=⟨_,List.getElem?_eq_getElem (by rw [HN.out];exact hqn)⟩;have HXq:Hid (es[q]?=some ⟨wv,wl,wt,wa,wg,wp⟩):=hx;have g4:v2.cell? ⟨g,q*6+4,none⟩=some (.bool wv):=mg O2.out HN.out q _ hx 4 _ (by omega) rfl;clear hx;cases wv
     ·have hP:P=q-f:=by
       rw [←HW.out];unfold gY;simp only;rw [HFi.out,kj es f ways.toNat 0 (q-f) (by omega) (fun j hj=>by rw [Nat.zero_add];exact HQ.out (f+j) (by omega) (by omega)) (by rw [Nat.zero_add,show f+(q-f)=q by omega,HXq.out];rfl)];simp
      subst hP;go_wp2_with fail;have q0:=aB O2.out (q*6) _ (List.getElem?_eq_getElem (by omega));have q1:=aB O2.out (q*6+1) _ (List.getElem?_eq_getElem (by omega));have q2:=aB O2.out (q*6+2) _ (List.getElem?_eq_getElem (by omega));have q3:=aB O2.out (q*6+3) _ (List.getElem?_eq_getElem (by omega));have q4z:=aB O2.out (q*6+4) _ (List.getElem?_eq_getElem (by omega));have q5:=aB O2.out (q*6+5) _ (List.getElem?_eq_getElem (by omega));generalize (aE es)[q*6]'_=y0 at q0;generalize (aE es)[q*6+1]'_=y1 at q1;generalize (aE es)[q*6+2]'_=y2 at q2;generalize (aE es)[q*6+3]'_=y3 at q3;generalize (aE es)[q*6+4]'_=y4 at q4z;generalize (aE es)[q*6+5]'_=y5 at q5;have s0:=aJ O2.out (q*6);have s1:=aJ O2.out (q*6+1);have s2:=aJ O2.out (q*6+2);have s3:=aJ O2.out (q*6+3);have s4:=aJ O2.out (q*6+4);have s5:=aJ O2.out (q*6+5);go_still_tail 7,(by kernel_rfl);go_wp2_with fail;first
       | (replace mL:=mL;refine bodyPost_ret (v:=.tuple #[]) (by simp [results,Tryz.results181,go_sem]) rfl ⟨rfl,?_,?_⟩)
       | (replace mP:=mP;refine bodyPost_ret (v:=.tuple #[]) (by simp [results,Tryz.results183,go_sem]) rfl ⟨rfl,?_,?_⟩)
      ·rw [show f+(q-f)=q by omega,gn es q _ (by rw [HN.out];exact hqn)];exact iB (aC (aC (aC (aC (aC (aC O2.out _ _) _ _) _ _) _ _) _ _) _ _)
      ·first
        | (replace mL:=mL;exact eD (rO n2) (eD (xn v2 g (q*6) _ _ _ _ _ _) (nw _ _)))
        | (replace mP:=mP;exact eD (rO n2) (eD (xo v2 g (q*6) _ _ _ _ _ _) (nw _ _)))
     ·go_wp2_with fail
      go_round
      case rel=>exact ⟨q+1,by omega,by omega,by go_num,fun q' h1 h2=>by
       by_cases e:q'=q
       ·subst e;rw [HXq.out];rfl
       ·exact HQ.out q' h1 (by omega)⟩
      case measure=>simp [intOf];omega
    ·have hP:P=(pick%ways).toNat:=by
      rw [←HW.out];unfold gY;simp only;rw [HFi.out,kl es f ways.toNat 0 (fun j hj=>by rw [Nat.zero_add];exact HQ.out (f+j) (by omega) (by omega))];rfl
     have hpm:0≤pick%ways∧pick%ways<ways:=⟨Int.emod_nonneg _ (by omega),Int.emod_lt_of_pos _ (by omega)⟩;obtain ⟨r,hr⟩:∃r:Nat,(r:Int)=pick%ways:=⟨(pick%ways).toNat,Int.toNat_of_nonneg hpm.1⟩;have hPr:P=r:=by rw [hP,←hr];simp
     subst hPr;clear hP hpm;have hrm:pick%ways=(P:Int):=hr.symm;have hrb:(f:Int)+P<n:=by
      have:pick%ways<ways:=Int.emod_lt_of_pos _ (by omega);omega
     have hw0:¬(ways=0):=by omega
     have htm:pick.tmod ways=(P:Int):=by rw [Int.tmod_eq_emod_of_nonneg hp0];exact hr.symm
     clear hr hrm;obtain ⟨d,hd⟩:∃d:Nat,f+P=d:=⟨_,rfl⟩;have hdn:d<n:=by omega
     have HD:Hid (f+P=d):=hd;have hfp:(f:Int)+(P:Int)=(d:Int):=by omega
     clear hd;have hwd:IntKind.i64.wrap (d:Int)=(d:Int):=(IntKind.wrap_i64 _).trans (by omega);go_wp2_with fail;have q0:=aB O2.out (d*6) _ (List.getElem?_eq_getElem (by omega));have q1:=aB O2.out (d*6+1) _ (List.getElem?_eq_getElem (by omega));have q2:=aB O2.out (d*6+2) _ (List.getElem?_eq_getElem (by omega));have q3:=aB O2.out (d*6+3) _ (List.getElem?_eq_getElem (by omega));have q4:=aB O2.out (d*6+4) _ (List.getElem?_eq_getElem (by omega));have q5:=aB O2.out (d*6+5) _ (List.getElem?_eq_getElem (by omega));generalize (aE es)[d*6]'_=y0 at q0;generalize (aE es)[d*6+1]'_=y1 at q1;generalize (aE es)[d*6+2]'_=y2 at q2;generalize (aE es)[d*6+3]'_=y3 at q3;generalize (aE es)[d*6+4]'_=y4 at q4;generalize (aE es)[d*6+5]'_=y5 at q5;have s0:=aJ O2.out (d*6);have s1:=aJ O2.out (d*6+1);have s2:=aJ O2.out (d*6+2);have s3:=aJ O2.out (d*6+3);have s4:=aJ O2.out (d*6+4);have s5:=aJ O2.out (d*6+5);go_still_tail 14,(by kernel_rfl);go_wp2_with fail;go_end0;refine ⟨rfl,?_,?_⟩
     ·rw [HD.out,gn es d _ (by rw [HN.out];exact hdn)];exact iB (aC (aC (aC (aC (aC (aC O2.out _ _) _ _) _ _) _ _) _ _) _ _)
     ·first
       | (replace mL:=mL;exact eD (rO n2) (eD (xn v2 g (d*6) _ _ _ _ _ _) (nw _ _)))
       | (replace mP:=mP;exact eD (rO n2) (eD (xo v2 g (d*6) _ _ _ _ _ _) (nw _ _)))
end Go.Proofs.YthekickjjaleaaaGreat
