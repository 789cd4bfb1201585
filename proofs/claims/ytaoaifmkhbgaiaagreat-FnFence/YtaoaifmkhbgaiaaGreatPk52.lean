import Derived.Test.YtaoaifmkhbgaiaaGreatPk51
import Derived.Test.YtaoaifmkhbgaiaaGreatPk43
import Derived.Test.YtaoaifmkhbgaiaaGreatPk42
namespace Go.Proofs.YtaoaifmkhbgaiaaGreat
open Go.RowKit
set_option linter.unusedVariables false
def qu (z0:Nat) (z1:Nat):Prop:=∀(B:Nat) (cv:Value) (f:FenceM) (b o g n base:Nat) (es:List EntM) (sets ways:Int) (w:World) (hC:CovVal B w cv f) (hBg:B≤g) (hv0:0≤f.va) (hv1:f.va≤18446744073709551615) (hn:es.length=n) (hn1:n≤1048576) (hbl:b<w.heap.size) (hbg:b≠g)
 (c2:w.cell? ⟨b,o+2,none⟩=some (.slice (some ⟨g,0,none⟩) n n)) (ho:w.ownsRow base z1 6 (.slice (some ⟨g,0,none⟩) n n) n (aH es)) (hlv:∀(j:Nat) (x:EntM),es[j]?=some x→x.valid=true→0≤x.level∧x.level≤2),Calls Tryz.prog z0 #[.pointer (some ⟨b,o,none⟩),cv] w fun x w'=>x=.returned (.tuple #[])∧w'.ownsRow base z1 6 (.slice (some ⟨g,0,none⟩) n n) n (aH (es.map (cU f)))∧w.grownBy w' (some g)
set_option maxHeartbeats 1600000 in
theorem rL:qu 96 173∧qu 99 183:=by
 refine ⟨?_,?_⟩;have mL:Hid True:=trivial
 rotate_left
 have mP:Hid True:=trivial
 rotate_left
 all_goals
  intro B cv f b o g n base es sets ways w hC hBg hv0 hv1 hn hn1 hbl hbg c2 ho hlv;obtain ⟨hv,fva,ha,fa⟩:=f;rcases hC with ⟨h1,h2,rfl⟩ | ⟨h1,pf,pv,rfl,lf,lp,hF,hV⟩
  ·first
    | (replace mL:=mL;have:=ql.1 hv fva ha fa 0 0 b o g n base es sets ways w hn hn1 hbl hbg c2 ho hlv)
    | (replace mP:=mP;have:=ql.2 hv fva ha fa 0 0 b o g n base es sets ways w hn hn1 hbl hbg c2 ho hlv)
   rw [yU _ h1 h2];exact this
  ·first
    | (replace mL:=mL;exact qk.1 hv fva ha fa pf pv b o g n base es sets ways w hn hn1 hbl hbg hv0 hv1 h1 (by omega) (by omega) hF hV c2 ho hlv)
    | (replace mP:=mP;exact qk.2 hv fva ha fa pf pv b o g n base es sets ways w hn hn1 hbl hbg hv0 hv1 h1 (by omega) (by omega) hF hV c2 ho hlv)
def xI (base:Nat) (w:World) (e:Ending) (t:TlbM):Prop:=∃x,e=.returned (.tuple #[x,.bool true])∧TlbOwn base w x t
def xJ (base:Nat) (w:World) (e:Ending) (t:TlbM):Prop:=∃x,e=.returned (.tuple #[x,.bool true])∧TlbOwn base w x t
set_option maxHeartbeats 3200000 in
theorem lW:(∀(v:Value) (t:TlbM) (cv:Value) (f:FenceM) (w:World) (h:TlbAt w v t) (hC:CovVal w.heap.size w cv f) (hv0:0≤f.va) (hv1:f.va≤18446744073709551615),Calls Tryz.prog 53 #[v,cv] w fun e w'=>cond (aG t false) (xI w.heap.size w' e ⟨t.sets,t.ways,t.es.map (cU f)⟩) (e=.returned (.tuple #[.agg #[.int .i64 0,.int .i64 0,.slice none 0 0],.bool false]))∧Below w.heap.size w w')∧
 (∀(v:Value) (t:TlbM) (cv:Value) (f:FenceM) (w:World) (h:TlbAt w v t) (hC:CovVal w.heap.size w cv f) (hv0:0≤f.va) (hv1:f.va≤18446744073709551615),Calls Tryz.prog 54 #[v,cv] w fun e w'=>cond (aG t true) (xJ w.heap.size w' e ⟨t.sets,t.ways,t.es.map (cU f)⟩) (e=.returned (.tuple #[.agg #[.int .i64 0,.int .i64 0,.slice none 0 0],.bool false]))∧Below w.heap.size w w'):=by
 refine ⟨?_,?_⟩;have mL:Hid True:=trivial
 rotate_left
 have mP:Hid True:=trivial
 rotate_left
 all_goals
  intro v t cv f w h hC hv0 hv1;have HK:Hid (ex t):=TlbAt.ok h;have HT:Hid (TlbAt w v t):=h;obtain ⟨a,cap,rfl,_⟩:=h;obtain ⟨sets,ways,es⟩:=t;simp only at *;obtain ⟨n,hn⟩:∃n,es.length=n:=⟨_,rfl⟩;have HN:Hid (es.length=n):=hn;rw [hn] at HT ⊢;have n1:=((Below.refl w.heap.size w).alloc (Nat.le_refl _) (Obj.cells #[.int .i64 sets,.int .i64 ways,.slice a n cap] 28)).alloc (by simp) (Obj.cells #[.int .i64 0,.int .i64 0,.slice none 0 0] 28);have HT1:Hid (TlbAt ((w.alloc (Obj.cells #[.int .i64 sets,.int .i64 ways,.slice a n cap] 28)).alloc (Obj.cells #[.int .i64 0,.int .i64 0,.slice none 0 0] 28)) (.agg #[.int .i64 sets,.int .i64 ways,.slice a n cap]) ⟨sets,ways,es⟩):=HT.out.keep n1;have H3:Hid (((w.alloc (Obj.cells #[.int .i64 sets,.int .i64 ways,.slice a n cap] 28)).alloc (Obj.cells #[.int .i64 0,.int .i64 0,.slice none 0 0] 28)).heap[w.heap.size+1]?=some (.cells #[.int .i64 0,.int .i64 0,.slice none 0 0] 28 (0,0))):=by
   have:=heap_alloc_new (w.alloc (Obj.cells #[.int .i64 sets,.int .i64 ways,.slice a n cap] 28)) (Obj.cells #[.int .i64 0,.int .i64 0,.slice none 0 0] 28);simp only [World.size_alloc] at this;exact this
  have l1:w.heap.size+1<((w.alloc (Obj.cells #[.int .i64 sets,.int .i64 ways,.slice a n cap] 28)).alloc (Obj.cells #[.int .i64 0,.int .i64 0,.slice none 0 0] 28)).heap.size:=by simp
  have HCV:Hid (∀u,Below w.heap.size w u→CovVal w.heap.size u cv f):=fun u hu=>hC.keep hu;clear HT hn hC;first
   | (replace mL:=mL;obtain ⟨qv,hqv⟩:∃q,aG ⟨sets,ways,es⟩ false=q:=⟨_,rfl⟩)
   | (replace mP:=mP;obtain ⟨qv,hqv⟩:∃q,aG ⟨sets,ways,es⟩ true=q:=⟨_,rfl⟩)
  first
   | (replace mL:=mL;have HQ:Hid (aG ⟨sets,ways,es⟩ false=qv):=hqv)
   | (replace mP:=mP;have HQ:Hid (aG ⟨sets,ways,es⟩ true=qv):=hqv)
  obtain ⟨Y,hY⟩:∃Y,es.map (cU f)=Y:=⟨_,rfl⟩;have HY:Hid (es.map (cU f)=Y):=hY;have HYl:Hid (Y.length=n):=by show _=_;rw [←hY,List.length_map];exact HN.out
  rw [hqv,hY];clear hqv hY;first
   | (replace mL:=mL;go_enter Tryz.func53,Tryz.ntmps53)
   | (replace mP:=mP;go_enter Tryz.func54,Tryz.ntmps54)
  go_wp2_with fail;generalize ((w.alloc (Obj.cells #[.int .i64 sets,.int .i64 ways,.slice a n cap] 28)).alloc (Obj.cells #[.int .i64 0,.int .i64 0,.slice none 0 0] 28))=v1 at n1 HT1 H3 l1 ⊢;first
   | (replace mL:=mL;refine (eO.1 _ ⟨sets,ways,es⟩ v1 HT1.out).mono ?_)
   | (replace mP:=mP;refine (eO.2 _ ⟨sets,ways,es⟩ v1 HT1.out).mono ?_)
  rw [HQ.out];rintro e v2 ⟨hc,n2⟩;have A2:=Below.step n1 n2 (Nat.le_refl _);have K3:=ae H3 n2;have l2:w.heap.size+1<v2.heap.size:=Nat.lt_of_lt_of_le l1 n2.size;have s1:=n1.size;clear n1 HT1 H3;cases qv
  ·dsimp only [cond] at hc;subst hc;obtain ⟨⟨d0,d1,d2⟩,e0,e1,e2⟩:=ao K3.out;go_wp2_with fail;first
    | (replace mL:=mL;exact bodyPost_ret (v:=.tuple #[.agg #[.int .i64 0,.int .i64 0,.slice none 0 0],.bool false]) (by simp [results,Tryz.results53,go_sem,d0,d1,d2,l2]) rfl ⟨rfl,by first | exact (eg A2 (by omega) _ _ _).alloc (by simp;omega) _ | exact eg (A2.alloc A2.size _) (by omega) _ _ _⟩)
    | (replace mP:=mP;exact bodyPost_ret (v:=.tuple #[.agg #[.int .i64 0,.int .i64 0,.slice none 0 0],.bool false]) (by simp [results,Tryz.results54,go_sem,d0,d1,d2,l2]) rfl ⟨rfl,by first | exact (eg A2 (by omega) _ _ _).alloc (by simp;omega) _ | exact eg (A2.alloc A2.size _) (by omega) _ _ _⟩)
  ·dsimp only [cond] at hc;obtain ⟨g,rfl,ho⟩:=hc;have hg:=bI ho;obtain ⟨_,hg1,hg2⟩:=hg;simp only at hg1 hg2 ho ⊢;rw [HN.out] at ho ⊢;first
    | (replace mL:=mL;have n3:=(Below.refl v2.heap.size v2).alloc (Nat.le_refl _) (Obj.cells #[.int .i64 sets,.int .i64 ways,.slice (some ⟨g,0,none⟩) n n] 106))
    | (replace mP:=mP;have n3:=(Below.refl v2.heap.size v2).alloc (Nat.le_refl _) (Obj.cells #[.int .i64 sets,.int .i64 ways,.slice (some ⟨g,0,none⟩) n n] 109))
   first
    | (replace mL:=mL;have H3:Hid ((v2.alloc (Obj.cells #[.int .i64 sets,.int .i64 ways,.slice (some ⟨g,0,none⟩) n n] 106)).heap[v2.heap.size]?=some (.cells #[.int .i64 sets,.int .i64 ways,.slice (some ⟨g,0,none⟩) n n] 106 (0,0))):=heap_alloc_new v2 _)
    | (replace mP:=mP;have H3:Hid ((v2.alloc (Obj.cells #[.int .i64 sets,.int .i64 ways,.slice (some ⟨g,0,none⟩) n n] 109)).heap[v2.heap.size]?=some (.cells #[.int .i64 sets,.int .i64 ways,.slice (some ⟨g,0,none⟩) n n] 109 (0,0))):=heap_alloc_new v2 _)
   first
    | (replace mL:=mL;have O3:Hid ((v2.alloc (Obj.cells #[.int .i64 sets,.int .i64 ways,.slice (some ⟨g,0,none⟩) n n] 106)).ownsRow v1.heap.size 173 6 (.slice (some ⟨g,0,none⟩) n n) n (aH es)):=aj ho n3)
    | (replace mP:=mP;have O3:Hid ((v2.alloc (Obj.cells #[.int .i64 sets,.int .i64 ways,.slice (some ⟨g,0,none⟩) n n] 109)).ownsRow v1.heap.size 183 6 (.slice (some ⟨g,0,none⟩) n n) n (aH es)):=aj ho n3)
   have A3:=Below.step A2 n3 (Nat.le_refl _);have J3:=ae K3 n3;first
    | (replace mL:=mL;have l3:v2.heap.size<(v2.alloc (Obj.cells #[.int .i64 sets,.int .i64 ways,.slice (some ⟨g,0,none⟩) n n] 106)).heap.size:=by simp)
    | (replace mP:=mP;have l3:v2.heap.size<(v2.alloc (Obj.cells #[.int .i64 sets,.int .i64 ways,.slice (some ⟨g,0,none⟩) n n] 109)).heap.size:=by simp)
   clear ho;go_wp2_with fail;first
    | (replace mL:=mL;generalize v2.alloc (Obj.cells #[.int .i64 sets,.int .i64 ways,.slice (some ⟨g,0,none⟩) n n] 106)=v5 at n3 H3 O3 A3 J3 l3 ⊢)
    | (replace mP:=mP;generalize v2.alloc (Obj.cells #[.int .i64 sets,.int .i64 ways,.slice (some ⟨g,0,none⟩) n n] 109)=v5 at n3 H3 O3 A3 J3 l3 ⊢)
   obtain ⟨⟨p0,p1,p2⟩,_,_,_⟩:=ao H3.out;first
    | (replace mL:=mL;refine (rL.1 w.heap.size cv f v2.heap.size 0 g n v1.heap.size es sets ways v5 (HCV.out v5 A3) (by omega) hv0 hv1 HN.out (by rw [←HN.out];exact HK.out.2.2.2) (by omega) (by omega) p2 O3.out (fun j x hx hv=>dX (t:=⟨sets,ways,es⟩) (dO HQ.out) j x hx hv)).mono ?_)
    | (replace mP:=mP;refine (rL.2 w.heap.size cv f v2.heap.size 0 g n v1.heap.size es sets ways v5 (HCV.out v5 A3) (by omega) hv0 hv1 HN.out (by rw [←HN.out];exact HK.out.2.2.2) (by omega) (by omega) p2 O3.out (fun j x hx hv=>dX (t:=⟨sets,ways,es⟩) (dO HQ.out) j x hx hv)).mono ?_)
   rintro e v6 ⟨rfl,o6,m6⟩;rw [HY.out] at o6;first
    | (replace mL:=mL;have O6:Hid (v6.ownsRow v1.heap.size 173 6 (.slice (some ⟨g,0,none⟩) n n) n (aH Y)):=o6)
    | (replace mP:=mP;have O6:Hid (v6.ownsRow v1.heap.size 183 6 (.slice (some ⟨g,0,none⟩) n n) n (aH Y)):=o6)
   first
    | (replace mL:=mL;have H6:Hid (v6.heap[v2.heap.size]?=some (.cells #[.int .i64 sets,.int .i64 ways,.slice (some ⟨g,0,none⟩) n n] 106 (0,0))):=av H3.out m6 (by omega))
    | (replace mP:=mP;have H6:Hid (v6.heap[v2.heap.size]?=some (.cells #[.int .i64 sets,.int .i64 ways,.slice (some ⟨g,0,none⟩) n n] 109 (0,0))):=av H3.out m6 (by omega))
   have J6:Hid (v6.heap[w.heap.size+1]?=some (.cells #[.int .i64 0,.int .i64 0,.slice none 0 0] 28 (0,0))):=av J3.out m6 (by omega);have l6:v5.heap.size≤v6.heap.size:=m6.size;have A6:Below w.heap.size w v6:=A3.grown m6 A3.size (fun k hk=>by cases hk;omega);clear o6 m6 p0 p1 p2 H3 J3 O3 A3;obtain ⟨⟨p0,p1,p2⟩,_,_,_⟩:=ao H6.out;go_wp2_with fail;first
    | (replace mL:=mL;refine (jl.1 v2.heap.size 0 g n ⟨sets,ways,Y⟩ v6 HYl.out (by rw [←HN.out];exact HK.out.2.2.2) (by omega) (by omega) p0 p1 p2 (en O6.out)).mono ?_)
    | (replace mP:=mP;refine (jl.2 v2.heap.size 0 g n ⟨sets,ways,Y⟩ v6 HYl.out (by rw [←HN.out];exact HK.out.2.2.2) (by omega) (by omega) p0 p1 p2 (en O6.out)).mono ?_)
   rintro e v7 ⟨⟨y,rfl,gy,cy,rfl,oy⟩,n7⟩;simp only at oy ⊢;have J7:=ae J6 n7;have A7:=Below.step A6 n7 (Nat.le_refl _);have gy1:=(bI oy).2.1;simp only at gy1;obtain ⟨⟨d0,d1,d2⟩,e0,e1,e2⟩:=ao J7.out;go_wp2_with fail;first
    | (replace mL:=mL;exact bodyPost_ret (v:=.tuple #[.agg #[.int .i64 sets,.int .i64 ways,.slice (some ⟨gy,0,none⟩) Y.length cy],.bool true]) (by simp [results,Tryz.results53,go_sem,d0,d1,d2]) rfl ⟨⟨_,rfl,gy,cy,rfl,aT (bZ oy (gb3 v7 (w.heap.size+1) _ _ _) (by omega)) (by omega)⟩,eg A7 (by omega) _ _ _⟩)
    | (replace mP:=mP;exact bodyPost_ret (v:=.tuple #[.agg #[.int .i64 sets,.int .i64 ways,.slice (some ⟨gy,0,none⟩) Y.length cy],.bool true]) (by simp [results,Tryz.results54,go_sem,d0,d1,d2]) rfl ⟨⟨_,rfl,gy,cy,rfl,aT (bZ oy (gb3 v7 (w.heap.size+1) _ _ _) (by omega)) (by omega)⟩,eg A7 (by omega) _ _ _⟩)
end Go.Proofs.YtaoaifmkhbgaiaaGreat

namespace Go.Proofs.YtaoaifmkhbgaiaaGreat
open Go.RowKit
set_option linter.unusedVariables false
theorem pX {base:Nat} {w w':World} {v:Value} {t:TlbM} {g:Nat} (h:TlbOwn base w v t) (hg:w.grownBy w' (some g)) (hb:g<base):TlbOwn base w' v t:=by
 obtain ⟨q,c,rfl,o⟩:=h;exact ⟨q,c,rfl,bZ o hg hb⟩
theorem rN {base base':Nat} {w:World} {v:Value} {t:TlbM} (h:TlbOwn base w v t) (hb:base'≤base):TlbOwn base' w v t:=by
 obtain ⟨q,c,rfl,o⟩:=h;exact ⟨q,c,rfl,aT o hb⟩
set_option maxHeartbeats 3200000 in
theorem it (v:Value) (t:TlbM) (f:FenceM) (w:World) (h:TlbAt w v t) (hf0:0≤f.va) (hf1:f.va≤18446744073709551615):
 Calls Tryz.prog 12 #[v,.agg #[.bool f.hasVa,.int .u64 f.va,.bool f.hasAsid,.int .u64 f.asid]] w fun e w'=>(∃y,e=.returned y∧TlbOwn w.heap.size w' y (ct t f))∧Below w.heap.size w w':=by
 have HT:Hid (TlbAt w v t):=h;obtain ⟨a,cap,rfl,_⟩:=h;obtain ⟨hv,fva,ha,fa⟩:=f;obtain ⟨sets,ways,es⟩:=t;simp only at *;obtain ⟨n,hn⟩:∃n,es.length=n:=⟨_,rfl⟩;rw [hn] at HT ⊢;clear hn;have n1:=(((Below.refl w.heap.size w).alloc (Nat.le_refl _) (Obj.cells #[.int .i64 sets,.int .i64 ways,.slice a n cap] 28)).alloc (by simp) (Obj.cells #[.bool hv,.int .u64 fva,.bool ha,.int .u64 fa] 38)).alloc (by simp;omega) (Obj.cells #[.int .i64 0,.int .i64 0,.slice none 0 0] 28);have HT1:Hid (TlbAt (((w.alloc (Obj.cells #[.int .i64 sets,.int .i64 ways,.slice a n cap] 28)).alloc (Obj.cells #[.bool hv,.int .u64 fva,.bool ha,.int .u64 fa] 38)).alloc (Obj.cells #[.int .i64 0,.int .i64 0,.slice none 0 0] 28)) (.agg #[.int .i64 sets,.int .i64 ways,.slice a n cap]) ⟨sets,ways,es⟩):=HT.out.keep n1;have H1:Hid ((((w.alloc (Obj.cells #[.int .i64 sets,.int .i64 ways,.slice a n cap] 28)).alloc (Obj.cells #[.bool hv,.int .u64 fva,.bool ha,.int .u64 fa] 38)).alloc (Obj.cells #[.int .i64 0,.int .i64 0,.slice none 0 0] 28)).heap[w.heap.size]?=some (.cells #[.int .i64 sets,.int .i64 ways,.slice a n cap] 28 (0,0))):=by
  show _=_;rw [heap_alloc_old _ _ (by simp;omega),heap_alloc_old _ _ (by simp)];exact heap_alloc_new w _
 have H3:Hid ((((w.alloc (Obj.cells #[.int .i64 sets,.int .i64 ways,.slice a n cap] 28)).alloc (Obj.cells #[.bool hv,.int .u64 fva,.bool ha,.int .u64 fa] 38)).alloc (Obj.cells #[.int .i64 0,.int .i64 0,.slice none 0 0] 28)).heap[w.heap.size+1+1]?=some (.cells #[.int .i64 0,.int .i64 0,.slice none 0 0] 28 (0,0))):=by
  have:=heap_alloc_new ((w.alloc (Obj.cells #[.int .i64 sets,.int .i64 ways,.slice a n cap] 28)).alloc (Obj.cells #[.bool hv,.int .u64 fva,.bool ha,.int .u64 fa] 38)) (Obj.cells #[.int .i64 0,.int .i64 0,.slice none 0 0] 28);simp only [World.size_alloc] at this;exact this
 have l1:w.heap.size+1+1<(((w.alloc (Obj.cells #[.int .i64 sets,.int .i64 ways,.slice a n cap] 28)).alloc (Obj.cells #[.bool hv,.int .u64 fva,.bool ha,.int .u64 fa] 38)).alloc (Obj.cells #[.int .i64 0,.int .i64 0,.slice none 0 0] 28)).heap.size:=by simp
 obtain ⟨qL,hqL⟩:∃q,aG ⟨sets,ways,es⟩ false=q:=⟨_,rfl⟩;obtain ⟨qP,hqP⟩:∃q,aG ⟨sets,ways,es⟩ true=q:=⟨_,rfl⟩;obtain ⟨Y,hY⟩:∃Y,es.map (cU ⟨hv,fva,ha,fa⟩)=Y:=⟨_,rfl⟩;obtain ⟨R,hR⟩:∃R,ct ⟨sets,ways,es⟩ ⟨hv,fva,ha,fa⟩=R:=⟨_,rfl⟩;have HRt:Hid ((qL=true∨qP=true)→R=⟨sets,ways,Y⟩):=fun h1=>by
  rw [←hR,←hY];unfold ct cY;rw [hqL,hqP,if_pos (by rcases h1 with h1 | h1 <;> rw [h1] <;> simp)]
 have HRf:Hid ((qL=false∧qP=false)→R=⟨sets,ways,es⟩):=fun h1=>by
  rw [←hR];unfold ct cY;rw [hqL,hqP,h1.1,h1.2,if_neg (by simp)]
 have HL:Hid (∀cv u,TlbAt u (.agg #[.int .i64 sets,.int .i64 ways,.slice a n cap]) ⟨sets,ways,es⟩→CovVal u.heap.size u cv ⟨hv,fva,ha,fa⟩→Calls Tryz.prog 53 #[.agg #[.int .i64 sets,.int .i64 ways,.slice a n cap],cv] u fun e w'=>cond qL (xI u.heap.size w' e ⟨sets,ways,Y⟩) (e=.returned (.tuple #[.agg #[.int .i64 0,.int .i64 0,.slice none 0 0],.bool false]))∧Below u.heap.size u w'):=fun cv u hu hc=>by
  have:=lW.1 _ ⟨sets,ways,es⟩ cv ⟨hv,fva,ha,fa⟩ u hu hc hf0 hf1;rw [hqL,hY] at this;exact this
 have HP:Hid (∀cv u,TlbAt u (.agg #[.int .i64 sets,.int .i64 ways,.slice a n cap]) ⟨sets,ways,es⟩→CovVal u.heap.size u cv ⟨hv,fva,ha,fa⟩→Calls Tryz.prog 54 #[.agg #[.int .i64 sets,.int .i64 ways,.slice a n cap],cv] u fun e w'=>cond qP (xJ u.heap.size w' e ⟨sets,ways,Y⟩) (e=.returned (.tuple #[.agg #[.int .i64 0,.int .i64 0,.slice none 0 0],.bool false]))∧Below u.heap.size u w'):=fun cv u hu hc=>by
  have:=lW.2 _ ⟨sets,ways,es⟩ cv ⟨hv,fva,ha,fa⟩ u hu hc hf0 hf1;rw [hqP,hY] at this;exact this
 have HC:Hid (∀u,TlbAt u (.agg #[.int .i64 sets,.int .i64 ways,.slice a n cap]) ⟨sets,ways,es⟩→Calls Tryz.prog 55 #[.agg #[.int .i64 sets,.int .i64 ways,.slice a n cap]] u fun e w'=>(∃y,e=.returned y∧TlbOwn u.heap.size w' y ⟨sets,ways,es⟩)∧Below u.heap.size u w'):=fun u hu=>mU _ ⟨sets,ways,es⟩ u hu;rw [hR];clear hqL hqP hY hR HT;go_enter Tryz.func12,Tryz.ntmps12;go_wp2_with fail;generalize (((w.alloc (Obj.cells #[.int .i64 sets,.int .i64 ways,.slice a n cap] 28)).alloc (Obj.cells #[.bool hv,.int .u64 fva,.bool ha,.int .u64 fa] 38)).alloc (Obj.cells #[.int .i64 0,.int .i64 0,.slice none 0 0] 28))=v0 at n1 HT1 H1 H3 l1 ⊢;refine (rl hv fva ha fa v0 hf0 hf1).mono ?_;rintro e v1 ⟨hcov,n0⟩;obtain ⟨cv,rfl,hcv⟩:=hcov.val;have HCv:Hid (CovVal v1.heap.size v1 cv ⟨hv,fva,ha,fa⟩):=hcv;replace H1:=ae H1 n0;replace H3:=ae H3 n0;replace HT1:Hid (TlbAt v1 (.agg #[.int .i64 sets,.int .i64 ways,.slice a n cap]) ⟨sets,ways,es⟩):=HT1.out.keep n0;replace n1:=Below.step n1 n0 (Nat.le_refl _);replace l1:w.heap.size+1+1<v1.heap.size:=Nat.lt_of_lt_of_le l1 n0.size;clear hcov hcv n0;obtain ⟨⟨c0,c1,c2⟩,_,_,_⟩:=ao H1.out;go_wp2_with fail;refine (HL.out cv v1 HT1.out HCv.out).mono ?_;rintro e v2 ⟨hc,n2⟩;have A2:=Below.step n1 n2 (Nat.le_refl _);have K1:=ae H1 n2;have J2:=ae H3 n2;have T2:TlbAt v2 (.agg #[.int .i64 sets,.int .i64 ways,.slice a n cap]) ⟨sets,ways,es⟩:=HT1.out.keep n2;have C2:=HCv.out.keep n2;have l2:w.heap.size+1+1<v2.heap.size:=Nat.lt_of_lt_of_le l1 n2.size;have n2':=n2.size;clear n2 n1 HT1 H1 H3 HCv c0 c1 c2 HL;cases qL
 ·dsimp only [cond] at hc;subst hc;have n3:=(Below.refl v2.heap.size v2).alloc (Nat.le_refl _) (Obj.cells #[.int .i64 0,.int .i64 0,.slice none 0 0] 28);have A3:=Below.step A2 n3 (Nat.le_refl _);have P1:=ae K1 n3;have J3:=ae J2 n3;have T3:=T2.keep n3;have C3:=C2.keep n3;have m0:w.heap.size<v2.heap.size:=by omega
  have l3:w.heap.size+1+1<(v2.alloc (Obj.cells #[.int .i64 0,.int .i64 0,.slice none 0 0] 28)).heap.size:=by simp;omega
  obtain ⟨⟨c0,c1,c2⟩,_,_,_⟩:=ao K1.out;go_wp2_with fail;generalize v2.alloc (Obj.cells #[.int .i64 0,.int .i64 0,.slice none 0 0] 28)=v3 at n3 A3 P1 J3 T3 C3 l3 ⊢;refine (HP.out cv v3 T3 (C3.up (Nat.le_trans n2' n3.size))).mono ?_;rintro e v4 ⟨hc,n4⟩;have A4:=Below.step A3 n4 (Nat.le_refl _);have J4:=ae J3 n4;have R1:=ae P1 n4;have T4:=T3.keep n4;have l4:w.heap.size+1+1<v4.heap.size:=Nat.lt_of_lt_of_le l3 n4.size;have n4s:=n4.size;have n3s:=n3.size;clear n3 n4 A3 J3 P1 T3 K1 J2 T2 A2 C2 C3 c0 c1 c2;cases qP
  ·dsimp only [cond] at hc;subst hc;have hr:=HRf.out ⟨by trivial,by trivial⟩;subst hr;have n5:=(Below.refl v4.heap.size v4).alloc (Nat.le_refl _) (Obj.cells #[.int .i64 0,.int .i64 0,.slice none 0 0] 28);have A5:=Below.step A4 n5 (Nat.le_refl _);have J5:=ae J4 n5;have T5:=T4.keep n5;have l5:w.heap.size+1+1<(v4.alloc (Obj.cells #[.int .i64 0,.int .i64 0,.slice none 0 0] 28)).heap.size:=by simp;omega
   have m2:w.heap.size<v4.heap.size:=by omega
   obtain ⟨⟨c0,c1,c2⟩,_,_,_⟩:=ao R1.out;go_wp2_with fail;generalize v4.alloc (Obj.cells #[.int .i64 0,.int .i64 0,.slice none 0 0] 28)=v5 at n5 A5 J5 T5 l5 ⊢;refine (HC.out v5 T5).mono ?_;rintro e v6 ⟨⟨y,rfl,hy⟩,n6⟩;have J6:=ae J5 n6;have A6:=Below.step A5 n6 (Nat.le_refl _);have hy2:=hy;obtain ⟨gy,cy,rfl,_⟩:=hy2;obtain ⟨⟨d0,d1,d2⟩,e0,e1,e2⟩:=ao J6.out;simp only at hy ⊢;go_wp2_with fail;exact bodyPost_ret (v:=.agg #[.int .i64 sets,.int .i64 ways,.slice (some ⟨gy,0,none⟩) es.length cy]) (by simp [results,Tryz.results12,go_sem,d0,d1,d2]) rfl ⟨⟨_,rfl,rN (pX hy (gb3 v6 (w.heap.size+1+1) _ _ _) (by omega)) (by omega)⟩,eg A6 (by omega) _ _ _⟩
  ·dsimp only [cond] at hc;have hr:=HRt.out (.inr (by trivial));subst hr;obtain ⟨y,rfl,hy⟩:=hc;have hy2:=hy;obtain ⟨gy,cy,rfl,oy⟩:=hy2;have hgy:=(bI oy).2.2;simp only at hy hgy ⊢;obtain ⟨⟨d0,d1,d2⟩,e0,e1,e2⟩:=ao J4.out;go_wp2_with fail;exact bodyPost_ret (v:=.agg #[.int .i64 sets,.int .i64 ways,.slice (some ⟨gy,0,none⟩) Y.length cy]) (by simp [results,Tryz.results12,go_sem,d0,d1,d2,l4]) rfl ⟨⟨_,rfl,rN (TlbOwn.keep (pX hy (gb3 v4 (w.heap.size+1+1) _ _ _) (by omega)) ((Below.refl _ _).alloc (Nat.le_refl _) _)) (by omega)⟩,(eg A4 (by omega) _ _ _).alloc (by simp;omega) _⟩
 ·dsimp only [cond] at hc;have hr:=HRt.out (.inl (by trivial));subst hr;obtain ⟨y,rfl,hy⟩:=hc;have hy2:=hy;obtain ⟨gy,cy,rfl,oy⟩:=hy2;have hgy:=(bI oy).2.2;simp only at hy hgy ⊢;obtain ⟨⟨d0,d1,d2⟩,e0,e1,e2⟩:=ao J2.out;go_wp2_with fail;exact bodyPost_ret (v:=.agg #[.int .i64 sets,.int .i64 ways,.slice (some ⟨gy,0,none⟩) Y.length cy]) (by simp [results,Tryz.results12,go_sem,d0,d1,d2,l2]) rfl ⟨⟨_,rfl,rN (TlbOwn.keep (pX hy (gb3 v2 (w.heap.size+1+1) _ _ _) (by omega)) ((Below.refl _ _).alloc (Nat.le_refl _) _)) (by omega)⟩,(eg A2 (by omega) _ _ _).alloc (by simp;omega) _⟩
end Go.Proofs.YtaoaifmkhbgaiaaGreat
