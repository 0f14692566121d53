/- What open, shut and turn of layer 6 (modes) leave  -/
import Derived.Test.YtkolpaonccmgiaaGreatDoorMdM
import Derived.Deep.RegionLaw
set_option linter.unusedVariables false
namespace Go.Proofs.YtkolpaonccmgiaaGreatDoor
set_option linter.unusedSectionVars false
set_option linter.unusedVariables false
open Go.RowKit
theorem infoF:(Tryz.prog.info? 160).map (fun i=>(i.zero,i.size,i.bytes))=some (some (.agg #[.int .i64 0,.int .i64 0]),2,16):=by kernel_rfl
theorem step_app_frame {ops:Array Oper} {o:Oper} {a:Act} {w:World} {K:Act→World→Prop} {Q:Exit→Act→World→Prop} {E:Prop} (hgd:o.guard=none) (s x:Operand)
  (ho:o.op=.call { callee:=.builtin .append,args:=#[s,x],argTypes:=#[150,150] })
  (g n0 c0:Nat) (xs0:List Value) (hs:a.eval s=.slice (some ⟨g,0,none⟩) n0 c0) (hown:w.ownsRow 0 160 2 (.slice (some ⟨g,0,none⟩) n0 c0) n0 xs0) (b m p:Nat)
  (hx:a.eval x=.slice (some ⟨b,0,none⟩) 1 1) (hb:Blk w b #[.int .i64 (m:Int),.int .i64 (p:Int)] 160) (hl:n0≤1000000)
  (h:∀g' c' w',w'.ownsRow 0 160 2 (.slice (some ⟨g',0,none⟩) (n0+1) c') (n0+1) (xs0++ [.int .i64 (m:Int),.int .i64 (p:Int)])→w.grownBy w' (some g)→(g'=g∨g'=w.heap.size)→K (a.put o.dst (.slice (some ⟨g',0,none⟩) (n0+1) c')) w'):
  if Region.wanted o (yielded ops a.tmps)=true then Oper.wp Tryz.prog o a w K Q else E:=by
 have hw:Region.wanted o (yielded ops a.tmps)=true:=by simp [Region.wanted,hgd]
 rw [if_pos hw]
 obtain⟨i,hi,hz,hsize,hby⟩:=info_parts infoF
 have hnews:∀j u,[Value.int .i64 (m:Int),.int .i64 (p:Int)][j]?=some u→w.cell? ((⟨b,0,none⟩:Addr).add j)=some u:=by
  intro j u hj
  rw [Addr.add_lit,hb.cell,Nat.zero_add]
  simpa using hj
 obtain⟨v',w',hr',h2,h3,h4,h5⟩:=run_append_own_at (P:=Tryz.prog) w 0 150 o.type 160 i _ 2 16 Tryz.underlying150 hi hz hsize hby rfl (by omega) _ n0 xs0 hown ⟨b,0,none⟩ 1 1 [.int .i64 (m:Int),.int .i64 (p:Int)] rfl hnews
  (by intro u hu;simp at hu;rcases hu with rfl|rfl<;>rfl) (by unfold maxLen;omega) (by omega) (Nat.zero_le _)
 unfold Oper.wp execOp
 simp only [ho,resolve,invoke,builtin,Sem.run_bind,Sem.run_pure,Result.andThen_ok,List.map_toArray,List.map_cons,List.map_nil,hs,hx,hr']
 rcases h2.2 with⟨hv,hn⟩|⟨g',c',cur,hv,h6⟩
 ·omega
 ·subst hv
  refine h g' c' w' h2 h3 ?_
  rcases h5 with h5|h5
  ·exact .inl (by simpa [Value.ownBlock]using h5)
  ·exact .inr (by simpa [Value.ownBlock]using h5)
section
variable (mb g cap p:Nat) (w:World)
set_option maxHeartbeats 1000000 in
theorem open_any (m:Nat) (st:List Fr) (fresh:Bool) (hM:Mc w mb g cap ⟨st,fresh⟩ p) (hl:st.length≤1000000):
  Calls Tryz.prog 254 #[.pointer (some ⟨mb,0,none⟩),.int .i64 (m:Int)] w fun e w'=>(∃v,e=.returned v)∧McTo w mb g ⟨(m,p)::st,fresh⟩ p w':=by
 have c0:w.cell? ⟨mb,0,none⟩=some (.slice (some ⟨g,0,none⟩) st.length cap):=hM.obj.cell 0
 have c2:w.cell? ⟨mb,2,none⟩=some (.int .i64 p):=hM.obj.cell 2
 have hlt:=hM.obj.lt
 have hne:¬w.heap.size=mb:=by omega
 have f0:=hM.obj.frozen 0
 have hR:∀X,Frm (fun _=>False) w X→X.ownsRow 0 160 2 (.slice (some ⟨g,0,none⟩) st.length cap) st.length (cellsF st.reverse):=fun X hX=>by
  have:=(hM.row.frm hX (fun h=>h)).owns
  rwa [List.length_reverse]at this
 go_enter Tryz.func254,Tryz.ntmps254
 go_wp2
 have hgm:some mb≠some g:=fun e=>hM.ne (by simpa using e.symm)
 go_region_law (refine step_app_frame (by rfl) _ _ (by rfl) g st.length cap (cellsF st.reverse) (by rfl) (hR _ (((Frm.refl _ _).alloc _).drew)) w.heap.size m p (by rfl) ((Blk.new w _ _).drew) hl ?_;intro g' c' w' hown hgr hg';have o7:=((hM.obj.alloc (.cells #[.int .i64 (m:Int),.int .i64 (p:Int)] 160)).drew).grown hgr hgm;have d0:w'.cell? ⟨mb,0,none⟩=some (.slice (some ⟨g,0,none⟩) st.length cap):=o7.cell 0;have df:=o7.frozen 0)
 all_goals
  go_wp2
  refine bodyPost_end (results_none rfl _ _ _) rfl ?_
  have hF:Frm (mfoot mb g) w w':=(((Frm.refl (mfoot mb g) w).alloc _).drew).grown hgr (fun k hk=> .inl (.inr (by simpa using hk.symm)))
  have hgl:g<w.heap.size:=hM.row.lt
  have hsz:(w.alloc (.cells #[.int .i64 (m:Int),.int .i64 (p:Int)] 160)).drew.heap.size=w.heap.size+1:=World.size_alloc _ _
  rw [hsz]at hg'
  have hgn:g'≠mb:=by
   rcases hg' with rfl|rfl
   ·exact hM.ne
   ·omega
  have hgw:g'=g∨w.heap.size≤g':=by omega
  have e:cellsF ((m,p)::st).reverse=cellsF st.reverse++ [Value.int .i64 (m:Int),.int .i64 (p:Int)]:=by
   rw [List.reverse_cons,cellsF_append];rfl
  rw [←e]at hown
  obtain⟨g2,cap2,hv,_,hfw⟩:=Fw.of_owns hown (by simp) (by omega)
  cases hv
  refine⟨⟨_,rfl⟩,_,_,⟨o7.set 0 _,hgn,?_⟩,hF.setCell 0 (.inl (.inl rfl)) _,hgw⟩
  exact hfw.frm (Frm.setCell (p:=fun k=>k=mb) (Frm.refl _ w') 0 (.inl rfl) _) hgn
set_option maxHeartbeats 1000000 in
theorem shut_any (a:Fr) (r:List Fr) (fresh:Bool) (hM:Mc w mb g cap ⟨a::r,fresh⟩ p) (hl:r.length≤1000000):
  Calls Tryz.prog 221 #[.pointer (some ⟨mb,0,none⟩)] w fun e w'=>(∃v,e=.returned v)∧Mc w' mb g cap ⟨r,fresh⟩ p∧Frm (mfoot mb g) w w':=by
 obtain⟨z,hz⟩:∃z,z=r.length+1:=⟨_,rfl⟩
 have c0:w.cell? ⟨mb,0,none⟩=some (.slice (some ⟨g,0,none⟩) z cap):=by rw [hz];exact hM.obj.cell 0
 have f0:=hM.obj.frozen 0
 have hlen:=hM.row.le
 simp at hlen
 have e1:IntKind.i64.wrap ((z:Int) - 1)=(r.length:Int):=by rw [IntWalk.i64_in _ (by omega)];omega
 have q1:(r.length:Int)≤(cap:Int):=by omega
 have q2:(r.length:Int)≤(z:Int):=by omega
 have q0:(0:Int)≤(r.length:Int):=by omega
 obtain⟨k,hk⟩:∃k,r.length=k:=⟨_,rfl⟩
 rw [hk]at*
 have HZ:=Lib.hid hz
 have HK:=Lib.hid hk
 clear hz hk
 go_enter Tryz.func221,Tryz.ntmps221
 go_wp2
 go_region
 all_goals
  go_wp2
  refine bodyPost_end (results_none rfl _ _ _) rfl ?_
  refine⟨⟨_,rfl⟩,⟨(hM.obj.set 0 _).drew,hM.ne,?_⟩,((Frm.refl _ w).setCell 0 (.inl (.inl rfl)) _).drew⟩
  have h1:=hM.row
  rw [List.reverse_cons]at h1
  exact h1.init.frm ((Frm.refl (fun k=>k=mb) w).setCell 0 (.inl rfl) (.slice (some ⟨g,0,none⟩) r.length cap)).drew hM.ne
set_option maxHeartbeats 1000000 in
theorem turn_any (m f n:Nat) (r:List Fr) (fresh:Bool) (hM:Mc w mb g cap ⟨(m,f)::r,fresh⟩ p) (hl:r.length≤1000000):
  Calls Tryz.prog 220 #[.pointer (some ⟨mb,0,none⟩),.int .i64 (n:Int)] w fun e w'=>(∃v,e=.returned v)∧Mc w' mb g cap ⟨(n,f)::r,fresh⟩ p∧Frm (mfoot mb g) w w':=by
 obtain⟨z,hz⟩:∃z,z=r.length+1:=⟨_,rfl⟩
 have c0:w.cell? ⟨mb,0,none⟩=some (.slice (some ⟨g,0,none⟩) z cap):=by rw [hz];exact hM.obj.cell 0
 have c1:=(hM.row.cell (j:=r.length) (x:=(m,f)) (by simp)).1
 simp only at c1
 have f1:=hM.row.frozen (r.length*2)
 have e1:IntKind.i64.wrap ((z:Int) - 1)=(r.length:Int):=by rw [IntWalk.i64_in _ (by omega)];omega
 have q1:(r.length:Int)<(z:Int):=by omega
 have q0:(0:Int)≤(r.length:Int):=by omega
 obtain⟨k,hk⟩:∃k,r.length=k:=⟨_,rfl⟩
 rw [hk]at*
 have HZ:=Lib.hid hz
 have HK:=Lib.hid hk
 clear hz hk
 go_enter Tryz.func220,Tryz.ntmps220
 go_wp2
 go_region
 all_goals
  go_wp2
  refine bodyPost_end (results_none rfl _ _ _) rfl ?_
  refine⟨⟨_,rfl⟩,⟨(hM.obj.other _ _ (Ne.symm hM.ne)).drew,hM.ne,?_⟩,((Frm.refl _ w).setCell _ (.inl (.inr rfl)) _).drew⟩
  have h1:=hM.row
  rw [List.reverse_cons]at h1 ⊢
  have h2:=h1.turn n
  rw [List.length_reverse]at h2
  exact h2.frm ((Frm.refl (fun _=>False) _).drew) (fun h=>h)
end
theorem Mc.to {w:World} {mb g cap:Nat} {x:Ms} {p:Nat} (h:Mc w mb g cap x p):McTo w mb g x p w:=⟨g,cap,h,Frm.refl _ _,.inl rfl⟩
theorem Mc.fr {w:World} {mb g cap:Nat} {st:List Fr} {fresh:Bool} {p:Nat} (h:Mc w mb g cap ⟨st,fresh⟩ p) (v:Bool):Mc (w.setCell ⟨mb,1,none⟩ (.bool v)) mb g cap ⟨st,v⟩ p:=
 ⟨h.obj.set 1 _,h.ne,h.row.frm (Frm.setCell (p:=fun k=>k=mb) (Frm.refl _ _) 1 (.inl rfl) _) h.ne⟩
theorem Mc.at {w:World} {mb g cap:Nat} {x:Ms} {p:Nat} (h:Mc w mb g cap x p) (q:Nat):Mc (w.setCell ⟨mb,2,none⟩ (.int .i64 (q:Int))) mb g cap x q:=
 ⟨h.obj.set 2 _,h.ne,h.row.frm (Frm.setCell (p:=fun k=>k=mb) (Frm.refl _ _) 2 (.inl rfl) _) h.ne⟩
theorem McTo.fr {w w':World} {mb g:Nat} {st:List Fr} {fresh:Bool} {p:Nat} (h:McTo w mb g ⟨st,fresh⟩ p w') (v:Bool):McTo w mb g ⟨st,v⟩ p (w'.setCell ⟨mb,1,none⟩ (.bool v)):=by
 obtain⟨g',cap',h1,h2,h3⟩:=h
 exact⟨g',cap',h1.fr v,h2.setCell 1 (.inl (.inl rfl)) _,h3⟩
theorem McTo.at {w w':World} {mb g:Nat} {x:Ms} {p:Nat} (h:McTo w mb g x p w') (q:Nat):McTo w mb g x q (w'.setCell ⟨mb,2,none⟩ (.int .i64 (q:Int))):=by
 obtain⟨g',cap',h1,h2,h3⟩:=h
 exact⟨g',cap',h1.at q,h2.setCell 2 (.inl (.inl rfl)) _,h3⟩
theorem McTo.drewN {w w':World} {mb g:Nat} {x:Ms} {p:Nat} (h:McTo w mb g x p w') (q:Nat):McTo w mb g x p (w'.drewN q):=by
 obtain⟨g',cap',h1,h2,h3⟩:=h
 exact⟨g',cap',h1.frm ((Frm.refl (fun _=>False) w').drewN q) (fun h=>h) (fun h=>h),h2.drewN q,h3⟩
theorem McTo.trans {w w1 w2:World} {mb g g1:Nat} {x y:Ms} {p q:Nat} (hF:Frm (mfoot mb g) w w1) (hg:g1=g∨w.heap.size≤g1) (k:McTo w1 mb g1 y q w2):McTo w mb g y q w2:=by
 obtain⟨g2,cap2,k1,k2,k3⟩:=k
 refine⟨g2,cap2,k1,hF.trans k2 ?_,?_⟩
 ·intro i hi hh
  rcases hh with hh|hh
  ·exact .inl hh
  ·rcases hg with hg|hg
   ·exact .inr (hh.trans hg)
   ·omega
 ·have:=hF.size
  omega
def openedN (b:Nat):Nat:=if b=39 then 4 else if b=34 then 5 else if b=96 then 6 else if b=36 then 12 else 13
set_option maxHeartbeats 1000000 in
theorem opened_any (b:Nat) (w:World):Calls Tryz.prog 255 #[.int .u8 b] w fun e w'=>e=.returned (.int .i64 (openedN b:Nat))∧w'=w:=by
 go_enter Tryz.func255,Tryz.ntmps255
 go_wp2
 all_goals
  go_ret
  refine⟨ret_int ?_,rfl⟩
  simp only [beq_iff_eq,beq_eq_false_iff_ne,ne_eq]at*
  unfold openedN
  (repeat' split)<;>omega
set_option maxHeartbeats 1000000 in
theorem braced_any (m:Nat) (w:World):Calls Tryz.prog 256 #[.int .i64 m] w fun e w'=>e=.returned (.int .i64 (brace m:Nat))∧w'=w:=by
 go_enter Tryz.func256,Tryz.ntmps256
 go_wp2
 all_goals
  go_ret
  refine⟨ret_int ?_,rfl⟩
  try simp only [beq_iff_eq,beq_eq_false_iff_ne,ne_eq]at*
  unfold brace
  (repeat' split)<;>omega
section
variable (mb g cap p:Nat) (w:World)
set_option maxHeartbeats 1000000 in
theorem quoted_any (b sh:Nat) (op:ByteArray) (a:Fr) (r:List Fr) (fresh:Bool) (hM:Mc w mb g cap ⟨a::r,fresh⟩ p) (hl:r.length≤100000) (hb:b<256):
  Calls Tryz.prog 241 #[.pointer (some ⟨mb,0,none⟩),.int .u8 b,.int .u8 sh,.string op] w fun e w'=>(∃v,e=.returned v)∧
   McTo w mb g ⟨if b=sh then r else if inB b op=true then(openedN b,p)::a::r else a::r,fresh⟩ p w':=by
 by_cases h1:b=sh
 ·rw [if_pos h1]
  subst h1
  go_enter Tryz.func241,Tryz.ntmps241
  go_wp2_with fail
  refine(shut_any mb g cap p _ a r fresh hM (by omega)).mono ?_
  rintro e w1 ⟨⟨v,rfl⟩,hM1,hF⟩
  go_wp2
  refine bodyPost_end (results_none rfl _ _ _) rfl ?_
  exact⟨⟨_,rfl⟩,_,_,hM1,hF,.inl rfl⟩
 ·rw [if_neg h1]
  have t1:((b:Int)==(sh:Int))=false:=beq_eq_false_iff_ne.2 (by omega)
  by_cases h2:inB b op=true
  ·rw [if_pos h2]
   go_enter Tryz.func241,Tryz.ntmps241
   go_wp2_with fail
   refine(index_inB _ _ hb _).mono ?_
   rintro e w1 ⟨⟨x,rfl,hx⟩,rfl⟩
   rw [h2]at hx
   go_wp2_with fail
   refine(opened_any b _).mono ?_
   rintro e w1 ⟨rfl,rfl⟩
   go_wp2_with fail
   refine(open_any mb g cap p _ (openedN b) _ fresh hM (by simp;omega)).mono ?_
   rintro e w1 ⟨⟨v,rfl⟩,hM1⟩
   go_wp2
   refine bodyPost_end (results_none rfl _ _ _) rfl ?_
   exact⟨⟨_,rfl⟩,hM1⟩
  ·rw [if_neg h2]
   have h2':inB b op=false:=by simpa using h2
   go_enter Tryz.func241,Tryz.ntmps241
   go_wp2_with fail
   refine(index_inB _ _ hb _).mono ?_
   rintro e w1 ⟨⟨x,rfl,hx⟩,rfl⟩
   rw [h2']at hx
   go_wp2
   refine bodyPost_end (results_none rfl _ _ _) rfl ?_
   exact⟨⟨_,rfl⟩,hM.to⟩
set_option maxHeartbeats 1000000 in
theorem arith_any (b m f:Nat) (r:List Fr) (fresh:Bool) (hM:Mc w mb g cap ⟨(m,f)::r,fresh⟩ p) (hl:r.length≤100000) (hb:b<256) (hm:m=9∨m=10):
  Calls Tryz.prog 242 #[.pointer (some ⟨mb,0,none⟩),.int .i64 m,.int .u8 b] w fun e w'=>(∃v,e=.returned v)∧McTo w mb g (plainF ((m,f)::r) fresh b p) p w':=by
 have hq:∀b,inB b ⟨#[92,36,96]⟩=decide (opn b≠15):=by
  intro b
  rw [Bool.eq_iff_iff,decide_eq_true_iff]
  simp [inB]
  unfold opn
  (repeat' split)<;>omega
 have hop:opn b≠15→openedN b=opn b:=by
  intro h
  unfold opn openedN at*
  (repeat' split)<;>simp_all
 by_cases h1:b=40
 ·subst h1
  have e:plainF ((m,f)::r) fresh 40 p=⟨(10,p)::(m,f)::r,fresh⟩:=by rcases hm with rfl|rfl<;>rfl
  rw [e]
  go_enter Tryz.func242,Tryz.ntmps242
  go_wp2_with fail
  refine(open_any mb g cap p _ 10 _ fresh hM (by simp;omega)).mono ?_
  rintro e w1 ⟨⟨v,rfl⟩,hM1⟩
  go_wp2
  refine bodyPost_end (results_none rfl _ _ _) rfl ?_
  exact⟨⟨_,rfl⟩,hM1⟩
 ·by_cases h2:b=41∧m=9
  ·obtain⟨rfl,rfl⟩:=h2
   have e:plainF ((9,f)::r) fresh 41 p=⟨(11,f)::r,fresh⟩:=rfl
   rw [e]
   go_enter Tryz.func242,Tryz.ntmps242
   go_wp2_with fail
   refine(turn_any mb g cap p _ 9 f 11 r fresh hM (by omega)).mono ?_
   rintro e w1 ⟨⟨v,rfl⟩,hM1,hF⟩
   go_wp2
   refine bodyPost_end (results_none rfl _ _ _) rfl ?_
   exact⟨⟨_,rfl⟩,_,_,hM1,hF,.inl rfl⟩
  ·have t1:((b:Int)==40)=false:=beq_eq_false_iff_ne.2 (by omega)
   have e:plainF ((m,f)::r) fresh b p=⟨if b=41 then r else if inB b ⟨#[92,36,96]⟩=true then(openedN b,p)::(m,f)::r else(m,f)::r,fresh⟩:=by
    show fin (mv m b fresh) ((m,f)::r) p=_
    rw [hq]
    by_cases h3:b=41
    ·obtain rfl:m=10:=by omega
     subst h3
     rfl
    ·rw [if_neg h3]
     by_cases h4:opn b=15
     ·have e:mv m b fresh=(.keep,fresh):=by rcases hm with rfl|rfl<;>simp [mv,isProg,h1,h3,h4]
      rw [e]
      simp [h4,fin,Mv.run]
     ·have e:mv m b fresh=(.push (opn b),fresh):=by rcases hm with rfl|rfl<;>simp [mv,isProg,h4]
      rw [e]
      simp [h4,fin,Mv.run,hop h4]
   obtain⟨X,hX⟩:∃X,plainF ((m,f)::r) fresh b p=X:=⟨_,rfl⟩
   rw [hX]at e ⊢
   have HE:=Lib.hid e
   clear hq e hop hX
   have key:(b=41∧((b:Int)==41)=true∧((m:Int)==9)=false)∨(b≠41∧((b:Int)==41)=false):=by
    by_cases h:b=41
    ·exact .inl ⟨h,beq_iff_eq.2 (by omega),beq_eq_false_iff_ne.2 (by omega)⟩
    ·exact .inr ⟨h,beq_eq_false_iff_ne.2 (by omega)⟩
   have hcall:=quoted_any mb g cap p w b 41 ⟨#[92,36,96]⟩ (m,f) r fresh hM hl hb
   rw [←HE.out]at hcall
   clear h2
   rcases key with⟨h41,_,t3⟩|⟨_,t2⟩
   ·subst h41
    go_enter Tryz.func242,Tryz.ntmps242
    go_wp2_with fail
    refine hcall.mono ?_
    rintro e w1 ⟨⟨v,rfl⟩,hM1⟩
    go_wp2
    refine bodyPost_end (results_none rfl _ _ _) rfl ?_
    exact⟨⟨_,rfl⟩,hM1⟩
   ·go_enter Tryz.func242,Tryz.ntmps242
    go_wp2_with fail
    refine hcall.mono ?_
    rintro e w1 ⟨⟨v,rfl⟩,hM1⟩
    go_wp2
    refine bodyPost_end (results_none rfl _ _ _) rfl ?_
    exact⟨⟨_,rfl⟩,hM1⟩
end
section
variable (mb g cap p:Nat) (w:World)
set_option maxHeartbeats 2000000 in
theorem dollar_any (b f:Nat) (r:List Fr) (fresh:Bool) (hM:Mc w mb g cap ⟨(12,f)::r,fresh⟩ p) (hl:r.length≤100000) (hr:r≠ []) (X:Ms)
  (hX:Hid (X=if b=40 then⟨(3,f)::r,true⟩else if b=123 then⟨(brace (top r),f)::r,fresh⟩else⟨r,fresh⟩)):
  Calls Tryz.prog 243 #[.pointer (some ⟨mb,0,none⟩),.int .u8 b] w fun e w'=>(∃v,e=.returned v)∧McTo w mb g X p w':=by
 by_cases h1:b=40
 ·subst h1
  have e:X=⟨(3,f)::r,true⟩:=hX.out
  clear hX
  subst e
  go_enter Tryz.func243,Tryz.ntmps243
  go_wp2_with fail
  refine(turn_any mb g cap p _ 12 f 3 r fresh hM (by omega)).mono ?_
  rintro e w1 ⟨⟨v,rfl⟩,hM1,hF⟩
  have d1:=hM1.obj.cell 1
  have f1:=hM1.obj.frozen 1
  go_wp2
  refine bodyPost_end (results_none rfl _ _ _) rfl ?_
  exact⟨⟨_,rfl⟩,_,_,hM1.fr true,hF.setCell 1 (.inl (.inl rfl)) _,.inl rfl⟩
 by_cases h2:b=123
 ·subst h2
  have e:X=⟨(brace (top r),f)::r,fresh⟩:=hX.out
  clear hX
  subst e
  cases r with
  |nil=>exact absurd rfl hr
  |cons a r=>
   obtain⟨m2,f2⟩:=a
   simp only [List.length_cons]at hl
   have htp:top ((m2,f2)::r)=m2:=rfl
   rw [htp]
   clear htp
   obtain⟨z,hz⟩:∃z,z=r.length+2:=⟨_,rfl⟩
   have c0:w.cell? ⟨mb,0,none⟩=some (.slice (some ⟨g,0,none⟩) z cap):=by rw [hz];exact hM.obj.cell 0
   have c1:=(hM.row.cell (j:=r.length) (x:=(m2,f2)) (by simp)).1
   simp only at c1
   have e1:IntKind.i64.wrap ((z:Int) - 2)=(r.length:Int):=by rw [IntWalk.i64_in _ (by omega)];omega
   have q1:(r.length:Int)<(z:Int):=by omega
   have q0:(0:Int)≤(r.length:Int):=by omega
   have hR:∀X,Frm (fun _=>False) w X→Mc X mb g cap ⟨(12,f)::(m2,f2)::r,fresh⟩ p:=fun X hX=>hM.frm hX (fun h=>h) (fun h=>h)
   obtain⟨k,hk⟩:∃k,r.length=k:=⟨_,rfl⟩
   rw [hk]at c1 e1 q1 q0
   have HZ:=Lib.hid hz
   have HK:=Lib.hid hk
   clear hz hk
   go_enter Tryz.func243,Tryz.ntmps243
   go_wp2
   go_region_with (first
    |(go_at_call 256;refine(braced_any _ _).mono ?_;rintro e w1 ⟨rfl,rfl⟩)
    |(go_at_call 220;refine(turn_any mb g cap p _ 12 f (brace m2) ((m2,f2)::r) fresh (hR _ ((Frm.refl _ _).drew)) (by simp;omega)).mono ?_;rintro e w1 ⟨⟨v,rfl⟩,hM1,hF⟩))
   all_goals
    go_wp2
    refine bodyPost_end (results_none rfl _ _ _) rfl ?_
    exact⟨⟨_,rfl⟩,_,_,hM1,(Frm.refl (mfoot mb g) w).drew.trans hF (fun _ _ h=>h),.inl rfl⟩
 ·have t1:((b:Int)==40)=false:=beq_eq_false_iff_ne.2 (by omega)
  have t2:((b:Int)==123)=false:=beq_eq_false_iff_ne.2 (by omega)
  have e:X=⟨r,fresh⟩:=by rw [hX.out,if_neg h1,if_neg h2]
  clear hX
  subst e
  go_enter Tryz.func243,Tryz.ntmps243
  go_wp2_with fail
  refine(shut_any mb g cap p _ (12,f) r fresh hM (by omega)).mono ?_
  rintro e w1 ⟨⟨v,rfl⟩,hM1,hF⟩
  go_wp2
  refine bodyPost_end (results_none rfl _ _ _) rfl ?_
  exact⟨⟨_,rfl⟩,_,_,hM1,hF,.inl rfl⟩
theorem mv_quote {m b:Nat} (hm:isProg m=true) (fresh:Bool) (h:cls b=4):mv m b fresh=(.push (openedN b),fresh && decide (b=92)):=by
 have hb:b=92∨b=39∨b=34∨b=96∨b=36:=by
  unfold cls at h
  repeat' split at h
  all_goals first|omega|assumption
 unfold mv
 rw [if_pos hm]
 rcases hb with rfl|rfl|rfl|rfl|rfl<;>simp [openedN,opn]
theorem mv_other {m b:Nat} (hm:isProg m=true) (fresh:Bool) (h:cls b≠4) (h1:b=35→fresh=false) (h2:b≠40) (h3:b≠41):mv m b fresh=(.keep,endsB b):=by
 have hb:b≠92∧b≠39∧b≠34∧b≠96∧b≠36:=by
  refine⟨?_,?_,?_,?_,?_⟩<;>(intro e;subst e;exact h rfl)
 have h4:¬(b=35∧fresh=true):=fun⟨a,c⟩=>by rw [h1 a]at c;cases c
 unfold mv
 rw [if_pos hm]
 simp [hb,h2,h3,h4]
set_option maxHeartbeats 2000000 in
theorem plain_any (m b f:Nat) (r:List Fr) (fresh:Bool) (hM:Mc w mb g cap ⟨(m,f)::r,fresh⟩ p) (hl:r.length≤100000) (hb:b<256) (hm:m=0∨m=1∨m=2) (X:Ms) (hX:Hid (X=plainF ((m,f)::r) fresh b p)):
  Calls Tryz.prog 240 #[.pointer (some ⟨mb,0,none⟩),.int .i64 m,.int .u8 b] w fun e w'=>(∃v,e=.returned v)∧McTo w mb g X p w':=by
 have hP:isProg m=true:=by unfold isProg;simpa using hm
 have c1:w.cell? ⟨mb,1,none⟩=some (.bool fresh):=hM.obj.cell 1
 have f1:=hM.obj.frozen 1
 have hX':X=fin (mv m b fresh) ((m,f)::r) p:=hX.out
 clear hX
 by_cases hA:b=35∧fresh=true
 ·obtain⟨rfl,rfl⟩:=hA
  have e:X=⟨(14,p)::(m,f)::r,true⟩:=by rw [hX'];unfold mv;rw [if_pos hP];rfl
  clear hX'
  subst e
  go_enter Tryz.func240,Tryz.ntmps240
  go_wp2_with fail
  refine(open_any mb g cap p _ 14 _ true hM (by simp;omega)).mono ?_
  rintro e w1 ⟨⟨v,rfl⟩,hM1⟩
  go_wp2
  refine bodyPost_end (results_none rfl _ _ _) rfl ?_
  exact⟨⟨_,rfl⟩,hM1⟩
 by_cases hB:cls b=4
 ·have h35:b≠35:=fun e=>by subst e;exact absurd hB (by decide)
  have t1:((b:Int)==35)=false:=beq_eq_false_iff_ne.2 (by omega)
  rw [mv_quote hP fresh hB]at hX'
  have e:X=⟨(openedN b,p)::(m,f)::r,fresh && decide (b=92)⟩:=hX'
  clear hX' hA
  by_cases h92:b=92
  ·subst h92
   have e':X=⟨(openedN 92,p)::(m,f)::r,fresh⟩:=by rw [e];simp
   clear e
   subst e'
   cases fresh
   all_goals
    go_enter Tryz.func240,Tryz.ntmps240
    go_wp2_with fail
    refine(of_any _ _).mono ?_
    rintro e w1 ⟨rfl,rfl⟩
    go_wp2_with fail
    refine(opened_any 92 _).mono ?_
    rintro e w1 ⟨rfl,rfl⟩
    go_wp2_with fail
    refine(open_any mb g cap p _ (openedN 92) _ _ hM (by simp;omega)).mono ?_
    rintro e w1 ⟨⟨v,rfl⟩,hM1⟩
    have hMT:=hM1
    obtain⟨g1,cap1,hM1,hF,hg⟩:=hM1
    have d1:=hM1.obj.cell 1
    have df:=hM1.obj.frozen 1
    simp at d1
    go_wp2
    refine bodyPost_end (results_none rfl _ _ _) rfl ?_
    exact⟨⟨_,rfl⟩,hMT.fr _⟩
  ·have t2:((b:Int)==92)=false:=beq_eq_false_iff_ne.2 (by omega)
   have e':X=⟨(openedN b,p)::(m,f)::r,false⟩:=by rw [e];simp [h92]
   clear e h92
   subst e'
   cases fresh
   all_goals
    go_enter Tryz.func240,Tryz.ntmps240
    go_wp2_with fail
    refine(of_any _ _).mono ?_
    rintro e w1 ⟨rfl,rfl⟩
    go_wp2_with fail
    refine(opened_any b _).mono ?_
    rintro e w1 ⟨rfl,rfl⟩
    go_wp2_with fail
    refine(open_any mb g cap p _ (openedN b) _ _ hM (by simp;omega)).mono ?_
    rintro e w1 ⟨⟨v,rfl⟩,hM1⟩
    have hMT:=hM1
    obtain⟨g1,cap1,hM1,hF,hg⟩:=hM1
    have d1:=hM1.obj.cell 1
    have df:=hM1.obj.frozen 1
    simp at d1
    go_wp2
    refine bodyPost_end (results_none rfl _ _ _) rfl ?_
    exact⟨⟨_,rfl⟩,hMT.fr _⟩
 by_cases hC:b=40
 ·subst hC
  clear hA hB
  by_cases h0:m=0
  ·subst h0
   have e:X=⟨(0,f)::r,true⟩:=hX'
   clear hX'
   subst e
   go_enter Tryz.func240,Tryz.ntmps240
   go_wp2_with fail
   refine(of_any _ _).mono ?_
   rintro e w1 ⟨rfl,rfl⟩
   go_wp2_with fail
   refine(ends_any _ _).mono ?_
   rintro e w1 ⟨rfl,rfl⟩
   go_wp2
   refine bodyPost_end (results_none rfl _ _ _) rfl ?_
   exact⟨⟨_,rfl⟩,hM.to.fr _⟩
  ·have t3:((m:Int)==0)=false:=beq_eq_false_iff_ne.2 (by omega)
   have e:X=⟨(2,p)::(m,f)::r,true⟩:=by rw [hX'];unfold mv;rw [if_pos hP];simp [h0,fin,Mv.run]
   clear hX'
   subst e
   go_enter Tryz.func240,Tryz.ntmps240
   go_wp2_with fail
   refine(of_any _ _).mono ?_
   rintro e w1 ⟨rfl,rfl⟩
   go_wp2_with fail
   refine(open_any mb g cap p _ 2 _ _ hM (by simp;omega)).mono ?_
   rintro e w1 ⟨⟨v,rfl⟩,hM1⟩
   have hMT:=hM1
   obtain⟨g1,cap1,hM1,hF,hg⟩:=hM1
   have d1:=hM1.obj.cell 1
   have df:=hM1.obj.frozen 1
   simp at d1
   go_wp2
   refine bodyPost_end (results_none rfl _ _ _) rfl ?_
   exact⟨⟨_,rfl⟩,hMT.fr _⟩
 by_cases hD:b=41
 ·subst hD
  clear hA hB hC
  by_cases h0:m=0
  ·subst h0
   have e:X=⟨(0,f)::r,true⟩:=hX'
   clear hX'
   subst e
   go_enter Tryz.func240,Tryz.ntmps240
   go_wp2_with fail
   refine(of_any _ _).mono ?_
   rintro e w1 ⟨rfl,rfl⟩
   go_wp2_with fail
   refine(ends_any _ _).mono ?_
   rintro e w1 ⟨rfl,rfl⟩
   go_wp2
   refine bodyPost_end (results_none rfl _ _ _) rfl ?_
   exact⟨⟨_,rfl⟩,hM.to.fr _⟩
  ·have t3:((m:Int)==0)=false:=beq_eq_false_iff_ne.2 (by omega)
   have e:X=⟨r,decide (m=2)⟩:=by rw [hX'];unfold mv;rw [if_pos hP];simp [h0,fin,Mv.run]
   have e2:((m:Int)==2)=decide (m=2):=by rw [Bool.eq_iff_iff,beq_iff_eq,decide_eq_true_iff];omega
   obtain⟨bb,hbb⟩:∃bb,decide (m=2)=bb:=⟨_,rfl⟩
   rw [hbb]at e e2
   clear hX' hbb
   subst e
   go_enter Tryz.func240,Tryz.ntmps240
   go_wp2_with fail
   refine(of_any _ _).mono ?_
   rintro e w1 ⟨rfl,rfl⟩
   go_wp2_with fail
   refine(shut_any mb g cap p _ (m,f) r _ hM (by omega)).mono ?_
   rintro e w1 ⟨⟨v,rfl⟩,hM1,hF⟩
   have d1:=hM1.obj.cell 1
   have df:=hM1.obj.frozen 1
   simp at d1
   go_wp2
   refine bodyPost_end (results_none rfl _ _ _) rfl ?_
   exact⟨⟨_,rfl⟩,_,_,hM1.fr _,hF.setCell 1 (.inl (.inl rfl)) _,.inl rfl⟩
 ·have t4:((b:Int)==40)=false:=beq_eq_false_iff_ne.2 (by omega)
  have t5:((b:Int)==41)=false:=beq_eq_false_iff_ne.2 (by omega)
  have t6:((cls b:Int)==4)=false:=beq_eq_false_iff_ne.2 (by omega)
  have h35:b=35→fresh=false:=fun e=>by
   rw [Bool.eq_false_iff]
   exact fun h=>hA ⟨e,h⟩
  rw [mv_other hP fresh hB h35 hC hD]at hX'
  have e:X=⟨(m,f)::r,endsB b⟩:=hX'
  clear hX' hA hB
  subst e
  by_cases h:b=35
  ·obtain rfl:=h35 h
   subst h
   go_enter Tryz.func240,Tryz.ntmps240
   go_wp2_with fail
   refine(of_any _ _).mono ?_
   rintro e w1 ⟨rfl,rfl⟩
   go_wp2_with fail
   refine(ends_any _ _).mono ?_
   rintro e w1 ⟨rfl,rfl⟩
   go_wp2
   refine bodyPost_end (results_none rfl _ _ _) rfl ?_
   exact⟨⟨_,rfl⟩,hM.to.fr _⟩
  ·have t1:((b:Int)==35)=false:=beq_eq_false_iff_ne.2 (by omega)
   clear h h35 hC hD
   go_enter Tryz.func240,Tryz.ntmps240
   go_wp2_with fail
   refine(of_any _ _).mono ?_
   rintro e w1 ⟨rfl,rfl⟩
   go_wp2_with fail
   refine(ends_any _ _).mono ?_
   rintro e w1 ⟨rfl,rfl⟩
   go_wp2
   refine bodyPost_end (results_none rfl _ _ _) rfl ?_
   exact⟨⟨_,rfl⟩,hM.to.fr _⟩
end
end Go.Proofs.YtkolpaonccmgiaaGreatDoor
