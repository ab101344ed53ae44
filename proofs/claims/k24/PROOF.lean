import PyProof.Rows.All
import Lean
import KE.KTops
import KE.KRevSl
import KE.KFromBytes
import KE.KTryMore
import KE.KItem
import KE.KUnpack
import KE.KRevIter
import PySem.Challenge.RW_piecelay_k24_shops_refused
set_option Elab.async false
set_option linter.all false
set_option maxRecDepth 100000
set_option maxHeartbeats 0
abbrev Ar:=@PySem.wpAny_bind
abbrev LD:=@PySem.Heap.get?_push_of_some
abbrev M1:=@List.getElem?_eq_some_iff
abbrev RB:=@PySem.wpAny_pure
abbrev RL:=@List.getElem?_eq_getElem
abbrev Tz:=@Bool.and_eq_true
abbrev TH:=@List.size_toArray
abbrev TJ:=@PySem.Heap.lt_size
abbrev TN:=@Nat.le_refl
abbrev TQ:=@if_neg
abbrev TR:=@Nat.lt_of_lt_of_le
abbrev TU:=@Bool.false_ne_true
abbrev TV:=@Nat.ne_of_lt
abbrev TX:=@PySem.Heap.get?_push_size
abbrev TY:=@if_pos
abbrev TZ:=@List.mem_append_right
abbrev T3:=@List.mem_cons
abbrev T4:=@List.getElem?_map
abbrev T7:=@Option.some.inj
abbrev T8:=@List.length_map
abbrev T9:=@List.map_cons
abbrev Ua:=@List.mem_cons_of_mem
abbrev Ub:=@Nat.le_trans
abbrev Uc:=@Nat.le_of_ble_eq_true
abbrev Ud:=@List.all_cons
abbrev Ue:=@of_decide_eq_true
abbrev Ug:=@Nat.eq_of_beq_eq_true
abbrev Uh:=@List.lookup_cons
abbrev Ui:=@PySem.Heap.size_push
abbrev Uj:=@List.getElem?_append_right
abbrev Uk:=@List.length_append
abbrev Ul:=@PySem.sizeLine_eq
abbrev Um:=@decide_eq_false
abbrev Uo:=@List.getElem?_append_left
abbrev Up:=@PySem.wpAny_mono
abbrev Uq:=@List.mem_cons_self
abbrev Ur:=@List.mem_singleton
abbrev Us:=@List.length_cons
abbrev Ut:=@Ne.symm
abbrev Uu:=@List.not_mem_nil
abbrev Uv:=@PySem.wpAny_truthy_bool
abbrev Uw:=@Nat.zero_le
abbrev Ux:=@PyProof.Rows.slot_tuple_getitem
abbrev Uy:=@PySem.wpAny_callSpecial?_slot
abbrev Uz:=@Nat.lt_irrefl
abbrev UA:=@PySem.wpAny_holding
abbrev UB:=@Nat.ne_of_gt
abbrev UC:=@PySem.codeAny_mono
abbrev UD:=@PySem.wpAny_Call_Name_kw
abbrev UE:=@PySem.mem_of_lookup
abbrev UG:=@PySem.wpAny_standAt
abbrev UH:=@Int.emod_lt_of_pos
abbrev UI:=@congrArg
abbrev UJ:=@List.getD_eq_getElem?_getD
abbrev UK:=@PySem.wpAny_newObj_type
abbrev UL:=@PySem.Heap.get?_push_at
abbrev UM:=@beq_eq_false_iff_ne
abbrev UN:=@List.replicate_succ
abbrev UO:=@List.mem_append
abbrev UP:=@List.getElem?_eq_none_iff
abbrev UQ:=@PySem.wpAny_call_entry
abbrev UR:=@Nat.lt_trans
abbrev US:=@List.mem_of_getElem?
abbrev UT:=@PyProof.Rows.callWith_type1
abbrev UU:=@List.find?_cons
abbrev UW:=@Int.emod_nonneg
abbrev UX:=@Nat.le_of_lt
abbrev UY:=@List.getElem?_set_self
abbrev UZ:=@List.take_of_length_le
abbrev U0:=@beq_iff_eq
abbrev U1:=@List.any_cons
abbrev U3:=@List.all_eq_true
abbrev U4:=@decide_eq_true
abbrev U5:=@PySem.wpAny_setField_rec
abbrev U6:=@PySem.wpAny_field
abbrev U7:=@PySem.wpAny_call
abbrev U8:=@Option.map_some
abbrev U9:=@PySem.F.plainAttrs_list
abbrev Va:=@Nat.lt_succ_self
abbrev Vb:=@List.length_take
abbrev Vc:=@List.drop_zero
abbrev Vd:=@PySem.W.Fast.te11892475500146522536
abbrev Ve:=@PySem.W.Fast.te14364793385576792824
abbrev Vf:=@PySem.W.kia_one
abbrev Vg:=@PyProof.Rows.F.plain_set_update_loop
abbrev Vh:=@List.append_nil
abbrev Vi:=@PySem.wpAny_passesOwn
abbrev Vj:=@Bool.eq_iff_iff
abbrev Vk:=@List.nodup_cons
abbrev Vl:=@PySem.builtinLookup_eq_fast
abbrev Vm:=@PySem.F.slot_tuple_iterator_next
abbrev Vn:=@List.flatten_cons
abbrev Vo:=@List.getElem?_set_ne
abbrev Vp:=@PySem.call_meets
abbrev Vq:=@List.drop_eq_getElem_cons
abbrev Vr:=@Nat.le_of_eq
abbrev Vs:=@PySem.wpAny_comprehension_free
abbrev Vt:=@PySem.F.called_set
abbrev Vu:=@or_false
abbrev Vv:=@PySem.wpAny_attempt
abbrev Vw:=@PySem.F.slot_list_extend
abbrev Vx:=@PySem.wpAny_pyIter_list
abbrev Vy:=@PySem.wpAny_loadPart_at
abbrev Vz:=@List.length_replicate
abbrev VA:=@Nat.ble_eq_true_of_le
abbrev VB:=@PySem.W.Fast.te10156331382660048174
abbrev VC:=@Prod.ext
abbrev VD:=@List.mem_append_left
abbrev VE:=@PySem.codeAny_call_builtin
abbrev VF:=@PySem.W.Fast.te6613529449190102663
abbrev VG:=@Array.getElem?_eq_some_iff
abbrev VH:=@Array.length_toList
abbrev VI:=@PySem.wpAny_isSubtype_exc
abbrev VJ:=@PySem.Heap.get?_update_ne
abbrev VL:=@PySem.typeLookup_type
abbrev VM:=@List.mem_filterMap
abbrev VN:=@PySem.W.callWith_K
abbrev VO:=@PyProof.Rows.KTD.isSome_datumAt
abbrev VP:=@PyProof.Rows.F.entry_set_update_loop
abbrev VQ:=@PySem.Code.quiet_builtin
abbrev VR:=@Bool.not_not
abbrev VS:=@PySem.F.type_list_extend
abbrev VT:=@PySem.W.hideAll_none
abbrev VU:=@if_true
abbrev VW:=@PySem.wpAny_seqItems
abbrev VX:=@Option.bind_eq_some_iff
abbrev VY:=@List.getElem?_replicate
abbrev VZ:=@List.append_assoc
abbrev V0:=@Nat.lt_succ_of_lt
abbrev V1:=@PySem.F.slot_list_index
abbrev V2:=@List.getElem?_inj
abbrev V3:=@Bool.not_eq_true'
abbrev V4:=@PySem.Calls.callWith_builtin
abbrev V5:=@PySem.codeAny_compStart_list
abbrev V6:=@beq_self_eq_true
abbrev V7:=@Option.getD_some
abbrev V8:=@Nat.le_add_right
abbrev V9:=@List.drop_length
abbrev Wa:=@List.take_append_drop
abbrev Wb:=@PySem.Heap.get?_update_self
abbrev Wc:=@PySem.codeAny_handlers_test
abbrev Wd:=@PySem.plainObj_wpAny_Assign_Attribute
abbrev We:=@PySem.wpAny_execs_nil
abbrev Wf:=@PySem.wpAny_rule
abbrev Wg:=@List.of_mem_zip
abbrev Wh:=@PySem.Calls.evalArgs_plain
abbrev Wi:=@PySem.F.slot_int_rmul
abbrev Wj:=@List.forIn_cons
abbrev Wk:=@PySem.codeAny_builtin
abbrev Wl:=@PySem.F.slot_zip_next
abbrev Wm:=@Nat.beq_refl
abbrev Wn:=@List.filterMap_cons
abbrev Wo:=@PySem.wpAny_raiseNew_none
abbrev Wq:=@PySem.wpAny_handleBy_cons
abbrev Wr:=@Int.negSucc_lt_zero
abbrev Ws:=@List.length_reverse
abbrev Wt:=@List.mem_range
abbrev Wu:=@Bool.false_and
abbrev Wv:=@PySem.isSubtype_type
abbrev Ww:=@PySem.SeqAt.EqAt.int_str
abbrev Wx:=@PySem.SeqAt.EqAt.str_int
abbrev Wy:=@PyProof.Rows.assignInOrder_cons
abbrev Wz:=@PyProof.Rows.IsTup.new
abbrev WA:=@PySem.Calls.spliced_cons
abbrev WB:=@PySem.F.args_tuple_add_2
abbrev WC:=@PySem.tupleKind_room_in1
abbrev WD:=@Nat.lt_of_le_of_lt
abbrev WE:=@Bool.false_eq_true
abbrev WG:=@Array.append_empty
abbrev WH:=@PySem.Paired.length
abbrev WI:=@PySem.wpAny_noRaise
abbrev WJ:=@Bool.true_and
abbrev WK:=@PySem.wpAny_assign_Name
abbrev WL:=@PySem.F.entry_tuple_add
abbrev WM:=@Int.toNat_natCast
abbrev WN:=@List.length_range
abbrev WO:=@PySem.typeIs_int
abbrev WQ:=@if_false
abbrev WR:=@PySem.W.looks_findIn
abbrev WS:=@Nat.sub_zero
section
namespace LT
open PySem PySem.W PyProof.Rows
noncomputable def ran(p:Program)(w:World)(a:Nat)(c:Option Value):Nat->SharedT->Thread->Option SharedT
 |0,_,_=>none
 |k+1,s,t=>bif through t then some s else bif Fast.tw6613529449190102663 a c t then
   (Fast.tw10156331382660048174 (Fast.tw11892475500146522536 Fast.tw14364793385576792824) p w s t).bind λx=>ran p w a c k x.1 x.2
  else none
theorem DI{p:Program}{w:World}{a:Nat}{c:Option Value}(k:Nat):∀{s d:SharedT}{t:Thread},ran p w a c k s t=some d->topRun treeTable p w a c k s.abs t=some d.abs:=by
 induction k with
 |zero=>intro s d t h;cases h
 |succ k e =>
  intro s d t h;unfold ran at h;rw[<- VF,<- VB,<- Vd,<- Ve]at h;unfold topRun;cases c1:through t
  ·cases c2:stepOk a c t
   ·rw[c1,c2]at h;cases h
   ·rw[c1,c2]at h;obtain⟨x,f,g⟩:=VX.mp (show(stepT (denote treeTable) p w s t).bind _=some d from h);rw[stepT_spec (s':=x.1) (t':=x.2) f];exact e g
  ·rw[c1]at h;cases h;rfl
noncomputable def y7(P:Params):BT:=((boot_heap P).objs.toList.foldl (λ(x:BT×Nat) o=>(x.1.ins x.2 o,x.2+1)) (BT.nil,0)).1
theorem y8:∀P,absHeap (y7 P) 11 {}=boot_heap P:=λP=>by kernel_rfl
noncomputable abbrev boot(P:Params)(os:OsState):SharedT:=⟨y7 P,11,{},#[],boot_drawn,boot_toks,os⟩
theorem y9(P:Params)(os:OsState):(boot P os).abs=⟨boot_heap P,#[],boot_drawn,boot_toks,os⟩:=by show(⟨absHeap (y7 P) 11 {},#[],boot_drawn,boot_toks,os⟩:Shared)=_;rw[y8]
theorem DP:∀P:Params,((boot_heap P).isNs mainGlobals&&(#[]:Array GenState).size==0,(boot_heap P).objs.size,(boot_heap P).nsMap mainGlobals "__annotations__")=(true,11,some (.ref 6)):=λP=>by kernel_rfl
end LT
namespace LT
section
universe u1 u2 u3 u4 u5 u6 u7 u8 u9
end
end LT
namespace LT
open PySem PySem.W PyProof.Rows
noncomputable def goes(p:Program)(w:World)(a:Nat)(c:Option Value):Nat->SharedT->Thread->Option (SharedT×Thread)
 |0,s,t=>some (s,t)
 |k+1,s,t=>bif through t then none else bif Fast.tw6613529449190102663 a c t then
   (Fast.tw10156331382660048174 (Fast.tw11892475500146522536 Fast.tw14364793385576792824) p w s t).bind λx=>goes p w a c k x.1 x.2
  else none
variable{n₀:Nat}{ann:Option Value}
theorem zJ{p:Program}{w:World}(k:Nat):∀{s a:SharedT}{t c:Thread},goes p w n₀ ann k s t=some (a,c)->topGo treeTable p w n₀ ann k s.abs t=some (a.abs,c):=by
 induction k with
 |zero=>intro s a t c h;cases h;rfl
 |succ k d =>
  intro s a t c h;unfold goes at h;rw[<- VF,<- VB,<- Vd,<- Ve]at h;unfold topGo;cases c1:through t
  ·cases c2:stepOk n₀ ann t
   ·rw[c1,c2]at h;cases h
   ·rw[c1,c2]at h;obtain⟨x,e,f⟩:=VX.mp (show(stepT (denote treeTable) p w s t).bind _=some (a,c) from h);rw[stepT_spec (s':=x.1) (t':=x.2) e];exact d f
  ·rw[c1]at h;cases h
noncomputable def ZG(p:Program)(w:World)(n₀:Nat)(ann:Option Value):Nat->SharedT->Thread->Option (Flow×SharedT×Code×Pos)
 |0,_,_=>none
 |k+1,s,t=>match endAt 1 t with
  |some f=>some (f,s,t.code,t.pos)
  |none=>bif Fast.tw6613529449190102663 n₀ ann t then
   (Fast.tw10156331382660048174 (Fast.tw11892475500146522536 Fast.tw14364793385576792824) p w s t).bind λx=>ZG p w n₀ ann k x.1 x.2
  else none
theorem my{p:Program}{w:World}(k:Nat):∀{s a:SharedT}{t:Thread}{f:Flow}{c:Code}{q:Pos},ZG p w n₀ ann k s t=some (f,a,c,q)->segRun treeTable p w n₀ ann 1 k s.abs t=some (f,a.abs,c,q):=by
 induction k with
 |zero=>intro s a t f c q h;cases h
 |succ k d =>
  intro s a t f c q h;unfold ZG at h;unfold segRun
  cases c1:endAt 1 t with
  |some x=>rw[c1]at h;cases h;rfl
  |none =>
   rw[c1]at h;dsimp only at h ⊢;rw[<- VF,<- VB,<- Vd,<- Ve]at h;cases c2:stepOk n₀ ann t
   ·rw[c2]at h;cases h
   ·rw[c2]at h;obtain⟨x,e,g⟩:=VX.mp (show(stepT (denote treeTable) p w s t).bind _=some (f,a,c,q) from h);rw[stepT_spec (s':=x.1) (t':=x.2) e];exact d g
noncomputable def zK{α:Type}:List α->List α×List α
 |[]=>([],[])
 |x::r=>match zK r with | (a,b)=>(x::b,a)
noncomputable def grown:Nat->List Obj->BT
 |0,_=>.nil
 |_,[]=>.nil
 |k+1,x::r=>match zK r with | (a,b)=>.node x (grown k a) (grown k b)
section
universe u1 u2 u3 u4 u5 u6 u7 u8 u9
variable{A:Type u1}{B:Type u2}{C:Type u3}{D:Type u4}{E:Type u5}{F:Type u6}{G:Type u7}{H:Type u8}{I:Type u9}
noncomputable def c1(x:A×B×C×D×E×F×G×H×I):A:=match x with | (a,_)=>a
noncomputable def c2(x:A×B×C×D×E×F×G×H×I):B:=match x with | (_,a,_)=>a
noncomputable def c3(x:A×B×C×D×E×F×G×H×I):C:=match x with | (_,_,a,_)=>a
noncomputable def c4(x:A×B×C×D×E×F×G×H×I):D:=match x with | (_,_,_,a,_)=>a
noncomputable def c5(x:A×B×C×D×E×F×G×H×I):E:=match x with | (_,_,_,_,a,_)=>a
noncomputable def c6(x:A×B×C×D×E×F×G×H×I):F:=match x with | (_,_,_,_,_,a,_)=>a
noncomputable def c7(x:A×B×C×D×E×F×G×H×I):G:=match x with | (_,_,_,_,_,_,a,_)=>a
noncomputable def c8(x:A×B×C×D×E×F×G×H×I):H:=match x with | (_,_,_,_,_,_,_,a,_)=>a
noncomputable def c9(x:A×B×C×D×E×F×G×H×I):I:=match x with | (_,_,_,_,_,_,_,_,a)=>a
noncomputable def d1(x:A×B×C×D×E×F×G×H×I):A:=match x with | (a,_)=>a
noncomputable def d2(x:A×B×C×D×E×F×G×H×I):B:=match x with | (_,a,_)=>a
noncomputable def d3(x:A×B×C×D×E×F×G×H×I):C:=match x with | (_,_,a,_)=>a
noncomputable def d4(x:A×B×C×D×E×F×G×H×I):D:=match x with | (_,_,_,a,_)=>a
noncomputable def d5(x:A×B×C×D×E×F×G×H×I):E:=match x with | (_,_,_,_,a,_)=>a
noncomputable def d6(x:A×B×C×D×E×F×G×H×I):F:=match x with | (_,_,_,_,_,a,_)=>a
noncomputable def d7(x:A×B×C×D×E×F×G×H×I):G:=match x with | (_,_,_,_,_,_,a,_)=>a
noncomputable def d8(x:A×B×C×D×E×F×G×H×I):H:=match x with | (_,_,_,_,_,_,_,a,_)=>a
noncomputable def d9(x:A×B×C×D×E×F×G×H×I):I:=match x with | (_,_,_,_,_,_,_,_,a)=>a
theorem all9{x y:A×B×C×D×E×F×G×H×I}(a:c1 x=d1 y)(c:c2 x=d2 y)(d:c3 x=d3 y)(e:c4 x=d4 y)(h5:c5 x=d5 y)(f:c6 x=d6 y)(h7:c7 x=d7 y)(g:c8 x=d8 y)(i:c9 x=d9 y):x=y:=(VC a (VC c (VC d (VC e (VC h5 (VC f (VC h7 (VC g i))))))))
end
noncomputable def tA{α:Type}(n:Nat)(l:List α):List α:=l.take n
noncomputable def tB{α:Type}(n:Nat)(l:List α):List α:=l.take n
noncomputable def rA{α:Type}(n:Nat)(l:List α):List α:=l.drop n
noncomputable def rB{α:Type}(n:Nat)(l:List α):List α:=l.drop n
theorem cut2{α:Type}{x y:List α}(n:Nat)(a:tA n x=tB n y)(c:rA n x=rB n y):x=y:=by rw[<- Wa n x,<- Wa n y];exact congr (UI _ a) c
theorem left3{p q:Program}{loose:List Str}{i:Shared->Bool}{α:Type}{j:Shared->α}{m:World->α}{N n1 n2 n3 n4 n5:Nat}{c n g:World->OsState->SharedT}{a:World->OsState->Shared}{l l2:List Stmt}{env:Env}{q0 p0 u v y:Pos}(e:opening p=plainProg p.main.scope.names)(E:Nat.ble 600 N=true)(f:∀s,fenceModules? p s=some s)
  (G:n1+(n2+(n3+(n4+n5)))=N) (H:l++l2=behindTheImports p)
  (I:∀(w:World)(os:OsState),goes p w 11 (some (.ref 6)) n1 (boot w.params os) (topStub p)=some (c w os,⟨Fast.tw11892475500146522536 Fast.tw14364793385576792824 (.body (behindTheImports p) env),.body (behindTheImports p) env,p0,[topFrame q0]⟩))
  (J:∀(w:World)(os:OsState),ZG p w 11 (some (.ref 6)) n2 (c w os) (blockOf (behindTheImports p) env (.body (behindTheImports p) env) p0 [topFrame q0])=some (.next,c w os,.body (behindTheImports p) env,u))
  (M:∀(w:World)(os:OsState),ZG p w 11 (some (.ref 6)) n3 (c w os) (piecesOf l env (.body (behindTheImports p) env) u [topFrame q0])=some (.next,n w os,.body (behindTheImports p) env,v))
  (O:∀(w:World)(os:OsState),ZG p w 11 (some (.ref 6)) n4 (n w os) (piecesOf l2 env (.body (behindTheImports p) env) v [topFrame q0])=some (.next,g w os,.body (behindTheImports p) env,y))
  (h5:∀(w:World)(os:OsState),ran p w 11 (some (.ref 6)) n5 (g w os) (restOf [] env (.body (behindTheImports p) env) y [topFrame q0])=some (g w os))
  (Q:∀(w:World)(os:OsState),(g w os).abs=a w os)
  (T:∀(w:World)(os:OsState),(staticsOk (Fast.tw5923862056798008813 p.main.body) (boot_heap w.params) (a w os).heap&&namesBound p (a w os).heap&&gensDone (a w os)&&laidKept (boot_heap w.params) (a w os).heap)=true)
  (U:∀(w:World)(os:OsState),Fast.tw4187177175401517315 q loose (Fast.tw5923862056798008813 p.main.body) i true (a w os)=openGood q loose)
  (Y:∀(w:World)(os:OsState),j (a w os)=m w):LeftO p q loose i j m N:=λw=>by
 obtain⟨⟨h0,gs,d,k,os⟩,e,e'⟩:=Option.map_eq_some_iff.mp (boot_open e E f w);obtain⟨rfl,rfl,rfl,rfl⟩:h0=boot_heap w.params/\gs=Array.mk []/\d=boot_drawn/\k=boot_toks:=by simpa using e'
 have r:=DI n5 (h5 w os);have r:=piece_app (my n4 (O w os)) r;rw[Vh]at r;have r:=piece_app (my n3 (M w os)) r;rw[H]at r;have r:=piece_block (my n2 (J w os)) r;have z:=zJ n1 (I w os);rw[<- Vd,<- Ve]at z;have r:=go_top z r;rw[G,y9,Q]at r;have hl:=T w os;have B:=U w os;have hy:=Y w os;rw[<- Fast.te5923862056798008813]at hl;rw[<- Fast.te4187177175401517315,<- Fast.te5923862056798008813]at B;obtain⟨z1,z2,z3⟩:_/\_/\_:=by simpa only[Prod.mk.injEq]using DP w.params
 have t:topFrom treeTable p w N ⟨boot_heap w.params,Array.mk [],boot_drawn,boot_toks,os⟩=some (a w os):=by unfold topFrom;dsimp only;rw[z1,z2,z3,r];show(match staticsOk (importedModules p.main.body) (boot_heap w.params) (a w os).heap&&namesBound p (a w os).heap&&gensDone (a w os)&&laidKept (boot_heap w.params) (a w os).heap with|true=>_|false=>_)=_;rw[hl]
 unfold openEnds;rw[e];show(topFrom treeTable p w N _).map _=_;rw[t];exact UI some (VC B hy)
end LT
namespace My
open PySem
noncomputable def top(i:Nat):Stmt:=PySem.Challenge.pw_piecelay_k24_shops_refused.main.body.getD i (.Pass ⟨0,0,0,0⟩)
end My
namespace LM
open PySem PySem.W
noncomputable def o(c:Value)(d:Data):Obj:=⟨c,none,d,#[]⟩
noncomputable def tu(l:List Value):Obj:=o (.type "tuple") (.seq l.toArray 0)
noncomputable def fi(c:Value)(l:List Value):Obj:=o c (.fields l.toArray)
noncomputable def di(P:Params)(n:Nat)(l:List (Str×Nat×Value)):Obj:=o (.type "dict") (.dict (l.map λx=>(⟨PyData.keyHash P x.1,.str x.1 x.2.1,x.2.2⟩:DictEntry)).toArray n)
noncomputable def co(a b:Str)(t l c k f r:Nat)(z:Bool)(m:List Value)(u:Nat):Obj:=fi (.type "code") ([.str a t,.str b (t+1),.str "/claim/cut.py" (t+2),.int l 0,.int c 0,.int 0 0,.int k 0,.int f 0,.ref r,.bool z,.int 181 0,.ref (r+1),.none]++m++[.int u 0,.int l 0,.str "/claim/cut.py" (u+1)])
noncomputable def fr(a b c:Value):Obj:=⟨.type "frame",none,.plain,#[some a,some (.ref 3),some b,none,some c,none,some (.ref 0)]⟩
noncomputable def ty(n:Str)(b m:List Value)(a:Nat)(s:List Value)(l:List (Option Value)):Obj:=⟨.type "type",none,.cls ⟨n,b,m,a,n,true,[],s,false,none,false⟩,l.toArray⟩
noncomputable def ca(s:Stmt)(j:Nat):Stmt:=match s with
 | .ClassDef _ _ _ b _ _ _ _ _ _ _=>b.getD j (.Pass ⟨0,0,0,0⟩)
 |_=>s
noncomputable def fu(c:Value)(s:Stmt)(q:Str)(g:Nat)(d k m v:Value):Obj:=match s with
 | .FunctionDef n a b _ _ _ e _ _ _=>o c (.func ⟨n,q,a,.stmts b,e,g,[],d,k,.none,m,none,v,.none,0⟩)
 |_=>o c .plain
noncomputable def loc(s:Scope):List Str:=(s.names.filter λx=>match x.2 with | .local=>true|_=>false).map (·.1)
noncomputable def f7(s:Stmt)(q:Str)(A t:Nat)(d k m:Value):List Obj:=match s with
 | .FunctionDef n a _ _ _ _ c _ _ p=>[tu [],fi .none [],tu ((loc c).zipIdx.map λx=>.str x.1 (t+3+x.2)),tu [],fu .none s q 0 .none .none .none .none,co n q t p.line a.args.length a.kwonlyargs.length 3 A true [.ref (A+2),.ref (A+3),.ref (A+4)] (t+3+(loc c).length),fu (.type "function") s q 3 d k m (.ref (A+5))]
 |_=>[]
noncomputable def f5(s:Stmt)(q:Str)(A t:Nat)(d k m:Value):List Obj:=match s with
 | .FunctionDef n a _ _ _ _ _ _ _ p=>[tu [],fi .none [],fu .none s q 0 .none .none .none .none,co n q t p.line a.args.length a.kwonlyargs.length 3 A true [.none,.none,.ref (A+2)] (t+3),fu (.type "function") s q 3 d k m (.ref (A+3))]
 |_=>[]
noncomputable def fn(s:Stmt):Str:=match s with
 | .FunctionDef n _ _ _ _ _ _ _ _ _=>n
 |_=>""
noncomputable def h7(m:Value)(i A t:Nat):List Obj:=f7 (My.top i) (fn (My.top i)) A t .none .none m
noncomputable def h5(m:Value)(i A t:Nat):List Obj:=f5 (My.top i) (fn (My.top i)) A t .none .none m
noncomputable def rs(l:List (Str×Nat×Nat)):List (Str×Nat×Value):=l.map λx=>(x.1,x.2.1,.ref x.2.2)
noncomputable def oc(P:Params)(i:Nat)(n:Str):List Obj:=[tu [(.ref 31)],fi (.type "builtin_function_or_method") [(.builtin "type.__prepare__"),(.type "type")],di P 4 [("__module__",(221+16*i),(.str "piecelay.errors" 194)),("__qualname__",(223+16*i),(.str n (222+16*i))),("__firstlineno__",(225+16*i),(.int (7+2*i) (224+16*i))),("__static_attributes__",(226+16*i),(.ref (42+12*i)))],tu [],fi .none [],co n n (216+16*i) (7+2*i) 0 0 0 (38+12*i) false [.none,.none,.none] (219+16*i),fr (.ref (40+12*i)) (.ref (37+12*i)) (.str "piecelay.errors" 194),tu [],di P 2 [("__module__",(221+16*i),(.str "piecelay.errors" 194)),("__firstlineno__",(225+16*i),(.int (7+2*i) (224+16*i))),("__static_attributes__",(226+16*i),(.ref (42+12*i))),("__doc__",(227+16*i),.none)],ty n [(.ref 31)] [(.ref (44+12*i)),(.ref 31),(.type "ValueError"),(.type "Exception"),(.type "BaseException"),(.type "object")] (43+12*i) [] [some (.ref (35+12*i)),none,some (.str n (214+16*i)),some (.str n (222+16*i)),some (.builtin "ValueError.__new__"),some (.bool true)],fi (.type "super") [(.ref (44+12*i)),(.ref (44+12*i)),(.ref (44+12*i))],fi (.type "builtin_function_or_method") [(.builtin "object.__init_subclass__"),(.ref (44+12*i))]]
noncomputable def b11(P:Params):List Obj:=(boot_heap P).objs.toList
noncomputable def st(P:Params)(os:OsState)(t:Nat)(l:List Obj):SharedT:=⟨LT.grown 12 l,l.length,{},#[],boot_drawn,t,os⟩
noncomputable def a4:List Obj:=[tu [],fi .none [],co "<module>" "<module>" 182 1 0 0 0 11 false [.none,.none,.none] 185,fr (.ref 13) (.ref 3) (.str "__main__" 164)]
noncomputable abbrev sa(w:World)(os:OsState):SharedT:=st w.params os 187 (b11 w.params++a4)
noncomputable def ml(P:Params):List Obj:=([
 [tu [],fi .none [],tu [(.str "k" 190)],tu [],fu .none (My.top 0) "_wall" 0 .none .none .none .none,co "_wall" "_wall" 187 1 1 0 3 15 true [(.ref 17),(.ref 18),(.ref 19)] 191,fu (.type "function") (My.top 0) "_wall" 3 .none .none (.str "__main__" 164) (.ref 20),tu [(.type "ValueError")],fi (.type "builtin_function_or_method") [(.builtin "type.__prepare__"),(.type "type")],di P 4 [("__module__",203,(.str "piecelay.errors" 194)),("__qualname__",205,(.str "PieceError" 204)),("__firstlineno__",207,(.int 5 206)),("__static_attributes__",208,(.ref 29))],tu [],fi .none [],co "PieceError" "PieceError" 198 5 0 0 0 25 false [.none,.none,.none] 201,fr (.ref 27) (.ref 24) (.str "piecelay.errors" 194),tu [],di P 3 [("__module__",203,(.str "piecelay.errors" 194)),("__firstlineno__",207,(.int 5 206)),("__static_attributes__",208,(.ref 29)),("__weakref__",210,(.ref 32)),("__doc__",211,.none)],ty "PieceError" [(.type "ValueError")] [(.ref 31),(.type "ValueError"),(.type "Exception"),(.type "BaseException"),(.type "object")] 30 [(.ref 44),(.ref 56),(.ref 68),(.ref 80),(.ref 92),(.ref 104),(.ref 116),(.ref 128),(.ref 140),(.ref 152),(.ref 164),(.ref 176),(.ref 195),(.ref 214)] [some (.ref 22),none,some (.str "PieceError" 196),some (.str "PieceError" 204),some (.builtin "ValueError.__new__"),some (.bool true)],fi (.type "getset_descriptor") [(.str "__weakref__" 209),(.ref 31),(.builtin "ExceptionGroup.__weakref__"),.none],fi (.type "super") [(.ref 31),(.ref 31),(.ref 31)],fi (.type "builtin_function_or_method") [(.builtin "object.__init_subclass__"),(.ref 31)]],
 (List.range 12).flatMap (λi=>oc P i (["NoSize","NoTree","NoArgs","NoCode","NoSteps","Late","NoPiece","NoSet","NoCover","NoParts","NoName","Taken"].getD i "")),
 [tu [(.ref 31)],fi (.type "builtin_function_or_method") [(.builtin "type.__prepare__"),(.type "type")],di P 5 [("__module__",413,(.str "piecelay.errors" 194)),("__qualname__",415,(.str "Fault" 414)),("__firstlineno__",417,(.int 31 416)),("__init__",425,(.ref 192)),("__static_attributes__",427,(.ref 193))],tu [],fi .none [(.int 33 0),(.int 4 0),(.ref 191)],co "Fault" "Fault" 408 31 0 0 0 182 false [.none,.none,.none] 411,fr (.ref 184) (.ref 181) (.str "piecelay.errors" 194),tu [],fi .none [],tu [(.str "self" 421),(.str "place" 422)],tu [],fu .none (ca (My.top 15) 0) "Fault.__init__" 0 .none .none .none .none,co "__init__" "Fault.__init__" 418 33 2 0 3 186 true [(.ref 188),(.ref 189),(.ref 190)] 423,fu (.type "function") (ca (My.top 15) 0) "Fault.__init__" 3 .none .none (.str "piecelay.errors" 194) (.ref 191),tu [(.str "place" 426)],di P 2 [("__module__",413,(.str "piecelay.errors" 194)),("__firstlineno__",417,(.int 31 416)),("__init__",425,(.ref 192)),("__static_attributes__",427,(.ref 193)),("__doc__",428,.none)],ty "Fault" [(.ref 31)] [(.ref 195),(.ref 31),(.type "ValueError"),(.type "Exception"),(.type "BaseException"),(.type "object")] 194 [] [some (.ref 179),none,some (.str "Fault" 406),some (.str "Fault" 414),some (.builtin "ValueError.__new__"),some (.bool true)],fi (.type "super") [(.ref 195),(.ref 195),(.ref 195)],fi (.type "builtin_function_or_method") [(.builtin "object.__init_subclass__"),(.ref 195)],tu [(.ref 31)],fi (.type "builtin_function_or_method") [(.builtin "type.__prepare__"),(.type "type")],di P 5 [("__module__",438,(.str "piecelay.errors" 194)),("__qualname__",440,(.str "Broken" 439)),("__firstlineno__",442,(.int 35 441)),("__init__",450,(.ref 211)),("__static_attributes__",452,(.ref 212))],tu [],fi .none [(.int 37 0),(.int 4 0),(.ref 210)],co "Broken" "Broken" 433 35 0 0 0 201 false [.none,.none,.none] 436,fr (.ref 203) (.ref 200) (.str "piecelay.errors" 194),tu [],fi .none [],tu [(.str "self" 446),(.str "trial" 447)],tu [],fu .none (ca (My.top 16) 0) "Broken.__init__" 0 .none .none .none .none,co "__init__" "Broken.__init__" 443 37 2 0 3 205 true [(.ref 207),(.ref 208),(.ref 209)] 448,fu (.type "function") (ca (My.top 16) 0) "Broken.__init__" 3 .none .none (.str "piecelay.errors" 194) (.ref 210),tu [(.str "trial" 451)],di P 2 [("__module__",438,(.str "piecelay.errors" 194)),("__firstlineno__",442,(.int 35 441)),("__init__",450,(.ref 211)),("__static_attributes__",452,(.ref 212)),("__doc__",453,.none)],ty "Broken" [(.ref 31)] [(.ref 214),(.ref 31),(.type "ValueError"),(.type "Exception"),(.type "BaseException"),(.type "object")] 213 [] [some (.ref 198),none,some (.str "Broken" 431),some (.str "Broken" 439),some (.builtin "ValueError.__new__"),some (.bool true)],fi (.type "super") [(.ref 214),(.ref 214),(.ref 214)],fi (.type "builtin_function_or_method") [(.builtin "object.__init_subclass__"),(.ref 214)]]]:List (List Obj)).flatten
noncomputable abbrev sm(w:World)(os:OsState):SharedT :=
 st w.params os 456 ((b11 w.params).set 3 (di w.params 25 [("__name__",165,(.str "piecelay.errors" 194)),("__doc__",166,.none),("__package__",167,.none),("__loader__",168,(.builtin "__main__.__loader__#opaque")),("__spec__",169,.none),("__annotations__",170,(.ref 6)),("__builtins__",171,(.ref 4)),("__file__",173,(.str "/claim/cut.py" 172)),("__cached__",174,.none),("_wall",193,(.ref 21)),("PieceError",213,(.ref 31)),("NoSize",229,(.ref 44)),("NoTree",245,(.ref 56)),("NoArgs",261,(.ref 68)),("NoCode",277,(.ref 80)),("NoSteps",293,(.ref 92)),("Late",309,(.ref 104)),("NoPiece",325,(.ref 116)),("NoSet",341,(.ref 128)),("NoCover",357,(.ref 140)),("NoParts",373,(.ref 152)),("NoName",389,(.ref 164)),("Taken",405,(.ref 176)),("Fault",430,(.ref 195)),("Broken",455,(.ref 214))])++([tu [],fi .none [(.int 1 0),(.int 0 0),(.ref 20),(.int 5 0),(.int 0 0),(.ref 27),(.int 7 0),(.int 0 0),(.ref 40),(.int 9 0),(.int 0 0),(.ref 52),(.int 11 0),(.int 0 0),(.ref 64),(.int 13 0),(.int 0 0),(.ref 76),(.int 15 0),(.int 0 0),(.ref 88),(.int 17 0),(.int 0 0),(.ref 100),(.int 19 0),(.int 0 0),(.ref 112),(.int 21 0),(.int 0 0),(.ref 124),(.int 23 0),(.int 0 0),(.ref 136),(.int 25 0),(.int 0 0),(.ref 148),(.int 27 0),(.int 0 0),(.ref 160),(.int 29 0),(.int 0 0),(.ref 172),(.int 31 0),(.int 0 0),(.ref 184),(.int 35 0),(.int 0 0),(.ref 203)],co "<module>" "<module>" 182 1 0 0 0 11 false [.none,.none,.none] 185,fr (.ref 13) (.ref 3) (.str "__main__" 164)]++ml w.params))
noncomputable def env:Env:={scope:=PySem.Challenge.pw_piecelay_k24_shops_refused.main.scope,locals:=mainNs,globals:=mainNs,cells:=[],code:=.ref 13,frame:=some 14}
noncomputable abbrev n0:Value:=(.str "piecelay.checks" 456)
noncomputable abbrev n1:Value:=(.str "piecelay.trees" 500)
noncomputable abbrev n2:Value:=(.str "piecelay.machine" 587)
noncomputable abbrev n3:Value:=(.str "piecelay.pieces" 801)
noncomputable abbrev n4:Value:=(.str "piecelay.covers" 1074)
noncomputable abbrev n5:Value:=(.str "piecelay.laying" 1146)
noncomputable abbrev n6:Value:=(.str "piecelay.shops" 1194)
noncomputable abbrev n7:Value:=(.str "law_piecelay_k24_shops_refused" 1336)
noncomputable def fl(P:Params):List Obj:=([
 h7 n0 21 217 464,
 h7 n0 22 224 473,
 h5 n0 23 231 480,
 [tu [(.int 10000 458)]],
 f7 (My.top 24) "need_size" 237 486 (.ref 236) .none n0,
 h5 n0 25 244 494,
 [di P 2 [("num",506,(.int 9999 507)),("arg",508,(.int 3 509))],di P 5 [("add",513,(.int 2 514)),("sub",515,(.int 2 516)),("mul",517,(.int 2 518)),("less",519,(.int 2 520)),("pick",521,(.int 3 522))]],
 h7 n1 31 251 529,
 h7 n1 32 258 537,
 h5 n1 33 265 544,
 h7 n1 34 270 550,
 h7 n1 35 277 557,
 h7 n1 36 284 567,
 h7 n1 37 291 578,
 [tu [(.str "end" 599),(.int 0 600)],tu [(.str "put" 601),(.int 1 602)],tu [(.str "far" 603),(.int 2 604)],tu [(.str "load" 605),(.int 1 606)],tu [(.str "add" 607),(.int 0 608)],tu [(.str "sub" 609),(.int 0 610)],tu [(.str "mul" 611),(.int 0 612)],tu [(.str "less" 613),(.int 0 614)],tu [(.str "skip" 615),(.int 1 616)],tu [(.str "jump" 617),(.int 2 618)],tu [(.str "zero" 619),(.int 1 620)],tu [(.str "none" 621),(.int 2 622)],tu [(.str "more" 623),(.int 1 624)],tu [(.str "twice" 625),(.int 0 626)],tu [(.str "about" 627),(.int 0 628)],tu [(.str "call" 629),(.int 2 630)],tu [(.str "back" 631),(.int 0 632)],tu [(.ref 298),(.ref 299),(.ref 300),(.ref 301),(.ref 302),(.ref 303),(.ref 304),(.ref 305),(.ref 306),(.ref 307),(.ref 308),(.ref 309),(.ref 310),(.ref 311),(.ref 312),(.ref 313),(.ref 314)],di P 3 [("load",634,(.int 3 635)),("skip",636,(.int 9 637)),("zero",638,(.int 9 639))],tu [(.str "skip" 644),(.str "jump" 645),(.str "zero" 646),(.str "none" 647),(.str "call" 648),(.str "back" 649)]],
 h5 n2 47 318 651,
 h7 n2 48 323 657,
 h7 n2 49 330 664,
 h7 n2 50 337 675,
 [tu [],fi (.type "builtin_function_or_method") [(.builtin "type.__prepare__"),(.type "type")],di P 11 [("__module__",691,(.str "piecelay.machine" 587)),("__qualname__",693,(.str "Machine" 692)),("__firstlineno__",695,(.int 140 694)),("__init__",706,(.ref 357)),("take",713,(.ref 364)),("push",721,(.ref 371)),("step",732,(.ref 378)),("way",742,(.ref 385)),("finish",749,(.ref 392)),("change",760,(.ref 399)),("__static_attributes__",768,(.ref 400))],tu [],fi .none [(.int 142 0),(.int 4 0),(.ref 356),(.int 151 0),(.int 4 0),(.ref 363),(.int 156 0),(.int 4 0),(.ref 370),(.int 161 0),(.int 4 0),(.ref 377),(.int 175 0),(.int 4 0),(.ref 384),(.int 189 0),(.int 4 0),(.ref 391),(.int 194 0),(.int 4 0),(.ref 398)],co "Machine" "Machine" 686 140 0 0 0 347 false [.none,.none,.none] 689,fr (.ref 349) (.ref 346) (.str "piecelay.machine" 587)],
 f7 (ca (My.top 51) 0) "Machine.__init__" 351 696 .none .none n2,
 f7 (ca (My.top 51) 1) "Machine.take" 358 707 .none .none n2,
 f7 (ca (My.top 51) 2) "Machine.push" 365 714 .none .none n2,
 f7 (ca (My.top 51) 3) "Machine.step" 372 722 .none .none n2,
 f7 (ca (My.top 51) 4) "Machine.way" 379 733 .none .none n2,
 f7 (ca (My.top 51) 5) "Machine.finish" 386 743 .none .none n2,
 f7 (ca (My.top 51) 6) "Machine.change" 393 750 .none .none n2,
 [tu [(.str "cells" 761),(.str "ended" 762),(.str "given" 763),(.str "kept" 764),(.str "pile" 765),(.str "place" 766),(.str "size" 767)],di P 4 [("__module__",691,(.str "piecelay.machine" 587)),("__firstlineno__",695,(.int 140 694)),("__init__",706,(.ref 357)),("take",713,(.ref 364)),("push",721,(.ref 371)),("step",732,(.ref 378)),("way",742,(.ref 385)),("finish",749,(.ref 392)),("change",760,(.ref 399)),("__static_attributes__",768,(.ref 400)),("__dict__",770,(.ref 403)),("__weakref__",772,(.ref 404)),("__doc__",773,.none)],ty "Machine" [(.type "object")] [(.ref 402),(.type "object")] 401 [] [none,none,some (.str "Machine" 684),some (.str "Machine" 692),some (.builtin "object.__new__"),some (.bool true)],fi (.type "getset_descriptor") [(.str "__dict__" 769),(.ref 402),(.builtin "function.__dict__"),(.builtin "function.__dict__#set")],fi (.type "getset_descriptor") [(.str "__weakref__" 771),(.ref 402),(.builtin "ExceptionGroup.__weakref__"),.none],fi (.type "super") [(.ref 402),(.ref 402),(.ref 402)],fi (.type "builtin_function_or_method") [(.builtin "object.__init_subclass__"),(.ref 402)]],
 h7 n2 52 407 776,
 [di P 1 [("steps",787,(.int 1000 786))]],
 f7 (My.top 53) "run" 415 788 .none (.ref 414) n2,
 [di P 3 [("hole",813,(.int 2 814)),("gap",815,(.int 3 816)),("slot",817,(.int 2 818))],di P 3 [("low",823,(.str "gap" 824)),("high",825,(.str "gap" 826)),("arg",827,(.str "slot" 828))],tu [(.str "put" 833),(.str "far" 834),(.str "load" 835),(.str "add" 836),(.str "sub" 837),(.str "mul" 838),(.str "less" 839),(.str "more" 840),(.str "twice" 841),(.str "about" 842)],tu [(.int 0 844),(.int 1 845),(.int 2 846),(.int 99 847),(.int 100 848),(.int 9999 849)],tu [(.str "gap" 854),(.int 0 855),(.int 99 856)],tu [(.str "low" 858),(.int 0 859)],tu [(.int 1 857),(.ref 427)],tu [(.str "one" 853),(.ref 426),(.ref 428)],tu [(.str "gap" 861),(.int 0 862),(.int 9999 863)],tu [(.str "low" 865),(.int 0 866)],tu [(.str "high" 867),(.int 0 868)],tu [(.int 2 864),(.ref 431),(.ref 432)],tu [(.str "two" 860),(.ref 430),(.ref 433)],tu [(.str "slot" 870),(.int 0 871)],tu [(.str "arg" 873),(.int 0 874)],tu [(.int 3 872),(.ref 436)],tu [(.str "slot" 869),(.ref 435),(.ref 437)],tu [(.str "hole" 877),(.int 0 878)],tu [(.str "hole" 879),(.int 1 880)],tu [(.str "add" 876),(.ref 439),(.ref 440)],tu [(.int 4 881)],tu [(.str "add" 875),(.ref 441),(.ref 442)],tu [(.str "hole" 884),(.int 0 885)],tu [(.str "hole" 886),(.int 1 887)],tu [(.str "sub" 883),(.ref 444),(.ref 445)],tu [(.int 5 888)],tu [(.str "sub" 882),(.ref 446),(.ref 447)],tu [(.str "hole" 891),(.int 0 892)],tu [(.str "hole" 893),(.int 1 894)],tu [(.str "mul" 890),(.ref 449),(.ref 450)],tu [(.int 6 895)],tu [(.str "mul" 889),(.ref 451),(.ref 452)],tu [(.str "hole" 898),(.int 0 899)],tu [(.str "hole" 900),(.int 1 901)],tu [(.str "less" 897),(.ref 454),(.ref 455)],tu [(.int 7 902)],tu [(.str "less" 896),(.ref 456),(.ref 457)],tu [(.str "hole" 905),(.int 0 906)],tu [(.str "gap" 907),(.int 0 908),(.int 99 909)],tu [(.str "add" 904),(.ref 459),(.ref 460)],tu [(.str "low" 911),(.int 0 912)],tu [(.int 12 910),(.ref 462)],tu [(.str "more" 903),(.ref 461),(.ref 463)],o (.type "list") (.seq #[(.ref 429),(.ref 434),(.ref 438),(.ref 443),(.ref 448),(.ref 453),(.ref 458),(.ref 464)] 0)],
 h7 n3 67 466 914,
 h5 n3 68 473 921,
 h7 n3 69 478 927,
 h5 n3 70 485 937,
 h5 n3 71 490 943,
 h7 n3 72 495 949,
 h7 n3 73 502 957,
 h5 n3 74 509 965,
 h7 n3 75 514 971,
 h7 n3 76 521 981,
 h5 n3 77 528 988,
 h7 n3 78 533 994,
 h7 n3 79 540 1001,
 h7 n3 80 547 1009,
 h7 n3 81 554 1019,
 h7 n3 82 561 1028,
 h7 n3 83 568 1037,
 h5 n3 84 575 1050,
 h5 n3 85 580 1056,
 h5 n3 86 585 1062,
 h5 n3 87 590 1068,
 [tu [(.int 10 1080),(.int 11 1081)],tu [(.int 8 1083),(.int 9 1084)]],
 h7 n4 93 597 1086,
 h7 n4 94 604 1096,
 h7 n4 95 611 1106,
 h7 n4 96 618 1117,
 h5 n4 97 625 1129,
 h7 n4 98 630 1135,
 h5 n5 102 637 1152,
 h5 n5 103 642 1158,
 h7 n5 104 647 1164,
 h7 n5 105 654 1175,
 h7 n5 106 661 1185,
 [tu [],fi (.type "builtin_function_or_method") [(.builtin "type.__prepare__"),(.type "type")],di P 19 [("__module__",1205,(.str "piecelay.shops" 1194)),("__qualname__",1207,(.str "Shop" 1206)),("__firstlineno__",1209,(.int 464 1208)),("__init__",1217,(.ref 682)),("has_piece",1223,(.ref 687)),("order",1231,(.ref 694)),("put",1240,(.ref 701)),("drop",1246,(.ref 706)),("pieces",1253,(.ref 713)),("lay",1263,(.ref 720)),("code",1271,(.ref 727)),("tree",1279,(.ref 734)),("run",1289,(.ref 741)),("is_stale",1297,(.ref 748)),("stale",1304,(.ref 755)),("total",1311,(.ref 762)),("twin",1318,(.ref 769)),("__len__",1325,(.ref 776)),("__static_attributes__",1328,(.ref 777))],tu [],fi .none [(.int 466 0),(.int 4 0),(.ref 681),(.int 473 0),(.int 4 0),(.ref 686),(.int 476 0),(.int 4 0),(.ref 693),(.int 481 0),(.int 4 0),(.ref 700),(.int 492 0),(.int 4 0),(.ref 705),(.int 499 0),(.int 4 0),(.ref 712),(.int 502 0),(.int 4 0),(.ref 719),(.int 509 0),(.int 4 0),(.ref 726),(.int 512 0),(.int 4 0),(.ref 733),(.int 515 0),(.int 4 0),(.ref 740),(.int 518 0),(.int 4 0),(.ref 747),(.int 521 0),(.int 4 0),(.ref 754),(.int 524 0),(.int 4 0),(.ref 761),(.int 527 0),(.int 4 0),(.ref 768),(.int 530 0),(.int 4 0),(.ref 775)],co "Shop" "Shop" 1200 464 0 0 0 671 false [.none,.none,.none] 1203,fr (.ref 673) (.ref 670) (.str "piecelay.shops" 1194),tu [.none]],
 f7 (ca (My.top 110) 0) "Shop.__init__" 676 1210 (.ref 675) .none n6,
 f5 (ca (My.top 110) 1) "Shop.has_piece" 683 1218 .none .none n6,
 f7 (ca (My.top 110) 2) "Shop.order" 688 1224 .none .none n6,
 f7 (ca (My.top 110) 3) "Shop.put" 695 1232 .none .none n6,
 f5 (ca (My.top 110) 4) "Shop.drop" 702 1241 .none .none n6,
 f7 (ca (My.top 110) 5) "Shop.pieces" 707 1247 .none .none n6,
 f7 (ca (My.top 110) 6) "Shop.lay" 714 1254 .none .none n6,
 f7 (ca (My.top 110) 7) "Shop.code" 721 1264 .none .none n6,
 f7 (ca (My.top 110) 8) "Shop.tree" 728 1272 .none .none n6,
 f7 (ca (My.top 110) 9) "Shop.run" 735 1280 .none .none n6,
 f7 (ca (My.top 110) 10) "Shop.is_stale" 742 1290 .none .none n6,
 f7 (ca (My.top 110) 11) "Shop.stale" 749 1298 .none .none n6,
 f7 (ca (My.top 110) 12) "Shop.total" 756 1305 .none .none n6,
 f7 (ca (My.top 110) 13) "Shop.twin" 763 1312 .none .none n6,
 f7 (ca (My.top 110) 14) "Shop.__len__" 770 1319 .none .none n6,
 [tu [(.str "orders" 1326),(.str "ready" 1327)],di P 4 [("__module__",1205,(.str "piecelay.shops" 1194)),("__firstlineno__",1209,(.int 464 1208)),("__init__",1217,(.ref 682)),("has_piece",1223,(.ref 687)),("order",1231,(.ref 694)),("put",1240,(.ref 701)),("drop",1246,(.ref 706)),("pieces",1253,(.ref 713)),("lay",1263,(.ref 720)),("code",1271,(.ref 727)),("tree",1279,(.ref 734)),("run",1289,(.ref 741)),("is_stale",1297,(.ref 748)),("stale",1304,(.ref 755)),("total",1311,(.ref 762)),("twin",1318,(.ref 769)),("__len__",1325,(.ref 776)),("__static_attributes__",1328,(.ref 777)),("__dict__",1330,(.ref 780)),("__weakref__",1332,(.ref 781)),("__doc__",1333,.none)],ty "Shop" [(.type "object")] [(.ref 779),(.type "object")] 778 [] [none,none,some (.str "Shop" 1198),some (.str "Shop" 1206),some (.builtin "object.__new__"),some (.bool true)],fi (.type "getset_descriptor") [(.str "__dict__" 1329),(.ref 779),(.builtin "function.__dict__"),(.builtin "function.__dict__#set")],fi (.type "getset_descriptor") [(.str "__weakref__" 1331),(.ref 779),(.builtin "ExceptionGroup.__weakref__"),.none],fi (.type "super") [(.ref 779),(.ref 779),(.ref 779)],fi (.type "builtin_function_or_method") [(.builtin "object.__init_subclass__"),(.ref 779)]],
 h7 n7 112 784 1338,
 h7 n7 113 791 1350,
 h5 n7 114 798 1359,
 h5 n7 115 803 1365,
 h7 n7 116 808 1371,
 h7 n7 117 815 1379,
 h7 n7 118 822 1393,
 h7 n7 119 829 1406,
 h5 n7 120 836 1416,
 h7 n7 121 841 1422,
 h7 n7 122 848 1430,
 h7 n7 123 855 1441,
 h5 n7 124 862 1449]:List (List Obj)).flatten
noncomputable def en:List (Str×Nat×Value):=([
 [("__name__",165,(.str "law_piecelay_k24_shops_refused" 1336)),("__doc__",166,.none),("__package__",167,.none),("__loader__",168,(.builtin "__main__.__loader__#opaque")),("__spec__",169,.none),("__annotations__",170,(.ref 6)),("__builtins__",171,(.ref 4)),("__file__",173,(.str "/claim/cut.py" 172)),("__cached__",174,.none)],
 rs [("_wall",193,21),("PieceError",213,31),("NoSize",229,44),("NoTree",245,56),("NoArgs",261,68),("NoCode",277,80),("NoSteps",293,92),("Late",309,104),("NoPiece",325,116),("NoSet",341,128),("NoCover",357,140),("NoParts",373,152),("NoName",389,164),("Taken",405,176),("Fault",430,195),("Broken",455,214)],
 [("MOST_SIZE",459,(.int 10000 458))],
 [("MANY_ARGS",461,(.int 4 460))],
 [("LONGEST_NAME",463,(.int 8 462))],
 rs [("is_whole",472,223),("is_tagged",479,230),("is_name",485,235),("need_size",493,243),("need_args",499,248)],
 [("MOST_PARTS",503,(.int 40 502))],
 [("MOST_DEEP",505,(.int 8 504))],
 rs [("MOST_IN_LEAF",512,249),("TREES_IN_BRANCH",528,250),("is_node",536,257),("trees_within",543,264),("is_tree",549,269),("need_tree",556,276),("worth_of_both",566,283),("reckoned",577,290),("walked",586,297)],
 [("MOST_CELLS",590,(.int 1000 589))],
 [("MOST_CELL",592,(.int 99 591))],
 [("MOST_STEPS",594,(.int 100000 593))],
 [("MOST_PILE",596,(.int 64 595))],
 [("MOST_KEPT",598,(.int 16 597))],
 rs [("INSTRUCTIONS",633,315),("MOST_TOLD",643,316),("WAYS",650,317),("is_code",656,322),("need_code",663,329),("instruction_at",674,336),("number_told",683,343),("Machine",775,402),("started",785,413),("run",799,421),("run_machine",800,421)],
 [("MOST_PATTERN_DEEP",804,(.int 3 803))],
 [("MOST_GAP",806,(.int 9999 805))],
 [("MOST_PIECE_CELLS",808,(.int 12 807))],
 [("MOST_PIECES",810,(.int 16 809))],
 [("MOST_TRIED_SIZE",812,(.int 5 811))],
 rs [("MARK_LENGTHS",822,422),("FILLED_FROM",832,423),("STRAIGHT",843,424),("TRIED_NUMS",850,425)],
 [("BENEATH_HOLES",852,(.int 1 851))],
 rs [("BASIC",913,465),("is_mark",920,472),("is_pattern_part",926,477),("marks_in",936,484),("is_numbered",942,489),("is_pattern",948,494),("is_filling",956,501),("is_cell",964,508),("are_instructions",970,513),("is_piece",980,520),("need_piece",987,527),("is_set",993,532),("need_set",1000,539),("may_stand_for",1008,546),("matches",1018,553),("found_in",1027,560),("filled_cell",1036,567),("filled_pattern",1049,574),("keeps",1055,579),("rows_of",1061,584),("args_for",1067,589),("failing",1073,594)],
 [("MOST_NEAR",1077,(.int 9 1076))],
 [("CALL_CELLS",1079,(.int 3 1078))],
 rs [("AHEAD",1082,595),("BEHIND",1085,596),("jump_over",1095,603),("jumps_of_pick",1105,610),("ways_of",1116,617),("length_by",1128,624),("best_by_ways",1134,629),("best_covering",1145,636)],
 [("END",1149,(.int 0 1148))],
 [("CALL",1151,(.int 15 1150))],
 rs [("laid_pick",1157,641),("laid_piece",1163,646),("laid_cells",1174,653),("code_of",1184,660),("lay",1192,667),("lay_laying",1193,667)],
 [("TRIED_SIZE",1197,(.int 3 1196))],
 rs [("Shop",1335,779),("_law_draw",1349,790),("_law_pick",1358,797),("_law_tree",1364,802),("_law_args",1370,807),("_law_size",1378,814),("_law_no_tree",1392,821),("_law_no_piece",1405,828),("_law_pieces",1415,835),("_law_set",1421,840),("_law_which",1429,847),("_law_ask",1440,854),("_law_made",1448,861),("law",1454,866)]]:List (List (Str×Nat×Value))).flatten
noncomputable def ol(P:Params):List Obj:=(b11 P).set 3 (di P 125 en)++([tu [],fi .none ([(1,0,20),(5,0,27),(7,0,40),(9,0,52),(11,0,64),(13,0,76),(15,0,88),(17,0,100),(19,0,112),(21,0,124),(23,0,136),(25,0,148),(27,0,160),(29,0,172),(31,0,184),(35,0,203),(43,0,222),(45,0,229),(47,0,234),(51,0,242),(54,0,247),(64,0,256),(71,0,263),(75,0,268),(85,0,275),(88,0,282),(96,0,289),(106,0,296),(120,0,321),(124,0,328),(127,0,335),(135,0,342),(140,0,349),(213,0,412),(220,0,420),(240,0,471),(246,0,476),(254,0,483),(261,0,488),(264,0,493),(268,0,500),(272,0,507),(274,0,512),(287,0,519),(296,0,526),(299,0,531),(305,0,538),(308,0,545),(312,0,552),(324,0,559),(329,0,566),(337,0,573),(349,0,578),(360,0,583),(365,0,588),(367,0,593),(387,0,602),(392,0,609),(396,0,616),(405,0,623),(411,0,628),(423,0,635),(435,0,640),(439,0,645),(447,0,652),(454,0,659),(457,0,666),(464,0,673),(533,0,789),(547,0,796),(549,0,801),(559,0,806),(561,0,813),(563,0,820),(577,0,827),(595,0,834),(606,0,839),(609,0,846),(617,0,853),(632,0,860),(637,0,865)].flatMap λ(x:Nat×Nat×Nat)=>[.int x.1 0,.int x.2.1 0,.ref x.2.2]),co "<module>" "<module>" 182 1 0 0 0 11 false [.none,.none,.none] 185,fr (.ref 13) (.ref 3) (.str "__main__" 164)]++(ml P++fl P))
noncomputable abbrev sf(w:World)(os:OsState):SharedT:=st w.params os 1455 (ol w.params)
noncomputable abbrev fs(w:World)(os:OsState):Shared:=⟨⟨(ol w.params).toArray,{}⟩,#[],boot_drawn,1455,os⟩
end LM
namespace My
open PySem PySem.W PyProof.Rows
noncomputable abbrev lw:=PySem.Challenge.rw_piecelay_k24_shops_refused
noncomputable abbrev lpr:=lw.row.prog
theorem sd1:namesResolve lpr=true:=by kernel_rfl
theorem sd2:(namesMeet lpr lpr.main.body λ_ n=>attrL n)=true:=by kernel_rfl
theorem sd3:looksOpen lpr=true:=by unfold looksOpen;rw[sd1,sd2];kernel_rfl
theorem said:OpenLaw.wellSaid lw=true:=by unfold OpenLaw.wellSaid OpenRow.wellSaid OpenRow.partSaid;rw[sd3];kernel_rfl
end My
end
section
open PySem PySem.W PyProof.Rows
section
local macro_rules | `(tactic|o_head $H:term)=>`(tactic| (have _hook:=$H;assumption))
theorem My.k0(h:PySem.Challenge.rw_piecelay_k24_shops_refused.row.Holds):PySem.Challenge.rw_piecelay_k24_shops_refused.row.Holds:=by
 k_head
end
namespace My
noncomputable def view:Program:={PySem.Challenge.pw_piecelay_k24_shops_refused with main:={PySem.Challenge.pw_piecelay_k24_shops_refused.main with body:=[top 0,top 2,top 3,top 4,top 5,top 6,top 7,top 8,top 9,top 10,top 11,top 12,top 13,top 14,top 15,top 16,top 18,top 19,top 20,top 21,top 22,top 23,top 25,top 27,top 28,top 29,top 30,top 31,top 32,top 33,top 34,top 35,top 36,top 37,top 39,top 40,top 41,top 42,top 43,top 44,top 45,top 46,top 47,top 48,top 49,top 50,top 51,top 52,top 54,top 56,top 57,top 58,top 59,top 60,top 61,top 62,top 63,top 64,top 65,top 66,top 67,top 68,top 69,top 70,top 71,top 72,top 73,top 74,top 75,top 76,top 77,top 78,top 79,top 80,top 81,top 82,top 83,top 84,top 85,top 86,top 87,top 89,top 90,top 91,top 92,top 93,top 94,top 95,top 96,top 97,top 98,top 100,top 101,top 102,top 103,top 104,top 105,top 106,top 107,top 109,top 110,top 112,top 113,top 114,top 115,top 116,top 117,top 118,top 119,top 120,top 121,top 122,top 123,top 124]}}
noncomputable abbrev PRG:Program:=PySem.Challenge.pw_piecelay_k24_shops_refused
noncomputable abbrev loose:List Str:=["need_size","MOST_IN_LEAF","TREES_IN_BRANCH","MOST_TOLD","run","run_machine","MARK_LENGTHS","FILLED_FROM","BASIC","lay_laying"]
noncomputable abbrev xt(s:Shared):Bool:=xlAt view [] s&&recOk (RowW.records (OpenRow.toRowW (OpenLaw.row PySem.Challenge.rw_piecelay_k24_shops_refused))) s
noncomputable abbrev kas:List Addr:=[2,3,15,17,18,20,21,22,29,30,31,32,35,42,43,44,47,54,55,56,59,66,67,68,71,78,79,80,83,90,91,92,95,102,103,104,107,114,115,116,119,126,127,128,131,138,139,140,143,150,151,152,155,162,163,164,167,174,175,176,179,186,188,189,191,192,193,194,195,198,205,207,208,210,211,212,213,214,217,219,220,222,223,224,226,227,229,230,231,234,235,236,237,239,240,242,243,244,247,248,249,250,251,253,254,256,257,258,260,261,263,264,265,268,269,270,272,273,275,276,277,279,280,282,283,284,286,287,289,290,291,293,294,296,297,298,299,300,301,302,303,304,305,306,307,308,309,310,311,312,313,314,315,316,317,318,321,322,323,325,326,328,329,330,332,333,335,336,337,339,340,342,343,351,353,354,356,357,358,360,361,363,364,365,367,368,370,371,372,374,375,377,378,379,381,382,384,385,386,388,389,391,392,393,395,396,398,399,400,401,402,403,404,407,409,410,412,413,414,415,417,418,420,421,422,423,424,425,426,427,428,429,430,431,432,433,434,435,436,437,438,439,440,441,442,443,444,445,446,447,448,449,450,451,452,453,454,455,456,457,458,459,460,461,462,463,464,465,466,468,469,471,472,473,476,477,478,480,481,483,484,485,488,489,490,493,494,495,497,498,500,501,502,504,505,507,508,509,512,513,514,516,517,519,520,521,523,524,526,527,528,531,532,533,535,536,538,539,540,542,543,545,546,547,549,550,552,553,554,556,557,559,560,561,563,564,566,567,568,570,571,573,574,575,578,579,580,583,584,585,588,589,590,593,594,595,596,597,599,600,602,603,604,606,607,609,610,611,613,614,616,617,618,620,621,623,624,625,628,629,630,632,633,635,636,637,640,641,642,645,646,647,649,650,652,653,654,656,657,659,660,661,663,664,666,667,675,676,678,679,681,682,683,686,687,688,690,691,693,694,695,697,698,700,701,702,705,706,707,709,710,712,713,714,716,717,719,720,721,723,724,726,727,728,730,731,733,734,735,737,738,740,741,742,744,745,747,748,749,751,752,754,755,756,758,759,761,762,763,765,766,768,769,770,772,773,775,776,777,778,779,780,781,784,786,787,789,790,791,793,794,796,797,815,817,818,820,821,822,824,825,827,828,829,831,832,834,835,841,843,844,846,847,848,850,851,853,854,855,857,858,860,861,862,865,866]
theorem kas_ok:∀P,kas=(My.k0.heap_1 P).map (·.1):=λ_=>by kernel_rfl
noncomputable abbrev hk:Hook:=kHook My.k0.heap_1 kas kas_ok
noncomputable abbrev NN:Nat:=7174
noncomputable abbrev cd:Code:=.body (behindTheImports PRG) LM.env
noncomputable abbrev q0:Pos:=⟨0,0,0,0⟩
theorem m1:∀(w:World)(os:OsState),LT.goes PRG w 11 (some (.ref 6)) 12 (LT.boot w.params os) (topStub PRG)=some (LM.sa w os,⟨Fast.tw11892475500146522536 Fast.tw14364793385576792824 cd,cd,q0,[topFrame q0]⟩):=λw os=>by kernel_rfl
theorem m2:∀(w:World)(os:OsState),LT.ZG PRG w 11 (some (.ref 6)) 1 (LM.sa w os) (blockOf (behindTheImports PRG) LM.env cd q0 [topFrame q0])=some (.next,LM.sa w os,cd,q0):=λw os=>by kernel_rfl
theorem m3:∀(w:World)(os:OsState),LT.ZG PRG w 11 (some (.ref 6)) 3271 (LM.sa w os) (piecesOf ((behindTheImports PRG).take 17) LM.env cd q0 [topFrame q0])=some (.next,LM.sm w os,cd,⟨35,0,38,26⟩):=λw os=>by kernel_rfl
noncomputable abbrev m4S(w:World):Prop:=∀os:OsState,LT.ZG PRG w 11 (some (.ref 6)) 3849 (LM.sm w os) (piecesOf ((behindTheImports PRG).drop 17) LM.env cd ⟨35,0,38,26⟩ [topFrame q0])=some (.next,LM.sf w os,cd,⟨637,0,669,135⟩)
theorem m4a:∀w:World,m4S (w.withFollow "special-get-raises" false):=λw os=>by kernel_rfl
theorem m4b:∀w:World,m4S (w.withFollow "special-get-raises" true):=λw os=>by kernel_rfl
theorem m5:∀(w:World)(os:OsState),LT.ran PRG w 11 (some (.ref 6)) 41 (LM.sf w os) (restOf [] LM.env cd ⟨637,0,669,135⟩ [topFrame q0])=some (LM.sf w os):=λw os=>by kernel_rfl
theorem m6:∀(w:World)(os:OsState),(LM.sf w os).abs=LM.fs w os:=λw os=>by kernel_rfl
noncomputable abbrev im:=Fast.tw5923862056798008813 PRG.main.body
theorem e1:∀(w:World)(os:OsState),staticsOk im (boot_heap w.params) (LM.fs w os).heap=true:=λw os=>by kernel_rfl
theorem e2:∀(w:World)(os:OsState),namesBound PRG (LM.fs w os).heap=true:=λw os=>by kernel_rfl
theorem e3:∀(w:World)(os:OsState),laidKept (boot_heap w.params) (LM.fs w os).heap=true:=λw os=>by kernel_rfl
noncomputable abbrev mx(w:World)(os:OsState):=Fast.tw4187177175401517315 view loose im xt true (LM.fs w os)
noncomputable abbrev lF:=openGood view loose
theorem g1:∀(w:World)(os:OsState),LT.c1 (mx w os)=LT.d1 lF:=λw os=>by kernel_rfl
theorem g2:∀(w:World)(os:OsState),LT.c2 (mx w os)=LT.d2 lF:=λw os=>by kernel_rfl
theorem g3:∀(w:World)(os:OsState),LT.c3 (mx w os)=LT.d3 lF:=λw os=>by kernel_rfl
theorem g4:∀(w:World)(os:OsState),LT.c4 (mx w os)=LT.d4 lF:=λw os=>by kernel_rfl
theorem g5:∀(w:World)(os:OsState),LT.c5 (mx w os)=LT.d5 lF:=λw os=>by kernel_rfl
theorem g6a:∀(w:World)(os:OsState),LT.tA 45 (LT.c6 (mx w os))=LT.tB 45 (LT.d6 lF):=λw os=>by kernel_rfl
theorem g6b:∀(w:World)(os:OsState),LT.rA 45 (LT.c6 (mx w os))=LT.rB 45 (LT.d6 lF):=λw os=>by kernel_rfl
theorem g6(w:World)(os:OsState):LT.c6 (mx w os)=LT.d6 lF:=LT.cut2 45 (g6a w os) (g6b w os)
theorem g7:∀(w:World)(os:OsState),LT.c7 (mx w os)=LT.d7 lF:=λw os=>by kernel_rfl
theorem g8:∀(w:World)(os:OsState),LT.c8 (mx w os)=LT.d8 lF:=λw os=>by kernel_rfl
theorem g9:∀(w:World)(os:OsState),LT.c9 (mx w os)=LT.d9 lF:=λw os=>by kernel_rfl
theorem g0:∀(w:World)(os:OsState),Hook.obs hk (LM.fs w os)=Hook.val hk w:=λw os=>by kernel_rfl
theorem left:LeftO PRG view loose xt (Hook.obs hk) (Hook.val hk) NN :=
 LT.left3 (by rfl) (by decide) (λs=>by rfl) (by decide) (Wa 17 _) m1 m2 m3 (λw=>byRow2 "special-get-raises" (P:=m4S) m4a m4b w) m5 m6 (λw os=>by rw[e1,e2,e3];rfl) (λw os=>LT.all9 (g1 w os) (g2 w os) (g3 w os) (g4 w os) (g5 w os) (g6 w os) (g7 w os) (g8 w os) (g9 w os)) g0
end My
end
section
namespace L2
open PySem PySem.Spec PyProof.Rows
noncomputable abbrev Key:=Sum Int Str
noncomputable def nS:Key->Value->Bool
 | .inl k,v=>Value.isInt k v
 | .inr x,v=>Value.isStrOf x v
noncomputable def Mz(w:World):Key->Int
 | .inl k=>hashInt k
 | .inr x=>hashStr w x
theorem aW:∀{k:Key}{v:Value},nS k v=true->(∃i t,k=Sum.inl i/\v=Value.int i t)\/(∃x t,k=Sum.inr x/\v=Value.str x t)
 | .inl i,v,h=>by obtain⟨t,e⟩:=Value.isInt_shape (k:=i) (v:=v) h;exact .inl ⟨i,t,rfl,e⟩
 | .inr x,v,h=>by obtain⟨t,e⟩:=Value.isStrOf_shape (x:=x) (v:=v) h;exact .inr ⟨x,t,rfl,e⟩
theorem xR(i:Int)(t:Tok):nS (.inl i) (.int i t)=true:=by simp[nS,Value.isInt]
theorem xS(x:Str)(t:Tok):nS (.inr x) (.str x t)=true:=by simp[nS,Value.isStrOf]
theorem GF(a b:Int):decide ((Sum.inl a:Key)=Sum.inl b)=(a==b):=by
 by_cases e:a=b
 ·subst e;simp
 ·have h:¬ (Sum.inl a:Key)=Sum.inl b:=λq=>e (Sum.inl.inj q);rw[Um h];exact(UM.mpr e).symm
theorem GI(a b:Str):decide ((Sum.inr a:Key)=Sum.inr b)=decide (a=b):=by
 by_cases e:a=b
 ·subst e;simp
 ·have h:¬ (Sum.inr a:Key)=Sum.inr b:=λq=>e (Sum.inr.inj q);rw[Um h,Um e]
theorem GG(a:Int)(b:Str):decide ((Sum.inl a:Key)=Sum.inr b)=false:=Um (λq=>nomatch q)
theorem GH(a:Str)(b:Int):decide ((Sum.inr a:Key)=Sum.inl b)=false:=Um (λq=>nomatch q)
noncomputable def aZ(prog:Program)(w:World):PySem.KeyKind prog w Key where
 is:=nS
 hash:=Mz w
 inj:=λv a b f d=>by
  rcases aW f with⟨i,t,rfl,rfl⟩|⟨x,t,rfl,rfl⟩
  ·rcases aW d with⟨j,u,rfl,e⟩|⟨y,u,rfl,e⟩
   ·injection e with e1 _;rw[e1]
   ·exact nomatch e
  ·rcases aW d with⟨j,u,rfl,e⟩|⟨y,u,rfl,e⟩
   ·exact nomatch e
   ·injection e with e1 _;rw[e1]
 byValue:=λk v h=>by rcases aW h with⟨i,t,rfl,rfl⟩|⟨x,t,rfl,rfl⟩<;>rfl
 pyHash:=λc h=>by
  rcases aW c with⟨i,t,rfl,rfl⟩|⟨x,t,rfl,rfl⟩
  ·exact wpAny_pyHash_int h
  ·exact wpAny_pyHash_str h
 eqBool:=λg c h=>by
  rcases aW g with⟨i,t,rfl,rfl⟩|⟨x,t,rfl,rfl⟩
  ·rcases aW c with⟨j,u,rfl,rfl⟩|⟨y,u,rfl,rfl⟩
   ·rw[GF]at h;exact wpAny_eqBool_int h
   ·rw[GG]at h;exact Ww i t y u _ _ _ _ h
  ·rcases aW c with⟨j,u,rfl,rfl⟩|⟨y,u,rfl,rfl⟩
   ·rw[GH]at h;exact Wx x t j u _ _ _ _ h
   ·rw[GI]at h;exact wpAny_eqBool_str h
 «strs»:=λk x t v h=>by
  rcases aW h with⟨i,u,rfl,e⟩|⟨y,u,rfl,e⟩
  ·exact nomatch e
  ·injection e with e1 _;subst e1;cases v<;>rfl
theorem rX(prog:Program)(w:World)(i:Int)(t:Tok):(aZ prog w).is (.inl i) (.int i t)=true:=xR i t
theorem rY(prog:Program)(w:World)(x:Str)(t:Tok):(aZ prog w).is (.inr x) (.str x t)=true:=xS x t
inductive V where
 |WX|bl (b:Bool)|int (i:Int)|str (x:Str)|byt (b:Array UInt8)|flt (b:UInt64)|ref (a:Addr)|ty (n:String)
 deriving DecidableEq
noncomputable def RelV:V->Value->Prop
 | .WX,u=>u=Value.none
 | .bl b,u=>u=Value.bool b
 | .int i,u=>∃t,u=Value.int i t
 | .str x,u=>∃t,u=Value.str x t
 | .byt b,u=>∃t,u=Value.bytes b t
 | .flt b,u=>∃t,u=Value.float b t
 | .ref a,u=>u=Value.ref a
 | .ty n,u=>u=Value.type n
noncomputable abbrev Vals:List V->List Value->Prop:=Paired RelV
theorem Vals.length(r:Vals a c):a.length=c.length:=WH r
theorem Vals.get:∀{xs:List V}{a:List Value}{i:Nat}{x:V},Vals xs a->xs[i]?=some x->∃u,a[i]?=some u/\RelV x u
 |_,_,_,_,.nil,e=>by simp at e
 |_,_,0,_,.cons r _,e=>by simp at e;subst e;exact⟨_,rfl,r⟩
 |_,_,i+1,x,.cons _ t,e=>by obtain⟨u,c,d⟩:=Vals.get (i:=i) (x:=x) t (by simpa using e);exact⟨u,by simpa using c,d⟩
theorem Vals.set(r:RelV x u):∀{a:List V}{c:List Value}(i:Nat),Vals a c->Vals (a.set i x) (c.set i u)
 |_,_,_,.nil=>.nil
 |_,_,0,.cons _ t=>.cons r t
 |_,_,i+1,.cons q t=>.cons q (Vals.set r i t)
theorem Vals.append:∀{a c:List V}{d e:List Value},Vals a d->Vals c e->Vals (a++c) (d++e)
 |_,_,_,_,.nil,s=>s
 |_,_,_,_,.cons r t,s=>.cons r (Vals.append t s)
theorem Vals.take:∀{a:List V}{c:List Value}(n:Nat),Vals a c->Vals (a.take n) (c.take n)
 |_,_,0,_=>.nil
 |_,_,_+1,.nil=>.nil
 |_,_,n+1,.cons r t=>.cons r (Vals.take n t)
theorem Vals.drop:∀{a:List V}{c:List Value}(n:Nat),Vals a c->Vals (a.drop n) (c.drop n)
 |_,_,0,r=>r
 |_,_,_+1,.nil=>.nil
 |_,_,n+1,.cons _ t=>Vals.drop n t
noncomputable def YB:Option V->Option Value->Prop
 |some v,some u=>RelV v u
 |none,none=>True
 |_,_=>False
noncomputable def KV{κ:Type}:List (κ×V)->List (κ×Value)->Prop:=Paired λ(p:κ×V)(q:κ×Value)=>p.1=q.1/\RelV p.2 q.2
noncomputable def kV:Key->V
 | .inl i=>.int i
 | .inr x=>.str x
inductive HO where
 |lst (xs:List V)
 |tup (xs:List V)
 |dK (kvs:List (Key×V))|dT (kvs:List (List Key×V))
 |set (S:Int->Bool) (n:Nat)
 |ins (C dx:Addr) (fs:List (Str×V))
 |own (x:Addr)
 |xd (fs:List (Str×V))
 |met (f x:Addr)
 |YU (lo hi:Int)
 |frz (o:Obj) (u:HO)
 |Zc (ps:Array Value)
 |ext (φ:Heap->Prop)
noncomputable abbrev Hp:=Addr->Option HO
noncomputable def upd(H:Hp)(a:Addr)(o:HO):Hp:=λb=>if b=a then some o else H b
theorem ai:upd H a o a=some o:=by unfold upd;rw[TY rfl]
theorem ag(h:b≠a):upd H a o b=H b:=by unfold upd;rw[TQ h]
theorem nV{H:Hp}(h:H a=some o)(c:H b=some u)(d:o≠u):a≠b:=by intro e;subst e;rw[h]at c;exact d (T7 c)
theorem aA{H:Hp}(h:H a=some o)(c:H b=none):a≠b:=by intro e;subst e;rw[h]at c;cases c
section
variable(P:Program)(w:World)
noncomputable def W7(H:Hp)(h:Heap)(a:Addr):HO->Prop
 | .lst e=>e.length<=sizeLine/\∃(c:List Value)(n:Nat),Vals e c/\h.get? a=some {cls:=.type "list",data:=.seq c.toArray n}
 | .tup e=>e.length<=sizeLine/\∃c:List Value,Vals e c/\IsTup h a c.toArray
 | .dK d=>d.length<=sizeLine/\(a==sysModules)=false/\∃j,KV d j/\h.DictOf (aZ P w) a j
 | .dT d=>d.length<=sizeLine/\(a==sysModules)=false/\∃e:List (List Key×Addr×Value),
   Paired (λ(p:List Key×V)(q:List Key×Addr×Value)=>p.1=q.1/\H q.2.1=some (.tup (p.1.map kV))/\RelV p.2 q.2.2) d e /\
   ∃o l y,h.get? a=some o/\o.ExactDict/\o.data=.dict l y/\l.toList=e.map (entryOfKey (tupleKind (aZ P w)))/\(e.map (·.1)).Nodup
 | .set S n=>h.SetOf (intKind P w) a S n
 | .ins C i fs=>H i=some (.own a)/\fs.length<=1000/\i≠a/\h.get? a=some (W.instObj C i) /\
   ∃g,h.Ns1 i g/\(∀f,YB (fs.lookup f) (g f))/\PySem.Within g (fs.map (·.1))
 | .own _=>∃o,h.get? a=some o
 | .xd fs=>∃g,h.Ns1 a g/\∀f,YB (fs.lookup f) (g f)
 | .YU lo z=>∃t u v,h.get? a=some {cls:=.type "range",data:=.fields #[.int lo t,.int z u,.int 1 v]}
 | .frz o u=>h.get? a=some o/\W7 H h a u
 | .Zc B=>h.get? a=some {cls:=.none,data:=.fields B}
 | .met f x=>h.get? a=some (W.methodObj (.ref f) (.ref x))
 | .ext φ=>φ h/\(∃o,h.get? a=some o)/\∀m r:Heap,φ m->(∀o,m.get? a=some o->r.get? a=some o)->φ r
noncomputable def X4(H:Hp)(h:Heap):Prop:=∀a o,H a=some o->W7 P w H h a o
end
section
theorem W7.lt(x:W7 P w H h a o):a<h.objs.size:=by
 cases o with
 |lst d=>obtain⟨_,_,_,_,e⟩:=x;exact TJ e
 |tup d=>obtain⟨_,_,_,p⟩:=x;exact p.lt
 |dK c=>obtain⟨_,_,_,_,o,_,_,e,_⟩:=x;exact TJ e
 |dT c=>obtain⟨_,_,_,_,o,_,_,e,_⟩:=x;exact TJ e
 |set S n=>obtain⟨o,_,_,_,e,_⟩:=x;exact TJ e
 |ins C g fs=>obtain⟨_,_,_,e,_⟩:=x;exact TJ e
 |own y=>obtain⟨_,e⟩:=x;exact TJ e
 |xd fs=>obtain⟨_,⟨_,_,_,e,_⟩,_⟩:=x;exact TJ e
 |YU lo i=>obtain⟨_,_,_,e⟩:=x;exact TJ e
 |frz ob u=>obtain⟨e,_⟩:=x;exact TJ e
 |Zc j=>exact TJ (show h.get? a=some _ from x)
 |met f y=>exact TJ (show h.get? a=some _ from x)
 |ext φ=>obtain⟨_,⟨_,e⟩,_⟩:=x;exact TJ e
theorem Paired.mapP:∀{c:List α}{d:List β},Paired F c d->(∀a b,F a b->G a b)->Paired G c d
 |_,_,.nil,_=>.nil
 |_,_,.cons r t,f=>.cons (f _ _ r) (Paired.mapP t f)
theorem W7.stay{m:Heap}(x:W7 P w H h a o)(k:∀b u,(b=a\/H b=some (.own a))->h.get? b=some u->m.get? b=some u)
  (M:∀b,H b=some (.own a)->I b=some (.own a)) (N:∀b l,H b=some (.tup l)->I b=some (.tup l)):W7 P w I m a o:=by
 induction o with
 |lst l=>obtain⟨z,j,n,r,e⟩:=x;exact⟨z,j,n,r,k _ _ (.inl rfl) e⟩
 |tup l=>obtain⟨z,j,r,ob,e,c⟩:=x;exact⟨z,j,r,ob,k _ _ (.inl rfl) e,c⟩
 |dK B=>obtain⟨z,y,O,r,ob,g,i,e,c⟩:=x;exact⟨z,y,O,r,ob,g,i,k _ _ (.inl rfl) e,c⟩
 |dT B =>obtain⟨z,y,l,r,ob,g,i,e,c⟩:=x;exact⟨z,y,l,Paired.mapP r λp q z=>⟨z.1,N _ _ z.2.1,z.2.2⟩,ob,g,i,k _ _ (.inl rfl) e,c⟩
 |set S n=>obtain⟨ob,g,i,t,e,c⟩:=x;exact⟨ob,g,i,t,k _ _ (.inl rfl) e,c⟩
 |ins C T fs =>obtain⟨d,z,ne,e,E,⟨G,g,i,e2,c⟩,r⟩:=x;exact⟨M _ d,z,ne,k _ _ (.inl rfl) e,E,⟨G,g,i,k _ _ (.inr d) e2,c⟩,r⟩
 |own y=>obtain⟨ob,e⟩:=x;exact⟨ob,k _ _ (.inl rfl) e⟩
 |xd fs=>obtain⟨E,⟨G,g,i,e,c⟩,r⟩:=x;exact⟨E,⟨G,g,i,k _ _ (.inl rfl) e,c⟩,r⟩
 |YU lo U=>obtain⟨t,u,v,e⟩:=x;exact⟨t,u,v,k _ _ (.inl rfl) e⟩
 |frz ob u Q=>obtain⟨e,q⟩:=x;exact⟨k _ _ (.inl rfl) e,Q q⟩
 |Zc J =>have e:h.get? a=some {cls:=.none,data:=.fields J}:=x;show m.get? a=some {cls:=.none,data:=.fields J};exact k a _ (.inl rfl) e
 |met f y =>have e:h.get? a=some (W.methodObj (.ref f) (.ref y)):=x;show m.get? a=some (W.methodObj (.ref f) (.ref y));exact k a _ (.inl rfl) e
 |ext φ=>obtain⟨p,⟨o,e⟩,st⟩:=x;exact⟨st _ _ p λo q=>k _ _ (.inl rfl) q,⟨o,k _ _ (.inl rfl) e⟩,st⟩
theorem X4.lt(x:X4 P w H h)(e:H a=some o):a<h.objs.size:=(x a o e).lt
theorem X4.fresh{P:Program}{w:World}{H:Hp}{h:Heap}{a:Addr}(x:X4 P w H h)(e:h.objs.size<=a):H a=none:=by
 cases q:H a with
 |none=>rfl
 |some u=>exact absurd (TR (x.lt q) e) (Uz _)
theorem X4.kept{h':Heap}(x:X4 P w H h)(k:∀b u,h.get? b=some u->h'.get? b=some u):X4 P w H h':=λa o e =>
 (x a o e).stay (λb u _ q=>k b u q) (λ_ q=>q) λ_ _ q=>q
theorem X4.laid{P:Program}{w:World}{H:Hp}{h h':Heap}{a:Addr}{o:HO}(x:X4 P w H h)(k:∀b u,h.get? b=some u->h'.get? b=some u)(g:h.objs.size<=a)(new:W7 P w (upd H a o) h' a o):X4 P w (upd H a o) h':=λb u e=>by
 have d:=x.fresh g;by_cases f:b=a
 ·subst f;rw[ai]at e;cases e;exact new
 ·rw[ag f]at e;exact(x b u e).stay (λc v _ q=>k c v q) (λc q=>by rw[ag (aA q d)];exact q) λc i q=>by rw[ag (aA q d)];exact q
end
noncomputable def Rd(H:Hp)(a:Addr)(u:HO):Prop:=H a=some u\/∃o,H a=some (.frz o u)
theorem Rd.ok(r:Rd H a u)(x:X4 P w H h):W7 P w H h a u:=by
 rcases r with r|⟨o,r⟩
 ·exact x a u r
 ·obtain⟨_,q⟩:=x a _ r;exact q
noncomputable def Mut:Option HO->Prop
 |some (.lst _)=>True
 |some (.dK _)=>True
 |some (.dT _)=>True
 |some (.set _ _)=>True
 |some (.ins _ _ _)=>True
 |some (.ext _)=>True
 |_=>False
section
theorem X4.write{g:Heap}(ok:X4 P w H h)(i:Mut (H x))(n:e=x\/H e=some (.own x))(k:∀b u,b≠e->h.get? b=some u->g.get? b=some u)(m:∃u,g.get? e=some u)
  (new:W7 P w (upd H x p) g x p):X4 P w (upd H x p) g:=λb u q=>by
 have d:∀c y,H c=some (.own y)->c≠x:=λc y r z=>by subst z;rw[r]at i;exact i
 have f:∀c j,H c=some (.tup j)->c≠x:=λc j r z=>by subst z;rw[r]at i;exact i
 by_cases l:b=x
 ·subst l;rw[ai]at q;cases q;exact new
 ·rw[ag l]at q;by_cases a:b=e
  ·have t:H b=some (.own x):=by
    rcases n with z|z
    ·exact absurd (a.trans z) l
    ·rw[a];exact z
   rw[q]at t;cases t;obtain⟨v,B⟩:=m;exact⟨v,by rw[a];exact B⟩
  ·refine(ok b u q).stay (λc v hc r=>k c v ?_ r) (λc r=>by rw[ag (d c b r)];exact r) λc j r=>by rw[ag (f c j r)];exact r
   rcases hc with rfl|hc
   ·exact a
   ·rintro rfl;rcases n with z|z
    ·exact d c b hc z
    ·rw[hc]at z;cases z;exact l rfl
end
structure Un(fs ex:List Addr)(H H':Hp)(h h':Heap):Prop where
 keep:∀b o,h.get? b=some o->H b=none->b∉fs->b∉ex->h'.get? b=some o
 slot:∀b o,h.get? b=some o->H b=none->b∈fs->b∉ex->∃sl,h'.get? b=some {o with slots:=sl}
 free:∀b o,h.get? b=some o->H b=none->b∉ex->H' b=none
 there:∀b o,h.get? b=some o->b∉ex->∃o',h'.get? b=some o'
 tups:∀b xs,H b=some (.tup xs)->H' b=some (.tup xs)
 Y5:∀b o u,H b=some (.frz o u)->H' b=some (.frz o u)
 Zh:∀b ps,H b=some (.Zc ps)->∃more,H' b=some (.Zc (ps++more))
section
theorem Un.any(u:Un fs ex H f h d)(q:h.get? b=some ob)(n:H b=none)(a:b∉ex):∃e,d.get? b=some {ob with slots:=e}:=by
 by_cases c:b∈fs
 ·exact u.slot b ob q n c a
 ·exact⟨ob.slots,u.keep b ob q n c a⟩
theorem Un.kept{h h':Heap}(k:∀b u,h.get? b=some u->h'.get? b=some u):Un fs ex H H h h' :=
 ⟨λb ob q _ _ _=>k b ob q,λb ob q _ _ _=>⟨ob.slots,k b ob q⟩,λ_ _ _ n _=>n,λb ob q _=>⟨ob,k b ob q⟩,λ_ _ q=>q,λ_ _ _ q=>q,λ_ a q=>⟨#[],by rw[q];simp⟩⟩
theorem Un.refl:Un fs ex H H h h:=Un.kept λ_ _ q=>q
theorem Un.laid{fs ex:List Addr}{H:Hp}{h h':Heap}{a:Addr}{o:HO}(k:∀b u,h.get? b=some u->h'.get? b=some u)(d:h.objs.size<=a)(c:H a=none):Un fs ex H (upd H a o) h h' where
 keep:=λb u q _ _ _=>k b u q
 slot:=λb u q _ _ _=>⟨u.slots,k b u q⟩
 free:=λb u q n _=>by rw[ag (TV (TR (TJ q) d))];exact n
 there:=λb u q _=>⟨u,k b u q⟩
 tups:=λb e q=>by rw[ag (aA q c)];exact q
 Y5:=λb u e q=>by rw[ag (aA q c)];exact q
 Zh:=λb f q=>⟨#[],by rw[ag (aA q c),q];simp⟩
theorem Un.write{h d:Heap}(c:Mut (H x))(l:e=x\/H e=some (.own x))(k:∀b u,b≠e->h.get? b=some u->d.get? b=some u)(f:∃u,d.get? e=some u):Un fs ex H (upd H x o) h d:=by
 have i:∀b,H b=none->b≠x:=λb n z=>by subst z;rw[n]at c;exact c
 have j:∀b,H b=none->b≠e:=λb n z=>by
  subst z;rcases l with r|r
  ·exact i b n r
  ·rw[n]at r;cases r
 have g:∀b u,H b=some u->¬ Mut (some u)->b≠x:=λb u q m z=>by subst z;rw[q]at c;exact m c
 refine⟨λb u q n _ _=>k b u (j b n) q,λb u q n _ _=>⟨u.slots,k b u (j b n) q⟩,λb u q n _=>by rw[ag (i b n)];exact n,λb u q _=>?_,
  λb p q=>by rw[ag (g b _ q λz=>z)];exact q,λb u p q=>by rw[ag (g b _ q λz=>z)];exact q,λb t q=>⟨#[],by rw[ag (g b _ q λz=>z),q];simp⟩⟩
 by_cases a:b=e
 ·subst a;exact f
 ·exact⟨u,k b u a q⟩
end
noncomputable def trk(h:Heap)(H:Hp):List Addr:=(List.range h.objs.size).filter λa=>(H a).isSome
noncomputable def pe(h:Heap)(H:Hp):Heap:=W.hideAll h (trk h H)
theorem xO(h:Heap)(H:Hp):(pe h H).objs.size=h.objs.size:=W.hideAll_size _ _
theorem zL{h:Heap}(e:h.get? b=some o)(n:H b=none):(pe h H).get? b=some o :=
 W.hideAll_get _ e λa=>by have q:(H b).isSome=true:=(List.mem_filter.mp a).2;rw[n]at q;simp at q
theorem C0(e:(pe h H).get? b=some o):h.get? b=some o/\H b=none:=by
 have a:h.get? b=some o:=W.of_hideAll (trk h H) e;refine⟨a,?_⟩
 cases q:H b with
 |none=>rfl
 |some x =>have c:b∈trk h H:=List.mem_filter.mpr ⟨Wt.mpr (TJ a),by simp[q]⟩;have z:(pe h H).get? b=none:=VT (trk h H) c;rw[z]at e;cases e
structure Mod(K:W.Frag)(mg:Str->Option Value)(base:Heap):Prop where
 kin:K.In base
 glob:base.Ns mainGlobals mg
 blt:∃mb,base.Ns builtinsNs mb/\∀x:Str,x≠"__name__"->mb x=bootBuiltins x
 nolimit:base.NoLimit
structure Cx where
 prog:Program
 w:World
 K:W.Frag
 mg:Str->Option Value
 base:Heap
 A:Around
 N:List Str
 s₀:Shared
 H₀:Hp
 env:Env
 outer:List Env
 stack:List Env
 ex:List Addr
 fn:Str->Bool
 calm:Bool
 pn:List (Addr×Obj)
 xe:Value->Shared->Prop
noncomputable def frs(l:List Env):List Addr:=l.filterMap (·.frame)
noncomputable abbrev Cx.fs(X:Cx):List Addr:=frs X.outer
noncomputable def Vis(a:Scope)(x:Str):Prop:=a.names.lookup x=some .local\/a.names.lookup x=some .cell\/a.names.lookup x=some .free
noncomputable def Loc(a:Scope)(x:Str):Prop:=a.names.lookup x=some .local\/a.names.lookup x=some .cell
noncomputable def Mj(env:Env)(h:Heap)(m:Str->Option Value)(x:Str)(u:Value):Prop :=
 (env.kindOf x=some .local/\m x=some u)\/((env.kindOf x=some .cell\/env.kindOf x=some .free)/\∃c,env.cells.lookup x=some c/\h.IsCell c (some u))
structure Cx.Ok(X:Cx):Prop where
 mod:Mod X.K X.mg X.base
 kind:X.env.scope.kind=.function
 glob:X.env.globals=mainGlobals
 blt:X.env.builtins=builtinsNs
 above:X.s₀.heap.objs.size<=X.env.locals
 inj:∀x y c,X.env.cells.lookup x=some c->X.env.cells.lookup y=some c->x=y
 has:∀x,(X.env.kindOf x=some .cell\/X.env.kindOf x=some .free)->∃c,X.env.cells.lookup x=some c
 cab:∀x c,X.fn x=true->X.env.cells.lookup x=some c->X.s₀.heap.objs.size<=c
 hd:X.calm=true->X.A.handled=none
 frames:X.A.frames=some X.stack
 stk:X.stack=X.outer\/(X.stack=X.env::X.outer/\X.env.frame=some X.env.locals)
 exf:∀b∈X.ex,b≠X.env.locals/\∀x c,X.env.cells.lookup x=some c->c≠b
 bs:∀b o,X.base.get? b=some o->X.s₀.heap.get? b=some o/\X.H₀ b=none
 Z9:X.base.objs.size<=X.s₀.heap.objs.size
 ZH:∀b o,X.base.get? b=some o->b∉X.ex
 exfs:∀b∈X.ex,b∉X.fs
 Yq:X.s₀.heap.FunFrames X.base X.outer
 frf:∀b∈X.fs,X.H₀ b=none
structure Inv(X:Cx)(pins:List (Addr×Obj))(σ:List (Option V))(H:Hp)(s:Shared):Prop where
 ok:X.Ok
 os:s.os=X.s₀.os
 bare:AllBare s.gens
 base:Un X.fs X.ex X.H₀ H X.s₀.heap s.heap
 loc:∃m,s.heap.Ns X.env.locals m/\∀(i:Nat)(x:Str)(v:V),X.N[i]?=some x->σ[i]?=some (some v)->Vis X.env.scope x->∃u,RelV v u/\Mj X.env s.heap m x u
 cell:∀x c,X.env.cells.lookup x=some c->∃v,s.heap.IsCell c v
 free:H X.env.locals=none
 XE:∀x c,X.env.cells.lookup x=some c->H c=none
 pin:∀p∈X.pn++pins,s.heap.get? p.1=some p.2/\H p.1=none/\p.1≠X.env.locals/\p.1∉X.fs/\∀v,p.2.data≠.cell v
 hok:X4 X.prog X.w H s.heap
 len:σ.length=X.N.length
section
theorem Cx.Ok.nofr{X:Cx}(ok:X.Ok)(e:X.base.get? b=some o):b∉X.fs:=λa=>by have:=(ok.Yq.mem a).1;rw[e]at this;cases this
theorem Inv.bs(I:Inv X a c H s):∀b o,X.base.get? b=some o->s.heap.get? b=some o/\H b=none:=λb o e =>
 ⟨I.base.keep b o (I.ok.bs b o e).1 (I.ok.bs b o e).2 (I.ok.nofr e) (I.ok.ZH b o e),I.base.free b o (I.ok.bs b o e).1 (I.ok.bs b o e).2 (I.ok.ZH b o e)⟩
theorem Inv.bk(I:Inv X a c H s):∀b o,X.base.get? b=some o->s.heap.get? b=some o:=λb o e=>(I.bs b o e).1
theorem Inv.mod(I:Inv X a c H s):Mod X.K X.mg X.base:=I.ok.mod
theorem Inv.Xy(I:Inv X a c H s):X.K.In s.heap:=I.ok.mod.kin.keeps I.bk
theorem Inv.lt(I:Inv X a d H s):X.env.locals<s.heap.objs.size:=let⟨_,c,_⟩:=I.loc;c.lt
theorem Inv.sz(I:Inv X a c H s):X.s₀.heap.objs.size<=s.heap.objs.size:=Ub I.ok.above (UX I.lt)
theorem Inv.nofs{X:Cx}{c:List (Addr×Obj)}{d:List (Option V)}{H:Hp}{s:Shared}(I:Inv X c d H s){a:Addr}(h:s.heap.objs.size<=a):a∉X.fs:=λe=>by obtain⟨_,o,f,_⟩:=I.ok.Yq.mem e;exact absurd (TR (TJ f) (Ub I.sz h)) (Uz _)
theorem Inv.cne(I:Inv X f j H s):∀x c,X.env.cells.lookup x=some c->c≠X.env.locals:=λx c e z=>by obtain⟨v,o,g,i⟩:=I.cell x c e;obtain⟨m,⟨l,n,p,a,d,_⟩,_⟩:=I.loc;rw[z,a]at g;cases g;rw[d]at i;cases i
theorem Inv.Yq(I:Inv X f p H s):s.heap.FunFrames X.base X.outer:=by
 have all:∀(l:List Env),(∀b∈frs l,b∈X.fs)->X.s₀.heap.FunFrames X.base l->s.heap.FunFrames X.base l:=by
  intro l
  induction l with
  |nil=>intro _ _;trivial
  |cons env r g =>intro hs hl;obtain⟨hk,⟨L,o,a,i,j,m⟩,n⟩:=hl;have c:L∈X.fs:=hs L (by unfold frs;rw[Wn,a];exact Uq);obtain⟨q,e⟩:=I.base.slot L o j (I.ok.frf L c) c λz=>I.ok.exfs L z c;exact⟨hk,⟨L,_,a,i,e,m⟩,g (λb d=>hs b (by unfold frs;rw[Wn,a];exact Ua _ d)) n⟩
 exact all X.outer (λ_ d=>d) I.ok.Yq
theorem Inv.stack(I:Inv X a f H s):s.heap.FunFrames X.base X.stack:=by
 rcases I.ok.stk with e|⟨e,c⟩
 ·rw[e];exact I.Yq
 ·rw[e];obtain⟨m,d,_⟩:=I.loc;refine .cons (by rw[I.ok.kind];decide) c d ?_ I.Yq;exact Heap.get?_none_of_le (Ub I.ok.Z9 I.ok.above)
theorem Inv.YG(I:Inv X c f H s):∀b∈frs X.stack,b∈X.env.locals::X.fs:=λb a=>by
 rcases I.ok.stk with e|⟨e,d⟩
 ·rw[e]at a;exact Ua _ a
 ·rw[e]at a;unfold frs at a;rw[Wn,d]at a;exact a
theorem Inv.YI(I:Inv X a d H s):∀b∈frs X.stack,H b=none:=λb hb=>by
 rcases T3.mp (I.YG b hb)with e|hb
 ·rw[e];exact I.free
 ·obtain⟨_,o,c,_⟩:=I.ok.Yq.mem hb;exact I.base.free b o c (I.ok.frf b hb) λz=>I.ok.exfs b z hb
theorem Inv.step{X:Cx}{f:List (Addr×Obj)}{σ:List (Option V)}{H J:Hp}{s:Shared}{E:Heap}{g':Array GenState}{d':Drawn}{ch:List Addr}(I:Inv X f σ H s)
  (g:∀b∈ch,(b∈X.ex\/X.s₀.heap.objs.size<=b)/\b≠X.env.locals/\(∀x c,X.env.cells.lookup x=some c->c≠b)/\∀p∈X.pn++f,p.1≠b)
  (keep:∀b o,b≠X.env.locals->b∉X.fs->b∉ch->s.heap.get? b=some o->H b=none->E.get? b=some o)
  (slot:∀b o,b≠X.env.locals->b∈X.fs->b∉ch->s.heap.get? b=some o->H b=none->∃Q,E.get? b=some {o with slots:=Q}) (free:∀b o,b∉ch->s.heap.get? b=some o->H b=none->J b=none)
  (there:∀b o,b∉ch->s.heap.get? b=some o->∃N,E.get? b=some N)
  (tups:∀b B,H b=some (.tup B)->J b=some (.tup B)) (Y5:∀b o u,H b=some (.frz o u)->J b=some (.frz o u)) (Zh:∀b O,H b=some (.Zc O)->∃more,J b=some (.Zc (O++more)))
  (ns:∀m,s.heap.Ns X.env.locals m->E.Ns X.env.locals m) (T:X4 X.prog X.w J E) (hg:AllBare g') :
  Inv X f σ J {s with heap:=E,gens:=g',drawn:=d',toks:=t'}:=by
 have neL:∀b o,X.s₀.heap.get? b=some o->b≠X.env.locals:=λb o e=>TV (TR (TJ e) I.ok.above)
 have y:∀b o,X.s₀.heap.get? b=some o->b∉X.ex->b∉ch:=λb o e a G=>by
  rcases(g b G).1 with z|z
  ·exact a z
  ·exact absurd (TR (TJ e) z) (Uz _)
 have j:∀x c,X.env.cells.lookup x=some c->∀v,s.heap.IsCell c v->E.IsCell c v:=λx c e v ⟨o,M,U⟩=>by
  have t:c∉ch:=λz=>(g c z).2.2.1 x c e rfl;by_cases hc:c∈X.fs
  ·obtain⟨Q,q⟩:=slot c o (I.cne x c e) hc t M (I.XE x c e);exact⟨_,q,U⟩
  ·exact⟨o,keep c o (I.cne x c e) hc t M (I.XE x c e),U⟩
 refine⟨I.ok,I.os,hg,⟨λb o e n G a=>?_,λb o e n G a=>?_,λb o e n a=>?_,λb o e a=>?_,λb B e=>tups b B (I.base.tups b B e),λb o B e=>Y5 b o B (I.base.Y5 b o B e),λb O e=>?_⟩,?_,λx c e=>?_,?_,λx c e=>?_,λp hp=>?_,T,I.len⟩
 ·exact keep b o (neL b o e) G (y b o e a) (I.base.keep b o e n G a) (I.base.free b o e n a)
 ·obtain⟨Q,e1⟩:=I.base.slot b o e n G a;obtain⟨Y,e2⟩:=slot b _ (neL b o e) G (y b o e a) e1 (I.base.free b o e n a);exact⟨Y,e2⟩
 ·obtain⟨N,e1⟩:=I.base.there b o e a;exact free b N (y b o e a) e1 (I.base.free b o e n a)
 ·obtain⟨N,e1⟩:=I.base.there b o e a;exact there b N (y b o e a) e1
 ·obtain⟨m1,e1⟩:=I.base.Zh b O e;obtain⟨m2,e2⟩:=Zh b _ e1;exact⟨m1++m2,by rw[e2,Array.append_assoc]⟩
 ·obtain⟨m,hn,hl⟩:=I.loc;refine⟨m,ns m hn,λi x v e1 e2 e3=>?_⟩;obtain⟨u,r,l⟩:=hl i x v e1 e2 e3;refine⟨u,r,?_⟩;rcases l with l|⟨k,c,e,z⟩
  ·exact .inl l
  ·exact .inr ⟨k,c,e,j x c e _ z⟩
 ·obtain⟨v,z⟩:=I.cell x c e;exact⟨v,j x c e v z⟩
 ·obtain⟨m,⟨o,_,_,M,_⟩,_⟩:=I.loc;exact free _ o (λz=>(g _ z).2.1 rfl) M I.free
 ·obtain⟨v,o,M,U⟩:=I.cell x c e;exact free c o (λz=>(g c z).2.2.1 x c e rfl) M (I.XE x c e)
 ·obtain⟨e,n,ne,nf,d⟩:=I.pin p hp;have t:p.1∉ch:=λz=>(g p.1 z).2.2.2 p hp rfl;exact⟨keep p.1 p.2 ne nf t e n,free p.1 p.2 t e n,ne,nf,d⟩
theorem Inv.un(I:Inv X a p H s)(u:Un X.fs [] H j s.heap h')(d:X4 X.prog X.w j h'):Inv X a p j {s with heap:=h',toks:=t'}:=by
 obtain⟨m,⟨o,y,B,l,r⟩,_⟩:=id I.loc;obtain⟨E,q⟩:=u.any l I.free (by simp)
 exact I.step (g':=s.gens) (d':=s.drawn) (ch:=[]) (λ_ z=>nomatch z) (λb o _ f _ e n=>u.keep b o e n f (by simp)) (λb o _ f _ e n=>u.slot b o e n f (by simp)) (λb o _ e n=>u.free b o e n (by simp)) (λb o _ e=>u.there b o e (by simp)) u.tups u.Y5 u.Zh (λG t=>by
  obtain⟨J,g,i,c,v⟩:=t;rw[l]at c;cases c;exact⟨_,g,i,q,v⟩) d I.bare
theorem Inv.call(I:Inv X a y H s)(u:Un (frs X.stack) ch H t s.heap h')(i:X4 X.prog X.w t h')(B:AllBare g')
  (f:∀b∈ch,(b∈X.ex\/X.s₀.heap.objs.size<=b)/\b≠X.env.locals/\(∀x c,X.env.cells.lookup x=some c->c≠b)/\∀p∈X.pn++a,p.1≠b) :
  Inv X a y t {s with heap:=h',gens:=g',drawn:=d',toks:=t'}:=by
 obtain⟨m,⟨o,M,N,v,r⟩,_⟩:=id I.loc;obtain⟨O,j⟩:=u.any v I.free λz=>(f _ z).2.1 rfl
 exact I.step (ch:=ch) f (λb o j E d e n=>u.keep b o e n (λz=>(T3.mp (I.YG b z)).elim j E) d) (λb o _ _ d e n=>u.any e n d) (λb o d e n=>u.free b o e n d) (λb o d e=>u.there b o e d) u.tups u.Y5 u.Zh (λQ G=>by
  obtain⟨T,l,q,g,J⟩:=G;rw[v]at g;cases g;exact⟨_,l,q,j,J⟩) i B
theorem Inv.turned{g:Heap}(I:Inv X a j H s)(k:∀b o,b≠it->s.heap.get? b=some o->g.get? b=some o)(l:H it=none)(i:it≠X.env.locals)
  (t:it∈X.ex\/X.s₀.heap.objs.size<=it) (w:∀x c,X.env.cells.lookup x=some c->c≠it) (y:∀p∈X.pn++a,p.1≠it):Inv X a j H {s with heap:=g,toks:=t'}:=by
 have f:∀b u,H b=some u->b≠it:=λb u e z=>by rw[z,l]at e;cases e
 refine I.step (g':=s.gens) (d':=s.drawn) (ch:=[it]) (λb B=>?_) (λb o _ _ d e _=>k b o (λz=>d (by simp[z])) e) (λb o _ _ d e _=>⟨o.slots,k b o (λz=>d (by simp[z])) e⟩) (λ_ _ _ _ n=>n)
  (λb o d e=>⟨o,k b o (λz=>d (by simp[z])) e⟩) (λ_ _ e=>e) (λ_ _ _ e=>e) (λb N e=>⟨#[],by rw[e];simp⟩) (λm E=>?_) (λb u e=>?_) I.bare
 ·have e:b=it:=by simpa using B
  subst e;exact⟨t,i,w,y⟩
 ·obtain⟨o,G,J,M,r⟩:=E;exact⟨o,G,J,k _ o (Ut i) M,r⟩
 ·refine(I.hok b u e).stay (λc v d q=>k c v ?_ q) (λ_ q=>q) λ_ _ q=>q;rcases d with z|z
  ·rw[z];exact f b u e
  ·exact f c _ z
theorem Inv.tok(I:Inv X a c H s)(t:Nat):Inv X a c H {s with toks:=t}:=I.un (h':=s.heap) (t':=t) Un.refl I.hok
theorem Inv.kept{h':Heap}(I:Inv X a c H s)(k:∀b u,s.heap.get? b=some u->h'.get? b=some u):Inv X a c H {s with heap:=h',toks:=t'}:=I.un (Un.kept k) (I.hok.kept k)
theorem Inv.laid{X:Cx}{c:List (Addr×Obj)}{e:List (Option V)}{H:Hp}{s:Shared}{h':Heap}{a:Addr}{o:HO}{t':Nat}(I:Inv X c e H s)(k:∀b u,s.heap.get? b=some u->h'.get? b=some u)(d:s.heap.objs.size<=a)(new:W7 X.prog X.w (upd H a o) h' a o) :
  Inv X c e (upd H a o) {s with heap:=h',toks:=t'}:=I.un (Un.laid k d (I.hok.fresh d)) (I.hok.laid k d new)
theorem Inv.write{d:Heap}(I:Inv X a i H s)(f:Mut (H x))(g:e=x\/H e=some (.own x))(k:∀b u,b≠e->s.heap.get? b=some u->d.get? b=some u)(c:∃u,d.get? e=some u)
  (new:W7 X.prog X.w (upd H x o) d x o):Inv X a i (upd H x o) {s with heap:=d,toks:=t'}:=I.un (Un.write f g k c) (I.hok.write f g k c new)
theorem Inv.pins_of(I:Inv X a c H s)(h:∀p∈d,s.heap.get? p.1=some p.2/\H p.1=none/\p.1≠X.env.locals/\p.1∉X.fs/\∀v,p.2.data≠.cell v):Inv X d c H s :=
 ⟨I.ok,I.os,I.bare,I.base,I.loc,I.cell,I.free,I.XE,λp e=>(UO.mp e).elim (λz=>I.pin p (VD _ z)) (h p),I.hok,I.len⟩
theorem lL{N:List Str}(c:N.Nodup){i j:Nat}{x:Str}(a:N[i]?=some x)(b:N[j]?=some x):i=j:=by obtain⟨d,e1⟩:=M1.mp a;obtain⟨e,e2⟩:=M1.mp b;exact(List.getElem_inj c).mp (e1.trans e2.symm)
theorem jt(I:Inv X T σ H s)(hN:X.N.Nodup)(U:X.N[i]?=some x)(g:Loc X.env.scope x)(r:RelV v u)
  (h:∀s',Inv X T (σ.set i (some v)) H s'->(∃a,Heap.SameBut a s.heap s'.heap/\(a=X.env.locals\/X.env.cells.lookup x=some a))->Q () s') (hf:X.fn x=true\/X.env.scope.names.lookup x=some .local:=by first|exact .inl rfl|exact .inr rfl|assumption):wpAny M A (storeName X.env x u) Q E s:=by
 obtain⟨m,hn,hl⟩:=id I.loc;have Y:(X.env.scope.kind==.class||(X.env.scope.kind==.module&&X.env.locals != X.env.globals))=false:=by rw[I.ok.kind];rfl
 have t:i<σ.length:=by rw[I.len];exact(M1.mp U).1
 have cne:=I.cne
 have f:∀{a:Addr}{O:Heap},(∃o,s.heap.get? a=some o/\H a=none)->Heap.SameBut a s.heap O->X4 X.prog X.w H O:=λ{a O} ha hs b ob e=>by
  obtain⟨_,_,l⟩:=ha;refine(I.hok b ob e).stay (λc w' hc q=>(hs.2 c ?_).trans q) (λ_ q=>q) λ_ _ q=>q;rintro rfl;rcases hc with rfl|hc
  ·rw[l]at e;cases e
  ·rw[l]at hc;cases hc
 rcases g with hk|hk
 ·refine wpAny_storeName_local hk hn (λO hn' hs=>?_) Y;obtain⟨oL,_,_,hoL,_⟩:=id hn;refine h _ ⟨I.ok,I.os,I.bare,⟨λb o e n B g=>?_,λb o e n B g=>?_,I.base.free,λb o e g=>?_,I.base.tups,I.base.Y5,I.base.Zh⟩,⟨_,hn',λj y v' e1 e2 e3=>?_⟩,λy c e=>?_,I.free,I.XE,λp hp=>?_,f ⟨oL,hoL,I.free⟩ hs,by simpa using I.len⟩ ⟨_,hs,.inl rfl⟩
  ·exact(hs.2 b (TV (TR (TJ e) I.ok.above))).trans (I.base.keep b o e n B g)
  ·obtain⟨sl,e1⟩:=I.base.slot b o e n B g;exact⟨sl,(hs.2 b (TV (TR (TJ e) I.ok.above))).trans e1⟩
  ·obtain⟨o',e1⟩:=I.base.there b o e g;exact⟨o',(hs.2 b (TV (TR (TJ e) I.ok.above))).trans e1⟩
  ·by_cases G:j=i
   ·subst G;rw[U]at e1;cases e1;rw[UY t]at e2;cases e2;exact⟨u,r,.inl ⟨hk,by simp⟩⟩
   ·rw[Vo (Ut G)]at e2;obtain⟨u',r',q⟩:=hl j y v' e1 e2 e3;refine⟨u',r',?_⟩;rcases q with⟨k,e⟩|⟨k,c,e,z⟩
    ·refine .inl ⟨k,?_⟩;have:y≠x:=λe=>G (lL hN e1 (e▸U));simp[this,e]
    ·exact .inr ⟨k,c,e,z.sameBut hs (cne y c e)⟩
  ·obtain⟨w',z⟩:=I.cell y c e;exact⟨w',z.sameBut hs (cne y c e)⟩
  ·obtain⟨e,n,ne,nf,d⟩:=I.pin p hp;exact⟨(hs.2 p.1 ne).trans e,n,ne,nf,d⟩
 ·have J:X.fn x=true:=by
   rcases hf with z|z
   ·exact z
   ·rw[z]at hk;cases hk
  obtain⟨c,hc⟩:=I.ok.has x (.inl hk);obtain⟨w',z⟩:=I.cell x c hc;refine wpAny_storeName_cell I.ok.kind hk hc z (λO hc' hs=>?_);obtain⟨oc,hoc,hocd⟩:=id z;refine h {s with heap:=O} ⟨I.ok,I.os,I.bare,⟨λb o e n B g=>?_,λb o e n B g=>?_,I.base.free,λb o e g=>?_,I.base.tups,I.base.Y5,I.base.Zh⟩,⟨m,hn.sameBut hs (Ut (cne x c hc)),λj y v' e1 e2 e3=>?_⟩,λy c' e=>?_,I.free,I.XE,λp hp=>?_,f ⟨oc,hoc,I.XE x c hc⟩ hs,by simpa using I.len⟩ ⟨c,hs,.inr hc⟩
  ·exact(hs.2 b (TV (TR (TJ e) (I.ok.cab x c J hc)))).trans (I.base.keep b o e n B g)
  ·obtain⟨sl,e1⟩:=I.base.slot b o e n B g;exact⟨sl,(hs.2 b (TV (TR (TJ e) (I.ok.cab x c J hc)))).trans e1⟩
  ·obtain⟨o',e1⟩:=I.base.there b o e g;exact⟨o',(hs.2 b (TV (TR (TJ e) (I.ok.cab x c J hc)))).trans e1⟩
  ·by_cases G:j=i
   ·subst G;rw[U]at e1;cases e1;rw[UY t]at e2;cases e2;exact⟨u,r,.inr ⟨.inl hk,c,hc,hc'⟩⟩
   ·rw[Vo (Ut G)]at e2;obtain⟨u',r',q⟩:=hl j y v' e1 e2 e3;refine⟨u',r',?_⟩;rcases q with q|⟨k,c',e,z'⟩
    ·exact .inl q
    ·refine .inr ⟨k,c',e,z'.sameBut hs ?_⟩;rintro rfl;exact G (lL hN e1 (I.ok.inj _ _ _ e hc▸U))
  ·by_cases hcc:c'=c
   ·subst hcc;exact⟨_,hc'⟩
   ·obtain⟨w2,z2⟩:=I.cell y c' e;exact⟨w2,z2.sameBut hs hcc⟩
  ·obtain⟨e,n,ne,nf,d⟩:=I.pin p hp;refine⟨(hs.2 p.1 ?_).trans e,n,ne,nf,d⟩;intro q;rw[q,hoc]at e;have q':oc=p.2:=T7 e;exact d w' (by rw[<- q'];exact hocd)
theorem cz(I:Inv X a d H s)(e:X.N.Nodup)(f:X.N[i]?=some x)(g:Loc X.env.scope x)(r:RelV v u)
  (h:∀c,Inv X a (d.set i (some v)) H c->Q () c) (j:X.fn x=true\/X.env.scope.names.lookup x=some .local:=by first|exact .inl rfl|exact .inr rfl|assumption):wpAny M A (storeName X.env x u) Q E s :=
 jt I e f g r (λc l _=>h c l) j
theorem Inv.YY{s':Shared}(I:Inv X a i H s)(j:s'.os=s.os)(u:Un (frs X.stack) ch H g s.heap s'.heap)(d:X4 X.prog X.w g s'.heap)(l:AllBare s'.gens)
  (f:∀b∈ch,(b∈X.ex\/X.s₀.heap.objs.size<=b)/\b≠X.env.locals/\(∀x c,X.env.cells.lookup x=some c->c≠b)/\∀p∈X.pn++a,p.1≠b):Inv X a i g s':=by
 obtain⟨t,m,n,q,r⟩:=s';have e:r=s.os:=j;subst e;exact I.call (g':=m) (t':=q) (d':=n) u d l f
end
noncomputable abbrev XK:=Value->Option Addr->Hp->Prop
noncomputable abbrev St:=List (Option V)
noncomputable abbrev VK:=V->Hp->Prop
noncomputable abbrev TE:=St->Hp->VK->Prop
noncomputable abbrev TT:=St->Hp->(Bool->Hp->Prop)->Prop
noncomputable abbrev TA:=St->Hp->(List V->Hp->Prop)->Prop
structure Ends where
 nx:St->Hp->Prop
 rt:VK
 bk:St->Hp->Prop:=λ_ _=>False
 ct:St->Hp->Prop:=λ_ _=>False
noncomputable abbrev TS:=Ends->St->Hp->Prop
noncomputable def EP(X:Cx)(a:List (Addr×Obj))(d:St)(Q:VK)(u:Value)(e:Shared):Prop:=∃v c,Inv X a d c e/\RelV v u/\Q v c
noncomputable def TP(X:Cx)(a:List (Addr×Obj))(d:St)(Q:Bool->Hp->Prop)(b:Bool)(e:Shared):Prop:=∃c,Inv X a d c e/\Q b c
noncomputable def AP(X:Cx)(a:List (Addr×Obj))(e:St)(Q:List V->Hp->Prop)(f:List Value)(g:Shared):Prop:=∃c d,Inv X a e d g/\Vals c f/\Q c d
noncomputable def SP(X:Cx)(c:List (Addr×Obj))(D:Ends)(f:Flow)(e:Shared):Prop :=
 match f with
 | .next=>∃a d,Inv X c a d e/\D.nx a d
 | .brk=>∃a d,Inv X c a d e/\D.bk a d
 | .cont=>∃a d,Inv X c a d e/\D.ct a d
 | .ret u=>∃v a d,Inv X c a d e/\RelV v u/\D.rt v d
noncomputable def PE(X:Cx)(e:Expr)(t:TE):Prop :=
 ∀(a:List (Addr×Obj))(s:Shared)(c:St)(H:Hp)(Q:VK),Inv X a c H s->t c H Q->wpAny (model X.prog X.w) X.A (eval e X.env) (EP X a c Q) X.xe s
noncomputable def PT(X:Cx)(e:Expr)(t:TT):Prop :=
 ∀(a:List (Addr×Obj))(s:Shared)(c:St)(H:Hp)(Q:Bool->Hp->Prop),Inv X a c H s->t c H Q->wpAny (model X.prog X.w) X.A (isTrue e X.env (eval e X.env)) (TP X a c Q) X.xe s
noncomputable def PW(X:Cx)(e:Expr)(t:TT):Prop :=
 ∀(c:Sem Value)(a:List (Addr×Obj))(s:Shared)(d:St)(H:Hp)(Q:Bool->Hp->Prop),Inv X a d H s->t d H Q->wpAny (model X.prog X.w) X.A (isTrue e X.env c) (TP X a d Q) X.xe s
theorem PW.pt(h:PW X e t):PT X e t:=h _
noncomputable def PA(X:Cx)(e:List Expr)(t:TA):Prop :=
 ∀(c:Pos)(a:List (Addr×Obj))(s:Shared)(d:St)(H:Hp)(Q:List V->Hp->Prop),Inv X a d H s->t d H Q->wpAny (model X.prog X.w) X.A (spliced (backTo c (starEach e X.env))) (AP X a d Q) X.xe s
noncomputable def PS(X:Cx)(st:Stmt)(t:TS):Prop :=
 ∀(a:List (Addr×Obj))(s:Shared)(c:St)(H:Hp)(D:Ends),Inv X a c H s->t D c H->wpAny (model X.prog X.w) X.A (exec st X.env) (SP X a D) X.xe s
noncomputable def XH(X:Cx)(st:List Stmt)(t:TS):Prop :=
 ∀(a:List (Addr×Obj))(s:Shared)(c:St)(H:Hp)(D:Ends),Inv X a c H s->t D c H->wpAny (model X.prog X.w) X.A (execs st X.env) (SP X a D) X.xe s
theorem WY{α:Type}{t:Sem α}{Q c:α->Shared->Prop}{A:Around}{E:Value->Shared->Prop}(h:wpAny M A t Q E s)(d:∀a s,Q a s->c a s):wpAny M A t c E s:=Up h d λ_ _ x=>x
section
variable{X:Cx}
noncomputable def cB(i:Nat):TE:=λa H Q=>∃v,a[i]?=some (some v)/\Q v H
noncomputable def tC(v:V):TE:=λ_ H Q=>Q v H
theorem AU(n:X.N[i]?=some x)(p:Vis X.env.scope x)(f:(x==("__debug__":Str))=false:=by decide)(g:(x==("__classdict__":Str))=false:=by decide):PE X (.Name x q) (cB i):=by
 intro d s t H Q I h;obtain⟨v,e,h⟩:=h;obtain⟨m,w,hl⟩:=I.loc;obtain⟨u,r,l⟩:=hl i x v n e p;have fin:EP X d t Q u s:=⟨v,H,I,r,h⟩
 rcases l with⟨hk,y⟩|⟨hk,c,j,a⟩
 ·exact wpAny_Name (wpAny_loadName_local I.ok.kind hk w y fin) f
 ·rcases hk with hk|hk
  ·exact wpAny_Name (wpAny_loadName_cell I.ok.kind hk j a fin) f
  ·exact wpAny_Name (wpAny_loadName_free I.ok.kind hk j a fin g) f
theorem aQ{i j a}:PE X (.Constant (.int i) j a) (tC (.int i)):=λ_ _ _ H _ I h=>wpAny_Constant_int ⟨.int i,H,I.tok _,⟨_,rfl⟩,h⟩
theorem wy{b j a}:PE X (.Constant (.bool b) j a) (tC (.bl b)):=λ_ _ _ H _ I h=>Constant_bool ⟨.bl b,H,I,rfl,h⟩
theorem Hj{j a}:PE X (.Constant .none j a) (tC .WX):=λ_ _ _ H _ I h=>Constant_none ⟨.WX,H,I,rfl,h⟩
theorem gG{x j a}:PE X (.Constant (.str x) j a) (tC (.str x)):=λ_ _ _ H _ I h=>Calls.Constant_str ⟨.str x,H,I.tok _,⟨_,rfl⟩,h⟩
noncomputable def Gl(X:Cx)(x:Str):Prop:=X.env.kindOf x=some .globalImplicit
theorem bj{E:Value->Shared->Prop}{a:List (Addr×Obj)}{s:Shared}{d:St}{H:Hp}{x:Str}{u:Value}{c:Pos}{Q:Value->Shared->Prop}(I:Inv X a d H s)(e:Gl X x)(f:X.mg x=some u)(h:Q u s)
  (g:(x==("__debug__":Str))=false:=by decide):wpAny (model X.prog X.w) X.A (eval (.Name x c) X.env) Q E s :=
 Calls.Name_function_global I.ok.kind e (Calls.loadGlobal_global (by rw[I.ok.glob];exact I.mod.glob.keeps I.bk) f h) g
theorem gE{E:Value->Shared->Prop}{a:List (Addr×Obj)}{s:Shared}{d:St}{H:Hp}{x:Str}{u:Value}{c:Pos}{Q:Value->Shared->Prop}(I:Inv X a d H s)(e:Gl X x)(f:X.mg x=none)(g:bootBuiltins x=some u)(h:Q u s)
  (i:x≠"__name__":=by decide) (j:(x==("__debug__":Str))=false:=by decide):wpAny (model X.prog X.w) X.A (eval (.Name x c) X.env) Q E s:=by
 obtain⟨n,l,m⟩:=I.mod.blt;exact Calls.Name_function_global I.ok.kind e (Calls.loadGlobal_builtin (by rw[I.ok.glob];exact I.mod.glob.keeps I.bk) f (by rw[I.ok.blt];exact l.keeps I.bk) ((m x i).trans g) h) j
theorem aK(a:Gl X x)(c:X.mg x=some u)(r:RelV v u)(d:(x==("__debug__":Str))=false:=by decide):PE X (.Name x e) (tC v) :=
 λ_ _ _ H _ I h=>bj I a c ⟨v,H,I,r,h⟩ d
theorem pK(a:Gl X x)(c:X.mg x=none)(d:bootBuiltins x=some u)(r:RelV v u)(e:x≠"__name__":=by decide)(f:(x==("__debug__":Str))=false:=by decide):PE X (.Name x g) (tC v) :=
 λ_ _ _ H _ I h=>gE I a c d ⟨v,H,I,r,h⟩ e f
variable{a b:Expr}{ta tb:TE}
noncomputable def PC(X:Cx)(g:CmpOp)(a b:Expr)(t:TE):Prop :=
 ∀(c:List (Addr×Obj))(s:Shared)(f:St)(H:Hp)(Q:VK),Inv X c f H s->t f H Q ->
  wpAny (model X.prog X.w) X.A (eval a X.env) (λv d=>wpAny (model X.prog X.w) X.A (eval b X.env) (λu e=>wpAny (model X.prog X.w) X.A (compareOp g v u) (EP X c f Q) X.xe e) X.xe d) X.xe s
theorem si(b:Expr)(h:c≠.In)(d:c≠.NotIn):behindInMarks c b=false:=by
 have e1:(c==CmpOp.In)=false:=by cases c<;>first|rfl|exact absurd rfl h
 have e2:(c==CmpOp.NotIn)=false:=by cases c<;>first|rfl|exact absurd rfl d
 cases b<;>simp[behindInMarks,e1,e2]
noncomputable def M0(ta:TE):TE:=λc H Q=>ta c H λx d=>Q (.bl (decide (x=.WX))) d
noncomputable def Lr(ta:TE):TE:=λc H Q=>ta c H λx d=>Q (.bl (!decide (x=.WX))) d
theorem RelV.ZV(r:RelV x v):(v==Value.none)=decide (x=.WX):=by
 cases x with
 |WX=>cases r;rfl
 |bl _=>cases r;rfl
 |int _=>obtain⟨t,rfl⟩:=r;rfl
 |str _=>obtain⟨t,rfl⟩:=r;rfl
 |byt _=>obtain⟨t,rfl⟩:=r;rfl
 |flt _=>obtain⟨t,rfl⟩:=r;rfl
 |ref _=>cases r;rfl
 |ty _=>cases r;rfl
theorem AK{j c}(e:PE X a ta):PC X .Is a (.Constant .none j c) (M0 ta):=by intro d s f H Q I h;refine WY (e d s f H _ I h) λv n ⟨x,g,i,l,m⟩=>?_;exact Constant_none (is_none_gen ⟨.bl _,g,i,by rw[l.ZV];rfl,m⟩)
theorem wx{j c}(e:PE X a ta):PC X .IsNot a (.Constant .none j c) (Lr ta):=by intro d s f H Q I h;refine WY (e d s f H _ I h) λv n ⟨x,g,i,l,m⟩=>?_;exact Constant_none (isnot_none_gen ⟨.bl _,g,i,by rw[l.ZV];rfl,m⟩)
noncomputable def tB(t:TE):TT:=λd H Q=>t d H λx e=>∃c,x=.bl c/\Q c e
theorem AM(h:PC X d a b t)(e:behindInMarks d b=false:=by first|exact si _ (by decide) (by decide)|rfl):PE X (.Compare a [d] [b] f) t:=λc s g H Q I i=>wpAny_Compare1 (h c s g H Q I i) e
theorem uJ(h:PC X g a b t)(f:behindInMarks g b=false:=by first|exact si _ (by decide) (by decide)|rfl):PT X (.Compare a [g] [b] i) (tB t):=by intro e s j H Q I l;refine wpAny_isTrue_Compare1 (WY (h e s j H _ I l) λv y f=>WY f λu z m=>WY m λc B ⟨x,n,p,r,w⟩=>?_) f;obtain⟨d,rfl,q⟩:=w;cases r;exact Uv ⟨n,p,q⟩
noncomputable def MV(t u:TT):TT:=λd H Q=>t d H λc e=>if c=true then u d e Q else Q false e
noncomputable def tOr(t u:TT):TT:=λd H Q=>t d H λc e=>if c=true then Q true e else u d e Q
noncomputable def Lq(t:TT):TT:=λd H Q=>t d H λc e=>Q (!c) e
theorem Dt(f:PT X a tA):PW X (.BoolOp .And [a] g) tA:=by
 intro j d s i H Q I h;refine isTrue_and (WY (f d s i H Q I h) λc l e=>?_)
 cases c with
 |true=>exact isTrue_and_nil e
 |false=>exact e
theorem pQ(f:PT X a tA):PW X (.BoolOp .Or [a] g) tA:=by
 intro j d s i H Q I h;refine isTrue_or (WY (f d s i H Q I h) λc l e=>?_)
 cases c with
 |false=>exact isTrue_or_nil e
 |true=>exact e
theorem Hy(m:PT X a tA)(n:PW X (.BoolOp .And (b::rest) e) f):PW X (.BoolOp .And (a::b::rest) e) (MV tA f):=by
 intro p d s g H Q I h;refine isTrue_and (WY (m d s g H _ I h) λc q ⟨i,j,l⟩=>?_)
 cases c with
 |true=>exact n p d q g i Q j l
 |false=>exact⟨i,j,l⟩
theorem wD(m:PT X a tA)(n:PW X (.BoolOp .Or (b::rest) e) f):PW X (.BoolOp .Or (a::b::rest) e) (tOr tA f):=by
 intro p d s g H Q I h;refine isTrue_or (WY (m d s g H _ I h) λc q ⟨i,j,l⟩=>?_)
 cases c with
 |true=>exact⟨i,j,l⟩
 |false=>exact n p d q g i Q j l
theorem pP(e:PT X a tA):PT X (.UnaryOp .Not a f) (Lq tA):=by intro d s g H Q I h;exact isTrue_not (e d s g H (λc i=>Q (!c) i) I h)
noncomputable def Ll(ta tb:TE):TE:=λd H Q=>ta d H λx e=>∃c,x=.bl c/\if c=true then tb d e Q else Q (.bl false) e
noncomputable def M3(ta tb:TE):TE:=λd H Q=>ta d H λx e=>∃c,x=.bl c/\if c=true then Q (.bl true) e else tb d e Q
noncomputable def Ls(ta:TE):TE:=λd H Q=>ta d H λx e=>∃c,x=.bl c/\Q (.bl (!c)) e
theorem Hl{d}(h:PE X a t):PE X (.BoolOp d [a] e) t:=λc s f H Q I g=>BoolOp_one (h c s f H Q I g)
theorem Hg(l:PE X a ta)(m:PE X (.BoolOp .And (b::rest) f) tb):PE X (.BoolOp .And (a::b::rest) f) (Ll ta tb):=by
 intro d s g H Q I h;refine BoolOp_and (WY (l d s g H _ I h) λv n ⟨x,i,j,p,e⟩=>?_);obtain⟨c,rfl,e⟩:=e;cases p;refine Uv ?_
 cases c with
 |true=>exact m d n g i Q j e
 |false=>exact⟨.bl false,i,j,rfl,e⟩
theorem Kz(l:PE X a ta)(m:PE X (.BoolOp .Or (b::rest) f) tb):PE X (.BoolOp .Or (a::b::rest) f) (M3 ta tb):=by
 intro d s g H Q I h;refine BoolOp_or (WY (l d s g H _ I h) λv n ⟨x,i,j,p,e⟩=>?_);obtain⟨c,rfl,e⟩:=e;cases p;refine Uv ?_
 cases c with
 |false=>exact m d n g i Q j e
 |true=>exact⟨.bl true,i,j,rfl,e⟩
theorem Hk(f:PE X a ta):PE X (.UnaryOp .Not a g) (Ls ta):=by intro d s i H Q I h;refine UnaryOp_ (WY (f d s i H _ I h) λv n ⟨x,j,l,m,e⟩=>?_);obtain⟨c,rfl,e⟩:=e;cases m;exact not_of (Uv ⟨.bl (!c),j,l,rfl,e⟩)
noncomputable def tIf(t:TT)(ta tb:TE):TE:=λd H Q=>t d H λc e=>if c=true then ta d e Q else tb d e Q
theorem AR(m:PT X c tA)(n:PE X a ta)(p:PE X b tb):PE X (.IfExp c a b q) (tIf tA ta tb):=by
 intro e s f H Q I h;refine wpAny_IfExp (WY (m e s f H _ I h) λd g ⟨i,j,l⟩=>?_)
 cases d with
 |true=>exact n e g f i Q j l
 |false=>exact p e g f i Q j l
end
noncomputable def Xk(K:W.Frag)(H:Hp)(a:Addr)(d:List V):Prop :=
 Rd H a (.lst d) \/
  ∃(o:Obj)(c:Array Value)(n:Nat),K.lookup a=some o/\o.cls=.type "list"/\o.dict=none/\o.data=.seq c n/\c.size<=sizeLine/\Vals d c.toList
noncomputable def Xz(K:W.Frag)(H:Hp)(a:Addr)(d:List V):Prop :=
 Rd H a (.tup d) \/
  ∃(o:Obj)(c:Array Value)(n:Nat),K.lookup a=some o/\o.cls=.type "tuple"/\o.data=.seq c n/\c.size<=sizeLine/\Vals d c.toList
noncomputable def Mm:Value->Option V
 | .none=>some .WX
 | .bool b=>some (.bl b)
 | .int i _=>some (.int i)
 | .str x _=>some (.str x)
 | .bytes b _=>some (.byt b)
 | .float b _=>some (.flt b)
 | .ref a=>some (.ref a)
 | .type n=>some (.ty n)
 |_=>none
theorem RelV.abs(r:RelV x u):Mm u=some x:=by
 cases x with
 |WX=>cases r;rfl
 |bl _=>cases r;rfl
 |int _=>obtain⟨t,rfl⟩:=r;rfl
 |str _=>obtain⟨t,rfl⟩:=r;rfl
 |byt _=>obtain⟨t,rfl⟩:=r;rfl
 |flt _=>obtain⟨t,rfl⟩:=r;rfl
 |ref _=>cases r;rfl
 |ty _=>cases r;rfl
theorem RelV.inj(r:RelV x u)(q:RelV y u):x=y:=T7 (r.abs.symm.trans q.abs)
theorem Vals.inj:∀{a c:List V}{d:List Value},Vals a d->Vals c d->a=c
 |_,_,_,.nil,.nil=>rfl
 |_,_,_,.cons r t,.cons e f=>by rw[r.inj e,Vals.inj t f]
section
variable{K:W.Frag}
theorem Xk.of(h:H a=some (.lst c)):Xk K H a c:=.inl (.inl h)
theorem Xz.of(h:H a=some (.tup c)):Xz K H a c:=.inl (.inl h)
theorem Inv.list{X:Cx}{d:List (Addr×Obj)}{g:St}{H:Hp}{s:Shared}{a:Addr}{f:List V}(I:Inv X d g H s)(h:Xk X.K H a f):∃c:List Value,Vals f c/\PlainL s.heap a c.toArray/\f.length<=sizeLine:=by
 rcases h with h|⟨o,c,n,hk,i,j,hs,l,r⟩
 ·obtain⟨z,c,n,r,e⟩:=h.ok I.hok;exact⟨c,r,⟨_,n,e,rfl,rfl,rfl⟩,z⟩
 ·refine⟨c.toList,r,⟨o,n,I.Xy a o hk,i,j,by simpa using hs⟩,?_⟩;have e:=r.length;simp only[VH]at e;lia
theorem Inv.tuple{X:Cx}{d:List (Addr×Obj)}{g:St}{H:Hp}{s:Shared}{a:Addr}{f:List V}(I:Inv X d g H s)(h:Xz X.K H a f):∃c:List Value,Vals f c/\IsTup s.heap a c.toArray/\f.length<=sizeLine:=by
 rcases h with h|⟨o,c,n,hk,i,hs,j,r⟩
 ·obtain⟨z,c,r,p⟩:=h.ok I.hok;exact⟨c,r,p,z⟩
 ·refine⟨c.toList,r,⟨o,I.Xy a o hk,i,n,by simpa using hs⟩,?_⟩;have e:=r.length;simp only[VH]at e;lia
theorem Inv.list_inj{X:Cx}{c:List (Addr×Obj)}{p:St}{H:Hp}{s:Shared}{a:Addr}{i j:List V}(I:Inv X c p H s)(h:Xk X.K H a i)(q:Xk X.K H a j):i=j:=by
 obtain⟨g,r,⟨o,n,e,_,_,d⟩,_⟩:=I.list h;obtain⟨f,t,⟨u,v,l,_,_,m⟩,_⟩:=I.list q;rw[e]at l;cases l;rw[d]at m;injection m with d1 _;have:g=f:=by simpa using UI Array.toList d1
 subst this;exact r.inj t
theorem Inv.ZA{X:Cx}{c:List (Addr×Obj)}{p:St}{H:Hp}{s:Shared}{a:Addr}{i j:List V}(I:Inv X c p H s)(h:Xz X.K H a i)(q:Xz X.K H a j):i=j:=by
 obtain⟨g,r,⟨o,e,_,n,d⟩,_⟩:=I.tuple h;obtain⟨f,t,⟨u,l,_,v,m⟩,_⟩:=I.tuple q;rw[e]at l;cases l;rw[d]at m;injection m with d1 _;have:g=f:=by simpa using UI Array.toList d1
 subst this;exact r.inj t
end
noncomputable abbrev Cx.Zu(X:Cx)(E:Value->Shared->Prop):Cx:={X with xe:=E}
noncomputable abbrev Cx.ZW(X:Cx):Cx:=X.Zu λ_ _=>False
theorem Cx.Ok.Zu{X:Cx}(ok:X.Ok)(E:Value->Shared->Prop):(X.Zu E).Ok :=
 ⟨ok.mod,ok.kind,ok.glob,ok.blt,ok.above,ok.inj,ok.has,ok.cab,ok.hd,ok.frames,ok.stk,ok.exf,ok.bs,ok.Z9,ok.ZH,ok.exfs,ok.Yq,ok.frf⟩
theorem Cx.Ok.Yr{X:Cx}(ok:(X.Zu E).Ok):X.Ok :=
 ⟨ok.mod,ok.kind,ok.glob,ok.blt,ok.above,ok.inj,ok.has,ok.cab,ok.hd,ok.frames,ok.stk,ok.exf,ok.bs,ok.Z9,ok.ZH,ok.exfs,ok.Yq,ok.frf⟩
section
theorem Inv.Zu{X:Cx}{a:List (Addr×Obj)}{c:St}{H:Hp}{s:Shared}(I:Inv X a c H s)(E:Value->Shared->Prop):Inv (X.Zu E) a c H s:=⟨I.ok.Zu E,I.os,I.bare,I.base,I.loc,I.cell,I.free,I.XE,I.pin,I.hok,I.len⟩
theorem Inv.Yr{X:Cx}{a:List (Addr×Obj)}{c:St}{H:Hp}{s:Shared}{E:Value->Shared->Prop}(I:Inv (X.Zu E) a c H s):Inv X a c H s:=⟨I.ok.Yr,I.os,I.bare,I.base,I.loc,I.cell,I.free,I.XE,I.pin,I.hok,I.len⟩
theorem SP.Yr{X:Cx}(h:SP (X.Zu E) d D f e):SP X d D f e:=by
 cases f with
 |next=>obtain⟨a,c,I,q⟩:=h;exact⟨a,c,I.Yr,q⟩
 |brk=>obtain⟨a,c,I,q⟩:=h;exact⟨a,c,I.Yr,q⟩
 |cont=>obtain⟨a,c,I,q⟩:=h;exact⟨a,c,I.Yr,q⟩
 |ret u=>obtain⟨v,a,c,I,r,q⟩:=h;exact⟨v,a,c,I.Yr,r,q⟩
theorem XH.ZW{X:Cx}{st:List Stmt}(h:XH X.ZW st t):XH X st t:=λa s c H D I d =>
 Up (h a s c H D (I.Zu _) d) (λ_ _ q=>q.Yr) λ_ _ z=>False.elim z
end
section
variable{t u:TS}{te:TE}
noncomputable def EL:TS:=λD a H=>D.nx a H
noncomputable def bf(t u:TS):TS:=λD a H=>t {D with nx:=u D} a H
theorem cJ:XH X [] EL:=λ_ _ a H _ I h=>We ⟨a,H,I,h⟩
theorem av{X:Cx}{st:Stmt}{rest:List Stmt}(d:PS X st t)(e:XH X rest u):XH X (st::rest) (bf t u):=by
 intro a s g H D I h;refine wpAny_execs_cons (WY (d a s g H {D with nx:=u D} I h) λf i q=>?_)
 cases f with
 |next =>obtain⟨c,j,l,q⟩:=q;exact e a i c j D l q
 |ret v=>exact q
 |brk=>exact q
 |cont=>exact q
theorem bc{X:Cx}{st:Stmt}(c:PS X st t):XH X [st] t:=by
 intro a s d H D I h;refine wpAny_execs_cons (WY (c a s d H D I h) λf e q=>?_)
 cases f with
 |next=>exact We q
 |ret v=>exact q
 |brk=>exact q
 |cont=>exact q
noncomputable def Ln:TS:=λD a H=>D.ct a H
theorem sC:PS X (.Continue a) Ln:=λ_ _ c H _ I h=>wpAny_Continue ⟨c,H,I,h⟩
theorem Inv.quiet{X:Cx}{a:List (Addr×Obj)}{c:St}{H:Hp}{s:Shared}(I:Inv X a c H s):interactive X.env=false:=by simp[interactive,I.ok.kind]
noncomputable def EJ(te:TE):TS:=λD a H=>te a H λ_ c=>D.nx a c
theorem kM{a:Pos}(f:PE X e te)(hs:swapsWith e none a.line X.env=pure false:=by rfl):PS X (.Expr e a) (EJ te):=by intro c s d H D I h;exact wpAny_Expr_any (WY (f c s d H _ I h) λv l ⟨x,g,i,m,j⟩=>⟨d,g,i,j⟩) I.quiet hs
noncomputable def By(te:TE):TS:=λD a H=>te a H D.rt
theorem bJ(d:PE X e te):PS X (.Return (some e) f) (By te):=by intro a s c H D I h;exact wpAny_Return_some (WY (d a s c H _ I h) λv m ⟨x,g,i,j,l⟩=>⟨x,c,g,i,j,l⟩)
noncomputable def Lv:TS:=λD _ H=>D.rt .WX H
theorem Ds:PS X (.Return none a) Lv:=λ_ _ c H _ I h=>wpAny_Return_none ⟨.WX,c,H,I,rfl,h⟩
noncomputable def DS(c:TT)(t u:TS):TS:=λD a H=>c a H λb d=>if b=true then t D a d else u D a d
theorem lO(m:PT X c n)(p:XH X a t)(q:XH X b u):PS X (.If c a b r) (DS n t u):=by
 intro e s f H D I h;refine wpAny_If (WY (m e s f H _ I h) λd g ⟨i,j,l⟩=>?_)
 cases d with
 |true=>exact p e g f i D j l
 |false=>exact q e g f i D j l
end
noncomputable abbrev TG:=V->St->Hp->(St->Hp->Prop)->Prop
noncomputable abbrev TGs:=List V->St->Hp->(St->Hp->Prop)->Prop
noncomputable def PG(X:Cx)(a:Expr)(t:TG):Prop :=
 ∀(c:List (Addr×Obj))(s:Shared)(e:St)(H:Hp)(v:V)(u:Value)(Q:St->Hp->Prop),Inv X c e H s->RelV v u->t v e H Q ->
  wpAny (model X.prog X.w) X.A (assign a X.env u) (λ_ g=>∃d f,Inv X c d f g/\Q d f) X.xe s
noncomputable def PGs(X:Cx)(i:List Expr)(t:TGs):Prop :=
 ∀(a:List (Addr×Obj))(s:Shared)(d:St)(H:Hp)(e:List V)(f:List Value)(Q:St->Hp->Prop),Inv X a d H s->Vals e f->t e d H Q ->
  wpAny (model X.prog X.w) X.A (assignInOrder ((assignEach i X.env).map (·.2)) f) (λ_ j=>∃c g,Inv X a c g j/\Q c g) X.xe s
noncomputable abbrev EU:=V->V->V->Hp->(Hp->Prop)->Prop
noncomputable def ES(X:Cx)(t:EU):Prop :=
 ∀(a:List (Addr×Obj))(s:Shared)(c:St)(H:Hp)(o i v:V)(d e u:Value)(Q:Hp->Prop),Inv X a c H s->RelV o d->RelV i e->RelV v u->t o i v H Q ->
  wpAny (model X.prog X.w) X.A (setItem d e u) (λ_ g=>∃f,Inv X a c f g/\Q f) X.xe s
noncomputable abbrev TIp:=V->V->Hp->VK->Prop
noncomputable def PIp(X:Cx)(d:Operator)(t:TIp):Prop :=
 ∀(a:List (Addr×Obj))(s:Shared)(c:St)(H:Hp)(x y:V)(v u:Value)(Q:VK),Inv X a c H s->RelV x v->RelV y u->t x y H Q ->
  wpAny (model X.prog X.w) X.A (inplaceOp d v u) (EP X a c Q) X.xe s
section
variable{X:Cx}
noncomputable def dZ(i:Nat):TG:=λv a H Q=>Q (a.set i (some v)) H
theorem wA(c:X.N.Nodup)(d:X.N[i]?=some x)(e:Loc X.env.scope x)(f:X.fn x=true\/X.env.scope.names.lookup x=some .local:=by first|exact .inl rfl|exact .inr rfl|assumption):PG X (.Name x g) (dZ i):=by intro a s l H v u Q I r h;exact WK (cz I c d e r (λm j=>⟨_,H,j,h⟩) f)
noncomputable def Mp:TGs:=λa c H Q=>a=[]/\Q c H
noncomputable def Jt(t:TG)(u:TGs):TGs:=λc d H Q=>∃v r,c=v::r/\t v d H λa e=>u r a e Q
theorem Dj:PGs X [] Mp:=by intro a s c H d f Q I r h;obtain⟨e,h⟩:=h;subst e;cases r;exact assignInOrder_nil ⟨c,H,I,h⟩
theorem AW(f:PG X e t)(g:PGs X c u)
  (hs:(assignEach (e::c) X.env).map (·.2)=assign e X.env::(assignEach c X.env).map (·.2):=by rfl):PGs X (e::c) (Jt t u):=by
 intro a s i H q w Q I r h;obtain⟨v,y,e1,h⟩:=h;subst e1
 cases r with
 |cons r j =>rw[hs];refine Wy (WY (f a s i H _ _ _ I r h) λ_ l ⟨d,m,n,p⟩=>?_);exact g a l d m _ _ Q n j p
noncomputable def Mr(K:W.Frag)(n:Nat)(t:TGs):TG:=λv d H Q=>∃a c,v=.ref a/\Xz K H a c/\c.length=n/\t c d H Q
theorem Hm(l:X.calm=true)(h:PGs X d t)
  (m:(assignEach d X.env).length=n:=by rfl) (f:(assignEach d X.env).findIdx? (·.1)=none:=by rfl):PG X (.Tuple d k p) (Mr X.K n t):=by
 intro c s i H v u Q I r g;obtain⟨a,q,e1,w,hl,g⟩:=g;subst e1;cases r;obtain⟨y,j,z,J⟩:=I.tuple w;refine assign_Tuple_tuple (I.ok.hd l) z (by simp[m,<- hl,j.length]) f λB E=>?_;have G:Inv X c i H {s with heap:=B}:=I.kept (t':=s.toks) λb o e=>E b o (TV (TJ e)) e;exact h c _ i H q _ Q G (by simpa using j) g
noncomputable def Mq(to c:TE)(t:EU):TG:=λv a H Q=>to a H λo d=>c a d λi e=>t o i v e λf=>Q a f
theorem AV(g:PE X o to)(j:PE X i l)(hs:ES X t)
  (m:∀v,assign (.Subscript o i d) X.env v=(do
   let c <- holding [v] (eval o X.env);let e <- holding [v,c] (eval i X.env)
   standAt d
   holding [v,c,e] (setItem c e v)
   release [v,c,e] []):=by intro _;rfl):PG X (.Subscript o i d) (Mq to l t):=by
 intro a s f H v u Q I r h;rw[m];refine Ar (UA (WY (g a s f H _ I h) λc n ⟨x,p,q,w,z⟩=>?_));refine Ar (UA (WY (j a n f p _ q z) λe B ⟨y,E,G,r2,J⟩=>?_));refine Ar (UG (Ar (UA (WY (hs a B f E x y v c e u _ G w r2 r J) λ_ T ⟨M,N,O⟩=>?_))));exact wpAny_release ⟨f,M,N,O⟩
noncomputable def Y6(c:TE)(g:TG):TS:=λD a H=>c a H λx d=>g x a d D.nx
theorem pO{c:Pos}(i:PE X e j)(l:PG X d g)(hs:swapsWithSole [d] e c.line X.env=pure false:=by rfl)(m:swappedStores [d] e X.env=pure none:=by rfl)
  (n:(assignEach [d] X.env).map (·.2)=[assign d X.env]:=by rfl):PS X (.Assign [d] e c) (Y6 j g):=by
 intro a s f H D I h;refine wpAny_Assign_stores (WY (i a s f H _ I h) λv p ⟨x,r,t,u,w⟩=>?_) hs m;rw[n];exact WY (l a p f r x v _ t u w) λ_ y q=>q
theorem gI{a:Pos}(f:X.N.Nodup)(g:X.N[i]?=some x)(j:Loc X.env.scope x)(l:PE X e m)(hs:swapsWith e (some (.Name x c)) a.line X.env=pure false:=by rfl)(n:X.fn x=true\/X.env.scope.names.lookup x=some .local:=by first|exact .inl rfl|exact .inr rfl|assumption) :
  PS X (.Assign [.Name x c] e a) (Y6 m (dZ i)):=by
 intro d s p H D I h;refine wpAny_Assign_Name (WY (l d s p H _ I h) λv z ⟨y,q,r,t,u⟩=>?_) hs;exact cz r f g j t (λB w=>⟨_,q,w,u⟩) n
noncomputable def Iu(i j:Nat)(c:TA):TS:=λD a H=>c a H λd e=>∃v w,d=[v,w]/\D.nx ((a.set i (some v)).set j (some w)) e
theorem Hx{n:Pos}{r t d}(hc:X.calm=true)(G:X.N.Nodup)(hi:X.N[i]?=some x)(hj:X.N[j]?=some y)(u:i≠j)
  (J:X.env.scope.names.lookup x=some .local) (M:X.env.scope.names.lookup y=some .local) (ha:PA X [a,b] ta)
  (hw:swappedStores [.Tuple [.Name x O,.Name y Q] r pt] (.Tuple [a,b] t d) X.env=pure (some [x,y]))
  (hs:swapsWithSole [.Tuple [.Name x O,.Name y Q] r pt] (.Tuple [a,b] t d) n.line X.env=pure false:=by rfl) :
  PS X (.Assign [.Tuple [.Name x O,.Name y Q] r pt] (.Tuple [a,b] t d) n) (Iu i j ta):=by
 intro c s T H D I h;rw[exec_Assign_arm];refine Ar (UG ?_);rw[hs];refine Ar (RB ?_);rw[TQ (by decide)];refine Ar (Tuple_ (WY (ha _ c s T H _ I h) λus g ⟨vs,U,I1,r1,z⟩=>?_));obtain⟨v,w,e1,z⟩:=z;subst e1
 obtain⟨l,m,rfl,rv,B⟩:∃l m,us=[l,m]/\RelV v l/\RelV w m:=by
  cases r1 with
  |cons p q =>
   cases q with
   |cons p' q' =>cases q';exact⟨_,_,rfl,p,p'⟩
 refine UK ?_ (by show 2<=sizeLine;decide);have I2:Inv X c T U {g with heap:=g.heap.push {cls:=.type "tuple",data:=.seq [l,m].toArray}}:=I1.kept (t':=g.toks) λb o e=>LD _ e;rw[hw];refine Ar (RB ?_);show wpAny (model X.prog X.w) X.A (do rule "assign.swapped-stores";let f <- unpackItems (.ref g.heap.objs.size) 2 none;assignInOrder [λv=>bindName X.env y v,λv=>bindName X.env x v] f.reverse;pure Flow.next) _ _ _;refine Ar (Wf (Ar (unpackItems_tuple (items:=#[l,m]) (I.ok.hd hc) (Wz g.heap _) λh' E=>?_)));have I3:=I2.kept (h':=h') (t':=g.toks) λb o e=>E b o (TV (TJ e)) e;show wpAny _ _ (assignInOrder [λv=>bindName X.env y v,λv=>bindName X.env x v] [m,l] >>= λ_=>pure Flow.next) _ _ _;refine Ar (Wy (wpAny_bindName (cz I3 G hj (.inl M) B (λs2 I4=>?_) (.inr M))));refine Wy (wpAny_bindName (cz I4 G hi (.inl J) rv (λs3 Y=>assignInOrder_nil (RB ?_)) (.inr J)));rw[List.set_comm _ _ (Ut u)]at Y;exact⟨_,U,Y,z⟩
noncomputable def MW(i:Nat)(c:TE)(d:TIp):TS:=λD a H=>∃x,a[i]?=some (some x)/\c a H λy e=>d x y e λz f=>D.nx (a.set i (some z)) f
theorem Hu(G:X.N.Nodup)(p:X.N[i]?=some x)(j:Loc X.env.scope x)(J:PE X e M)(O:PIp X q Q)(T:X.fn x=true\/X.env.scope.names.lookup x=some .local:=by first|exact .inl rfl|exact .inr rfl|assumption) :
  PS X (.AugAssign (.Name x t) q e U) (MW i M Q):=by
 intro a s B H D I h;obtain⟨v,e1,h⟩:=h;obtain⟨m,Y,hl⟩:=I.loc;have n:Vis X.env.scope x:=by rcases j with k|k;exact .inl k;exact .inr (.inl k)
 obtain⟨u,r,l⟩:=hl i x v p e1 n;refine wpAny_AugAssign_Name ?_
 have E:wpAny (model X.prog X.w) X.A (eval e X.env) (λw f=>wpAny (model X.prog X.w) X.A (inplaceOp q u w) (λr g=>wpAny (model X.prog X.w) X.A (storeName X.env x r) (λ_=>SP X a D .next) X.xe g) X.xe f) X.xe s:=by refine WY (J a s B H _ I h) λw s1 ⟨y,H1,I1,r1,q1⟩=>?_;refine WY (O a s1 B H1 v y u w _ I1 r r1 q1) λz s2 ⟨zv,H2,I2,r2,q2⟩=>?_;exact cz I2 G p j r2 (λs3 I3=>⟨_,H2,I3,q2⟩) T
 rcases l with⟨hk,hm⟩|⟨hk,c,hc,d⟩
 ·exact wpAny_loadName_local I.ok.kind hk Y hm E
 ·rcases hk with hk|hk
  ·exact wpAny_loadName_cell I.ok.kind hk hc d E
  ·rcases j with k|k
   ·have:X.env.scope.names.lookup x=some .free:=hk;rw[k]at this;cases this
   ·have:X.env.scope.names.lookup x=some .free:=hk;rw[k]at this;cases this
noncomputable def Lm(to f g:TE)(a:V->V->Hp->VK->Prop)(e:TIp)(c:EU):TS:=λD d H=>to d H λo j=>f d j λi l=>a o i l λx m=>g d m λy n=>e x y n λz p=>c o i z p λq=>D.nx d q
noncomputable def Jb(X:Cx)(t:V->V->Hp->VK->Prop):Prop :=
 ∀(a:List (Addr×Obj))(s:Shared)(c:St)(H:Hp)(o i:V)(d e:Value)(Q:VK),Inv X a c H s->RelV o d->RelV i e->t o i H Q ->
  wpAny (model X.prog X.w) X.A (getItem d e) (EP X a c Q) X.xe s
theorem Dq(r:PE X o to)(t:PE X i u)(w:Jb X g)(y:PE X e z)(B:PIp X E l)(hs:ES X j)
  (G:∀c d new,augStore i c d new=(do holding [new,c,d] (setItem c d new);release [new,c,d] [];pure .next):=by intros;rfl):PS X (.AugAssign (.Subscript o i m) E e J) (Lm to u z g l j):=by
 intro a s f H D I h;refine wpAny_AugAssign_SubscriptAny (WY (r a s f H _ I h) λc M ⟨n,N,O,p,Q⟩=>?_) G;refine WY (t a M f N _ O Q) λd T ⟨q,U,Y,r2,q2⟩=>?_;refine WY (w a T f U n q c d _ Y p r2 q2) λold s3 ⟨x3,H3,I3,r3,q3⟩=>?_;refine WY (y a s3 f H3 _ I3 q3) λv s4 ⟨x4,H4,I4,r4,q4⟩=>?_;refine WY (B a s4 f H4 x3 x4 old v _ I4 r3 r4 q4) λnew s5 ⟨x5,H5,I5,r5,q5⟩=>?_;exact WY (hs a s5 f H5 n q x5 c d new _ I5 p r2 r5 q5) λ_ s6 ⟨H6,I6,q6⟩=>⟨f,H6,I6,q6⟩
noncomputable def ipI(f:Int->Int->Int):TIp:=λx y H Q=>∃i j,x=.int i/\y=.int j/\Q (.int (f i j)) H
theorem zS:PIp X .Add (ipI λi j=>i+j):=by intro a s d H x y v u Q I c r2 h;obtain⟨i,j,e1,e2,q⟩:=h;subst e1;subst e2;obtain⟨t,rfl⟩:=c;obtain⟨e,rfl⟩:=r2;exact iadd_int ⟨.int _,H,I.tok _,⟨_,rfl⟩,q⟩
end
section
noncomputable def Iv(c:TT)(i:TS):TS:=λD a H=>∃W:Nat->St->Hp->Prop,(∃m,W m a H)/\∀m a H,W m a H ->
 c a H λb e=>if b=true then ∃N:St->Hp->Prop,(∀d f,N d f->∃g,g<m/\W g d f)/\i {D with nx:=N,ct:=N,bk:=D.nx} a e else D.nx a e
theorem A4{X:Cx}(u:PassesOwn (model X.prog X.w) X.A X.env X.xe)(J:PT X c M)(O:XH X body Q):PS X (.While c body [] T) (Iv M Q):=by
 intro a s U H D I h;obtain⟨W,⟨Y,w0⟩,g⟩:=h;refine wpAny_While (codeAny_whileLoop (λn s'=>∃i y,Inv X a i y s'/\W n i y) ?_ Y ⟨U,H,I,w0⟩);rintro n s1 ⟨e,z,I1,w1⟩;refine Vi u (WY (J a s1 e z _ I1 (g n e z w1)) λb s2 ⟨B,E,l⟩=>?_)
 cases b with
 |true =>
  obtain⟨N,G,l⟩:=l;rw[TY rfl];refine Vi u (WY (O a s2 e B _ E l) λf s3 m=>?_)
  cases f with
  |next =>obtain⟨d,j,p,n3⟩:=m;obtain⟨q,r,t⟩:=G d j n3;exact⟨q,r,d,j,p,t⟩
  |cont =>obtain⟨d,j,p,n3⟩:=m;obtain⟨q,r,t⟩:=G d j n3;exact⟨q,r,d,j,p,t⟩
  |brk=>exact m
  |ret v=>exact m
 |false =>rw[TQ TU];exact We ⟨e,B,E,l⟩
end
structure It where
 go:Nat->Hp->Prop
 yld:Nat->Hp->V->Hp->Prop
 stop:Nat->Hp->Prop
noncomputable def eK(X:Cx)(a:List (Addr×Obj))(H:Hp)(b:Addr):Prop :=
 H b=none/\b≠X.env.locals/\b∉X.fs/\(b∈X.ex\/X.s₀.heap.objs.size<=b)/\(∀x c,X.env.cells.lookup x=some c->c≠b)/\∀p∈X.pn++a,p.1≠b
theorem Inv.ZX{X:Cx}{a:List (Addr×Obj)}{g:St}{H f:Hp}{s:Shared}{b:Addr}(I:Inv X a g H s)(d:s.heap.objs.size<=b)(i:f b=none):eK X a f b:=by
 refine⟨i,UB (TR I.lt d),I.nofs d,.inr (Ub I.sz d),λx c e z=>?_,λp j z=>?_⟩
 ·obtain⟨v,q⟩:=I.cell x c e;exact absurd (TR q.lt (by rw[z];exact d)) (Uz _)
 ·exact absurd (TR (TJ (I.pin p j).1) (by rw[z];exact d)) (Uz _)
structure gR(P:Program)(w:World)(K:W.Frag)(tg:Expr)(J:It)(fp:List Addr)(it:Addr)(tn:Nat->Heap->Prop):Prop where
 mem:it∈fp
 obj:∀i h,tn i h->∀b∈fp,∃o,h.get? b=some o/\∀v,o.data≠.cell v
 keep:∀i h h',tn i h->(∀b∈fp,∀o,h.get? b=some o->h'.get? b=some o)->tn i h'
 item:∀(X:Cx),X.prog=P->X.w=w->X.K=K->X.calm=true->∀(i:Nat)(pins:List (Addr×Obj))(s:Shared)(σ:St)(H:Hp)(E:Value->Shared->Prop),Inv X pins σ H s->(∀b∈fp,eK X pins H b)->tn i s.heap->J.go i H ->
  wpAny (model P w) X.A (pyNext (.ref it)) (λr s1=>∃u,r=some u /\
   wpAny (model P w) X.A (letOwnedTupleGo tg (.ref it) u) (λ_ s2=>∃x H',Inv X pins σ H' s2/\RelV x u/\J.yld i H x H'/\tn (i+1) s2.heap/\∀b∈fp,H' b=none) E s1) E s
 done:∀(X:Cx),X.prog=P->X.w=w->X.K=K->X.calm=true->∀(i:Nat)(pins:List (Addr×Obj))(s:Shared)(σ:St)(H:Hp)(E:Value->Shared->Prop),Inv X pins σ H s->(∀b∈fp,eK X pins H b)->tn i s.heap->J.stop i H ->
  wpAny (model P w) X.A (pyNext (.ref it)) (λr s1=>r=none/\Inv X pins σ H s1) E s
 self:∀(A:Around)(i:Nat)(s:Shared)(Q:Value->Shared->Prop)(E:Value->Shared->Prop),tn i s.heap->Q (.ref it) s->wpAny (model P w) A (pyIter (.ref it)) Q E s
noncomputable abbrev TI:=St->Hp->(It->Hp->Prop)->Prop
noncomputable def PIE(X:Cx)(a:List (Addr×Obj))(i:St)(j:Expr)(R:It->Hp->Prop)(c:Value)(e:Shared):Prop :=
 ∃(it:Addr)(f:List Addr)(g:Nat->Heap->Prop)(J:It)(d:Hp),c=.ref it/\Inv X a i d e/\gR X.prog X.w X.K j J f it g/\g 0 e.heap/\(∀b∈f,eK X a d b)/\R J d
noncomputable def PI(X:Cx)(d iter:Expr)(e:TI):Prop :=
 ∀(a:List (Addr×Obj))(s:Shared)(c:St)(H:Hp)(R:It->Hp->Prop),Inv X a c H s->e c H R ->
  wpAny (model X.prog X.w) X.A (eval iter X.env) (λv f=>wpAny (model X.prog X.w) X.A (pyIter v) (PIE X a c d R) X.xe f) X.xe s
theorem nP{s:Shared}(c:s.heap.get? it=some o)(d:o.cls=.type n)(e:o.data=.fields f)
  (g:["enumerate","zip","dict_itemiterator","dict_reverseitemiterator","odict_iterator","itertools.zip_longest","itertools.pairwise"].contains n=false) (a:Q () s):wpAny M A (letOwnedTupleGo i (.ref it) u) Q E s:=by
 unfold letOwnedTupleGo
 cases i<;>first
  |exact RB a
  | (cases u<;>first
    |exact RB a
    | (refine Ar (wpAny_load c ?_)
       rw[d,e];show wpAny M A (if (["enumerate","zip","dict_itemiterator","dict_reverseitemiterator","odict_iterator","itertools.zip_longest","itertools.pairwise"].contains n&&f[0]?==some (rawInt _))=true then _ else _) Q E s;rw[TQ (by intro h;rw[g,Wu]at h;cases h)];exact RB a))
noncomputable def Itl(K:W.Frag)(a:Addr):It :=
 ⟨λi H=>∃c x,Xk K H a c/\c[i]?=some x,λi H x d=>d=H/\∀c,Xk K H a c->c[i]?=some x,λi H=>∃c,Xk K H a c/\c.length<=i⟩
noncomputable def Itt(K:W.Frag)(a:Addr):It :=
 ⟨λi H=>∃c x,Xz K H a c/\c[i]?=some x,λi H x d=>d=H/\∀c,Xz K H a c->c[i]?=some x,λi H=>∃c,Xz K H a c/\c.length<=i⟩
noncomputable def Itr(lo:Int)(n:Nat):It:=⟨λi _=>i<n,λi H x a=>a=H/\x=.int (lo+i),λi _=>n<=i⟩
variable{K:W.Frag}
theorem yG(a it:Addr):gR P w K tg (Itl K a) [it] it (λi h=>h.IsListIter it a i) where
 mem:=by simp
 obj:=λi h st b g=>by
  have e:b=it:=by simpa using g
  subst e;obtain⟨o,e,c,d⟩:=st;exact⟨o,e,λv z=>by rw[d]at z;cases z⟩
 keep:=λi h l st k=>st.at λo e=>k it (by simp) o e
 item:=by intro X q r t T i f s U H E I m st y;subst q r t;obtain⟨Y,x,n,B⟩:=y;obtain⟨G,J,p,hz⟩:=I.list n;obtain⟨u,hu,ru⟩:=J.get B;obtain⟨M,N,f2,O,Q,f5⟩:=m it (by simp);refine wpAny_pyNext_list_item st p.isList (x:=u) (by simpa using hu) λl j sb=>?_;have I1:Inv X f U H {s with heap:=l}:=I.turned (t':=s.toks) (λb o g e=>(sb.2 b g).trans e) M N O Q f5;obtain⟨o,e,c,d⟩:=id j;exact⟨u,rfl,nP (s:={s with heap:=l}) e c d (by decide) ⟨x,H,I1,ru,⟨rfl,λys hy=>by rw[I.list_inj hy n];exact B⟩,j,λb g=>(m b g).1⟩⟩
 done:=by intro X q r t T i f s U H E I m st y;subst q r t;obtain⟨Y,n,B⟩:=y;obtain⟨G,J,p,hz⟩:=I.list n;obtain⟨M,N,f2,O,Q,f5⟩:=m it (by simp);have hl:=J.length;exact wpAny_pyNext_list_end (I.ok.hd T) st p.isList (by simp;lia) λl eb=>⟨rfl,I.turned (t':=s.toks) (λb o g e=>eb b o g e) M N O Q f5⟩
 self:=λ_ _ _ _ _ st h=>wpAny_pyIter_listiter st h
theorem vF(a it:Addr):gR P w K tg (Itt K a) [it] it (λi h=>h.IsTupleIter it a i) where
 mem:=by simp
 obj:=λi h st b g=>by
  have e:b=it:=by simpa using g
  subst e;obtain⟨o,e,c,d⟩:=st;exact⟨o,e,λv z=>by rw[d]at z;cases z⟩
 keep:=λi h m st k=>st.at λo e=>k it (by simp) o e
 item:=by intro X r t y T i f s U H E I n st B;subst r t y;obtain⟨Y,x,q,G⟩:=B;obtain⟨j,J,p,hz⟩:=I.tuple q;obtain⟨u,hu,ru⟩:=J.get G;obtain⟨M,N,f2,O,Q,f5⟩:=n it (by simp);refine wpAny_pyNext_tuple_item st (show s.heap.IsTuple a j.toArray from p) (x:=u) (by simpa using hu) λm l sb=>?_;have I1:Inv X f U H {s with heap:=m}:=I.turned (t':=s.toks) (λb o g e=>(sb.2 b g).trans e) M N O Q f5;obtain⟨o,e,c,d⟩:=id l;exact⟨u,rfl,nP (s:={s with heap:=m}) e c d (by decide) ⟨x,H,I1,ru,⟨rfl,λys hy=>by rw[I.ZA hy q];exact G⟩,l,λb g=>(n b g).1⟩⟩
 done:=by intro X r t y T i f s U H E I n st B;subst r t y;obtain⟨Y,q,G⟩:=B;obtain⟨j,J,p,hz⟩:=I.tuple q;obtain⟨M,N,f2,O,Q,f5⟩:=n it (by simp);have hl:=J.length;exact wpAny_pyNext_tuple_end (I.ok.hd T) st (show s.heap.IsTuple a j.toArray from p) (by simp;lia) λm eb=>⟨rfl,I.turned (t':=s.toks) (λb o g e=>eb b o g e) M N O Q f5⟩
 self:=λ_ _ _ _ _ st h=>wpAny_pyIter_tupleiter st h
theorem vE{K:PySem.W.Frag}(it:Addr)(lo:Int)(n:Nat):gR P w K U (Itr lo n) [it] it (λi h=>IsRangeIter h it (lo+(i:Nat)*1) ((n:Int) - (i:Nat)) 1) where
 mem:=by simp
 obj:=λi h st b c=>by
  have e:b=it:=by simpa using c
  subst e
  exact⟨_,st,λv z=>by
   have J:Data.fields _=Data.cell v:=z;cases J⟩
 keep:=λi h f st k=>k it (by simp) _ st
 item:=by intro X j l m p i a s G H E I g st q;subst j l m;obtain⟨r,u,M,y,B,f5⟩:=g it (by simp);have W:=Walks.range (prog:=X.prog) (w:=X.w) (I.ok.hd p) it lo 1 n;refine W.item i s _ _ q st λv f tk N d O=>?_;obtain⟨t,rfl⟩:=N;have Q:Inv X a G H {s with heap:=f,toks:=tk}:=I.turned (λb o c e=>O b o (by simpa using c) e) r u y B f5;refine⟨_,rfl,nP (s:={s with heap:=f,toks:=tk}) (n:="range_iterator") d rfl rfl (by decide) ⟨.int (lo+i),H,Q,⟨t,?_⟩,⟨rfl,rfl⟩,d,λb c=>(g b c).1⟩⟩;rw[Int.mul_one]
 done:=by intro X j l m p i a s G H E I g st q;subst j l m;obtain⟨r,u,M,y,B,f5⟩:=g it (by simp);exact wpAny_pyNext_range_end (I.ok.hd p) st (by have:n<=i:=q;lia) λf T=>⟨rfl,I.turned (t':=s.toks) (λb o c e=>T b o c e) r u y B f5⟩
 self:=λ_ _ _ _ _ st h=>wpAny_pyIter_rangeiter st h
section
noncomputable def Jy(K:W.Frag)(tl:TE):TI:=λd H R=>tl d H λx c=>∃a,x=.ref a/\(∃e,Xk K c a e)/\R (Itl K a) c
noncomputable def Ms(K:W.Frag)(tl:TE):TI:=λd H R=>tl d H λx c=>∃a,x=.ref a/\(∃e,Xz K c a e)/\R (Itt K a) c
theorem Dk(hl:PE X l tl):PI X u l (Jy X.K tl):=by
 intro c s g H R I h;refine WY (hl c s g H _ I h) λv d ⟨x,i,f,j,m⟩=>?_;obtain⟨a,e,⟨w,n⟩,q⟩:=m;subst e;cases j;obtain⟨r,y,p,z⟩:=f.list n;refine Vx p.isList ?_;refine⟨d.heap.objs.size,[d.heap.objs.size],_,_,i,rfl,f.kept (t':=d.toks) λb o e=>LD _ e,yG a _,⟨_,TX _ rfl,rfl,rfl⟩,λb t=>?_,q⟩;have e:b=d.heap.objs.size:=by simpa using t
 subst e;exact f.ZX (TN _) (f.hok.fresh (TN _))
theorem Hr(hl:PE X l tl):PI X u l (Ms X.K tl):=by
 intro c s i H R I h;refine WY (hl c s i H _ I h) λv d ⟨x,j,f,m,n⟩=>?_;obtain⟨a,e,⟨w,r⟩,q⟩:=n;subst e;cases m;obtain⟨g,y,p,z⟩:=f.tuple r;refine wpAny_pyIter_tuple (show d.heap.IsTuple a g.toArray from p) ?_;refine⟨d.heap.objs.size,[d.heap.objs.size],_,_,j,rfl,f.kept (t':=d.toks) λb o e=>LD _ e,vF a _,⟨_,TX _ rfl,rfl,rfl⟩,λb t=>?_,q⟩;have e:b=d.heap.objs.size:=by simpa using t
 subst e;exact f.ZX (TN _) (f.hok.fresh (TN _))
theorem Be{X:Cx}{g:Expr}{c:List (Addr×Obj)}{d:St}{H:Hp}{s:Shared}{R:It->Hp->Prop}{E:Value->Shared->Prop}{lo a:Int}{t u v:Tok}{tk:Nat}(I:Inv X c d H s)(i:-(2 ^ 62)<=lo)(j:lo<2 ^ 62)(l:-(2 ^ 62)<=a)(m:a<2 ^ 62)
  (q:R (Itr lo (a - lo).toNat) H):wpAny (model X.prog X.w) X.A (pyIter (.ref s.heap.objs.size)) (PIE X c d g R) E {s with heap:=s.heap.push {cls:=.type "range",data:=.fields #[.int lo t,.int a u,.int 1 v]},toks:=tk}:=by
 refine wpAny_pyIter_range (IsRange.new ..) (small_one i j l m) ?_;have f:Inv X c d H {s with heap:=s.heap.push {cls:=.type "range",data:=.fields #[.int lo t,.int a u,.int 1 v]},toks:=tk}:=I.kept λb o e=>LD _ e
 refine⟨(s.heap.push {cls:=.type "range",data:=.fields #[.int lo t,.int a u,.int 1 v]}).objs.size,[(s.heap.push {cls:=.type "range",data:=.fields #[.int lo t,.int a u,.int 1 v]}).objs.size],_,_,H,rfl,
  f.kept (t':=tk) λb o e=>LD _ e,vE _ lo (a - lo).toNat,?_,λb n=>?_,q⟩
 ·have e1:lo+((0:Nat):Int)*1=lo:=by simp
  have e2:(((a - lo).toNat:Nat):Int) - ((0:Nat):Int)=Builtin.Range.rangeSize lo a 1:=by rw[rangeSize_one];split<;>lia
  show IsRangeIter _ _ (lo+((0:Nat):Int)*1) ((((a - lo).toNat:Nat):Int) - ((0:Nat):Int)) 1;rw[e1,e2];exact TX _ rfl
 ·have e:b=(s.heap.push {cls:=.type "range",data:=.fields #[.int lo t,.int a u,.int 1 v]}).objs.size:=by simpa using n
  subst e;exact f.ZX (TN _) (f.hok.fresh (TN _))
noncomputable def JA(a:TA):TI:=λc H R=>a c H λd e=>∃j:Int,d=[.int j]/\-(2 ^ 62)<=j/\j<2 ^ 62/\R (Itr 0 j.toNat) e
theorem yk(g:Gl X "range")(i:X.mg "range"=none)(l:PA X [a] m)(hs:starEach [a] X.env=[(false,eval a X.env)]:=by rfl):PI X z (.Call (.Name "range" p) [a] [] d) (JA m):=by
 intro c s n H R I h;refine Call_ (gE I g i boot_range (UT (WY (l d c s n H _ I h) λB E ⟨G,J,u,v,f⟩=>?_) hs rfl));obtain⟨j,e,f,w,q⟩:=f;subst e
 cases v with
 |cons r y =>cases y;obtain⟨t,rfl⟩:=r;exact call_range_1 (Be u (by lia) (by lia) f w (by simpa using q))
noncomputable def MZ(j:TI)(g:TG)(l:TS):TS:=λD a H=>j a H λJ n=>∃W:Nat->Nat->St->Hp->Prop,(∃m,W 0 m a n)/\∀i m a H,W i m a H ->
 (J.stop i H/\D.nx a H)\/(J.go i H/\∃N:St->Hp->Prop,(∀c d,N c d->∃f,f<m/\W (i+1) f c d)/\∀x d,J.yld i H x d->g x a d λe p=>l {D with nx:=N,ct:=N,bk:=D.nx} e p)
noncomputable def gH(a:List Addr)(h:Heap):List (Addr×Obj):=a.filterMap λb=>(h.get? b).map λo=>(b,o)
theorem aX{h:Heap}(a:b∈c)(e:h.get? b=some o):(b,o)∈gH c h:=VM.mpr ⟨b,a,by rw[e];rfl⟩
theorem yf(a:p∈gH c h):p.1∈c/\h.get? p.1=some p.2:=by
 obtain⟨b,d,e⟩:=VM.mp a
 cases q:h.get? b with
 |none=>rw[q]at e;cases e
 |some o =>rw[q]at e;have f:(b,o)=p:=T7 e;subst f;exact⟨d,q⟩
theorem Inv.pinned{X:Cx}{a:List (Addr×Obj)}{f:St}{H:Hp}{s:Shared}{c:List Addr}(I:Inv X a f H s)(j:∀b∈c,eK X a H b)(l:∀b∈c,∃o,s.heap.get? b=some o/\∀v,o.data≠.cell v):Inv X (a++gH c s.heap) f H s :=
 I.pins_of λp m=>(UO.mp m).elim (λz=>I.pin p (TZ _ z)) λz=>by obtain⟨g,e⟩:=yf z;obtain⟨n,q,r,_⟩:=j p.1 g;obtain⟨o,i,d⟩:=l p.1 g;rw[e]at i;cases i;exact⟨e,n,q,r,d⟩
theorem Inv.XS{X:Cx}{a d:List (Addr×Obj)}{c:St}{H:Hp}{s:Shared}(I:Inv X (a++d) c H s):Inv X a c H s:=I.pins_of λp e=>I.pin p (TZ _ (VD _ e))
theorem Hw{X:Cx}(B:PassesOwn (model X.prog X.w) X.A X.env X.xe)(hc:X.calm=true)(hi:PI X tg iter wi)(hg:PG X tg g)(j:XH X body tb)
  (hs:∀x,foldedSetIterable iter X.env x=pure x:=by intro _;rfl):PS X (.For tg iter body [] pos) (MZ wi g tb):=by
 intro a s σ H D I h;refine wpAny_For (WY (hi a s σ H _ I h) λv s1 h1=>WY h1 λitv s2 h2=>?_) hs;obtain⟨it,E,tn,J,H2,e,I2,T,U,f2,W,⟨m0,w0⟩,G⟩:=h2;subst e;have Y:∀{y:Hp},(∀b∈E,y b=none)->∀b∈E,eK X a y b:=λhn b j=>⟨hn b j,(f2 b j).2⟩
 refine codeAny_forLoop_any (λn s'=>∃i l y,Inv X a l y s'/\tn i s'.heap/\(∀b∈E,y b=none)/\W i n l y) ?_ m0 ⟨0,σ,H2,I2,U,λb j=>(f2 b j).1,w0⟩;rintro n s3 ⟨i,p,Q,I3,M,O,w3⟩;rcases G i n p Q w3 with⟨stop,qn⟩|⟨go,N,hN,step⟩
 ·refine Vi B (WY (T.done X rfl rfl rfl hc i a s3 p Q X.xe I3 (Y O) M stop) λr s4 ⟨hr,I4⟩=>?_);subst hr;exact We ⟨p,Q,I4,qn⟩
 ·refine Vi B (WY (T.item X rfl rfl rfl hc i a s3 p Q X.xe I3 (Y O) M go) λr s4 ⟨u,hr,h4⟩=>?_);subst hr;refine Vi B (WY h4 λ_ s5 ⟨x,H5,I5,r5,y5,ZI,fr5⟩=>?_);have I5':=I5.pinned (Y fr5) (T.obj _ _ ZI);refine Vi B (WY (hg _ s5 p H5 x u _ I5' r5 (step x H5 y5)) λ_ s6 ⟨σ6,H6,I6,q6⟩=>?_);refine Vi B (WY (j _ s6 σ6 H6 _ I6 q6) λf s7 z=>?_)
  have again:∀{c:St}{q:Hp},Inv X (a++gH E s5.heap) c q s7->N c q->∃m,m<n/\∃i l y,Inv X a l y s7/\tn i s7.heap/\(∀b∈E,y b=none)/\W i m l y:=λ{c q} t n7=>by obtain⟨m',hm,w7⟩:=hN c q n7;refine⟨m',hm,i+1,c,q,t.XS,T.keep _ _ _ ZI λb j o e=>(t.pin (b,o) (TZ _ (TZ _ (aX j e)))).1,λb j=>?_,w7⟩;obtain⟨o,e,d⟩:=T.obj _ _ ZI b j;exact(t.pin (b,o) (TZ _ (TZ _ (aX j e)))).2.1
  cases f with
  |next=>obtain⟨c,q,t,n7⟩:=z;exact again t n7
  |cont=>obtain⟨c,q,t,n7⟩:=z;exact again t n7
  |brk=>obtain⟨c,q,t,z⟩:=z;exact⟨c,q,t.XS,z⟩
  |ret v=>obtain⟨x7,c,q,t,r7,z⟩:=z;exact⟨x7,c,q,t.XS,r7,z⟩
end
noncomputable abbrev R2:=V->V->Hp->VK->Prop
noncomputable def XT(X:Cx)(f:Value->Value->Sem Value)(r:R2):Prop :=
 ∀(a:List (Addr×Obj))(s:Shared)(c:St)(H:Hp)(x y:V)(v u:Value)(Q:VK),Inv X a c H s->RelV x v->RelV y u->r x y H Q ->
  wpAny (model X.prog X.w) X.A (f v u) (EP X a c Q) X.xe s
noncomputable def UnR(X:Cx)(f:Value->Sem Value)(r:V->Hp->VK->Prop):Prop :=
 ∀(a:List (Addr×Obj))(s:Shared)(c:St)(H:Hp)(x:V)(v:Value)(Q:VK),Inv X a c H s->RelV x v->r x H Q ->
  wpAny (model X.prog X.w) X.A (f v) (EP X a c Q) X.xe s
noncomputable def bo(X:Cx)(f:Value)(r:List V->Hp->VK->Prop):Prop :=
 ∀(a:List (Addr×Obj))(s:Shared)(c:St)(H:Hp)(d:List V)(e:List Value)(Q:VK),Inv X a c H s->Vals d e->r d H Q ->
  wpAny (model X.prog X.w) X.A (call f e) (EP X a c Q) X.xe s
noncomputable def Ml(X:Cx)(r:V->Hp->(Bool->Hp->Prop)->Prop):Prop :=
 ∀(a:List (Addr×Obj))(s:Shared)(c:St)(H:Hp)(x:V)(v:Value)(Q:Bool->Hp->Prop),Inv X a c H s->RelV x v->r x H Q ->
  wpAny (model X.prog X.w) X.A (truthy v) (TP X a c Q) X.xe s
noncomputable def tOp(r:R2)(c d:TE):TE:=λa H Q=>c a H λx e=>d a e λy f=>r x y f Q
noncomputable def tUn(r:V->Hp->VK->Prop)(a:TE):TE:=λc H Q=>a c H λx d=>r x d Q
noncomputable def rI(C:Int->Int->Prop)(g:Int->Int->V):R2:=λx y H Q=>∃i j,x=.int i/\y=.int j/\C i j/\Q (g i j) H
noncomputable def ZJ(g:Int->Int->V):R2:=λx y H Q=>∃i j,x=.int i/\y=.int j/\Q (g i j) H
noncomputable def rU(g:Int->V):V->Hp->VK->Prop:=λx H Q=>∃i,x=.int i/\Q (g i) H
section
theorem EY{X:Cx}{a b:Expr}{m n:TE}(p:PE X a m)(q:PE X b n){c:List (Addr×Obj)}{s:Shared}{d:St}{H:Hp}{R:V->V->Hp->Prop}(I:Inv X c d H s)
  (h:m d H λx l=>n d l λy e=>R x y e) {Q:Value->Shared->Prop} {f:Value->Value->Sem Value}
  (r:∀v u j x y e,Inv X c d e j->RelV x v->RelV y u->R x y e->wpAny (model X.prog X.w) X.A (f v u) Q X.xe j) :
  wpAny (model X.prog X.w) X.A (eval a X.env) (λv g=>wpAny (model X.prog X.w) X.A (eval b X.env) (λu i=>wpAny (model X.prog X.w) X.A (f v u) Q X.xe i) X.xe g) X.xe s:=by
 refine WY (p c s d H _ I h) λv t ⟨x,l,z,B,E⟩=>?_;refine WY (q c t d l _ z E) λu j ⟨y,e,G,r2,J⟩=>?_;exact r v u j x y e G B r2 J
theorem bw(d:XT X (binaryOp e) r)(f:PE X a g)(i:PE X b j):PE X (.BinOp a e b l) (tOp r g j):=by intro c s m H Q I h;exact wpAny_BinOp (EY f i I h λv u n x y p t w z q=>d c n m p x y v u Q t w z q)
theorem Eu(e:UnR X (unaryOp f) r)(g:PE X a i):PE X (.UnaryOp f a j) (tUn r i):=by intro c s d H Q I h;exact UnaryOp_ (WY (g c s d H _ I h) λv l ⟨x,m,n,p,q⟩=>e c l d m x v Q n p q)
theorem opI{X:Cx}{f:Value->Value->Sem Value}{C:Int->Int->Prop}{g:Int->Int->Int}
  (rule:∀(i j:Int)(t u:Tok)(s:Shared)(Q:Value->Shared->Prop)(E:Value->Shared->Prop),C i j->Q (.int (g i j) s.toks) {s with toks:=s.toks+1}->wpAny (model X.prog X.w) X.A (f (.int i t) (.int j u)) Q E s) :
  XT X f (rI C λi j=>.int (g i j)):=by
 intro a s m H x y v u Q I c d h;obtain⟨i,j,rfl,rfl,e,q⟩:=h;obtain⟨t,rfl⟩:=c;obtain⟨l,rfl⟩:=d;exact rule i j t l s _ _ e ⟨.int (g i j),H,I.tok _,⟨_,rfl⟩,q⟩
theorem Kw{X:Cx}{f:Value->Value->Sem Value}{g:Int->Int->Int}
  (rule:∀(i j:Int)(t u:Tok)(s:Shared)(Q:Value->Shared->Prop)(E:Value->Shared->Prop),Q (.int (g i j) s.toks) {s with toks:=s.toks+1}->wpAny (model X.prog X.w) X.A (f (.int i t) (.int j u)) Q E s) :
  XT X f (ZJ λi j=>.int (g i j)):=by
 intro a s l H x y v u Q I c d h;obtain⟨i,j,rfl,rfl,q⟩:=h;obtain⟨t,rfl⟩:=c;obtain⟨e,rfl⟩:=d;exact rule i j t e s _ _ ⟨.int (g i j),H,I.tok _,⟨_,rfl⟩,q⟩
theorem C7{X:Cx}{f:Value->Value->Sem Value}{g:Int->Int->Bool}
  (rule:∀(i j:Int)(t u:Tok)(s:Shared)(Q:Value->Shared->Prop)(E:Value->Shared->Prop),Q (.bool (g i j)) s->wpAny (model X.prog X.w) X.A (f (.int i t) (.int j u)) Q E s) :
  XT X f (ZJ λi j=>.bl (g i j)):=by
 intro a s l H x y v u Q I c d h;obtain⟨i,j,rfl,rfl,q⟩:=h;obtain⟨t,rfl⟩:=c;obtain⟨e,rfl⟩:=d;exact rule i j t e s _ _ ⟨.bl (g i j),H,I,rfl,q⟩
noncomputable def IZ(i j:Int):Prop:=0<j/\j<1073741824
noncomputable def Mh(i j:Int):Prop:=0<=j/\j<=1000000/\i.natAbs<2 ^ 64
noncomputable def CMul(i j:Int):Prop:=(-(2 ^ 64)<i/\i<2 ^ 64)\/(-(2 ^ 64)<j/\j<2 ^ 64)
theorem CMul.ok(h:CMul i j):IntMulOk i j:=by
 rcases h with⟨a,c⟩|⟨a,c⟩
 ·exact .of_left (intBits_le_64 a c)
 ·exact .of_right (intBits_le_64 a c)
theorem Zi:XT X (binaryOp .Add) (ZJ λi j=>.int (i+j)):=Kw λ_ _ _ _ _ _ _ q=>add_int q
theorem Hf:XT X (binaryOp .Sub) (ZJ λi j=>.int (i - j)):=Kw λ_ _ _ _ _ _ _ q=>sub_int q
theorem uD:XT X (binaryOp .Mult) (rI CMul λi j=>.int (i*j)):=opI λ_ _ _ _ _ _ _ a q=>mul_int q a.ok
theorem pH:XT X (binaryOp .FloorDiv) (rI IZ λi j=>.int (i / j)):=opI λi j _ _ _ _ _ a q=>by have c:(0:Int)<j:=a.1;have d:j<1073741824:=a.2;exact floordiv_int (by lia) (by rw[Int.fdiv_eq_ediv_of_nonneg i (by lia)];exact q) (.inl (PyProof.noPylong_small (by lia)))
theorem cW:XT X (binaryOp .Mod) (rI (λ_ j=>0<j) λi j=>.int (i%j)):=opI λi j _ _ _ _ _ a q=>by have c:(0:Int)<j:=a;exact mod_int' (by lia) (by rw[Int.fmod_eq_emod_of_nonneg i (by lia)];exact q)
theorem pJ:XT X (binaryOp .Pow) (rI Mh λi j=>.int (i ^ j.toNat)):=opI λ_ _ _ _ _ _ _ a q=>pow_int_small a.1 a.2.1 a.2.2 q
theorem unI{X:Cx}{f:Value->Sem Value}{g:Int->Int}
  (rule:∀(i:Int)(t:Tok)(s:Shared)(Q:Value->Shared->Prop)(E:Value->Shared->Prop),Q (.int (g i) s.toks) {s with toks:=s.toks+1}->wpAny (model X.prog X.w) X.A (f (.int i t)) Q E s) :
  UnR X f (rU λi=>.int (g i)):=by
 intro a s d H x v Q I c h;obtain⟨i,rfl,q⟩:=h;obtain⟨t,rfl⟩:=c;exact rule i t s _ _ ⟨.int (g i),H,I.tok _,⟨_,rfl⟩,q⟩
theorem BE:UnR X (unaryOp .USub) (rU λi=>.int (-i)):=unI λ_ _ _ _ _ q=>neg_int q
end
noncomputable def MU:V->V->Bool
 | .WX,.WX=>true | .WX,.int _=>true | .int _,.WX=>true | .WX,.bl _=>true | .bl _,.WX=>true | .WX,.str _=>true | .str _,.WX=>true
 | .int _,.int _=>true | .bl _,.bl _=>true | .str _,.str _=>true | .byt _,.byt _=>true
 | .int _,.str _=>true | .str _,.int _=>true | .bl _,.str _=>true | .str _,.bl _=>true
 |_,_=>false
noncomputable def rNe:R2:=λx y H Q=>MU x y=true/\Q (.bl (!decide (x=y))) H
theorem B2:decide (V.int i=V.int j)=(i==j):=by rw[Vj];simp
theorem Fb:decide (V.bl i=V.bl j)=(i==j):=by rw[Vj];simp
theorem B3:decide (V.str i=V.str j)=(i==j):=by rw[Vj];simp
theorem B1:decide (V.byt i=V.byt j)=(i.toList==j.toList):=by rw[Vj];cases i;cases j;simp
section
variable{b:Expr}{ta tb tc:TE}
theorem bC{X:Cx}{a:List (Addr×Obj)}{c:St}{H:Hp}{s:Shared}{Q:VK}{k d:Bool}(I:Inv X a c H s)(q:Q (.bl k) H)(e:k=d):EP X a c Q (.bool d) s:=by subst e;exact⟨.bl k,H,I,rfl,q⟩
theorem Kx:XT X (compareOp .NotEq) rNe:=by
 intro e s f H x y v u Q I d a h;obtain⟨hs,q⟩:=h
 cases x with
 |WX =>
  cases d
  cases y with
  |WX=>cases a;exact PySem.EqNone.ne_none_none (bC I q (by simp))
  |bl j=>cases a;exact PySem.EqNone.ne_none_bool (bC I q (by simp))
  |int j=>obtain⟨c,rfl⟩:=a;exact PySem.EqNone.ne_none_int (bC I q (by simp))
  |str j=>obtain⟨c,rfl⟩:=a;exact PySem.EqNone.ne_none_str (bC I q (by simp))
  |_=>exact absurd (show false=true from hs) TU
 |bl i =>
  cases d
  cases y with
  |WX=>cases a;exact PySem.EqNone.ne_bool_none (bC I q (by simp))
  |bl j=>cases a;exact ne_bool (bC I q (UI not Fb))
  |str j=>obtain⟨c,rfl⟩:=a;exact PySem.EqMixed.ne_bool_str (bC I q (by simp))
  |_=>exact absurd (show false=true from hs) TU
 |int i =>
  obtain⟨t,rfl⟩:=d
  cases y with
  |WX=>cases a;exact PySem.EqNone.ne_int_none (bC I q (by simp))
  |int j=>obtain⟨c,rfl⟩:=a;exact ne_int (bC I q (UI not B2))
  |str j=>obtain⟨c,rfl⟩:=a;exact PySem.EqMixed.ne_int_str (bC I q (by simp))
  |_=>exact absurd (show false=true from hs) TU
 |str i =>
  obtain⟨t,rfl⟩:=d
  cases y with
  |WX=>cases a;exact PySem.EqNone.ne_str_none (bC I q (by simp))
  |bl j=>cases a;exact PySem.EqMixed.ne_str_bool (bC I q (by simp))
  |int j=>obtain⟨c,rfl⟩:=a;exact PySem.EqMixed.ne_str_int (bC I q (by simp))
  |str j=>obtain⟨c,rfl⟩:=a;exact ne_str (bC I q (UI not B3))
  |_=>exact absurd (show false=true from hs) TU
 |byt i =>
  obtain⟨t,rfl⟩:=d
  cases y with
  |byt j=>obtain⟨c,rfl⟩:=a;exact W.ne_bytes (bC I q (UI not B1))
  |_=>exact absurd (show false=true from hs) TU
 |_=>cases y<;>exact absurd (show false=true from hs) TU
theorem Et:XT X (compareOp .Lt) (ZJ λi j=>.bl (decide (i<j))):=C7 λ_ _ _ _ _ _ _ q=>lt_int q
theorem jP:XT X (compareOp .LtE) (ZJ λi j=>.bl (decide (i<=j))):=C7 λ_ _ _ _ _ _ _ q=>le_int q
theorem Es:XT X (compareOp .Gt) (ZJ λi j=>.bl (decide (j<i))):=C7 λ_ _ _ _ _ _ _ q=>gt_int q
theorem Er:XT X (compareOp .GtE) (ZJ λi j=>.bl (decide (j<=i))):=C7 λ_ _ _ _ _ _ _ q=>ge_int q
theorem XT.or(h:XT X f r)(g:XT X f i):XT X f (λx y H Q=>r x y H Q\/i x y H Q):=by
 intro a s c H x y v u Q I d e q;rcases q with q|q
 ·exact h a s c H x y v u Q I d e q
 ·exact g a s c H x y v u Q I d e q
theorem gF(b:Expr)(h:a≠.In:=by decide)(c:a≠.NotIn:=by decide):behindInMarks a b=false:=by
 have e1:(a==CmpOp.In)=false:=by cases a<;>first|rfl|exact absurd rfl h
 have e2:(a==CmpOp.NotIn)=false:=by cases a<;>first|rfl|exact absurd rfl c
 cases b<;>simp[behindInMarks,e1,e2]
theorem pL(e:XT X (compareOp d) r)(f:PE X a ta)(g:PE X b tb)(i:behindInMarks d b=false):PE X (.Compare a [d] [b] j) (tOp r ta tb):=by intro c s l H Q I h;exact wpAny_Compare1 (EY f g I h λv u m x y n p t w q=>e c m l n x y v u Q p t w q) i
noncomputable def Ys(t:TE):TT:=λa H Q=>t a H λx c=>∃k,x=.bl k/\Q k c
theorem cg(i:XT X (compareOp g) r)(j:PE X a ta)(l:PE X b tb)(m:behindInMarks g b=false):PT X (.Compare a [g] [b] n) (Ys (tOp r ta tb)):=by
 intro d s f H Q I h
 refine wpAny_isTrue_Compare1 (WY (j d s f H _ I h) λv p ⟨x,q,t,w,B⟩=>WY (l d p f q _ t B) λu E ⟨y,G,J,r2,M⟩ =>
  WY (i d E f G x y v u _ J w r2 M) λc Y ⟨z,N,O,T,k,e,U⟩=>?_) m
 subst e;cases T;exact Uv ⟨N,O,U⟩
noncomputable def Yt(r d:R2)(ta tb tc:TE):TE:=λa H Q=>ta a H λx e=>tb a e λy f=>r x y f λz c=>∃k,z=.bl k /\
 (if k=true then tc a c λg i=>d y g i Q else Q (.bl false) c)
theorem sv(q:XT X (compareOp l) r)(j:XT X (compareOp g) t)(w:PE X a ta)(B:PE X b tb)(E:PE X c tc)
  (G:lastMarks [l,g] [b,c]=false:=by with_unfolding_all rfl):PE X (.Compare a [l,g] [b,c] J) (Yt r t ta tb tc):=by
 intro f s i H Q I h
 refine Compare_chain (WY (w f s i H _ I h) λv M ⟨x,N,O,T,U⟩=>chain_link (WY (B f M i N _ O U) λu Y ⟨y,H2,I2,r2,q2⟩ =>
  WY (q f Y i H2 x y v u _ I2 T r2 q2) λd s3 ⟨z,m,n,r3,k,e,p⟩=>?_)) G
 subst e;cases r3;refine Uv ?_
 cases k with
 |false=>exact ite_ff ⟨.bl false,m,n,rfl,p⟩
 |true=>exact ite_tt (chain_last (WY (E f s3 i m _ n p) λw' s4 ⟨z',H4,I4,r4,q4⟩=>j f s4 i H4 y z' u w' Q I4 r2 r4 q4))
theorem sF(q:XT X (compareOp l) r)(j:XT X (compareOp g) t)(w:PE X a ta)(B:PE X b tb)(E:PE X c tc)
  (G:lastMarks [l,g] [b,c]=false:=by with_unfolding_all rfl):PT X (.Compare a [l,g] [b,c] J) (Ys (Yt r t ta tb tc)):=by
 intro f s i H Q I h
 refine isTrue_chain (WY (w f s i H _ I h) λv M ⟨x,N,O,T,U⟩=>test_link (WY (B f M i N _ O U) λu Y ⟨y,H2,I2,r2,q2⟩ =>
  WY (q f Y i H2 x y v u _ I2 T r2 q2) λd s3 ⟨z,m,n,r3,k,e,p⟩=>?_)) G
 subst e;cases r3;refine Uv ?_
 cases k with
 |false =>obtain⟨k',e',q'⟩:=p;cases e';exact ite_ff ⟨m,n,q'⟩
 |true =>refine ite_tt (test_last (WY (E f s3 i m _ n p) λw' s4 ⟨z',H4,I4,r4,q4⟩=>WY (j f s4 i H4 y z' u w' _ I4 r2 r4 q4) λd' s5 ⟨z2,H5,I5,r5,k2,e2,q5⟩=>?_));subst e2;cases r5;exact Uv ⟨H5,I5,q5⟩
noncomputable def yR(K:W.Frag)(x:V)(H:Hp)(k:Bool):Prop :=
 match x with
 | .WX=>k=false
 | .bl b=>k=b
 | .int i=>k=(i != 0)
 | .str y=>y.length<=sizeLine/\k=((y.length:Int) != 0)
 | .byt y=>y.size<=sizeLine/\k=((y.size:Int) != 0)
 | .ref p=>(∃a,Xk K H p a/\k=!a.isEmpty)\/(∃a,Xz K H p a/\k=!a.isEmpty)\/∃c,H p=some (.dK c)/\k=!c.isEmpty
 |_=>False
theorem um{κ:Type}{a:List (κ×V)}{c:List (κ×Value)}(r:KV a c):(!c.isEmpty)=!a.isEmpty:=by cases r<;>rfl
theorem lI(r:Vals c a):(!a.toArray.isEmpty)=!c.isEmpty:=by cases r<;>simp
theorem fj:(sizeLine:Nat)<2 ^ 63:=by rw[Ul];decide
theorem Iw:Ml X (λx H Q=>∃k,yR X.K x H k/\Q k H):=by
 intro z s J H x v Q I g h;obtain⟨k,e,q⟩:=h;have hl:=fj;have hs:sizeLine=16777216:=Ul
 cases x with
 |WX =>cases g;have a:k=false:=e;subst a;exact truthy_none ⟨H,I,q⟩
 |bl b =>cases g;have a:k=b:=e;subst a;exact Uv ⟨H,I,q⟩
 |int i =>obtain⟨t,rfl⟩:=g;have a:k=(i != 0):=e;subst a;exact PySem.P.truthy_int ⟨H,I,q⟩
 |str y =>obtain⟨t,rfl⟩:=g;obtain⟨E,a⟩:y.length<=sizeLine/\k=((y.length:Int) != 0):=e;subst a;exact PySem.P.truthy_str (by lia) ⟨H,I.tok _,q⟩
 |byt y =>obtain⟨t,rfl⟩:=g;obtain⟨E,a⟩:y.size<=sizeLine/\k=((y.size:Int) != 0):=e;subst a;exact W.truthy_bytes (by lia) ⟨H,I.tok _,q⟩
 |ref p =>
  cases g;have a:(∃f,Xk X.K H p f/\k=!f.isEmpty)\/(∃f,Xz X.K H p f/\k=!f.isEmpty)\/∃c,H p=some (.dK c)/\k=!c.isEmpty:=e;rcases a with⟨f,j,a⟩|⟨f,j,a⟩|⟨c,j,a⟩
  ·subst a;obtain⟨n,r,u,B⟩:=I.list j;have d:=r.length;exact wpAny_truthy_list u.isList (by simp only[TH];lia) ⟨H,I.tok _,by rw[lI r];exact q⟩
  ·subst a;obtain⟨n,r,u,B⟩:=I.tuple j;have d:=r.length;exact truthy_tuple u (by simp only[TH];lia) ⟨H,I.tok _,by rw[lI r];exact q⟩
  ·subst a;obtain⟨B,G,l,r,m⟩:c.length<=sizeLine/\(p==sysModules)=false/\∃l,KV c l/\s.heap.DictOf (aZ X.prog X.w) p l:=I.hok p _ j;have d:c.length=l.length:=WH r;exact wpAny_truthy_dict G m (by lia) ⟨H,I.tok _,by rw[um r];exact q⟩
 |_=>exact(show False from e).elim
theorem lP(g:PE X a ta)(i:∀c,isTrue a X.env c=(do let v <- c;standAt a.pos;holding [v] (truthy v))) :
  PT X a (λe H Q=>ta e H λx f=>∃k,yR X.K x f k/\Q k f):=by
 intro d s e H Q I h;exact isTrue_plain (WY (g d s e H _ I h) λv j ⟨x,l,m,n,p⟩=>Iw d j e l x v Q m n p) (i _)
theorem bq(r:Vals [x] a):∃u,a=[u]/\RelV x u:=by
 cases r with
 |cons c r2=>cases r2;exact⟨_,rfl,c⟩
theorem EM(r:Vals [x,y] c):∃u a,c=[u,a]/\RelV x u/\RelV y a:=by
 cases r with
 |cons d r2 =>
  cases r2 with
  |cons e f=>cases f;exact⟨_,_,rfl,d,e⟩
end
structure ObjM(h:Heap)(x dx C:Addr)(mA:Str->Option Value):Prop where
 obj:h.get? x=some (W.instObj C dx)
 ns:h.Ns1 dx mA
 ne:dx≠x
theorem xV{h:Heap}(n:h.Ns1 g i):∃d,h.get? g=some d/\∀name,W.lookIn name d=some (i name):=by
 obtain⟨o,f,u,j,l,hk,_,m⟩:=n;refine⟨o,j,λname=>?_⟩;have e:=m name;unfold nsFind findBy at e;rw[<- Array.find?_toList]at e;unfold W.lookIn;rw[l];dsimp only;split
 ·rename_i y q;rw[q]at e;exact UI some e
 ·rename_i q;rw[q]at e
  have a:f.toList.any (·.refKey)=false:=by rw[List.any_eq_false];intro y p;obtain⟨z,t,c⟩:=hk y (Array.mem_toList_iff.mp p);simp[DictEntry.refKey,c]
  have r:¬ f.toList.any (·.refKey)=true:=by rw[a];exact TU
  rw[TQ r];exact UI some e
theorem ObjM.look(I:ObjM h x c C d):∃a,W.InstAt h x (W.instObj C c) C (some a)/\∀name,W.lookIn name a=some (d name) :=
 let⟨a,e,hl⟩:=xV I.ns
 ⟨a,⟨I.obj,rfl,rfl,e⟩,hl⟩
section
variable{K:W.Frag}
theorem B7{s:Shared}(X:K.In s.heap)(I:ObjM s.heap x j C d)(e:W.plainGet K C name=true)(f:W.hasDictIn K C=true)
  (g:W.findIn K (.ref C) name=some none) (i:d name=some v) (a:W.handedIn v=true) (h:Q v {s with toks:=s.toks+1}) :
  wpAny (model prog w) A (getAttr (.ref x) name c) Q E s:=by
 obtain⟨l,J,hl⟩:=I.look;exact W.get_value X J (W.plainGet_of e).1 (W.findObj_own f g rfl (by rw[hl,i])) a h
theorem zI{s:Shared}(X:K.In s.heap)(I:ObjM s.heap x j C c)(a:W.plainGet K C name=true)
  (d:W.findIn K (.ref C) name=some (some (.ref f))) (e:W.isFn K (.ref f)=true) (g:c name=none) (h:Q (.ref f,[.ref x]) s) :
  wpAny (model prog w) A (getMethod (.ref x) name l) Q E s:=by
 obtain⟨i,J,hl⟩:=I.look;exact W.method_fn X J (W.plainGet_of a).1 (W.plainGet_of a).2 d (U0.mp e) (by show(W.lookIn name i).map (·.isSome)=some false;rw[hl,g];rfl) h
theorem DO{s:Shared}(X:K.In s.heap)(I:ObjM s.heap x e C m)
  (hs:W.findIn K (.ref C) "__setattr__"=some (some (.builtin "object.__setattr__"))) (n:W.plainOver K C=true) (p:W.takerIn K C name=some none) (q:W.hasDictIn K C=true)
  (t:PySem.Within m u) (z:u.length<=sizeLine)
  (h:∀f,ObjM f x e C (λy=>if y=name then some v else m y)->Heap.SameBut e s.heap f->Q () {s with heap:=f,toks:=s.toks+2}) :
  wpAny (model prog w) A (setAttr (.ref x) name v) Q E s:=by
 obtain⟨N,J,hl⟩:=I.look;refine W.set_plain X J hs (W.osa_open (s:={s with toks:=s.toks+1}) (r:=none) X J n p λb=>?_);obtain⟨cd,B,g⟩:=W.any_some q;have G:s.heap.get? x=some ⟨.ref C,some e,.plain,#[]⟩:=I.obj;refine Ar (RB (Ar (Ar (wpAny_loadPart G (Ar (W.Looks.here (s:={s with toks:=s.toks+1}) (W.looks_clsIn X B) ?_))))));rw[g];refine RB (a:=some e) (Ar (RB (Ar ?_)));refine wpAny_nsSet1 (s:={s with toks:=s.toks+1}) I.ns λf c d=>?_;obtain⟨O,H,M,i,j,l⟩:=c.count (PySem.Within.cons name v t);refine Ar (wpAny_lookBehind i (by rw[j];exact pastItsLine_dict (Ub l (by rw[Us];lia))) ?_);exact RB (h _ ⟨(d.2 _ (Ut I.ne)).trans I.obj,c,I.ne⟩ d)
theorem Av{A:Around}{s:Shared}(X:K.In s.heap)(e:W.makesIn K C=true)
  (i:W.findIn K (.ref C) "__init__"=some (some (.ref f))) (j:W.typeIn K (.ref f)=some (.type "function"))
  (h:codeAny (model prog w) (A.under (.builtin "type.__call__" ⟨.ref C::a,c⟩)) (.call (.ref f) ⟨.ref (s.heap.objs.size+1)::a,c⟩) (W.InitBack (s.heap.objs.size+1) R)
   {s with heap:=(s.heap.push W.emptyDict).push (W.instObj C s.heap.objs.size)}) :
  codeAny (model prog w) A (.call (.ref C) ⟨a,c⟩) R s:=by
 obtain⟨l,g,d,t,os⟩:=s;exact W.make_core (W.makes_of X e) (W.looks_findIn X i) (λself=>W.bind_fn X self j) (.inl rfl) h
end
noncomputable def dQ(f:Str)(v:V):List (Str×V)->List (Str×V)
 |[]=>[(f,v)]
 | (g,x)::r=>if g=f then (g,v)::r else (g,x)::dQ f v r
theorem jN(f g:Str)(v:V):∀fs:List (Str×V),(dQ f v fs).lookup g=if g=f then some v else fs.lookup g
 |[]=>by
  show List.lookup g [(f,v)]=_;by_cases h:g=f
  ·have a:(g==f)=true:=U0.mpr h;simp only[List.lookup,a,TY h]
  ·have a:(g==f)=false:=UM.mpr h;simp only[List.lookup,a,TQ h]
 | (k,x)::r=>by
  have c:=jN f g v r;rw[show dQ f v ((k,x)::r)=(if k=f then (k,v)::r else (k,x)::dQ f v r) from rfl];by_cases hk:k=f
  ·rw[TY hk];by_cases h:g=k
   ·have a:(g==k)=true:=U0.mpr h;simp only[List.lookup,a,TY (h.trans hk)]
   ·have a:(g==k)=false:=UM.mpr h;simp only[List.lookup,a,TQ (λe:g=f=>h (e.trans hk.symm))]
  ·rw[TQ hk];by_cases h:g=k
   ·have a:(g==k)=true:=U0.mpr h;simp only[List.lookup,a,TQ (λe:g=f=>hk (h.symm.trans e))]
   ·have a:(g==k)=false:=UM.mpr h;simp only[List.lookup,a];exact c
theorem jf(f:Str)(v:V):∀fs:List (Str×V),f∈(dQ f v fs).map (·.1)/\∀g,g∈fs.map (·.1)->g∈(dQ f v fs).map (·.1)
 |[]=>⟨by simp[dQ],λg h=>by simp at h⟩
 | (k,x)::r=>by
  obtain⟨a,c⟩:=jf f v r;rw[show dQ f v ((k,x)::r)=(if k=f then (k,v)::r else (k,x)::dQ f v r) from rfl];by_cases hk:k=f
  ·rw[TY hk];subst hk;exact⟨by simp,λg h=>by simpa using h⟩
  ·rw[TQ hk];refine⟨?_,λg h=>?_⟩
   ·rw[T9];exact Ua _ a
   ·rw[T9]at h ⊢;rcases T3.mp h with e|e
    ·exact T3.mpr (.inl e)
    ·exact Ua _ (c g e)
theorem jM(f:Str)(v:V):∀fs:List (Str×V),(dQ f v fs).length<=fs.length+1
 |[]=>by simp[dQ]
 | (k,x)::r=>by
  have a:=jM f v r;rw[show dQ f v ((k,x)::r)=(if k=f then (k,v)::r else (k,x)::dQ f v r) from rfl];by_cases hk:k=f
  ·rw[TY hk,Us,Us];lia
  ·rw[TQ hk,Us,Us];lia
theorem YB.some_of(r:YB (some v) o):∃u,o=some u/\RelV v u:=by
 cases o with
 |none=>exact(show False from r).elim
 |some u=>exact⟨u,rfl,r⟩
theorem YB.none_of(r:YB none o):o=none:=by
 cases o with
 |none=>rfl
 |some u=>exact(show False from r).elim
theorem xN(r:RelV v u):W.handedIn u=true:=by
 cases v with
 |WX=>cases (show u=Value.none from r);rfl
 |bl b=>cases (show u=Value.bool b from r);rfl
 |int i=>obtain⟨t,e⟩:=(show ∃t,u=Value.int i t from r);cases e;rfl
 |str x=>obtain⟨t,e⟩:=(show ∃t,u=Value.str x t from r);cases e;rfl
 |byt b=>obtain⟨t,e⟩:=(show ∃t,u=Value.bytes b t from r);cases e;rfl
 |flt b=>obtain⟨t,e⟩:=(show ∃t,u=Value.float b t from r);cases e;rfl
 |ref a=>cases (show u=Value.ref a from r);rfl
 |ty n=>cases (show u=Value.type n from r);rfl
section
theorem kI(g:X4 P w H h)(e:H a=some (.ins C i fs)):∃c,ObjM h a i C c/\(∀f,YB (fs.lookup f) (c f))/\PySem.Within c (fs.map (·.1))/\fs.length<=1000/\H i=some (.own a):=by
 obtain⟨d,z,ne,ob,c,n,r,q⟩:=(show W7 P w H h a (.ins C i fs) from g a _ e)
 exact⟨c,⟨ob,n,ne⟩,r,q,z,d⟩
end
structure ZC(K:W.Frag)(C:Addr):Prop where
 pg:W.plainGet K C Str.empty=true
 hd:W.hasDictIn K C=true
 po:W.plainOver K C=true
 sa:W.findIn K (.ref C) "__setattr__"=some (some (.builtin "object.__setattr__"))
theorem ZC.get(c:ZC K C)(f:Str):W.plainGet K C f=true:=c.pg
noncomputable def Xm(K:W.Frag)(C:Addr)(f:Str):Prop:=W.findIn K (.ref C) f=some none
theorem Xm.taker(n:Xm K C f):W.takerIn K C f=some none:=by unfold W.takerIn;rw[show W.findIn K (.ref C) f=some none from n];rfl
structure Meth(K:W.Frag)(C:Addr)(m:Str)(f:Addr):Prop where
 at_:W.findIn K (.ref C) m=some (some (.ref f))
 fn:W.isFn K (.ref f)=true
 kp:W.keepIn K (.ref f)=true
section
theorem uk{X:Cx}{d:List (Addr×Obj)}{g:St}{H:Hp}{s:Shared}{a C m:Addr}{fs:List (Str×V)}{f:Str}{v:V}{A:Around}{E:Value->Shared->Prop}{b:Bool}{Q:Value->Shared->Prop}(I:Inv X d g H s)(e:H a=some (.ins C m fs))(c:ZC X.K C)(n:Xm X.K C f)(l:fs.lookup f=some v)
  (h:∀u i,Inv X d g H i->RelV v u->Q u i):wpAny (model X.prog X.w) A (getAttr (.ref a) f b) Q E s:=by
 obtain⟨p,O,r,_,_,_⟩:=kI I.hok e;obtain⟨u,q,j⟩:=YB.some_of (v:=v) (o:=p f) (by rw[<- l];exact r f);exact B7 I.Xy O (c.get f) c.hd n q (xN j) (h u _ (I.tok _) j)
theorem gC{X:Cx}{d:List (Addr×Obj)}{f:St}{H:Hp}{s:Shared}{a C i:Addr}{fs:List (Str×V)}{A:Around}{E:Value->Shared->Prop}{m:Str}{g:Addr}{j:Sem Bool}{Q:Value×List Value->Shared->Prop}(I:Inv X d f H s)(e:H a=some (.ins C i fs))(c:ZC X.K C)(k:Meth X.K C m g)(l:fs.lookup m=none)
  (h:Q (.ref g,[.ref a]) s):wpAny (model X.prog X.w) A (getMethod (.ref a) m j) Q E s:=by
 obtain⟨n,O,r,_,_,_⟩:=kI I.hok e;have p:n m=none:=YB.none_of (by rw[<- l];exact r m);exact zI I.Xy O (c.get m) k.at_ k.fn p h
theorem vq{X:Cx}{d:List (Addr×Obj)}{l:St}{H:Hp}{s:Shared}{a C i:Addr}{fs:List (Str×V)}{f:Str}{A:Around}{E:Value->Shared->Prop}{y:V}{u:Value}{Q:Unit->Shared->Prop}(I:Inv X d l H s)(e:H a=some (.ins C i fs))(c:ZC X.K C)(n:Xm X.K C f)(hl:fs.length<1000)(B:RelV y u)
  (h:∀m,Inv X d l (upd H a (.ins C i (dQ f y fs))) m->Q () m):wpAny (model X.prog X.w) A (setAttr (.ref a) f u) Q E s:=by
 obtain⟨p,O,r,t,_,v⟩:=kI I.hok e;have G:(fs.map (·.1)).length<=sizeLine:=by rw[T8,Ul];lia
 refine DO I.Xy O c.sa c.po n.taker c.hd t G λJ j M=>h _ ?_;have N:∃o,J.get? i=some o:=let⟨o,_,_,T,_⟩:=j.ns;⟨o,T⟩;refine I.write (x:=a) (e:=i) (by rw[e];exact True.intro) (.inr v) (λb q U z=>(M.2 b U).trans z) N ?_;refine⟨by rw[ag O.ne];exact v,?_,O.ne,j.obj,_,j.ns,λg=>?_,λg Y=>?_⟩
 ·have:=jM f y fs;lia
 ·show YB ((dQ f y fs).lookup g) (if g=f then some u else p g);rw[jN];by_cases q:g=f
  ·rw[TY q,TY q];exact B
  ·rw[TQ q,TQ q];exact r g
 ·by_cases q:g=f
  ·rw[q];exact(jf f y fs).1
  ·refine(jf f y fs).2 g (t g λz=>Y ?_);show(if g=f then some u else p g)=none;rw[TQ q];exact z
theorem Inv.made{X:Cx}{c:List (Addr×Obj)}{d:St}{H:Hp}{s:Shared}{C:Addr}(I:Inv X c d H s):Inv X c d (upd (upd H s.heap.objs.size (.own (s.heap.objs.size+1))) (s.heap.objs.size+1) (.ins C s.heap.objs.size []))
  {s with heap:=(s.heap.push W.emptyDict).push (W.instObj C s.heap.objs.size)}:=by
 have e1:(s.heap.push W.emptyDict).get? s.heap.objs.size=some W.emptyDict:=TX s.heap rfl
 have e2:((s.heap.push W.emptyDict).push (W.instObj C s.heap.objs.size)).get? (s.heap.objs.size+1)=some (W.instObj C s.heap.objs.size):=by
  have:=TX (s.heap.push W.emptyDict) (o:=W.instObj C s.heap.objs.size) rfl
  rwa [Ui]at this
 have e3:(s.heap.push W.emptyDict).Ns s.heap.objs.size (λ_=>none):=⟨W.emptyDict,#[],_,e1,rfl,(λe f=>absurd f (by simp)),λ_=>rfl⟩
 have g:=I.laid (a:=s.heap.objs.size) (o:=.own (s.heap.objs.size+1)) (h':=s.heap.push W.emptyDict) (t':=s.toks) (λb u q=>LD _ q) (TN _) ⟨_,e1⟩;refine g.laid (a:=s.heap.objs.size+1) (o:=.ins C s.heap.objs.size []) (t':=s.toks) (λb u q=>LD _ q) (Vr (Ui _ _)) ?_;have ne:s.heap.objs.size≠s.heap.objs.size+1:=TV (Va _);refine⟨by rw[ag ne,ai],Uw _,ne,e2,λ_=>none,(Heap.Ns1.of_empty e3).at λo q=>LD _ q,λ_=>True.intro,λy i=>absurd rfl i⟩
theorem BV(c:attributeBase e f env (eval e env)=eval e env)
  (h:wpAny (model prog w) A (eval e env) (λo a=>wpAny (model prog w) A (getAttr o f true) Q E a) E s):wpAny (model prog w) A (eval (.Attribute e f d) env) Q E s :=
 Attribute_any_ h (by rw[arm_eval_Attribute,c])
end
noncomputable def MY(K:W.Frag)(d:TE)(f:Str):TE:=λe H Q=>d e H λx c=>∃a C g fs v,x=.ref a/\c a=some (.ins C g fs)/\ZC K C/\Xm K C f/\fs.lookup f=some v/\Q v c
noncomputable def gK(K:W.Frag)(g i:TE)(f:Str):TS:=λD c H=>i c H λy j=>g c j λx d=>∃a C e fs,x=.ref a/\d a=some (.ins C e fs)/\ZC K C/\Xm K C f/\fs.length<1000 /\
 D.nx c (upd d a (.ins C e (dQ f y fs)))
section
theorem Hi(g:PE X e i)(j:attributeBase e f X.env (eval e X.env)=eval e X.env):PE X (.Attribute e f m) (MY X.K i f):=by intro d s p H Q I h;refine BV j (WY (g d s p H _ I h) λu E ⟨x,r,t,w,a,C,G,fs,v,ex,y,c,n,l,q⟩=>?_);subst ex;obtain rfl:u=Value.ref a:=w;exact uk t y c n l λJ M z B=>⟨v,r,z,B,q⟩
theorem Hv{g:Pos}(m:PE X o p)(r:PE X d t)(hs:swapsWith d (some (.Attribute o f i)) g.line X.env=pure false):PS X (.Assign [.Attribute o f i] d g) (gK X.K p t f):=by intro e s j H D I h;refine Wd (WY (r e s j H _ I h) λu v ⟨y,w,z,B,q⟩=>WY (m e v j w _ z q) λE Q ⟨x,T,G,J,a,C,U,fs,ex,M,c,n,l,N⟩=>?_) hs;subst ex;obtain rfl:E=Value.ref a:=J;exact vq G M c n l B λY O=>⟨j,_,O,N⟩
end
structure W2(k:Nat)(A:Around):Prop where
 hd:A.handled=none
 dp:A.depth+3*k+5<recursionLimit
 un:A.units+16*k+200<cLine
theorem W2.mono(r:W2 k A)(h:j<=k):W2 j A:=⟨r.hd,by have:=r.dp;lia,by have:=r.un;lia⟩
theorem W2.deeper(r:W2 (k+1) A)(env:Env):W2 k (A.deeper env) :=
 ⟨r.hd,by have:=r.dp;show A.depth+1+3*k+5<_;lia,by have:=r.un;show A.units+3+16*k+200<_;lia⟩
theorem W2.in1(r:W2 (k+1) A):W2 k A.in1 :=
 ⟨r.hd,by have:=r.dp;show A.depth+3*k+5<_;lia,by have:=r.un;show A.units+1+16*k+200<_;lia⟩
theorem uw{A:Around}:(A.under (.builtin "type.__call__" ⟨.ref C::a,c⟩)).depth=A.depth+1:=by
 first|rfl|simp[Around.under,Code.weight,Code.isCreation,Code.isGuard,Code.isCaller,Code.frames,Code.isFrame,guardIds]
theorem ux{A:Around}:(A.under (.builtin "type.__call__" ⟨.ref C::a,c⟩)).units=A.units+1:=by
 first|rfl|simp[Around.under,Code.cUnits,Code.frames,Code.isFrame]
theorem W2.make(r:W2 (k+1) A)(C:Addr)(a:List Value)(c:List (Str×Value)):W2 k (A.under (.builtin "type.__call__" ⟨.ref C::a,c⟩)) :=
 ⟨r.hd,by have:=r.dp;rw[uw];lia,by have:=r.un;rw[ux];lia⟩
theorem W2.depth(r:W2 k A):A.depth<recursionLimit:=by have:=r.dp;lia
theorem W2.units(r:W2 k A):A.units+64<cLine:=by have:=r.un;lia
noncomputable def bM:TA:=λ_ H Q=>Q [] H
noncomputable def ay(c:TE)(tr:TA):TA:=λa H Q=>c a H λx d=>tr a d λe f=>Q (x::e) f
section
variable{t:TA}
theorem aj:PA X [] bM:=λ_ _ _ _ H Q I h=>Calls.spliced_nil ⟨[],H,I,.nil,h⟩
theorem aw(g:PE X e i)(j:PA X d t)(hs:starEach (e::d) X.env=(false,eval e X.env)::starEach d X.env:=by rfl):PA X (e::d) (ay i t):=by intro c a s f H Q I h;rw[hs];show wpAny _ _ (spliced ((false,eval e X.env)::backTo c (starEach d X.env))) _ _ s;refine WA (WY (g a s f H _ I h) λu l ⟨x,m,n,p,q⟩=>?_);exact WY (j c a l f m _ n q) λz B ⟨r,v,w,r2,y⟩=>⟨x::r,v,w,.cons p r2,y⟩
noncomputable def Lw(t:TA):TE:=λd H Q=>t d H λa c=>a.length<=sizeLine/\∀p,c p=none->Q (.ref p) (upd c p (.tup a))
noncomputable def vx(t:TA):TE:=λd H Q=>t d H λa c=>a.length<=sizeLine/\∀p,c p=none->Q (.ref p) (upd c p (.lst a))
theorem uE{i}(h:PA X j t):PE X (.Tuple j i d) (Lw t):=by intro a s l H Q I m;refine wpAny_Tuple_spliced (WY (h d a s l H _ I m) λn c ⟨p,f,g,r,z,q⟩=>⟨by rw[<- r.length];exact z,?_⟩);have v:f c.heap.objs.size=none:=g.hok.fresh (TN _);refine⟨.ref c.heap.objs.size,upd f c.heap.objs.size (.tup p),g.laid (t':=c.toks) (λb u e=>LD _ e) (TN _) ?_,rfl,q _ v⟩;exact⟨z,n,r,⟨_,TX _ rfl,rfl,_,rfl⟩⟩
theorem fA(h:PA X i t):PE X (.List i d) (vx t):=by intro a s j H Q I l;refine wpAny_List_spliced (WY (h d a s j H _ I l) λm c ⟨n,f,g,r,z,q⟩=>⟨by rw[<- r.length];exact z,?_⟩);have p:f c.heap.objs.size=none:=g.hok.fresh (TN _);refine⟨.ref c.heap.objs.size,upd f c.heap.objs.size (.lst n),g.laid (t':=c.toks) (λb u e=>LD _ e) (TN _) ?_,rfl,q _ p⟩;exact⟨z,m,0,r,TX _ rfl⟩
end
noncomputable abbrev Sp:=List V->Hp->VK->XK->Prop
noncomputable abbrev CXT:=List Env->Hp->Shared->XK->Value->Shared->Prop
structure Y7(P:Program)(w:World)(K:W.Frag)(mg:Str->Option Value)(base:Heap)(A:Around)(outer:List Env)(s:Shared)(H:Hp):Prop where
 frames:A.frames=some outer
 mod:Mod K mg base
 bs:∀b o,base.get? b=some o->s.heap.get? b=some o/\H b=none
 Z9:base.objs.size<=s.heap.objs.size
 Yq:s.heap.FunFrames base outer
 frf:∀b∈frs outer,H b=none
 hok:X4 P w H s.heap
 bare:AllBare s.gens
noncomputable def CE(outer:List Env)(P:Program)(w:World)(H:Hp)(s:Shared)(Q:VK)(u:Value)(a:Shared):Prop :=
 ∃v c,a.os=s.os/\AllBare a.gens/\Un (frs outer) [] H c s.heap a.heap/\X4 P w c a.heap/\RelV v u/\Q v c
noncomputable def CR(c:CXT)(outer:List Env)(P:Program)(w:World)(H:Hp)(s:Shared)(Q:VK)(E:XK)(r:Result)(a:Shared):Prop :=
 match r with
 | .ok (.ret u)=>CE outer P w H s Q u a
 | .ok _=>False
 | .error e=>c outer H s E e a
structure WV(P:Program)(w:World)(K:W.Frag)(mg:Str->Option Value)(base:Heap)(CX:CXT)(k:Nat)(f:Addr)(fd:FuncData)(ps:List Str)(sp:Sp):Prop where
 len:∀vs H Q E,sp vs H Q E->vs.length=ps.length
 run:∀(A:Around)(outer:List Env)(s:Shared)(H:Hp)(args:Args)(us:List Value)(vs:List V)(Q:VK)(E:XK),W2 k A->Y7 P w K mg base A outer s H->BindsTo s fd args (ps.zip us)->Vals vs us->sp vs H Q E ->
  codeAny (model P w) A (.call (.ref f) args) (CR CX outer P w H s Q E) s
theorem WV.mono(F:WV P w K mg base a j f c d e)(h:j<=k) :
  WV P w K mg base a k f c d e:=⟨F.len,λA outer s H args g i Q E l=>F.run A outer s H args g i Q E (l.mono h)⟩
theorem WV.imp(F:WV P w K mg base d k f e g i)
  (h:∀a H Q E,c a H Q E->i a H Q E):WV P w K mg base d k f e g c :=
 ⟨λa H Q E q=>F.len a H Q E (h _ _ _ _ q),λA outer s H args j a Q E l m n p hs=>F.run A outer s H args j a Q E l m n p (h _ _ _ _ hs)⟩
theorem Y7.make(e:Y7 P w K mg base A outer s H)(C:Addr)(a:List Value)(c:List (Str×Value)) :
  Y7 P w K mg base (A.under (.builtin "type.__call__" ⟨.ref C::a,c⟩)) outer s H:=⟨by first|exact e.frames | (simpa[Around.under,Code.envs,Code.isFrame,pushEnvs]using e.frames),e.mod,e.bs,e.Z9,e.Yq,e.frf,e.hok,e.bare⟩
theorem Y7.in1(e:Y7 P w K mg base A outer s H) :
  Y7 P w K mg base A.in1 outer s H:=⟨e.frames,e.mod,e.bs,e.Z9,e.Yq,e.frf,e.hok,e.bare⟩
section
theorem Inv.ZY{X:Cx}{a:List (Addr×Obj)}{c:St}{H:Hp}{s:Shared}(I:Inv X a c H s):Y7 X.prog X.w X.K X.mg X.base X.A X.stack s H :=
 ⟨I.ok.frames,I.ok.mod,I.bs,Ub I.ok.Z9 I.sz,I.stack,I.YI,I.hok,I.bare⟩
theorem Inv.after{X:Cx}{a:List (Addr×Obj)}{j:St}{H:Hp}{s e:Shared}{Q:VK}{u:Value}(I:Inv X a j H s)(h:CE X.stack X.prog X.w H s Q u e):EP X a j Q u e:=by obtain⟨v,l,os,c,un,f,r,q⟩:=h;obtain⟨m,g,d,t,i⟩:=e;obtain rfl:i=s.os:=os;exact⟨v,l,I.call (h':=m) (g':=g) (d':=d) (t':=t) (ch:=[]) un f c (λb z=>absurd z (by simp)),r,q⟩
end
noncomputable def cS(a:Sp)(c:List V)(E:XK)(t:TA):TE:=λd H Q=>t d H λe f=>a (e++c) f Q E
noncomputable def EK(C:Addr)(m:Str)(e:Sp)(f:List V)(E:XK)(g:TE)(t:TA):TE:=λc H Q=>g c H λx d=>∃a i fs,x=.ref a/\d a=some (.ins C i fs)/\fs.lookup m=none /\
 t c d λj l=>e (x::(j++f)) l Q E
noncomputable def Binds(K:W.Frag)(e:FuncData)(c:List Str)(d:List Value):Prop :=
 ∀(s:Shared)(a:List Value),K.In s.heap->(a++d).length=c.length->BindsTo s e ⟨a,[]⟩ (c.zip (a++d))
theorem Binds.all{c:List Str}(h:∀a:List Value,a.length=c.length->bindArgs d ⟨a,[]⟩=pure (c.zip a)):Binds K d c []:=λs a _ hl=>by rw[Vh]at hl ⊢;exact .of_eq (h a hl)
noncomputable def Passes(d:CXT)(X:Cx)(E:XK):Prop:=∀(a:List (Addr×Obj))(f:St)(H:Hp)(s:Shared)(e:Value)(c:Shared),Inv X a f H s->d X.stack H s E e c->X.xe e c
section
variable{f C:Addr}
theorem Bo{X:Cx}{m:CXT}{k:Nat}{n:FuncData}{j:List Str}{p:Sp}{g:List V}{c:List Value}{E:XK}{a:List (Addr×Obj)}{l:St}{H:Hp}{s:Shared}{Q:VK}{us:List Value}{i:List V}(F:WV X.prog X.w X.K X.mg X.base m k f n j p)(q:W2 k X.A)(t:Binds X.K n j c)(v:Vals g c)(y:Passes m X E)
  (I:Inv X a l H s) (r:Vals i us) (h:p (i++g) H Q E):wpAny (model X.prog X.w) X.A (call (.ref f) us) (EP X a l Q) X.xe s:=by
 have r2:Vals (i++g) (us++c):=r.append v;have hl:(us++c).length=j.length:=by rw[<- r2.length];exact F.len _ _ _ _ h
 refine U7 (UC (F.run X.A X.stack s H ⟨us,[]⟩ (us++c) (i++g) Q E q I.ZY (t s us I.Xy hl) r2 h) λr z d=>?_)
 cases r with
 |error e=>exact y a l H s e z I d
 |ok fl =>
  cases fl with
  |ret u=>exact I.after d
  |next=>exact False.elim d
  |brk=>exact False.elim d
  |cont=>exact False.elim d
theorem De{X:Cx}(F:WV X.prog X.w X.K X.mg X.base l k f m n u)(v:W2 k X.A)(y:Gl X x)(z:X.mg x=some (.ref f))(hk:W.keepIn X.K (.ref f)=true)(B:Binds X.K m n G)(J:Vals M G)(N:Passes l X E)
  (O:PA X (e::d) t) (g:(x==("__debug__":Str))=false:=by decide) (T:starEach (e::d) X.env=(false,eval e X.env)::starEach d X.env:=by rfl) (i:(backTo a (starEach d X.env)).any (·.1)=false:=by rfl) :
  PE X (.Call (.Name x p) (e::d) [] a) (cS u M E t):=by
 intro c s U H Q I h;refine UD (bj I y z ?_ g);refine VN (h₀:=X.base) I.ok.mod.kin hk (WY (O a c s U H _ I h) λY s1 ⟨vs,H1,j,r,q⟩=>⟨j.Xy,?_⟩) T i;exact Bo F v B J N j r q
theorem AL{X:Cx}(F:WV X.prog X.w X.K X.mg X.base d k f e g i)(j:W2 k X.A)(l:Gl X x)(m:X.mg x=some (.ref f))(hk:W.keepIn X.K (.ref f)=true)(n:Binds X.K e g q)(r:Vals XX q)(t:Passes d X E)
  (a:(x==("__debug__":Str))=false:=by decide):PE X (.Call (.Name x p) [] [] u) (cS i XX E bM):=by
 intro c s v H Q I h;refine UD (bj I l m ?_ a);exact W.callWith_K0 I.Xy hk (Bo (us:=[]) F j n r t I .nil h)
structure Mk(K:W.Frag)(C f:Addr):Prop where
 makes:W.makesIn K C=true
 init:W.findIn K (.ref C) "__init__"=some (some (.ref f))
 fn:W.isFn K (.ref f)=true
 kp:W.keepIn K (.ref C)=true
end
noncomputable def PK(X:Cx)(c:List Keyword)(t:TA):Prop :=
 ∀(d:Pos)(a:List (Addr×Obj))(s:Shared)(e:St)(H:Hp)(Q:List V->Hp->Prop),Inv X a e H s->t e H Q->wpAny (model X.prog X.w) X.A (evalAll ((backToKw d (keywordEach c X.env)).map (·.2))) (AP X a e Q) X.xe s
section
variable{fd:FuncData}{ps ks:List Str}{sp:Sp}{E:XK}{t tk:TA}
theorem Hs:PK X [] bM:=λ_ _ _ _ H Q I h=>wpAny_evalAll_nil ⟨[],H,I,.nil,h⟩
theorem Do(i:PE X e j)(l:PK X d t):PK X (⟨G,e,f⟩::d) (ay j t):=by intro c a s g H Q I h;show wpAny _ _ (evalAll ((do let v <- eval e X.env;standAt c;pure v)::(backToKw c (keywordEach d X.env)).map (·.2))) _ _ s;refine wpAny_evalAll_cons (Ar (WY (i a s g H _ I h) λu m ⟨x,n,p,q,r⟩=>Ar (UG (RB ?_))));exact WY (l c a m g n _ p r) λJ M ⟨w,y,z,r2,B⟩=>⟨x::w,y,z,.cons q r2,B⟩
structure i5(K:W.Frag)(fd:FuncData)(ps ks:List Str)(g:List Value->List Value->List Value)(gV:List V->List V->List V):Prop where
 to:∀(s:Shared)(us ws:List Value),K.In s.heap->(g us ws).length=ps.length->BindsTo s fd ⟨us,ks.zip ws⟩ (ps.zip (g us ws))
 rel:∀{vs:List V}{us:List Value}{zs:List V}{ws:List Value},Vals vs us->Vals zs ws->Vals (gV vs zs) (g us ws)
noncomputable def Iq(sp:Sp)(c:List V->List V->List V)(E:XK)(t tk:TA):TE:=λa H Q=>t a H λd e=>tk a e λf g=>sp (c d f) g Q E
end
structure WT(N P:List Str)(sc:Scope):Prop where
 kind:sc.kind=.function
 co:sc.isCoroutine=false
 gen:sc.isGenerator=false
 nd:N.Nodup
 pre:N.take P.length=P
 par:∀x∈P,sc.names.lookup x=some .local\/sc.names.lookup x=some .cell
 nofree:∀y∈sc.names,y.2≠.free
theorem WT.Xn{N P:List Str}{i:Scope}(a:i.kind=.function:=by rfl)(b:i.isCoroutine=false:=by rfl)(c:i.isGenerator=false:=by rfl)(d:N.Nodup:=by decide +kernel)(e:N.take P.length=P:=by rfl)(f:∀x∈P,i.names.lookup x=some .local\/i.names.lookup x=some .cell:=by decide +kernel)(g:∀y∈i.names,y.2≠.free:=by decide +kernel):WT N P i:=⟨a,b,c,d,e,f,g⟩
variable{kindOf:Str->Option NameKind}
theorem nz:∀{binds:List (Str×Value)}{m:Str->Option Value},(∀v,(x,v)∉binds)->bindL kindOf binds m x=m x
 |[],_,_=>rfl
 | (n,v)::r,m,h=>by
  unfold bindL;rw[nz λw a=>h w (Ua _ a)];split
  ·have:x≠n:=by rintro rfl;exact h v Uq
   simp[this]
  ·rfl
theorem nv:∀{binds:List (Str×Value)}{m:Str->Option Value},(∀v,(x,v)∉binds)->bindC kindOf binds m x=m x
 |[],_,_=>rfl
 | (n,v)::r,m,h=>by
  unfold bindC;rw[nv λw a=>h w (Ua _ a)];split
  ·rfl
  ·have:x≠n:=by rintro rfl;exact h v Uq
   simp[this]
theorem ny:∀{P:List Str}{a:List Value}{i:Nat}{m:Str->Option Value},P.Nodup->P[i]?=some x->a[i]?=some v->kindOf x=some .local ->
  bindL kindOf (P.zip a) m x=some v
 |[],_,_,_,_,h,_,_=>by simp at h
 |_::_,[],_,_,_,_,h,_=>by simp at h
 |p::P,w::a,0,m,e,c,d,hk=>by simp at c d;subst c;subst d;show bindL kindOf ((p,w)::P.zip a) m p=_;unfold bindL;rw[nz λv f=>(Vk.mp e).1 (Wg f).1,TY hk];simp
 |p::P,w::a,i+1,m,e,c,d,hk=>by show bindL kindOf ((p,w)::P.zip a) m x=_;unfold bindL;exact ny (i:=i) (Vk.mp e).2 (by simpa using c) (by simpa using d) hk
theorem nu:∀{P:List Str}{a:List Value}{i:Nat}{m:Str->Option Value},P.Nodup->P[i]?=some x->a[i]?=some v->kindOf x≠some .local ->
  bindC kindOf (P.zip a) m x=some v
 |[],_,_,_,_,h,_,_=>by simp at h
 |_::_,[],_,_,_,_,h,_=>by simp at h
 |p::P,w::a,0,m,e,c,d,hk=>by simp at c d;subst c;subst d;show bindC kindOf ((p,w)::P.zip a) m p=_;unfold bindC;rw[nv λv f=>(Vk.mp e).1 (Wg f).1,TQ hk];simp
 |p::P,w::a,i+1,m,e,c,d,hk=>by show bindC kindOf ((p,w)::P.zip a) m x=_;unfold bindC;exact nu (i:=i) (Vk.mp e).2 (by simpa using c) (by simpa using d) hk
noncomputable def start(N:List Str)(a:List V):St:=a.map some++List.replicate (N.length - a.length) none
noncomputable def bG(d:CXT)(P:Program)(w:World)(K:W.Frag)(mg:Str->Option Value)(base:Heap)(N:List Str)(a:Str)(scope:Scope)(f:Addr)(cd:Value)(A:Around)(outer:List Env)(s:Shared)(H:Hp)(E:XK):Cx where
 prog:=P
 w:=w
 K:=K
 mg:=mg
 base:=base
 A:=A.deeper (envOfC a scope s.heap.objs.size f cd)
 N:=N
 s₀:=s
 H₀:=H
 env:=envOfC a scope s.heap.objs.size f cd
 outer:=outer
 stack:=envOfC a scope s.heap.objs.size f cd::outer
 ex:=[]
 calm:=true
 fn:=λ_=>true
 pn:=[]
 xe:=λe g=>wpAny (model P w) (A.deeper (envOfC a scope s.heap.objs.size f cd)) (leaving (envOfC a scope s.heap.objs.size f cd) e) (λ_ c=>d outer H s E e c) (λi c=>d outer H s E i c) g
theorem qS{a:Scope}(h:a.names.lookup x=some .cell):∃c,(cellsFrom n a.names []).lookup x=some c:=by have q:=W.cellsFrom_some a.names n [] (.inl h);exact Option.isSome_iff_exists.mp q
theorem nQ{A:Around}{l:List V}
  (S:WT N t scope) (Q:A.handled=none) (j:Y7 P w K mg base A outer s H) (hl:l.length=t.length) (r:Vals l M)
  (x:InCallC s s.heap.objs.size (bindL (envOfC g scope s.heap.objs.size f cd).kindOf (t.zip M) λ_=>none) (cellsFrom (s.heap.objs.size+1) scope.names []) (bindC (envOfC g scope s.heap.objs.size f cd).kindOf (t.zip M) λ_=>none) T) :
  Inv (bG U P w K mg base N g scope f cd A outer s H E) [] (start N l) H T:=by
 have Y:t.length<=N.length:=by have:=UI List.length S.pre;rw[Vb]at this;lia
 obtain⟨I,tk,rfl,hk⟩:=x.done;have m:∀b:Addr,b∉(bG U P w K mg base N g scope f cd A outer s H E).ex:=λb z=>absurd (show b∈([]:List Addr) from z) (by simp)
 refine⟨⟨j.mod,S.kind,rfl,rfl,TN _,λy z c I d=>?_,λy hy=>?_,λy c _ h=>?_,λ_=>Q,Around.frames_deeper j.frames,.inr ⟨rfl,rfl⟩,λb z=>absurd z (m b),j.bs,j.Z9,λb _ _=>m b,λb z=>absurd z (m b),j.Yq,j.frf⟩,
  rfl,j.bare,Un.kept hk,⟨_,x.toInCall.ns,λi y v I d h3=>?_⟩,λy c h=>⟨_,x.cell y c h⟩,j.hok.fresh (TN _),λy c h=>?_,λp B=>absurd (show p∈([]:List (Addr×Obj)) from B) (by simp),j.hok.kept hk,?_⟩
 ·exact name_of_addr x.apart (UE I) (UE d)
 ·have hy:scope.names.lookup y=some .cell\/scope.names.lookup y=some .free:=hy;rcases hy with hy|hy
  ·exact qS hy
  ·exact absurd rfl (S.nofree _ (UE hy))
 ·exact UX (x.above y c (UE h))
 ·have J:i<l.length:=by
   unfold start at d;by_cases J:i<l.length
   ·exact J
   ·rw[Uj (by simpa using J)]at d;rw[VY]at d;split at d<;>cases d
  have ha:l[i]?=some v:=by
   unfold start at d;rw[Uo (by simpa using J),T4]at d
   cases e:l[i]? with
   |none=>rw[e]at d;cases d
   |some a=>rw[e]at d;cases d;rfl
  obtain⟨u,O,rv⟩:=r.get ha
  have B:t[i]?=some y:=by rw[<- S.pre,List.getElem?_take_of_lt (by lia)];exact I
  have G:t.Nodup:=by rw[<- S.pre];exact S.nd.sublist (List.take_sublist _ _)
  refine⟨u,rv,?_⟩;rcases S.par y (US B)with k|k
  ·exact .inl ⟨k,ny G B O k⟩
  ·obtain⟨c,e⟩:=qS (n:=s.heap.objs.size+1) k;refine .inr ⟨.inl k,c,e,?_⟩;have q:=x.cell y c e;rw[nu G B O (by show scope.names.lookup y≠_;rw[k];decide)]at q;exact q
 ·exact j.hok.fresh (UX (x.above y c (UE h)))
 ·unfold start;show _=N.length;rw[Uk,T8,Vz];lia
theorem zE{P:Program}{kV doc:Value}(lk:K.lookup f=some ⟨oc,od,.func (W.fnOf name a d body scope dV kV doc pm an c ct),osl⟩)(B:W.codeIn K c a=true)(S:WT N G scope)
  (len:∀g H Q E,sp g H Q E->g.length=G.length)
  (l:∀(A:Around)(outer:List Env)(s:Shared)(H:Hp)(g:List V)(Q:VK)(E:XK),W2 k (A.deeper (envOfC a scope s.heap.objs.size f c))->sp g H Q E ->
   ∃t,XH (bG M P w K mg base N a scope f c A outer s H E) body t/\t {nx:=λ_ j=>Q .WX j,rt:=Q} (start N g) H) :
  WV P w K mg base M (k+1) f (W.fnOf name a d body scope dV kV doc pm an c ct) G sp:=by
 refine⟨len,λA outer s H args us g Q E O p hb r z=>?_⟩;have hl:=len _ _ _ _ z;have KX:K.In s.heap:=p.mod.kin.keeps λb o e=>(p.bs b o e).1;have T:s.heap.NoLimit:=p.mod.nolimit.keeps λb o e=>(p.bs b o e).1
 have m:∀y∈G.zip us,scope.names.lookup y.1=some .local\/(scope.names.lookup y.1=some .cell/\((cellsFrom (s.heap.objs.size+1) scope.names []).lookup y.1).isSome=true):=λ⟨n,v⟩ hy=>by
  rcases S.par n (Wg hy).1 with q|q
  ·exact .inl q
  ·exact .inr ⟨q,W.cellsFrom_some _ _ _ (.inl q)⟩
 refine codeAny_call_function O.depth (KX _ _ lk) rfl S.co S.gen rfl (W.codeRec_of KX B) (hb _ _ _ _ ?_);refine wpAny_newFunctionEnv_cells S.kind m λenv he s1 x=>?_;subst he;refine⟨T.keeps x.toInCall.keep,codeAny_func ?_⟩;obtain⟨t,ht,hq⟩:=l A outer s H g Q E (O.deeper _) z;have I:Inv (bG M P w K mg base N a scope f c A outer s H E) [] (start N g) H s1:=nQ S O.hd p hl r x;refine Up (ht [] s1 (start N g) H _ I hq) (λfl U hs=>?_) λe U hs=>hs
 have fin:∀{i:St}{j:Hp}{v:V}{u:Value},Inv (bG M P w K mg base N a scope f c A outer s H E) [] i j U->RelV v u->Q v j->CE outer P w H s Q u U :=
  λ{i j v u} J Y q=>⟨v,j,J.os,J.bare,J.base,J.hok,Y,q⟩
 cases fl with
 |ret u =>obtain⟨v,i,j,J,Y,q⟩:=hs;exact fin J Y q
 |next =>obtain⟨i,j,J,q⟩:=hs;exact fin (v:=V.WX) (u:=Value.none) J rfl q
 |brk =>obtain⟨_,_,_,q⟩:=hs;exact False.elim q
 |cont =>obtain⟨_,_,_,q⟩:=hs;exact False.elim q
section
variable{t:TA}{r:List V->Hp->VK->Prop}
noncomputable def tCB(r:List V->Hp->VK->Prop)(t:TA):TE:=λa H Q=>t a H λc d=>r c d Q
theorem aD{X:Cx}{id:String}(j:bo X (.builtin id) r)(l:Gl X x)(m:X.mg x=none)(n:bootBuiltins x=some (.builtin id))(q:PA X (e::d) t)(u:x≠"__name__":=by decide)(f:(x==("__debug__":Str))=false:=by decide)
  (v:starEach (e::d) X.env=(false,eval e X.env)::starEach d X.env:=by rfl) (g:(backTo c (starEach d X.env)).any (·.1)=false:=by rfl):PE X (.Call (.Name x p) (e::d) [] c) (tCB r t):=by
 intro a s i H Q I h;refine UD (gE I l m n ?_ u f);exact PyProof.Rows.callWith_builtin1 (WY (q c a s i H _ I h) λw y ⟨z,B,E,G,J⟩=>j a y i B z w Q E G J) v g
theorem yi(j:bo X (.type T) r)(l:Gl X x)(m:X.mg x=none)(n:bootBuiltins x=some (.type T))(q:PA X (e::d) t)(u:x≠"__name__":=by decide)(f:(x==("__debug__":Str))=false:=by decide)
  (v:starEach (e::d) X.env=(false,eval e X.env)::starEach d X.env:=by rfl) (g:(backTo c (starEach d X.env)).any (·.1)=false:=by rfl):PE X (.Call (.Name x p) (e::d) [] c) (tCB r t):=by
 intro a s i H Q I h;refine UD (gE I l m n ?_ u f);exact UT (WY (q c a s i H _ I h) λw y ⟨z,B,E,G,J⟩=>j a y i B z w Q E G J) v g
end
end L2
namespace HT
open PySem PyProof.Rows
section
open PySem.SeqAt
open PySem.AutoSeq1 (wpAny_loadPart')
open PySem.MeetsSeq PySem.MeetsSeq2 PySem.MeetsSeq3
end
section
theorem cat_tup{s:Shared}{d a:List Value}(B:IsTup s.heap t d.toArray)(G:IsTup s.heap b a.toArray)(q:d≠[])
  (H:a=[]->Q (.ref t) s) (I:a≠[]->Q (.ref s.heap.objs.size) {s with heap:=s.heap.push {cls:=.type "tuple",data:=.seq (d++a).toArray}})
  (p:d.length+a.length<=sizeLine):wpAny (model prog w) A (binaryOp .Add (.ref t) (.ref b)) Q E s:=by
 obtain⟨⟨cls,r,data,u⟩,l,v,n,y⟩:=id B;obtain⟨⟨z,f,data2,g⟩,c,i,n2,j⟩:=id G;simp only at v y i j;subst v y i j;have e:d.toArray++a.toArray=(d++a).toArray:=by simp
 by_cases m:a=[]
 ·exact concat_meets ⟨_,l,rfl⟩ ⟨_,c,rfl⟩ noFill_tuple_add seq_tuple_add F.slot_tuple_add WL (WB _ _)
   (tuple_addW1 t b d.toArray a.toArray n n2 r f u g (by simpa using q) (by simp[m])) ⟨l,c,H m⟩
 ·refine concat_meets ⟨_,l,rfl⟩ ⟨_,c,rfl⟩ noFill_tuple_add seq_tuple_add F.slot_tuple_add WL (WB _ _)
   (tuple_addW2 t b d.toArray a.toArray n n2 r f u g (by simpa using q) (by simpa using m) (by rw[TH,TH];exact p)) ⟨l,c,?_⟩
  rw[e];exact I m
noncomputable def Xs(n d:Nat):Option Int->Nat
 |none=>d
 |some v=>if v<0 then (v+(n:Int)).toNat else min v.toNat n
theorem Zj(n d:Nat):Xs n d none=d:=rfl
theorem XZ(n d k:Nat):Xs n d (some (k:Int))=min k n:=by show(if (k:Int)<0 then ((k:Int)+(n:Int)).toNat else min (k:Int).toNat n)=min k n;rw[TQ (by lia),WM]
theorem Il(n d:Nat)(c:d<=n)(o:Option Int):Xs n d o<=n:=by
 cases o with
 |none=>exact c
 |some v =>
  show(if v<0 then (v+(n:Int)).toNat else min v.toNat n)<=n;by_cases a:v<0
  ·rw[TY a];lia
  ·rw[TQ a];exact Nat.min_le_right _ _
theorem vR(v:Int)(n d:Nat):(if v<0 then max (v+(n:Int)) 0 else min v (n:Int))=((Xs n d (some v):Nat):Int):=by
 show(if v<0 then max (v+(n:Int)) 0 else min v (n:Int))=(((if v<0 then (v+(n:Int)).toNat else min v.toNat n):Nat):Int)
 by_cases a:v<0
 ·simp only[TY a];lia
 ·simp only[TQ a];lia
theorem tL(lo a:Option Int)(n:Nat):Builtin.Slice.sliceAdjust lo a 1 (n:Int)=(((Xs n 0 lo:Nat):Int),((Xs n n a:Nat):Int)):=by
 have c:¬ ((1:Int)<0):=by lia
 unfold Builtin.Slice.sliceAdjust;simp only[c,WQ];refine VC ?_ ?_
 ·cases lo with
  |none=>rfl
  |some v=>exact vR v n 0
 ·cases a with
  |none=>rfl
  |some v=>exact vR v n n
theorem uF(i j:Nat):Builtin.Slice.slicePlaces (i:Int) (j:Int) 1=j - i:=by
 unfold Builtin.Slice.slicePlaces;have a:(1:Int)>0:=by lia
 simp only[a,VU,Int.ediv_one];split<;>lia
theorem mC(p:IsPart v o)(h:Q o s):wpAny (model prog w) A (Builtin.Slice.slicePartIndex v) Q E s:=by
 cases p with
 |none=>exact slicePart_none h
 |int i t=>exact slicePart_int h
variable{lo:Option Int}
theorem X6{A:Around}{s:Shared}{Q:Int×Int×Nat->Shared->Prop}(hs:s.heap.IsSliceOf g e f .none)(i:IsPart e lo)(j:IsPart f d)
  (h:Q (((Xs n 0 lo:Nat):Int),1,Xs n n d - Xs n 0 lo) s):wpAny (model prog w) A (Builtin.Slice.sliceApplied (.ref g) (pure (n:Int))) Q E s:=by
 obtain⟨os,a,l,c⟩:=id hs;unfold Builtin.Slice.sliceApplied Builtin.Slice.sliceFields;refine Ar (Ar (U6 a c (x:=e) rfl (Ar (U6 a c (x:=f) rfl (Ar (U6 a c (x:=.none) rfl (RB ?_)))))));refine Ar (slicePart_none ?_);show wpAny _ _ (if ((1:Int)==0)=true then _ else _) _ _ s;rw[TQ (by decide)];refine Ar (mC i (Ar (mC j (Ar (RB ?_)))));show wpAny _ _ (match Builtin.Slice.sliceAdjust lo d 1 (n:Int)with | (lo,d)=>pure (lo,(1:Int),Builtin.Slice.slicePlaces lo d 1)) _ _ s;rw[tL lo d n];show wpAny _ _ (pure (((Xs n 0 lo:Nat):Int),(1:Int),Builtin.Slice.slicePlaces ((Xs n 0 lo:Nat):Int) ((Xs n n d:Nat):Int) 1)) _ _ s;rw[uF];exact RB h
theorem AY(a:Array Value)(i k:Nat):((List.range k).filterMap λ(m:Nat)=>a[((i:Int)+(m:Int)*1).toNat]?).toArray=((a.toList.drop i).take k).toArray:=by
 have e:(λ(m:Nat)=>a[((i:Int)+(m:Int)*1).toNat]?)=λm=>a[i+m]?:=by
  funext m
  have:((i:Int)+(m:Int)*1).toNat=i+m:=by lia
  rw[this]
 rw[e];have:=pick_run a i k;rw[List.filterMap_map]at this;have e2:((λx=>a[x]?)∘λx=>i+x)=λm=>a[i+m]?:=rfl;rw[e2]at this;rw[this]
theorem YJ{A:Around}{s:Shared}(e:IsTup s.heap t a)(hs:s.heap.IsSliceOf l n p .none)(r:IsPart n lo)(u:IsPart p d)
  (v:¬ (Xs a.size 0 lo=0/\Xs a.size a.size d=a.size))
  (h:Q (.ref s.heap.objs.size) {s with heap:=s.heap.push {cls:=.type "tuple",data:=.seq ((a.toList.drop (Xs a.size 0 lo)).take (Xs a.size a.size d - Xs a.size 0 lo)).toArray}})
  (y:a.size<=sizeLine):wpAny (model prog w) A (getItem (.ref t) (.ref l)) Q E s:=by
 have c:sizeOk (.seq ((a.toList.drop (Xs a.size 0 lo)).take (Xs a.size a.size d - Xs a.size 0 lo)).toArray):=by show((a.toList.drop (Xs a.size 0 lo)).take (Xs a.size a.size d - Xs a.size 0 lo)).toArray.size<=sizeLine;rw[TH,Vb,List.length_drop,VH];lia
 have B:Xs a.size a.size d<=a.size:=Il _ _ (TN _) d;obtain⟨os,f,g,z⟩:=id hs;have i:s.TypeIs (.ref l) "slice":=⟨os,f,g⟩
 unfold getItem
 try with_reducible refine UA ?_
 first|refine Ar (RB ?_)|skip
 refine Ar (wpAny_sequenceKey e.typeIs (by decide) ?_)
 refine Ar (Uy (name:=Str.ofString "__getitem__") e.typeIs Ux
  (UQ Ux e.typeIs entry_tuple_getitem ?_ (args_tuple_getitem _ _)))
 show wpAny _ _ (Builtin.Tuple.tupleItemsOf (.ref t) >>= _) _ _ s;refine Ar (tupleItemsOf_ e ?_);refine Ar (wpAny_typeOf i ?_);rw[TY (by decide)];refine Ar (X6 hs r u ?_)
 have j:¬ ((((Xs a.size 0 lo:Nat):Int)==0&&(1:Int)==1&&(Xs a.size a.size d - Xs a.size 0 lo)==a.size)=true):=by intro q;rw[Tz,Tz]at q;have G:((Xs a.size 0 lo:Nat):Int)=0:=eq_of_beq q.1.1;have H:Xs a.size a.size d - Xs a.size 0 lo=a.size:=eq_of_beq q.2;exact v ⟨by lia,by lia⟩
 show wpAny _ _ (if (((Xs a.size 0 lo:Nat):Int)==0&&(1:Int)==1&&(Xs a.size a.size d - Xs a.size 0 lo)==a.size)=true then _ else _) _ _ s;rw[TQ j,AY]
 first
  |exact Ar (m:=Builtin.Tuple.tupleExact _) (UK (RB ⟨_,rfl,RB h⟩) c)
  |exact Ar (m:=Builtin.Tuple.tupleExact _) (UK (Ar (RB (RB ⟨_,rfl,RB h⟩))) c)
  |exact Ar (Ar (m:=Builtin.Tuple.tupleExact _) (UK (RB (RB ⟨_,rfl,RB h⟩)) c))
  |exact Ar (Ar (m:=Builtin.Tuple.tupleExact _) (UK (RB ⟨_,rfl,RB h⟩) c))
end
end HT
namespace L2
open PySem PySem.Spec PyProof.Rows
noncomputable abbrev TO:=St->Hp->(Option Int->Hp->Prop)->Prop
noncomputable def PO(X:Cx)(e:Option Expr)(t:TO):Prop :=
 ∀(a:List (Addr×Obj))(s:Shared)(c:St)(H:Hp)(Q:Option Int->Hp->Prop),Inv X a c H s->t c H Q ->
  wpAny (model X.prog X.w) X.A (evalPart e X.env) (λu f=>∃o d,Inv X a c d f/\IsPart u o/\Q o d) X.xe s
noncomputable def DT:TO:=λ_ H Q=>Q none H
noncomputable def Lu(t:TE):TO:=λa H Q=>t a H λx c=>∃i,x=.int i/\Q (some i) c
section
variable{X:Cx}{te:TE}{lo hi:Option Expr}{tl th:TO}
theorem wB:PO X none DT:=by intro a s c H Q I h;rw[evalPart_none];exact RB ⟨none,H,I,.none,h⟩
theorem kL(h:PE X e te):PO X (some e) (Lu te):=by intro a s c H Q I d;rw[evalPart_some];refine WY (h a s c H _ I d) λu m ⟨x,f,g,j,l⟩=>?_;obtain⟨i,rfl,q⟩:=l;obtain⟨t,rfl⟩:=j;exact⟨some i,f,g,.int i t,q⟩
noncomputable def SlR(X:Cx)(r:V->Option Int->Option Int->Hp->VK->Prop):Prop :=
 ∀(a:List (Addr×Obj))(s:Shared)(c:St)(H:Hp)(x:V)(v d e:Value)(lo hi:Option Int)(f:Addr)(Q:VK),Inv X a c H s->RelV x v->s.heap.IsSliceOf f d e .none->IsPart d lo->IsPart e hi->r x lo hi H Q ->
  ∃T id,typeLookup (.type T) "__getitem__"=pure (some (.builtin id))/\s.TypeIs v T/\wpAny (model X.prog X.w) X.A (getItem v (.ref f)) (EP X a c Q) X.xe s
theorem SlR.or(h:SlR X r)(l:SlR X m):SlR X (λx lo hi H Q=>r x lo hi H Q\/m x lo hi H Q):=by
 intro a s c H x v d e lo hi f Q I g hs i j q;rcases q with q|q
 ·exact h a s c H x v d e lo hi f Q I g hs i j q
 ·exact l a s c H x v d e lo hi f Q I g hs i j q
noncomputable def tSl(r:V->Option Int->Option Int->Hp->VK->Prop)(te:TE)(tl th:TO):TE:=λa H Q=>te a H λx c=>tl a c λl d=>th a d λu e=>r x l u e Q
theorem lN(j:SlR X r)(m:PE X e te)(hl:PO X lo tl)(n:PO X hi th):PE X (.Subscript e (.Slice lo hi none p) t) (tSl r te tl th):=by intro a s d H Q I h;refine Subscript_ (WY (m a s d H _ I h) λv y ⟨x,z,B,E,G⟩=>?_);refine wpAny_Slice (WY (hl a y d z _ B G) λf J ⟨l,M,N,O,U⟩=>WY (n a J d M _ N U) λg c ⟨u,i,Y,pu,q3⟩=>?_);rw[evalPart_none];refine RB ?_;have I4:Inv X a d i {c with heap:=c.heap.push {cls:=.type "slice",data:=.fields #[f,g,.none]}}:=Y.kept (t':=c.toks) λb ob q=>LD _ q;obtain⟨T,id,hT,ht,hg⟩:=j a {c with heap:=c.heap.push {cls:=.type "slice",data:=.fields #[f,g,.none]}} d i x v f g l u c.heap.objs.size Q I4 E (Heap.IsSliceOf.new ..) O pu q3;show wpAny (model X.prog X.w) X.A (subscriptTail e (.Slice lo hi none p) v (.ref c.heap.objs.size)) (EP X a d Q) X.xe {c with heap:=c.heap.push {cls:=.type "slice",data:=.fields #[f,g,.none]}};exact tail_any (ops:=[.ref c.heap.objs.size,v]) ht hT hg (by with_unfolding_all rfl)
noncomputable def eL(a:List V)(lo hi:Option Int):List V:=(a.drop (HT.Xs a.length 0 lo)).take (HT.Xs a.length a.length hi - HT.Xs a.length 0 lo)
theorem jy(a:List V)(lo hi:Option Int):(eL a lo hi).length<=a.length:=by unfold eL;rw[Vb,List.length_drop];lia
noncomputable def MS(K:W.Frag):V->Option Int->Option Int->Hp->VK->Prop:=λx lo hi H Q=>∃a c,x=.ref a/\Xz K H a c /\
 ¬ (HT.Xs c.length 0 lo=0/\HT.Xs c.length c.length hi=c.length)/\∀p,H p=none->Q (.ref p) (upd H p (.tup (eL c lo hi)))
theorem Ip:SlR X (MS X.K):=by
 intro f s t H x v u w lo hi y Q I j hs l m h;obtain⟨a,d,rfl,n,p,q⟩:=h;cases j;obtain⟨e,r,g,i⟩:=I.tuple n;have c:e.toArray.size=d.length:=by rw[TH];exact r.length.symm
 refine⟨"tuple",_,Ux.lookup,g.typeIs,?_⟩;refine HT.YJ g hs l m (by rw[c];exact p) ?_ (by rw[c];exact i);rw[c];refine⟨.ref s.heap.objs.size,_,I.laid (t':=s.toks) (o:=.tup (eL d lo hi)) (λb ob q=>LD _ q) (TN _) ?_,rfl,q _ (I.hok.fresh (TN _))⟩;exact⟨Ub (jy d lo hi) i,_,(r.drop (HT.Xs d.length 0 lo)).take (HT.Xs d.length d.length hi - HT.Xs d.length 0 lo),Wz _ _⟩
noncomputable def EA(K:W.Frag):R2:=λx y H Q=>∃a b d c,x=.ref a/\y=.ref b/\Xz K H a d/\Xz K H b c/\d≠[]/\d.length+c.length<=sizeLine /\
 (c=[]->Q (.ref a) H)/\(c≠[]->∀p,H p=none->Q (.ref p) (upd H p (.tup (d++c))))
theorem Vals.Zd(r:Vals a c):c=[]↔a=[]:=by
 cases r with
 |nil=>simp
 |cons _ _=>simp
theorem C8:XT X (binaryOp .Add) (EA X.K):=by intro d s J H x y v u Q I g i h;obtain⟨a,b,j,l,rfl,rfl,m,n,p,e,r,t⟩:=h;cases g;cases i;obtain⟨B,c,E,_⟩:=I.tuple m;obtain⟨f,r2,G,_⟩:=I.tuple n;refine HT.cat_tup E G (λz=>p (c.Zd.mp z)) (λz=>⟨.ref a,H,I,rfl,r (r2.Zd.mp z)⟩) (λz=>?_) (by rw[<- c.length,<- r2.length];exact e);refine⟨.ref s.heap.objs.size,_,I.laid (t':=s.toks) (o:=.tup (j++l)) (λb ob q=>LD _ q) (TN _) ?_,rfl,t (λw=>z (r2.Zd.mpr w)) _ (I.hok.fresh (TN _))⟩;exact⟨by rw[Uk];exact e,_,c.append r2,Wz _ _⟩
end
noncomputable def ixN(n:Nat)(i:Int):Option Nat:=if 0<=i then (if i<n then some i.toNat else none)else if -(n:Int)<=i then some (i+n).toNat else none
noncomputable def atI{α:Type}(a:List α)(i:Int):Option α:=(ixN a.length i).bind λj=>a[j]?
theorem pf(h:ixN n i=some j):seqIndex? i n=some j/\j<n/\-(n:Int)<=i/\i<n:=by
 unfold ixN at h;by_cases c:0<=i
 ·rw[TY c]at h;by_cases a:i<n
  ·rw[TY a]at h;have e:i.toNat=j:=T7 h;exact⟨by rw[seqIndex_of c a,e],by lia,by lia,a⟩
  ·rw[TQ a]at h;cases h
 ·rw[TQ c]at h;by_cases a:-(n:Int)<=i
  ·rw[TY a]at h;have e:(i+n).toNat=j:=T7 h;exact⟨by rw[seqIndex_neg (by lia) a,e],by lia,a,by lia⟩
  ·rw[TQ a]at h;cases h
theorem oP{α:Type}{a:List α}{v:α}(h:atI a i=some v):∃j,seqIndex? i a.length=some j/\a[j]?=some v/\j<a.length/\-(a.length:Int)<=i/\i<a.length:=by
 unfold atI at h
 cases e:ixN a.length i with
 |none=>rw[e]at h;cases h
 |some j =>rw[e]at h;obtain⟨c,d,f,g⟩:=pf e;exact⟨j,c,h,d,f,g⟩
theorem gW{α:Type}{a:List α}{j:Nat}{v:α}(h:a[j]?=some v):atI a (j:Int)=some v:=by
 have c:j<a.length:=(M1.mp h).1
 have e:ixN a.length (j:Int)=some j:=by unfold ixN;rw[TY (by lia),TY (by lia)];simp
 unfold atI;rw[e];exact h
noncomputable def kE(b:Expr):Prop:=∀o i,subscripted b false o i=operate [o,i] (getItem o i)
noncomputable def IxR(X:Cx)(r:R2):Prop :=
 ∀(d a:Expr)(c:List (Addr×Obj))(s:Shared)(e:St)(H:Hp)(x y:V)(v u:Value)(Q:VK),Inv X c e H s->RelV x v->RelV y u->r x y H Q ->
  subscripted a false v u=operate [v,u] (getItem v u)->wpAny (model X.prog X.w) X.A (subscriptTail d a v u) (EP X c e Q) X.xe s
noncomputable def MtR(X:Cx)(id:String)(r:V->List V->Hp->VK->Prop):Prop :=
 ∀(a:List (Addr×Obj))(s:Shared)(c:St)(H:Hp)(x:V)(d:List V)(v:Value)(e:List Value)(Q:VK),Inv X a c H s->RelV x v->Vals d e->r x d H Q ->
  wpAny (model X.prog X.w) X.A (call (.builtin id) (v::e)) (EP X a c Q) X.xe s
section
variable{a b:Expr}
theorem IxR.or(h:IxR X r)(j:IxR X l):IxR X (λx y H Q=>r x y H Q\/l x y H Q):=by
 intro c d e s f H x y v u Q I g i q hs;rcases q with q|q
 ·exact h c d e s f H x y v u Q I g i q hs
 ·exact j c d e s f H x y v u Q I g i q hs
theorem fz(d:IxR X r)(e:PE X a f)(g:PE X b i)(hs:kE b:=by exactλ_ _=>rfl):PE X (.Subscript a b j) (tOp r f i):=by intro c s l H Q I h;exact Subscript_ (EY e g I h λv u m x y n p t w q=>d a b c m l n x y v u Q p t w q (hs _ _))
noncomputable def K6(K:W.Frag):R2:=λx y H Q=>∃p c i v,x=.ref p/\y=.int i/\Xk K H p c/\atI c i=some v/\Q v H
noncomputable def K8(K:W.Frag):R2:=λx y H Q=>∃p c i v,x=.ref p/\y=.int i/\Xz K H p c/\atI c i=some v/\Q v H
noncomputable def K7:R2:=λx y H Q=>∃z i c,x=.str z/\y=.int i/\z.length<=sizeLine/\atI z.cps.toList i=some c/\Q (.str ⟨#[c]⟩) H
theorem XD:IxR X (K6 X.K):=by
 intro e f c s B H x y v u Q I J M h hs;obtain⟨p,xs,i,z,rfl,rfl,N,O,q⟩:=h;cases J;obtain⟨t,rfl⟩:=M;obtain⟨g,r,l,hz⟩:=I.list N;obtain⟨j,d,T,h3,U,h5⟩:=oP O;obtain⟨w,E,m⟩:=r.get T;have hl:=r.length;have hn:=fj;have fin:EP X c B Q w s:=⟨z,H,I,m,q⟩
 by_cases G:0<=i
 ·have n:i.toNat=j:=by
   rw[seqIndex_of G h5]at d;exact T7 d
  exact item_listR l.isList G (by lia) (by rw[n];simpa using E) fin hs
 ·have n:(i+(g.toArray.size:Int)).toNat=j:=by
   rw[seqIndex_neg (by lia) U]at d;rw[TH,<- hl];exact T7 d
  exact subscriptTail_builtinR (x:=w) l.isList.typeIs slot_list_getitem.lookup
   (wpAny_getItem_list_neg (Q:=λr Y=>r=w/\EP X c B Q r Y) l.isList (by lia) (by rw[TH]<;>lia) (by lia) (by rw[n];simpa using E) ⟨rfl,fin⟩) hs
theorem ix_tup:IxR X (K8 X.K):=by
 intro d e c s g H x y v u Q I m n h hs;obtain⟨p,T,i,z,rfl,rfl,B,E,q⟩:=h;cases m;obtain⟨t,rfl⟩:=n;obtain⟨G,r,l,U⟩:=I.tuple B;obtain⟨j,J,M,Y,h4,h5⟩:=oP E;obtain⟨w,N,f⟩:=r.get M;have hl:=r.length;have hn:=fj;have fin:EP X c g Q w s:=⟨z,H,I,f,q⟩
 exact subscriptTail_builtinR (x:=w) l.typeIs slot_tuple_getitem.lookup
  (getItem_tuple (j:=j) (Q:=λr O=>r=w/\EP X c g Q r O) l (by lia) (by lia) (by rw[TH,<- hl];exact J) (by simpa using N) ⟨rfl,fin⟩) hs
theorem Fq:IxR X K7:=by
 intro d e f s w H x y v u Q I l m h hs;obtain⟨z,i,c,rfl,rfl,B,n,q⟩:=h;obtain⟨t,rfl⟩:=l;obtain⟨E,rfl⟩:=m;obtain⟨j,g,p,G,r,h5⟩:=oP n;have hl:z.cps.toList.length=z.length:=by simp[Str.length]
 rw[hl]at g r h5;have J:=fj
 exact tail_any (typeIs_str s z t) slot_str_getitem.lookup (getItem_str (c:=c) (by
  have e1:decide (i < -(2 ^ 63:Int))=false:=Um (by lia);have e2:decide (i ≥ 2 ^ 63)=false:=Um (by lia);rw[e1,e2,Bool.or_false]) (by rw[g];simpa using p) ⟨.str ⟨#[c]⟩,H,I.tok _,⟨_,rfl⟩,q⟩) hs
noncomputable def rIx(K:W.Frag):R2:=λx y H Q=>K6 K x y H Q\/K8 K x y H Q\/K7 x y H Q
theorem gD:IxR X (rIx X.K):=XD.or (ix_tup.or Fq)
theorem uy(c:List Value)(n j:Nat)(u:Value):Obj.mapSeq (·.setIfInBounds j u) {cls:=.type "list",data:=.seq c.toArray n}={cls:=.type "list",data:=.seq (c.set j u).toArray n}:=by simp[Obj.mapSeq]
theorem Inv.lst{X:Cx}{d:List (Addr×Obj)}{g:St}{H:Hp}{s:Shared}{p:Addr}{f:List V}(I:Inv X d g H s)(h:H p=some (.lst f)) :
  ∃(c:List Value)(n:Nat),Vals f c/\s.heap.get? p=some {cls:=.type "list",data:=.seq c.toArray n}/\f.length<=sizeLine:=by
 obtain⟨z,c,n,r,e⟩:=I.hok p _ h;exact⟨c,n,r,e,z⟩
theorem Inv.lstUpd{X:Cx}{d:List (Addr×Obj)}{l:St}{H:Hp}{s:Shared}{p:Addr}{v i:List V}{g c:List Value}{n j:Nat}{f:Obj->Obj}(I:Inv X d l H s)(h:H p=some (.lst v))
  (w:s.heap.get? p=some {cls:=.type "list",data:=.seq g.toArray n}) (m:f {cls:=.type "list",data:=.seq g.toArray n}={cls:=.type "list",data:=.seq c.toArray j}) (r:Vals i c) (y:i.length<=sizeLine) (t:Nat) :
  Inv X d l (upd H p (.lst i)) {s with heap:=s.heap.update p f,toks:=t}:=by
 have e:(s.heap.update p f).get? p=some {cls:=.type "list",data:=.seq c.toArray j}:=by rw[Wb f w (by rw[m]<;>rfl),m]
 refine I.write (x:=p) (e:=p) (by rw[h];trivial) (.inl rfl) (λb u z q=>(Heap.get?_update_other _ _ (Ut z)).trans q) ⟨_,e⟩ ?_;exact⟨y,c,j,r,e⟩
noncomputable def Lb:V->V->V->Hp->(Hp->Prop)->Prop:=λo i v H Q=>∃p c k j,o=.ref p/\i=.int k/\H p=some (.lst c)/\ixN c.length k=some j/\Q (upd H p (.lst (c.set j v)))
theorem mz:ES X Lb:=by
 intro c s z H o i v N O u Q I ro B E h;obtain⟨p,G,k,j,rfl,rfl,g,J,q⟩:=h;cases ro;obtain⟨t,rfl⟩:=B;obtain⟨d,n,r,f,M⟩:=I.lst g;obtain⟨e,T,l,m⟩:=pf J;have hl:=r.length;have U:=fj
 have w:Inv X c z (upd H p (.lst (G.set j v))) {s with heap:=s.heap.update p (Obj.mapSeq (·.setIfInBounds j u))} :=
  I.lstUpd g f (uy d n j u) (r.set E j) (by rw[List.length_set];exact M) s.toks
 by_cases y:0<=k
 ·have hk:k.toNat=j:=by
   rw[seqIndex_of y m]at e;exact T7 e
  exact W.ki_setAt f y (by lia) (by rw[TH,<- hl];exact m) (by rw[hk];exact⟨_,w,q⟩)
 ·have hk:(k+(d.toArray.size:Int)).toNat=j:=by
   rw[seqIndex_neg (by lia) l]at e;rw[TH,<- hl];exact T7 e
  exact W.ki_setBack f (by lia) (by rw[TH,<- hl];exact l) (by lia) (by rw[hk];exact⟨_,w,q⟩)
theorem qy(lo c:Option Int)(n:Nat):(sliceBounds lo c none n).1=((HT.Xs n 0 lo:Nat):Int)/\(sliceBounds lo c none n).2.1=((HT.Xs n n c:Nat):Int)/\(sliceBounds lo c none n).2.2=1:=by
 refine⟨?_,?_,rfl⟩
 ·cases lo with
  |none=>simp[sliceBounds,HT.Xs]
  |some i =>
   simp only[sliceBounds,HT.Xs,Option.getD_none,show(1:Int)>0 by decide,VU];by_cases h:i<0
   ·simp only[h,VU]<;>lia
   ·simp only[h,WQ]<;>lia
 ·cases c with
  |none=>simp[sliceBounds,HT.Xs]
  |some i =>
   simp only[sliceBounds,HT.Xs,Option.getD_none,show(1:Int)>0 by decide,VU];by_cases h:i<0
   ·simp only[h,VU]<;>lia
   ·simp only[h,WQ]<;>lia
theorem nk(c:List Value)(lo d:Option Int):slicePick c.toArray lo d none=((c.drop (HT.Xs c.length 0 lo)).take (HT.Xs c.length c.length d - HT.Xs c.length 0 lo)).toArray:=by obtain⟨e,f,g⟩:=qy lo d c.toArray.size;unfold slicePick;rw[e,f,g];simp only[sliceRange_one,pick_run,TH]<;>rfl
noncomputable def MR(K:W.Frag):V->Option Int->Option Int->Hp->VK->Prop:=λx lo d H Q=>∃a c,x=.ref a/\Xk K H a c/\∀p,H p=none->Q (.ref p) (upd H p (.lst (eL c lo d)))
theorem DQ:SlR X (MR X.K):=by intro f s t H x v u w lo e y Q I i hs j l h;obtain⟨a,c,rfl,m,q⟩:=h;cases i;obtain⟨n,r,g,p⟩:=I.list m;have d:=r.length;refine⟨"list",_,slot_list_getitem.lookup,g.isList.typeIs,?_⟩;refine wpAny_getItem_list_slice g.isList hs j l .none (by simp) ?_ (by rw[TH]<;>lia);rw[nk,<- d];refine⟨.ref s.heap.objs.size,_,I.laid (t':=s.toks) (o:=.lst (eL c lo e)) (λb ob q=>LD _ q) (TN _) ?_,rfl,q _ (I.hok.fresh (TN _))⟩;exact⟨Ub (jy c lo e) p,_,0,(r.drop (HT.Xs c.length 0 lo)).take (HT.Xs c.length c.length e - HT.Xs c.length 0 lo),TX _ rfl⟩
noncomputable def dY:V->Bool
 | .WX=>true
 | .bl _=>true
 | .int _=>true
 | .str _=>true
 |_=>false
noncomputable def eqV:V->V->Bool
 | .WX,.WX=>true
 | .bl a,.bl b=>a==b
 | .bl a,.int b=>(if a then 1 else 0)==b
 | .int a,.bl b=>a==(if b then 1 else 0)
 | .int a,.int b=>a==b
 | .str a,.str b=>a==b
 |_,_=>false
theorem Fc(e:RelV y u)(c:RelV x v)(g:dY y=true)(f:dY x=true):SeqAt.EqAt A s u v (eqV y x):=by
 cases y with
 |WX =>
  cases e
  cases x with
  |WX=>cases c;exact SeqAt.EqAt.same _
  |bl b=>cases c;exact SeqAt.EqAt.none_bool b
  |int b=>obtain⟨t,rfl⟩:=c;exact SeqAt.EqAt.none_int b t
  |str b=>obtain⟨t,rfl⟩:=c;exact SeqAt.EqAt.none_str b t
  |_=>exact absurd (show false=true from f) TU
 |bl a =>
  cases e
  cases x with
  |WX=>cases c;exact SeqAt.EqAt.bool_none a
  |bl b=>cases c;exact SeqAt.EqAt.bool_bool a b
  |int b=>obtain⟨t,rfl⟩:=c;exact SeqAt.EqAt.bool_int a b t
  |str b=>obtain⟨t,rfl⟩:=c;exact SeqAt.EqAt.bool_str a b t
  |_=>exact absurd (show false=true from f) TU
 |int a =>
  obtain⟨d,rfl⟩:=e
  cases x with
  |WX=>cases c;exact SeqAt.EqAt.int_none a d
  |bl b=>cases c;exact SeqAt.EqAt.int_bool a d b
  |int b=>obtain⟨t,rfl⟩:=c;exact SeqAt.EqAt.int_int a d b t
  |str b=>obtain⟨t,rfl⟩:=c;exact Ww a d b t
  |_=>exact absurd (show false=true from f) TU
 |str a =>
  obtain⟨d,rfl⟩:=e
  cases x with
  |WX=>cases c;exact SeqAt.EqAt.str_none a d
  |bl b=>cases c;exact SeqAt.EqAt.str_bool a d b
  |int b=>obtain⟨t,rfl⟩:=c;exact Wx a d b t
  |str b=>obtain⟨t,rfl⟩:=c;exact SeqAt.EqAt.str_str a d b t
  |_=>exact absurd (show false=true from f) TU
 |_=>exact absurd (show false=true from g) TU
noncomputable def eqU(x:V)(u:Value):Bool:=match u with
 | .none=>eqV .WX x
 | .bool b=>eqV (.bl b) x
 | .int i _=>eqV (.int i) x
 | .str z _=>eqV (.str z) x
 |_=>false
theorem zB(r:RelV y u)(f:dY y=true):eqU x u=eqV y x:=by
 cases y with
 |WX=>cases r;rfl
 |bl b=>cases r;rfl
 |int i=>obtain⟨t,rfl⟩:=r;rfl
 |str z=>obtain⟨t,rfl⟩:=r;rfl
 |_=>exact absurd (show false=true from f) TU
theorem gU:∀{c:List V}{d:List Value},Vals c d->c.all dY=true->d.any (eqU x)=c.any λy=>eqV y x
 |_,_,.nil,_=>rfl
 |y::c,u::d,.cons r t,f=>by rw[Ud,Tz]at f;rw[U1,U1,zB r f.1,gU t f.2]
theorem fm(e:RelV x v)(g:dY x=true):∀{c:List V}{d:List Value},Vals c d->c.all dY=true->∀u∈d,SeqAt.EqAt A s u v (eqU x u)
 |_,_,.nil,_=>λu hu=>by cases hu
 |y::c,u::d,.cons r t,f=>λi hu=>by
  rw[Ud,Tz]at f;rcases T3.mp hu with rfl|hu
  ·rw[zB r f.1];exact Fc r e f.1 g
  ·exact fm e g t f.2 i hu
noncomputable def inV(x:V)(c:List V):Bool:=c.any λy=>eqV y x
noncomputable def rIn(K:W.Frag)(d:Bool):R2:=λx y H Q=>∃p c,y=.ref p/\(Xk K H p c\/Xz K H p c)/\dY x=true/\c.all dY=true/\Q (.bl (if d then !inV x c else inV x c)) H
theorem nY:XT X (compareOp .In) (rIn X.K false):=by
 intro f s m H x y v u Q I g j h;obtain⟨p,n,rfl,hq,i,fs,q⟩:=h;cases j;rcases hq with hq|hq
 ·obtain⟨c,r,d,l⟩:=I.list hq;refine SeqAt.in_listAt (eqU x) d.isList (λw e=>fm g i r fs w (by simpa using e)) ⟨.bl _,H,I,rfl,?_⟩;rw[show c.toArray.any (eqU x)=c.any (eqU x) by simp,gU r fs];exact q
 ·obtain⟨c,r,d,l⟩:=I.tuple hq;refine SeqAt.in_tupleAt (eqU x) d (λw e=>fm g i r fs w (by simpa using e)) ⟨.bl _,H,I,rfl,?_⟩;rw[show c.toArray.any (eqU x)=c.any (eqU x) by simp,gU r fs];exact q
theorem pI:XT X (compareOp .NotIn) (rIn X.K true):=by
 intro f s m H x y v u Q I g j h;obtain⟨p,n,rfl,hq,i,fs,q⟩:=h;cases j;rcases hq with hq|hq
 ·obtain⟨c,r,d,l⟩:=I.list hq;refine SeqAt.notIn_listAt (eqU x) d.isList (λw e=>fm g i r fs w (by simpa using e)) ⟨.bl _,H,I,rfl,?_⟩;rw[show c.toArray.any (eqU x)=c.any (eqU x) by simp,gU r fs];exact q
 ·obtain⟨c,r,d,l⟩:=I.tuple hq;refine SeqAt.notIn_tupleAt (eqU x) d (λw e=>fm g i r fs w (by simpa using e)) ⟨.bl _,H,I,rfl,?_⟩;rw[show c.toArray.any (eqU x)=c.any (eqU x) by simp,gU r fs];exact q
theorem b8:bo X (.builtin "len") (λi H Q=>∃p d,i=[.ref p]/\(Xk X.K H p d\/Xz X.K H p d)/\Q (.int d.length) H):=by
 intro j s n H i t Q I r h;obtain⟨p,d,rfl,hq,q⟩:=h;obtain⟨u,rfl,l⟩:=bq r;cases l;have v:=fj;rcases hq with hq|hq
 ·obtain⟨e,f,g,m⟩:=I.list hq;have c:=f.length;exact Calls.call_len_list g.isList (by simp only[TH]<;>lia) ⟨.int d.length,H,I.tok _,⟨s.toks+1,by rw[TH,c]⟩,q⟩
 ·obtain⟨e,f,g,m⟩:=I.tuple hq;have c:=f.length;exact len_tuple g (by simp only[TH]<;>lia) ⟨.int d.length,H,I.tok _,⟨s.toks+1,by rw[TH,c]⟩,q⟩
theorem oU:bo X (.builtin "len") (λc H Q=>∃z,c=[.str z]/\z.length<=sizeLine/\Q (.int z.length) H):=by intro d s e H c f Q I r h;obtain⟨z,rfl,g,q⟩:=h;obtain⟨u,rfl,t,rfl⟩:=bq r;have i:=fj;exact len_str (by lia) ⟨.int z.length,H,I.tok _,⟨_,rfl⟩,q⟩
theorem gZ:bo X (.type "list") (λG H Q=>∃p f,G=[.ref p]/\(Xk X.K H p f\/Xz X.K H p f)/\∀l,H l=none->Q (.ref l) (upd H l (.lst f))):=by
 intro j s M H G O Q I r h;obtain⟨p,f,rfl,hq,q⟩:=h;obtain⟨u,rfl,N⟩:=bq r;cases N
 have fin:∀(c:List Value),Vals f c->f.length<=sizeLine->∀(d:Heap)(g:Nat),(∀b J,s.heap.get? b=some J->d.get? b=some J) ->
   d.get? s.heap.objs.size=some {cls:=.type "list",dict:=none,data:=.seq c.toArray g,slots:=#[]}->EP X j M Q (.ref s.heap.objs.size) {s with heap:=d}:=λc i m d g t e =>
  ⟨.ref s.heap.objs.size,_,I.laid (t':=s.toks) t (TN _) (show W7 X.prog X.w _ d _ (.lst f) from ⟨m,c,g,i,e⟩),rfl,q _ (I.hok.fresh (TN _))⟩
 rcases hq with hq|hq
 ·obtain⟨c,i,y,m⟩:=I.list hq;have v:=i.length;obtain⟨o,z,B,n,E⟩:=y.isList;exact call_list_seq p (.inl rfl) z B E (λd g t e=>fin c i m d g t e) (by simp only[TH]<;>lia)
 ·obtain⟨c,i,y,m⟩:=I.tuple hq;have v:=i.length;obtain⟨o,z,B,n,E⟩:=y;exact call_list_seq p (.inr rfl) z B E (λd g t e=>fin c i m d g t e) (by simp only[TH]<;>lia)
theorem mP:bo X (.type "tuple") (λn H Q=>∃p f,n=[.ref p]/\((Xk X.K H p f/\∀l,H l=none->Q (.ref l) (upd H l (.tup f)))\/(Xz X.K H p f/\Q (.ref p) H))):=by
 intro c s t H n J Q I r h;obtain⟨p,f,rfl,h⟩:=h;obtain⟨u,rfl,B⟩:=bq r;cases B;rcases h with⟨i,q⟩|⟨i,q⟩
 ·obtain⟨d,j,m,v⟩:=I.list i;have y:=j.length;refine call_tuple_list m.isList (λg E=>?_) (by simp only[TH]<;>lia);have z:Inv X c t H {s with heap:=g}:=I.kept (t':=s.toks) E
  have G:Inv X c t (upd H g.objs.size (.tup f)) {s with heap:=g.push {cls:=.type "tuple",data:=.seq d.toArray}} :=
   z.laid (t':=s.toks) (λb o e=>LD _ e) (TN _) (show W7 X.prog X.w _ _ _ (.tup f) from ⟨v,d,j,Wz _ _⟩)
  exact⟨.ref g.objs.size,_,G,rfl,q _ (z.hok.fresh (TN _))⟩
 ·obtain⟨d,j,m,v⟩:=I.tuple i;exact call_tuple_same m ⟨.ref p,H,I,rfl,q⟩
noncomputable def tyV(K:W.Frag)(T:String)(x:V)(H:Hp):Prop:=match x with
 | .str _=>T="str"
 | .int _=>T="int"
 | .ref p=>(T="list"/\∃d,Xk K H p d)\/(T="tuple"/\∃o,K.lookup p=some o/\o.cls=.type "tuple"/\o.dict=none) \/
   (T="dict"/\((∃c,H p=some (.dK c))\/∃c,H p=some (.dT c)))\/(T="set"/\∃S n,H p=some (.set S n))
 |_=>False
theorem BD{X:Cx}{d:List (Addr×Obj)}{l:St}{H:Hp}{s:Shared}{T:String}{x:V}{v:Value}(I:Inv X d l H s)(r:RelV x v)(ty:tyV X.K T x H) :
  s.TypeIs v T/\∀a,v=.ref a->∃ob,s.heap.get? a=some ob/\ob.dict=none:=by
 cases x with
 |str z =>obtain⟨t,rfl⟩:=r;cases (show T="str" from ty);exact⟨typeIs_str s z t,λ_ e=>nomatch e⟩
 |int i =>obtain⟨t,rfl⟩:=r;cases (show T="int" from ty);exact⟨WO s i t,λ_ e=>nomatch e⟩
 |ref p =>
  cases r;rcases ty with⟨rfl,w,m⟩|⟨rfl,o,hk,q,f⟩|⟨rfl,hk⟩|⟨rfl,S,n,hk⟩
  ·obtain⟨u,_,j,_⟩:=I.list m;refine⟨j.isList.typeIs,λa e=>?_⟩;cases e;obtain⟨o,n,e,c,f,_⟩:=j;exact⟨o,e,f⟩
  ·refine⟨⟨o,I.Xy p o hk,q⟩,λa e=>?_⟩;cases e;exact⟨o,I.Xy _ o hk,f⟩
  ·have z:∃o,s.heap.get? p=some o/\o.ExactDict:=by
    rcases hk with⟨g,hk⟩|⟨g,hk⟩
    ·obtain⟨_,_,_,_,o,_,_,e,ex,_⟩:=I.hok p _ hk;exact⟨o,e,ex⟩
    ·obtain⟨_,_,_,_,o,_,_,e,ex,_⟩:=I.hok p _ hk;exact⟨o,e,ex⟩
   obtain⟨o,e,ex⟩:=z;refine⟨⟨o,e,ex.1⟩,λa e2=>?_⟩;cases e2;exact⟨o,e,ex.2.1⟩
  ·obtain⟨o,_,_,_,e,ex,_⟩:=I.hok p _ hk;refine⟨⟨o,e,ex.1⟩,λa e2=>?_⟩;cases e2;exact⟨o,e,ex.2.1⟩
 |_=>exact False.elim ty
noncomputable def MX(K:W.Frag)(T:String)(r:V->List V->Hp->VK->Prop)(to:TE):TE:=λd H Q=>to d H λx c=>tyV K T x c/\r x [] c Q
noncomputable def tBM(K:W.Frag)(T:String)(r:V->List V->Hp->VK->Prop)(to:TE)(t:TA):TE:=λc H Q=>to c H λx d=>tyV K T x d/\t c d λe f=>r x e f Q
variable{id:String}
theorem Hh{X:Cx}{c d:Pos}(n:PlainAttrs T)(slot:Slot T name id)(i:typeOf (.builtin id)=pure (.type "method_descriptor"))(p:MtR X id r)(q:PE X o to)
  (f:attributeBase o name X.env (eval o X.env)=eval o X.env:=by rfl) (g:(c.endLine==d.line)=true:=by rfl):PE X (.Call (.Attribute o name c) [] [] d) (MX X.K T r to):=by
 intro e s j H Q I h;refine wpAny_Call_method0_late f g (WY (q e s j H _ I h) λv t ⟨x,u,l,m,ty,w⟩=>?_);obtain⟨y,z⟩:=BD l m ty;exact⟨T,id,n,slot,i,y,z,V4 rfl (PySem.evalArgs_none (p e t j u x [] v [] Q l m .nil w))⟩
theorem og{X:Cx}{g:Pos}(y:PlainAttrs T)(slot:Slot T name id)(n:typeOf (.builtin id)=pure (.type "method_descriptor"))(z:MtR X id r)(B:PE X o to)(E:PA X (e::i) t)
  (j:attributeBase o name X.env (eval o X.env)=eval o X.env:=by rfl)
  (m:((backTo c (starEach (e::i) X.env)).all (λx=>!x.1)&&(backToKw c (keywordEach [] X.env)).all (λx=>x.1.isSome)
   && decide ((e::i).length+([]:List Keyword).length+(if ([]:List Keyword).isEmpty then 0 else 1)<30))=true:=by rfl)
  (l:(g.endLine==c.line)=true:=by rfl) (hs:starEach (e::i) X.env=(false,eval e X.env)::starEach i X.env:=by rfl) (f:(backTo c (starEach i X.env)).any (·.1)=false:=by rfl) :
  PE X (.Call (.Attribute o name g) (e::i) [] c) (tBM X.K T r to t):=by
 intro d s p H Q I h;refine wpAny_Call_method_late j m l rfl (WY (B d s p H _ I h) λv G ⟨x,J,q,u,ty,M⟩=>?_);obtain⟨N,O⟩:=BD q u ty;refine⟨T,id,y,slot,n,N,O,?_⟩;have w:=E c d G p J _ q M;rw[hs]at w ⊢;refine V4 (by show(false||(backTo c (starEach i X.env)).any (·.1))=false;rw[f]<;>rfl) (Wh ?_);exact WY w λU Y ⟨vs,H2,I2,r2,q2⟩=>z d Y p H2 x vs v U Q I2 u r2 q2
end
noncomputable def MtM(X:Cx)(id:String)(r:V->List V->Hp->VK->Prop):Prop :=
 ∀(a:List (Addr×Obj))(s:Shared)(c:St)(H:Hp)(x:V)(d:List V)(v:Value)(e:List Value)(Q:VK),Inv X a c H s->RelV x v->Vals d e->r x d H Q ->
  wpAny (model X.prog X.w) X.A (call (.builtin id) (v::e)) (EP X a c Q) X.xe s
theorem Vals.one:∀{x:V}{a:List Value},Vals [x] a->∃u,a=[u]/\RelV x u
 |_,_,.cons r .nil=>⟨_,rfl,r⟩
theorem Vals.zero:∀{a:List Value},Vals [] a->a=[]
 |_,.nil=>rfl
theorem Vals.dropLast(h:Vals a c):Vals a.dropLast c.dropLast:=by
 induction h with
 |nil=>exact .nil
 |cons r t d =>
  cases t with
  |nil=>exact .nil
  |cons q e=>exact .cons r d
theorem Vals.rep(h:Vals a c):∀k:Nat,Vals (List.replicate k a).flatten (List.replicate k c).flatten
 |0=>.nil
 |k+1=>by rw[UN,UN,Vn,Vn];exact Vals.append h (Vals.rep h k)
theorem ug{α:Type}(l:List α):l.eraseIdx (l.length - 1)=l.dropLast:=by
 induction l with
 |nil=>rfl
 |cons a r c =>
  cases r with
  |nil=>rfl
  |cons b r =>
   have e:(a::b::r).length - 1=((b::r).length - 1)+1:=by have d:(a::b::r).length=r.length+2:=rfl;have f:(b::r).length=r.length+1:=rfl;lia
   rw[e,List.eraseIdx_cons_succ,c]
   all_goals rfl
theorem cj(a:List Value):∀(k:Nat)(c:List Value),
  List.foldl (λd f=>d++f) c.toArray (List.replicate k a.toArray)=(c++(List.replicate k a).flatten).toArray
 |0,c=>by simp
 |k+1,c=>by
  have e:c.toArray++a.toArray=(c++a).toArray:=by simp
  have e2:(c++a)++(List.replicate k a).flatten=c++(List.replicate (k+1) a).flatten:=by rw[UN,Vn,VZ]
  rw[<- e2,<- cj a k (c++a),<- e,UN,List.foldl_cons]
section
theorem Inv.lset{X:Cx}{a:List (Addr×Obj)}{g:St}{H:Hp}{s:Shared}{l:Addr}{i d:List V}{c its':List Value}{n:Nat}{f:Array Value->Array Value}{j:Nat}(I:Inv X a g H s)(m:H l=some (.lst i))
  (e:s.heap.get? l=some {cls:=.type "list",data:=.seq c.toArray n}) (p:f c.toArray=its'.toArray) (r:Vals d its') (t:d.length<=sizeLine) :
  Inv X a g (upd H l (.lst d)) {s with heap:=s.heap.update l (Obj.mapSeq f),toks:=j}:=by
 have q:=PySem.IsL.update e f;rw[p]at q;refine I.write (x:=l) (e:=l) (by rw[m];exact trivial) (.inl rfl) (λy u v w=>(Heap.get?_update_other s.heap (Obj.mapSeq f) (Ut v)).trans w) ⟨_,q⟩ ?_;exact⟨t,its',_,r,q⟩
theorem Inv.lnew{X:Cx}{a:List (Addr×Obj)}{e:St}{H:Hp}{s:Shared}{d:List V}{c:List Value}{t':Nat}(I:Inv X a e H s)(f:Vals d c)(g:d.length<=sizeLine) :
  Inv X a e (upd H s.heap.objs.size (.lst d)) {s with heap:=s.heap.push {cls:=.type "list",data:=.seq c.toArray},toks:=t'} :=
 I.laid (λ_ _ q=>LD _ q) (TN _) ⟨g,c,0,f,TX _ rfl⟩
theorem Inv.fresh{X:Cx}{a:List (Addr×Obj)}{c:St}{H:Hp}{s:Shared}(I:Inv X a c H s):H s.heap.objs.size=none:=I.hok.fresh (TN _)
theorem Inv.lstM{X:Cx}{c:List (Addr×Obj)}{f:St}{H:Hp}{s:Shared}{l:Addr}{d:List V}(I:Inv X c f H s)(g:H l=some (.lst d)):d.length<=sizeLine/\∃(a:List Value)(n:Nat),Vals d a/\d.length=a.length/\s.heap.get? l=some {cls:=.type "list",data:=.seq a.toArray n}:=by obtain⟨z,a,n,r,e⟩:=I.hok l _ g;exact⟨z,a,n,r,r.length,e⟩
theorem sj(h:n<=sizeLine):Builtin.List.listTooLong n=false:=by unfold Builtin.List.listTooLong;exact Um (by lia)
noncomputable def wK:V->List V->Hp->VK->Prop:=λx c H Q=>∃l a y,x=.ref l/\c=[y]/\H l=some (.lst a)/\a.length<sizeLine/\Q .WX (upd H l (.lst (a++[y])))
theorem fQ:MtM X "list.append" wK:=by intro c s j H x m v p Q I f g h;obtain⟨l,t,y,rfl,rfl,d,w,q⟩:=h;cases f;obtain⟨u,rfl,i⟩:=g.one;obtain⟨z,a,n,r,hl,e⟩:=I.lstM d;refine Vp F.slot_list_append ⟨_,e,rfl⟩ F.entry_list_append (F.args_list_append_2 _ _) (PySem.list_append l a.toArray n u (by rw[TH];lia)) ⟨e,?_⟩;refine⟨.WX,_,I.lset (its':=a++[u]) d e (by simp) (r.append (.cons i .nil)) ?_,rfl,q⟩;rw[Uk,List.length_singleton];lia
noncomputable def pT:V->List V->Hp->VK->Prop:=λx d H Q=>∃l b a c,x=.ref l/\d=[.ref b]/\H l=some (.lst a)/\H b=some (.lst c)/\a.length+c.length<=sizeLine/\Q .WX (upd H l (.lst (a++c)))
theorem fR:MtM X "list.extend" pT:=by
 intro g s y H x B v E Q I j m h;obtain⟨l,b,G,J,rfl,rfl,i,p,M,q⟩:=h;cases j;obtain⟨u,rfl,t⟩:=m.one;cases t;obtain⟨z,c,n,r,hl,e⟩:=I.lstM i;obtain⟨N,a,n2,r2,w,e2⟩:=I.lstM p;have f:c.toArray.size+a.toArray.size<=sizeLine:=by rw[TH,TH];lia
 have d:¬ (!c.toArray.isEmpty&&Builtin.List.listTooLong (c.toArray.size+a.toArray.size))=true:=by rw[sj f,Bool.and_false];exact TU
 refine Vp Vw ⟨_,e,rfl⟩ F.entry_list_extend (F.args_list_extend_2 _ _)
  (AutoSeq1.list_extend_list_list_0 l c.toArray n b a.toArray n2 d (by rw[TH];lia) (by lia)) ⟨e,e2,?_⟩
 refine⟨.WX,_,I.lset (its':=c++a) i e (by simp) (r.append r2) ?_,rfl,q⟩;rw[Uk];lia
noncomputable def K9:V->List V->Hp->VK->Prop:=λx c H Q=>∃l a y,x=.ref l/\c=[]/\H l=some (.lst a)/\a[a.length - 1]?=some y/\Q y (upd H l (.lst a.dropLast))
theorem GO:MtM X "list.pop" K9:=by
 intro f s w H x B v E Q I i j h;obtain⟨l,G,y,rfl,rfl,g,m,q⟩:=h;cases i;have c:=j.zero;subst c;obtain⟨z,a,n,r,hl,e⟩:=I.lstM g;obtain⟨u,p,t⟩:=r.get m
 have d:a.toArray[a.toArray.size - 1]?=some u:=by show a.toArray[a.length - 1]?=some u;rw[<- Array.getElem?_toList,<- hl];exact p
 refine Vp F.slot_list_pop ⟨_,e,rfl⟩ F.entry_list_pop (F.args_list_pop_1 _) (MeetsSeq.list_pop_last l a.toArray n u d (by rw[TH];lia)) ⟨e,?_⟩;refine⟨y,_,I.lset (its':=a.dropLast) g e ?_ r.dropLast ?_,t,q⟩
 ·show a.toArray.eraseIdxIfInBounds (a.toArray.size - 1)=a.dropLast.toArray;rw[TH,List.eraseIdxIfInBounds_toArray,ug]
 ·rw[List.length_dropLast];lia
noncomputable def La:R2:=λx y H Q=>∃l k a,x=.ref l/\y=.int k/\H l=some (.lst a)/\-(2 ^ 63)<=k/\k<2 ^ 63/\a.length*k.toNat<=sizeLine /\
 ∀p,H p=none->Q (.ref p) (upd H p (.lst (List.replicate k.toNat a).flatten))
theorem pw{α:Type}(a:List α)(k:Nat):(List.replicate k a).flatten.length=k*a.length:=by
 induction k with
 |zero=>simp
 |succ k c=>rw[UN,Vn,Uk,c,Nat.succ_mul,Nat.add_comm]
theorem He:XT X (binaryOp .Mult) La:=by
 intro B s σ H x y v u Q I G J h;obtain⟨l,k,xs,rfl,rfl,M,N,O,E,q⟩:=h;cases G;obtain⟨t,rfl⟩:=J;obtain⟨z,c,n,r,hl,e⟩:=I.lstM M;have f:c.toArray.size*k.toNat<=sizeLine:=by rw[TH,<- hl];exact E
 have g:¬ c.toArray.size*k.toNat>(2 ^ 63 - 1) / 8:=by
  have:(sizeLine:Nat)<=(2 ^ 63 - 1) / 8:=by decide
  lia
 have i:¬ (!Builtin.List.listFitsIndex k)=true:=by rw[fitsIndex_both N O];exact TU
 have d:¬ Builtin.List.listTooLong (c.toArray.size*k.toNat)=true:=by rw[sj f];exact TU
 have j:List.foldl (λp w=>p++w) #[] (List.replicate (if c.toArray.isEmpty=true then 0 else k.toNat) c.toArray)=(List.replicate k.toNat c).flatten.toArray:=by
  have Y:∀m:Nat,List.foldl (λp w=>p++w) #[] (List.replicate m c.toArray)=(List.replicate m c).flatten.toArray:=λm=>by have:=cj c m [];rw[List.nil_append]at this;exact this
  rw[Y]
  cases c with
  |nil=>simp
  |cons a r'=>rw[TQ (by simp)]
 refine wpAny_binaryOp_repeat_ref (T:="list") (U:="int") (by decide) ⟨_,e,rfl⟩ (λs'=>WO s' k t) noFill_list_mul F.fills_int_mul Wi repeat_list F.slot_int_index.lookup
  (Vp Wi (WO s k t) F.entry_int_rmul (F.args_int_rmul_2 _ _) (int___rmul___int_list k t l c.toArray n)
   ⟨e,rfl,⟨_,e,rfl⟩,Vp F.slot_list_mul ⟨_,e,rfl⟩ F.entry_list_mul (F.args_list_mul_2 _ _) (AutoListH.list___mul___list_int_3 l c.toArray n k t i g d) ⟨e,?_⟩⟩)
 rw[j];exact⟨.ref _,_,I.lnew (t':=s.toks) (r.rep k.toNat) (by rw[pw,Nat.mul_comm];exact E),rfl,q _ I.fresh⟩
end
section
variable{κ:Type}[DecidableEq κ]
noncomputable def fN(a:List (κ×V))(k:κ):Option V:=(a.find? λc=>decide (c.1=k)).map (·.2)
noncomputable def dw(a:List (κ×V))(k:κ)(v:V):List (κ×V) :=
 if (a.any λc=>decide (c.1=k))=true then a.map (λc=>if c.1=k then (c.1,v)else c)else a++[(k,v)]
theorem mJ{p:κ×V}(e:p.1=k):fN (p::r) k=some p.2:=by simp[fN,UU,e]
theorem mI{p:κ×V}(e:¬ p.1=k):fN (p::r) k=fN r k:=by simp[fN,UU,e]
theorem mH(k:κ):∀a:List (κ×V),(a.any λc=>decide (c.1=k))=(fN a k).isSome
 |[]=>rfl
 |p::r=>by
  rw[U1];by_cases e:p.1=k
  ·simp only[mJ e,U4 e,Bool.true_or,Option.isSome_some]
  ·rw[mI e,Um e,Bool.false_or];exact mH k r
theorem fh(a:List (κ×V))(k:κ)(v:V):(dw a k v).length<=a.length+1:=by
 unfold dw;split
 ·rw[T8];lia
 ·rw[Uk,Us,List.length_nil];lia
theorem A5{a:List (κ×V)}{k:κ}(v:V)(h:fN a k=none):dw a k v=a++[(k,v)]:=by unfold dw;rw[mH,h];exact TQ (by decide)
theorem YB.YV(r:YB o u):o.isSome=u.isSome:=by
 cases o with
 |none=>cases u with
  |none=>rfl
  |some _=>exact(show False from r).elim
 |some _=>cases u with
  |none=>exact(show False from r).elim
  |some _=>rfl
theorem KV.val(r:KV a f)(k:κ):YB (fN a k) (valueAt f k):=by
 unfold KV at r
 induction r with
 |nil=>exact True.intro
 | @cons p q j qs h t g =>
  obtain⟨d,i⟩:=h;by_cases e:p.1=k
  ·have c:q.1=k:=d.symm.trans e;have b:valueAt (q::qs) k=some q.2:=by simp[valueAt,UU,c]
   rw[mJ e,b];exact i
  ·have c:¬ q.1=k:=λz=>e (d.trans z);have b:valueAt (q::qs) k=valueAt qs k:=by simp[valueAt,UU,c]
   rw[mI e,b];exact g
theorem KV.any(r:KV a d)(k:κ):(a.any λc=>decide (c.1=k))=d.any λc=>decide (c.1=k):=by
 unfold KV at r
 induction r with
 |nil=>rfl
 |cons h t e=>rw[U1,U1,e,h.1]
theorem KV.repl(r:KV d f)(k:κ)(g:RelV y u) :
  KV (d.map λa=>if a.1=k then (a.1,y)else a) (f.map λa=>if a.1=k then (a.1,u)else a):=by
 unfold KV at r ⊢
 induction r with
 |nil=>exact .nil
 | @cons p q l qs h t i =>
  rw[T9,T9];refine .cons ?_ i;obtain⟨c,j⟩:=h;by_cases e:p.1=k
  ·rw[TY e,TY (c.symm.trans e)];exact⟨c,g⟩
  ·rw[TQ e,TQ (λz=>e (c.trans z))];exact⟨c,j⟩
theorem KV.put(r:KV a c)(k:κ)(d:RelV y u):KV (dw a k y) (stored c k u):=by
 unfold dw stored;rw[r.any k];by_cases e:(c.any λf=>decide (f.1=k))=true
 ·rw[TY e,TY e];exact r.repl k d
 ·rw[TQ e,TQ e];exact Paired.snoc r ⟨rfl,d⟩
theorem KV.length{a:List (κ×V)}{c:List (κ×Value)}(r:KV a c):a.length=c.length:=WH r
end
theorem rO(r:RelV (kV k) u):(aZ P w).is k u=true:=by
 cases k with
 |inl i=>obtain⟨t,e⟩:=(show ∃t,u=Value.int i t from r);subst e;exact rX P w i t
 |inr x=>obtain⟨t,e⟩:=(show ∃t,u=Value.str x t from r);subst e;exact rY P w x t
theorem nR:∀{a:List Key}{c:List Value},Vals (a.map kV) c->ItemsAre (aZ P w) a c
 |[],_,r=>by rw[List.map_nil]at r;cases r;exact .nil
 |k::a,_,r=>by
  rw[T9]at r
  cases r with
  |cons h t=>exact .cons (rO h) (nR t)
noncomputable abbrev KT(H:Hp):List (List Key×V)->List (List Key×Addr×Value)->Prop:=Paired λp q=>p.1=q.1/\H q.2.1=some (.tup (p.1.map kV))/\RelV p.2 q.2.2
theorem KT.val(r:KT H a f)(k:List Key):YB (fN a k) ((atKey f k).map (·.2)):=by
 induction r with
 |nil=>exact True.intro
 | @cons p q j qs h t g =>
  obtain⟨d,_,i⟩:=h;by_cases e:p.1=k
  ·have c:q.1=k:=d.symm.trans e;have b:atKey (q::qs) k=some q.2:=by simp[atKey,UU,c]
   rw[mJ e,b];exact i
  ·have c:¬ q.1=k:=λz=>e (d.trans z);have b:atKey (q::qs) k=atKey qs k:=by simp[atKey,UU,c]
   rw[mI e,b];exact g
theorem KT.repl(r:KT H c g)(k:List Key)(i:RelV y u) :
  KT H (c.map λd=>if d.1=k then (d.1,y)else d) (g.map (putAt k u)):=by
 induction r with
 |nil=>exact .nil
 | @cons p q m qs h t j =>
  rw[T9,T9];refine .cons ?_ j;obtain⟨a,f,l⟩:=h;unfold putAt;by_cases e:p.1=k
  ·rw[TY e,TY (a.symm.trans e)];exact⟨a,f,i⟩
  ·rw[TQ e,TQ (λz=>e (a.trans z))];exact⟨a,f,l⟩
theorem KT.put(r:KT H a c)(k:List Key)(f:H b=some (.tup (k.map kV)))(d:RelV y u) :
  KT H (dw a k y) (storedH c k b u):=by
 have e:(a.any λg=>decide (g.1=k))=(atKey c k).isSome:=by rw[mH,(r.val k).YV,Option.isSome_map]
 unfold dw storedH;rw[e];by_cases q:(atKey c k).isSome=true
 ·rw[TY q,TY q];exact r.repl k d
 ·rw[TQ q,TQ q];exact Paired.snoc r ⟨rfl,f,d⟩
theorem KT.keeps(r:KT H a d)(e:∀b c,H b=some (.tup c)->f b=some (.tup c)):KT f a d :=
 Paired.mapP r λ_ _ z=>⟨z.1,e _ _ z.2.1,z.2.2⟩
section
theorem EE(ok:X4 P w H h)(e:Rd H a u):W7 P w H h a u:=e.ok ok
theorem qZ(ok:X4 P w H h)(e:Rd H a (.dK c)):c.length<=sizeLine/\(a==sysModules)=false/\∃d,KV c d/\h.DictOf (aZ P w) a d :=
 show W7 P w H h a (.dK c) from EE ok e
theorem Ec(ok:X4 P w H h)(e:H a=some (.dK c)):c.length<=sizeLine/\(a==sysModules)=false/\∃d,KV c d/\h.DictOf (aZ P w) a d:=qZ ok (.inl e)
theorem pj{c:List Key}(ok:X4 P w H h)(e:H a=some (.tup (c.map kV))):(tupleKind (aZ P w)).is h c a:=by
 obtain⟨_,d,r,o,f,g,n,i⟩:=(show W7 P w H h a (.tup (c.map kV)) from ok a _ e)
 exact⟨o,d.toArray,n,f,g,i,by simpa using nR r⟩
theorem vU(ok:X4 P w H h)(e:Rd H a (.dT c)):c.length<=sizeLine/\(a==sysModules)=false /\
  ∃d,KT H c d/\h.DictOfH (tupleKind (aZ P w)) a d:=by
 obtain⟨z,y,d,r,o,g,i,j,n,u,v,h5⟩:=(show W7 P w H h a (.dT c) from EE ok e)
 refine⟨z,y,d,r,o,g,i,j,n,u,v,λx hx=>?_,h5⟩
 have all:∀{l:List (List Key×V)}{m:List (List Key×Addr×Value)},KT H l m->∀x∈m,(tupleKind (aZ P w)).is h x.1 x.2.1:=by
  intro l m q
  induction q with
  |nil=>intro x hx;exact nomatch hx
  | @cons p q E qs f t B =>
   intro x hx;rcases T3.mp hx with e|hx
   ·subst e;exact pj ok (by rw[<- f.1];exact f.2.1)
   ·exact B x hx
 exact all r x hx
theorem Jp(ok:X4 P w H h)(e:H a=some (.dT c)):c.length<=sizeLine/\(a==sysModules)=false /\
  ∃d,KT H c d/\h.DictOfH (tupleKind (aZ P w)) a d:=vU ok (.inl e)
end
noncomputable def Zv(H:Hp)(a:Addr)(y:V)(r:Option V):Prop :=
 (∃c k,Rd H a (.dK c)/\y=kV k/\r=fN c k)\/∃c k b,Rd H a (.dT c)/\y=.ref b/\H b=some (.tup (k.map kV))/\r=fN c k
noncomputable def DPut(H:Hp)(a:Addr)(y v:V)(d:Hp):Prop :=
 (∃c k,H a=some (.dK c)/\y=kV k/\c.length<sizeLine/\d=upd H a (.dK (dw c k v))) \/
 ∃c k b,H a=some (.dT c)/\y=.ref b/\H b=some (.tup (k.map kV))/\c.length<sizeLine/\d=upd H a (.dT (dw c k v))
theorem Zv.k{H:Hp}{c:List (Key×V)}{k:Key}(e:H a=some (.dK c)):Zv H a (kV k) (fN c k):=.inl ⟨c,k,.inl e,rfl,rfl⟩
theorem DPut.k{H:Hp}{c:List (Key×V)}{k:Key}(e:H a=some (.dK c))(hl:c.length<sizeLine):DPut H a (kV k) v (upd H a (.dK (dw c k v))):=.inl ⟨c,k,e,rfl,hl,rfl⟩
section
theorem Inv.big{X:Cx}{a:List (Addr×Obj)}{c:St}{H:Hp}{s:Shared}(I:Inv X a c H s):sysModules<s.heap.objs.size:=by have h:mainGlobals<s.heap.objs.size:=(I.mod.glob.keeps I.bk).lt;exact UR (by decide) h
theorem xr{X:Cx}{c:List (Addr×Obj)}{t:St}{H:Hp}{s:Shared}{a:Addr}{y v:V}{u:Value}{A:Around}{E:Value->Shared->Prop}{Q:Value->Shared->Prop}(J:A.units+1<cLine)(I:Inv X c t H s)(g:Zv H a y (some v))(B:RelV y u)(h:∀i G,Inv X c t H G->RelV v i->Q i G) :
  wpAny (model X.prog X.w) A (getItem (.ref a) u) Q E s:=by
 rcases g with⟨j,k,e,m,l⟩|⟨j,k,b,e,m,M,l⟩
 ·subst m;obtain⟨z,N,O,d,n⟩:=qZ I.hok e;obtain⟨i,q,f⟩:=YB.some_of (v:=v) (o:=valueAt O k) (by rw[l];exact d.val k);exact wpAny_getItem_of (rO B) n.mapOf q (h i _ (I.tok _) f)
 ·subst m;cases (show u=Value.ref b from B);obtain⟨z,N,T,d,n⟩:=vU I.hok e;obtain⟨i,q,f⟩:=YB.some_of (v:=v) (o:=(atKey T k).map (·.2)) (by rw[l];exact d.val k);obtain⟨p,U,r⟩:=Option.map_eq_some_iff.mp q;refine wpAny_getItem_heap (WC J) (pj I.hok M) n U ?_;rw[r];exact h i _ (I.tok _) f
theorem B0{X:Cx}{c:List (Addr×Obj)}{n:St}{H:Hp}{s:Shared}{a:Addr}{y:V}{u:Value}{o:Option V}{A:Around}{E:Value->Shared->Prop}{Q:Value->Shared->Prop}(t:A.units+1<cLine)(I:Inv X c n H s)(g:Zv H a y o)(p:RelV y u)(h:∀r,Inv X c n H r->Q (.bool (!o.isSome)) r) :
  wpAny (model X.prog X.w) A (compareOp .NotIn u (.ref a)) Q E s:=by
 rcases g with⟨f,k,e,i,l⟩|⟨f,k,b,e,i,v,l⟩
 ·subst i;obtain⟨z,j,B,d,m⟩:=qZ I.hok e;refine wpAny_notIn_of (rO p) j m.mapOf ?_;rw[<- (d.val k).YV,<- l];exact h _ (I.tok _)
 ·subst i;cases (show u=Value.ref b from p);obtain⟨z,j,G,d,m⟩:=vU I.hok e;refine wpAny_notIn_heap (WC t) (pj I.hok v) j m ?_;have q:=(d.val k).YV;rw[Option.isSome_map]at q;rw[<- q,<- l];exact h _ (I.tok _)
theorem oV{X:Cx}{c:List (Addr×Obj)}{f:St}{H:Hp}{s:Shared}{a:Addr}{d:Heap}{g:Nat}{ob:HO}(I:Inv X c f H s)(i:Mut (H a))(hs:Heap.SameBut a s.heap d)(j:∃q,d.get? a=some q)(new:W7 X.prog X.w (upd H a ob) d a ob) :
  Inv X c f (upd H a ob) {s with heap:=d,toks:=g} :=
 I.write (x:=a) (e:=a) i (.inl rfl) (λb q l z=>(hs.2 b l).trans z) j new
theorem zw{e:Heap}{c:List (Key×V)}(z:c.length<=sizeLine)(g:(a==sysModules)=false)(d:KV c f)(i:e.DictOf (aZ P w) a f) :
  W7 P w j e a (.dK c):=⟨z,g,f,d,i⟩
theorem xu{X:Cx}{j:List (Addr×Obj)}{J:St}{H:Hp}{s:Shared}{a:Addr}{y v:V}{u r:Value}{A:Around}{E:Value->Shared->Prop}{M:Hp}{Q:Unit->Shared->Prop}(hu:A.units+1<cLine)(I:Inv X j J H s)(g:DPut H a y v M)(N:RelV y u)(O:RelV v r)(h:∀T,Inv X j J M T->Q () T) :
  wpAny (model X.prog X.w) A (setItem (.ref a) u r) Q E s:=by
 rcases g with⟨d,k,e,n,l,p⟩|⟨d,k,b,e,n,U,l,p⟩
 ·subst n p;obtain⟨z,t,vs,f,B⟩:=Ec I.hok e;have G:vs.length<=sizeLine:=by rw[<- f.length];exact z
  have hl:(dw d k v).length<=sizeLine:=by have:=fh d k v;lia
  refine wpAny_setItem_pairs (hsz:=G) (rO N) B λY i hs=>h _ ?_;have he:∃q,Y.get? a=some q:=let⟨q,_,_,m,_⟩:=i;⟨q,m⟩;exact oV I (by rw[e];exact True.intro) hs he (zw hl t (f.put k O) i)
 ·subst n p;cases (show u=Value.ref b from N);obtain⟨z,t,xs,f,B⟩:=Jp I.hok e;have G:xs.length<=sizeLine:=by rw[<- WH f];exact z
  have hl:(dw d k v).length<=sizeLine:=by have:=fh d k v;lia
  refine wpAny_setItem_heap (hsz:=G) (WC hu) (pj I.hok U) B λY i hs=>h _ ?_;obtain⟨q,es,ep,m,h2,h3,h4,_,h5⟩:=i;refine oV I (by rw[e];exact True.intro) hs ⟨q,m⟩ ⟨hl,t,_,(f.put k U O).keeps λc ys ec=>?_,q,es,ep,m,h2,h3,h4,h5⟩;rw[ag (nV ec e (λz=>nomatch z))];exact ec
theorem Jm{X:Cx}{c:List (Addr×Obj)}{g:St}{H:Hp}{s:Shared}{a:Addr}{d:List (Key×V)}{A:Around}{E:Value->Shared->Prop}{Q:Value->Shared->Prop}(I:Inv X c g H s)(e:Rd H a (.dK d))(h:∀t i,Inv X c g H i->Q (.int d.length t) i):wpAny (model X.prog X.w) A (call (.builtin "len") [.ref a]) Q E s:=by obtain⟨z,j,m,f,l⟩:=qZ I.hok e;refine call_len_dict j l (by rw[<- f.length];rw[Ul]at z;lia) ?_;rw[<- f.length];exact h _ _ (I.tok _)
end
noncomputable def ER(i:Expr):Prop:=∀a c,subscripted i false a c=operate [a,c] (getItem a c)
theorem DR{A:Around}{id:String}
  (hl:typeLookup (.type T) "__getitem__"=pure (some (.builtin id))) (hs:ER a)
  (h:wpAny (model prog w) A (eval d env) (λo f=>wpAny (model prog w) A (eval a env) (λi c=>c.TypeIs o T/\wpAny (model prog w) A (getItem o i) Q E c) E f) E s) :
  wpAny (model prog w) A (eval (.Subscript d a n) env) Q E s:=by
 refine Subscript_ (Up h (λo f j=>Up j (λi c e=>?_) λ_ _ x=>x) λ_ _ x=>x);obtain⟨m,e⟩:=e;unfold subscriptTail;refine Ar ?_;rw[getitemInPython_of_ne m.not_modules];refine Ar (wpAny_specialOf m hl ?_)
 have fin:wpAny (model prog w) A (subscripted a false o i) (λr g=>wpAny (model prog w) A (letTemporaryGo d o r >>= λ_=>pure r) Q E g) E c:=by rw[hs o i];exact wpAny_operating (Up e (λr g l=>Ar (wpAny_letTemporaryGo (RB l))) λ_ _ x=>x)
 first
  |exact RB (Ar fin)
  |exact Ar (RB (Ar fin))
  |exact Ar fin
theorem qX{X:Cx}{c:List (Addr×Obj)}{i:St}{H:Hp}{s:Shared}{a:Addr}{y:V}{o:Option V}(I:Inv X c i H s)(g:Zv H a y o):s.TypeIs (.ref a) "dict":=by
 rcases g with⟨d,k,e,_,_⟩|⟨d,k,b,e,_,_,_⟩
 ·obtain⟨_,_,j,_,f⟩:=qZ I.hok e;exact f.typeIs
 ·obtain⟨_,_,l,_,f⟩:=vU I.hok e;exact f.typeIs
noncomputable def Lo(e ty:TE):TE:=λc H Q=>e c H λx f=>ty c f λy d=>∃a v,x=.ref a/\Zv d a y (some v)/\Q v d
noncomputable def Ze(ty e:TE):TE:=λc H Q=>ty c H λy f=>e c f λx d=>∃a o,x=.ref a/\Zv d a y o/\Q (.bl (!o.isSome)) d
noncomputable def Lg(e ty f:TE):TS:=λD c H=>f c H λv g=>e c g λx i=>ty c i λy j=>∃a d,x=.ref a/\DPut j a y v d/\D.nx c d
section
theorem Dg{X:Cx}(j:X.A.units+1<cLine)(l:PE X o m)(n:PE X i ty)(hs:ER i):PE X (.Subscript o i p) (Lo m ty):=by intro c s e H Q I h;refine DR F.slot_dict_getitem.lookup hs (WY (l c s e H _ I h) λu q ⟨x,r,t,w,z⟩=>WY (n c q e r _ t z) λM N ⟨y,B,f,E,a,v,ex,g,G⟩=>?_);subst ex;obtain rfl:u=Value.ref a:=w;exact⟨qX f g,xr j f g E λO T J d=>⟨v,B,J,d,G⟩⟩
theorem yg{X:Cx}(e:X.A.units+1<cLine)(f:PE X i ty)(j:PE X o l):PC X .NotIn i o (Ze ty l):=by intro c s d H Q I h;refine WY (f c s d H _ I h) λG m ⟨y,n,p,q,r⟩=>WY (j c m d n _ p r) λu J ⟨x,t,v,w,a,z,ex,g,B⟩=>?_;subst ex;obtain rfl:u=Value.ref a:=w;exact B0 e v g q λM E=>⟨.bl (!z.isSome),t,E,rfl,B⟩
theorem Dr{X:Cx}{e:Pos}(l:X.A.units+1<cLine)(m:PE X o n)(p:PE X i ty)(q:PE X c t)(hs:swapsWith c (some (.Subscript o i f)) e.line X.env=pure false) :
  PS X (.Assign [.Subscript o i f] c e) (Lg n ty t):=by
 intro d s j H D I h;refine wpAny_Assign_Subscript (WY (q d s j H _ I h) λr w ⟨v,z,B,E,G⟩=>WY (m d w j z _ B G) λu J ⟨x,M,N,O,Q⟩=>WY (p d J j M _ N Q) λiv s3 ⟨y,H3,T,U,a,Y,ex,g,q3⟩=>?_) hs;subst ex;obtain rfl:u=Value.ref a:=O;exact xu l T g U E λs4 I4=>⟨j,Y,I4,q3⟩
end
theorem qY(h:Heap)(a:sysModules<h.objs.size):W7 P w H (h.push {cls:=.type "dict",data:=.dict #[]}) h.objs.size (.dK []) :=
 ⟨Uw _,UM.mpr (Ut (TV a)),[],.nil,Heap.DictOf.new h⟩
noncomputable def Ir:TE:=λ_ H Q=>∀p,H p=none->Q (.ref p) (upd H p (.dK []))
section
theorem AO:PE X (.Dict [] [] d) Ir:=λc s e H Q I h =>
 wpAny_Dict_empty ⟨.ref s.heap.objs.size,_,I.laid (a:=s.heap.objs.size) (o:=.dK []) (t':=s.toks) (λ_ _ q=>LD _ q) (TN _) (qY s.heap I.big),rfl,h _ (I.hok.fresh (TN _))⟩
end
noncomputable def qA:List (TE×TE)->St->Hp->(List (V×V)->Hp->Prop)->Prop
 |[],_,H,Q=>Q [] H
 | (tk,c)::r,a,H,Q=>tk a H λx d=>c a d λy e=>qA r a e λf g=>Q ((x,y)::f) g
noncomputable abbrev VV:List (V×V)->List (Value×Value)->Prop:=Paired λp q=>RelV p.1 q.1/\RelV p.2 q.2
noncomputable def PPs(X:Cx)(d:Pos)(keys:List (Option Expr))(a:List Expr)(e:List (TE×TE)):Prop :=
 ∀(c:List (Addr×Obj))(s:Shared)(f:St)(H:Hp)(Q:List (V×V)->Hp->Prop),Inv X c f H s->qA e f H Q ->
  wpAny (model X.prog X.w) X.A (evalPairs (pairTrees keys a X.env d)) (λj l=>∃g i,Inv X c f i l/\VV g j/\Q g i) X.xe s
theorem Dp:PPs X c [] [] []:=λa s d H Q I h=>pairTrees_nil_walk ⟨[],H,I,.nil,h⟩
theorem A0(hk:PE X k tk)(g:PE X v i)(j:PPs X c l m d) :
  PPs X c (some k::l) (v::m) ((tk,i)::d):=λa s e H Q I h =>
 pairTrees_cons_walk (WY (hk a s e H _ I h) λu n ⟨x,p,q,r,t⟩=>WY (g a n e p _ q t) λT w ⟨y,z,B,E,G⟩ =>
  WY (j a w e z _ B G) λU Y ⟨J,M,N,f,O⟩=>⟨(x,y)::J,M,N,.cons ⟨r,E⟩ f,O⟩)
noncomputable def fq(a more:List (Key×V)):List (Key×V):=more.foldl (λc d=>dw c d.1 d.2) a
theorem KV.merge:∀{more:List (Key×V)}{rs:List (Key×Value)}{a:List (Key×V)}{c:List (Key×Value)},KV more rs->KV a c->KV (fq a more) (merged c rs):=by
 intro more rs a c r;unfold KV at r
 induction r generalizing a c with
 |nil=>intro q;exact q
 | @cons p q g qs h t d =>
  intro f
  have e:KV (dw a p.1 p.2) (stored c q.1 q.2):=by have:=f.put p.1 h.2;rw[<- h.1];exact this
  exact d e
theorem gc:∀(more a:List (Key×V)),(fq a more).length<=a.length+more.length
 |[],a=>by show a.length<=a.length+0;lia
 |p::r,a=>by have c:=gc r (dw a p.1 p.2);have d:=fh a p.1 p.2;show(fq (dw a p.1 p.2) r).length<=_;rw[Us];lia
theorem kS:∀{d:List (Key×V)}{e:List (Value×Value)},VV (d.map λf=>(kV f.1,f.2)) e->∃rs,Carries (aZ P w) e rs/\KV d rs
 |[],_,r=>by rw[List.map_nil]at r;cases r;exact⟨[],True.intro,.nil⟩
 |p::d,_,r=>by
  rw[T9]at r
  cases r with
  | @cons a b as bs h t =>obtain⟨rs,c,q⟩:=kS (P:=P) (w:=w) t;obtain⟨i,g⟩:=b;exact⟨(p.1,g)::rs,⟨rO h.1,rfl,c⟩,.cons ⟨rfl,h.2⟩ q⟩
noncomputable def Lp(c:List (TE×TE)):TE:=λf H Q=>∀p,H p=none->qA c f (upd H p (.dK [])) λg d=>d p=some (.dK [])/\∃a:List (Key×V),g=a.map (λe=>(kV e.1,e.2))/\a.length<=15/\Q (.ref p) (upd d p (.dK (fq [] a)))
theorem Dh(h:PPs X l keys d m)(f:keys.all (·.isSome)=true)(hl:keys.length=d.length)(t:keys≠[])
  (n:keys.length<=15):PE X (.Dict keys d l) (Lp m):=by
 intro g s u H Q I q;have v:=I.hok.fresh (TN s.heap.objs.size);have y:=I.laid (a:=s.heap.objs.size) (o:=.dK []) (h':=s.heap.push {cls:=.type "dict",data:=.dict #[]}) (t':=s.toks) (λ_ _ q=>LD _ q) (TN _) (qY s.heap I.big);refine wpAny_Dict_walk (knd:=aZ X.prog X.w) f hl t n (WY (h g _ u _ _ y (q _ v)) λws s2 ⟨ps,H2,r,p,e,i,B,lk,E⟩=>?_);subst B;obtain⟨rs,c,rk⟩:=kS (P:=X.prog) (w:=X.w) p;obtain⟨z,G,J,M,N⟩:=Ec r.hok e;cases M;refine⟨rs,c,N,λO j hs=>⟨.ref s.heap.objs.size,_,?_,rfl,E⟩⟩
 have T:(fq [] i).length<=sizeLine:=by have U:=gc i [];rw[List.length_nil]at U;rw[Ul];lia
 have Y:∃q,O.get? s.heap.objs.size=some q:=let⟨q,_,_,hq,_⟩:=j;⟨q,hq⟩;exact oV r (by rw[e];exact True.intro) hs Y (zw T G (rk.merge .nil) j)
structure M2(X:Cx)(o:Expr)(m:Str)(apos:Pos)(e f:Expr)(cpos:Pos):Prop where
 base:attributeBase o m X.env (eval o X.env)=eval o X.env
 few:((backTo cpos (starEach [e,f] X.env)).all (λx=>!x.1)&&(backToKw cpos (keywordEach [] X.env)).all (λx=>x.1.isSome)
  && decide (([e,f]:List Expr).length+([]:List Keyword).length+(if ([]:List Keyword).isEmpty then 0 else 1)<30))=true
 line:(apos.endLine==cpos.line)=true
 trees:backTo cpos (starEach [e,f] X.env)=[(false,eval e X.env),(false,eval f X.env)]
section
end
end L2
namespace Att
open PySem PySem.W PySem.Calls PyProof.Rows
theorem ku:∀(c:List Int)(d:List Value),WellAll P h d (c.map WData.int)->IntsAre d c:=by
 intro c
 induction c with
 |nil =>intro d w;rw[List.map_nil]at w;cases w;exact .nil
 |cons n c e =>
  intro d w;rw[T9]at w
  cases w with
  |cons a b =>cases a;exact .cons _ _ (e _ b)
theorem yE{l:OpenLaw}(v:l.most=some n)
  (e:l.row.toRowW.claim.pre args=true) (m:WellAll P h f args) :
  ∃a t c,f=[Value.ref a]/\args=[WData.list (c.map WData.int)]/\h.get? a=some {cls:=.type "list",data:=.seq t.toArray}/\IntsAre t c/\c.length<=n:=by
 have p:WShape.hasAll [] args [.list .int]=true:=(pre_splitW e).1;have u:l.pre.holds [] {args:=args}=true:=(pre_splitW e).2;obtain⟨d,r,rfl,w,y⟩:=hasAllW_cons p;obtain rfl:=hasAllW_nil y;obtain⟨I,rfl,z⟩:=hasW_list w;obtain⟨c,rfl⟩:=items_int z
 have g:c.length<=n:=by
  unfold OpenLaw.pre at u
  have j:(WTm.not (.lt (.lit (.int (n:Int))) (.len (.arg 0)))).holds [] {args:=[.list (c.map .int)]}=true:=by have j:=(holds_andW u).1;rw[v]at j;exact j
  have h5:=condW_of j (w_not (w_lt w_lit (w_len_list (w_arg rfl))));rw[T8]at h5;refine Nat.le_of_not_lt λq=>?_;have B:(n:Int)<((c.length:Nat):Int):=by lia
  first
   | (rw[U4 B]at h5;exact absurd h5 (by decide))
   | (simp at h5;lia)
 cases m with
 |cons E G =>
  cases G
  cases E with
  |list H i=>exact⟨_,_,c,rfl,rfl,H,ku c _ i,g⟩
theorem ym(l:OpenLaw)(args:List WData):l.row.toRowW.claim.post args (.bool true) args=true :=
 postW_of (r:=l.row.toRowW) (X:=(true==true))
  (show WShape.has [] (.bool true) .bool=true by first|rfl|decide|simp[WShape.has,WShape.arms,WShape.armsAll])
  (show(WTm.eq .res (.lit (.bool true))).value [] {args:=args,res:=some (.bool true),after:=args}=some (.bool (true==true)) from w_eq_bool (w_res rfl) w_lit) rfl
theorem ZZ{l:OpenLaw}{d:DefRec}
  (N:l.most=some n) (v:d.params.defaults=[])
  (call:∀(w:World)(s₀ c:Shared)(mg y:Str->Option Value)(i:Addr)(o:Obj)(z cd doc:Value)(a:Addr)(g:List Value)(t:List Int),
   Ground q loose [] O w s₀ mg y c.heap->Q w c.heap ->
   c.heap.get? i=some o->o.data=.func (docDef d.name d.params d.body d.scope z cd doc)->c.heap.CodeRec cd d.name->mg d.name=some (.ref i) ->
   c.heap.get? a=some {cls:=.type "list",data:=.seq g.toArray}->IntsAre g t->t.length<=n->c.gens=#[] ->
   codeAny (model l.prog w) callerA (.call (.ref i) ⟨[.ref a],[]⟩) (λr u=>r=.ok (.ret (.bool true))/\OldK c.heap u.heap/\u.os=c.os/\AllBare u.gens) c) :
  WalkO q loose O Q l.row.toRowW d [] (λf g=>PySem.call f g):=by
 intro w s₀ c mg y G Y i o z cd doc T kV U hd B I E hg args J as j M hrd H hlo;obtain rfl:T=.none:=Dflts.none I v;obtain rfl:kV=.none:=Dflts.noKw I;obtain⟨a,g,t,rfl,rfl,m,e,p⟩:=yE N j H;refine enter_call (UC (call w s₀ c mg y i o z cd doc a g t G Y U (fd_plain hd) B E m e p hg) λr u hq=>?_);obtain⟨rfl,h2,h3,h4⟩:=hq;exact⟨.inl ⟨.bool true,.bool true,[],rfl,λ_=>rfl,.bool true,ym l _,λ_=>⟨List.Pairwise.nil,λ_ hm=>(nomatch hm)⟩⟩,h2,h3,h4⟩
section
end
end Att
namespace L2
open PySem PySem.Spec PyProof.Rows
theorem oO:∀{a:List Value}{c:List Int},IntsAre a c->Vals (c.map V.int) a
 |_,_,.nil=>.nil
 |_,_,.cons n t h=>.cons ⟨t,rfl⟩ (oO h)
noncomputable def BQ(H:Hp):Prop:=∀b,H b=none\/∃o a,H b=some (.frz o (.lst a))
variable{K:W.Frag}
theorem Ai{c:Shared}{p:List Value}
  (KX:K.In c.heap) (y:c.heap.Ns mainGlobals mg) (g:c.heap.Ns builtinsNs mb) (U:∀x:Str,x≠"__name__"->mb x=bootBuiltins x) (B:c.heap.NoLimit) (hg:c.gens=#[])
  (Q:c.heap.get? a=some {cls:=.type "list",data:=.seq p.toArray}) (hi:IntsAre p T) (hl:T.length<=sizeLine) (hr:W2 k callerA)
  (F:∀base:Heap,K.In base->base.Ns mainGlobals mg->WV P w K mg base CX k fa fd [x] sp) (t:∀(s:Shared)(u:Value),BindsTo s fd ⟨[u],[]⟩ [(x,u)])
  (Y:∀H:Hp,BQ H->Xk K H a (T.map V.int)->sp [.ref a] H (λv _=>v=.bl true) λ_ _ _=>False)
  (hCX:∀H e i,CX [] H c (λ_ _ _=>False) e i->False) :
  codeAny (model P w) callerA (.call (.ref fa) ⟨[.ref a],[]⟩) (λr i=>r=.ok (.ret (.bool true))/\OldK c.heap i.heap/\i.os=c.os/\AllBare i.gens) c:=by
 have rv:=oO hi;have E:=hi.length
 have l:∀H:Hp,BQ H->Xk K H a (T.map V.int)->X4 P w H c.heap->(∀b,H b≠none->b=a)->(H a≠none->K.lookup a=none) ->
   codeAny (model P w) callerA (.call (.ref fa) ⟨[.ref a],[]⟩) (λr i=>r=.ok (.ret (.bool true))/\OldK c.heap i.heap/\i.os=c.os/\AllBare i.gens) c:=by
  intro H hO hS G hA hK;have f:∀{b:Addr}{o:Obj},c.heap.get? b=some o->H b=none->(pe c.heap H).get? b=some o:=λe n=>zL e n
  have noA:∀{b:Addr}{o:Obj}{I:Array DictEntry}{J:Nat},c.heap.get? b=some o->o.data=.dict I J->H b=none:=λ{b o I J} e d=>by
   cases q:H b with
   |none=>rfl
   |some u =>have e':b=a:=hA b (by rw[q];simp);subst e';rw[Q]at e;cases e;have d':Data.seq p.toArray _=Data.dict I J:=d;cases d'
  have j:∀{b:Addr}{m:Str->Option Value},c.heap.Ns b m->(pe c.heap H).Ns b m:=λ{b m} ⟨o,I,J,e,d,r⟩=>⟨o,I,J,f e (noA e d),d,r⟩
  have M:K.In (pe c.heap H):=λb o e=>f (KX b o e) (by
   cases q:H b with
   |none=>rfl
   |some u =>have e':b=a:=hA b (by rw[q];simp);subst e';rw[hK (by rw[q];simp)]at e;cases e)
  have hM:Mod K mg (pe c.heap H):=⟨M,j y,⟨mb,j g,U⟩,let⟨mc,h1,h2⟩:=B;⟨mc,j h1,h2⟩⟩
  have e0:Y7 P w K mg (pe c.heap H) callerA [] c H:=⟨rfl,hM,λb o e=>C0 e,Vr (xO _ _),trivial,λb g=>absurd (show b∈([]:List Addr) from g) (by simp),G,.of_eq hg⟩
  refine UC ((F _ M (j y)).run callerA [] c H ⟨[.ref a],[]⟩ [.ref a] [.ref a] _ _ hr e0 (t c (.ref a)) (.cons rfl .nil) (Y H hO hS)) λr i h=>?_
  cases r with
  |error e=>exact(hCX H e i h).elim
  |ok fl =>
   cases fl with
   |next=>exact False.elim h
   |brk=>exact False.elim h
   |cont=>exact False.elim h
   |ret u =>
    obtain⟨v,H',os,N,un,ZK,r',q⟩:=h;have q':v=.bl true:=q;subst q';obtain rfl:u=Value.bool true:=r';refine⟨rfl,OldK.of_keep λb o e=>?_,os,N⟩
    cases q:H b with
    |none=>exact un.keep b o e q (by intro z;exact absurd (show b∈([]:List Addr) from z) (by simp)) (by simp)
    |some u =>
     rcases hO b with z|⟨ob,xs,z⟩
     ·rw[q]at z;cases z
     ·have z2:=un.Y5 b ob _ z;obtain⟨e1,_⟩:=G b _ z;obtain⟨e2,_⟩:=ZK b _ z2;rw[e]at e1;cases e1;exact e2
 cases hk:K.lookup a with
 |some o =>have e:=KX a o hk;rw[Q]at e;cases e;refine l (λ_=>none) (λ_=>.inl rfl) (.inr ⟨_,p.toArray,_,hk,rfl,rfl,rfl,by rw[TH,E];exact hl,by simpa using rv⟩) (λb u z=>by have O:(none:Option HO)=some u:=z;cases O) (λb z=>absurd rfl z) λz=>absurd rfl z
 |none =>
  refine l (λb=>if b=a then some (.frz {cls:=.type "list",data:=.seq p.toArray} (.lst (T.map V.int)))else none) (λb=>?_) (.inl (.inr ⟨{cls:=.type "list",data:=.seq p.toArray},TY rfl⟩)) (λb u z=>?_) (λb z=>?_) λ_=>hk
  ·by_cases g:b=a
   ·exact .inr ⟨_,_,TY g⟩
   ·exact .inl (TQ g)
  ·by_cases g:b=a
   ·have O:=(TY g).symm.trans z;cases O;subst g;exact⟨Q,by rw[T8];exact hl,p,_,rv,Q⟩
   ·have O:=(TQ g).symm.trans z;cases O
  ·by_cases g:b=a
   ·exact g
   ·exact absurd (TQ g) z
theorem walk_of{l:W.OpenLaw}{loose:List Str}{M:World->Heap->Prop}{d:DefRec}{K:Params->W.Frag}{CX:World->CXT}{sp:World->Sp}
  (Q:l.most=some n) (t:n<=sizeLine) (y:d.params.defaults=[]) (U:W2 k callerA)
  (hY:∀(w:World)(h:Heap),M w h->(K w.params).In h)
  (F:∀(w:World)(mg:Str->Option Value)(p:Addr)(h:Heap),(K w.params).In h->h.Ns mainGlobals mg->mg d.name=some (.ref p) ->
   ∃z:FuncData,(∀(s:Shared)(u:Value),BindsTo s z ⟨[u],[]⟩ [(x,u)]) /\
    ∀base:Heap,(K w.params).In base->base.Ns mainGlobals mg->WV l.prog w (K w.params) mg base (CX w) k p z [x] (sp w))
  (B:∀(w:World)(H:Hp)(a:Addr)(r:List Int),r.length<=n->BQ H->Xk (K w.params) H a (r.map V.int)->sp w [.ref a] H (λv _=>v=.bl true) λ_ _ _=>False)
  (E:∀(w:World)(H:Hp)(s:Shared)(e:Value)(I:Shared),CX w [] H s (λ_ _ _=>False) e I->False) :
  W.WalkO q loose XP M l.row.toRowW d [] (λf N=>PySem.call f N):=by
 refine Att.ZZ Q y λw s₀ j mg mb p o pm cd doc a N r G Y ho hd hcd J m i c hg=>?_;have O:=hY w _ Y;obtain⟨z,hb,hF⟩:=F w mg p _ O G.T.g J;exact Ai O G.T.g G.T.b G.T.builtins G.T.nolimit hg m i (Ub c t) U hF hb (λH hO hS=>B w H a r c hO hS) λH e I=>E w H j e I
noncomputable def b9(s:Stmt):Arguments:=match s with
 | .FunctionDef _ a _ _ _ _ _ _ _ _=>a
 |_=>{posonlyargs:=[],args:=[],vararg:=none,kwonlyargs:=[],kw_defaults:=[],kwarg:=none,defaults:=[]}
noncomputable def aV(s:Stmt):List Stmt:=match s with
 | .FunctionDef _ _ b _ _ _ _ _ _ _=>b
 |_=>[]
noncomputable def aa(s:Stmt):Scope:=match s with
 | .FunctionDef _ _ _ _ _ _ a _ _ _=>a
 |_=>{kind:=.function,names:=[],isGenerator:=false,isCoroutine:=false}
noncomputable abbrev CX0:CXT:=λ_ _ _ _ _ _=>False
noncomputable abbrev E0:XK:=λ_ _ _=>False
theorem Ky:Passes CX0 X E0:=λ_ _ _ _ _ _ _ h=>h.elim
structure YH(K:W.Frag)(x qual:Str)(st:Stmt)(f:Addr)(fd:FuncData):Prop where
 ex:∃(oc:Value)(od:Option Addr)(kV doc pm:Value)(an:Option Addr)(cdv ct:Value)(osl:Array (Option Value)),
  fd=W.fnOf x qual (b9 st) (aV st) (aa st) .none kV doc pm an cdv ct/\K.lookup f=some ⟨oc,od,.func fd,osl⟩/\W.codeIn K cdv qual=true
 kp:W.keepIn K (.ref f)=true
section
variable{K:W.Frag}
theorem YH.ok{P:Program}{st:Stmt}(F:YH K x c st f m)(S:WT N j (aa st))(len:∀d H Q E,l d H Q E->d.length=j.length)
  (e:∀(a:Value)(A:Around)(outer:List Env)(s:Shared)(H:Hp)(d:List V)(Q:VK)(E:XK),W2 k (A.deeper (envOfC c (aa st) s.heap.objs.size f a))->l d H Q E ->
   ∃t,XH (bG CX0 P w K mg base N c (aa st) f a A outer s H E).ZW (aV st) t/\t {nx:=λ_ n=>Q .WX n,rt:=Q} (start N d) H):WV P w K mg base CX0 (k+1) f m j l:=by
 obtain⟨oc,u,kV,doc,v,y,a,ct,p,rfl,lk,g⟩:=F.ex;refine zE lk g S len λA outer s H d Q E r i=>?_;obtain⟨t,h,q⟩:=e a A outer s H d Q E r i;exact⟨t,h.ZW,q⟩
theorem YH.binds{st:Stmt}{d:List Str}(F:YH K x c st f j)
  (h:∀(kV doc e:Value)(g:Option Addr)(a ct:Value)(i:List Value),i.length=d.length->bindArgs (W.fnOf x c (b9 st) (aV st) (aa st) .none kV doc e g a ct) ⟨i,[]⟩=pure (d.zip i)):Binds K j d []:=by
 obtain⟨oc,n,kV,doc,e,g,a,ct,l,rfl,lk,m⟩:=F.ex;exact .all (h kV doc e g a ct)
theorem fun_mk{st:Stmt}{kV doc:Value}(l:K.lookup f=some ⟨oc,j,.func (W.fnOf x a (b9 st) (aV st) (aa st) .none kV doc g i d ct),e⟩)
  (c:W.codeIn K d a=true) (k:W.keepIn K (.ref f)=true):YH K x a st f (W.fnOf x a (b9 st) (aV st) (aa st) .none kV doc g i d ct):=⟨⟨oc,j,kV,doc,g,i,d,ct,e,rfl,l,c⟩,k⟩
end
theorem zN(a:W2 k A):A.units+1<cLine:=WD (Nat.add_le_add_left (by decide:1<=64) _) a.units
theorem oI(h:n<=1000):n<sizeLine:=WD h (by decide)
section
theorem pv{X:Cx}(i:Nat)(c:X.N[i]?=some x:=by rfl)(d:Vis X.env.scope x:=by first|exact Or.inl rfl|exact Or.inr (Or.inl rfl)|exact Or.inr (Or.inr rfl))(e:(x==("__debug__":Str))=false:=by decide)
  (a:(x==("__classdict__":Str))=false:=by decide):PE X (.Name x f) (cB i):=AU c d e a
theorem xc:bo X (.builtin "len") (λd H Q=>∃a c,d=[V.ref a]/\H a=some (.dK c)/\Q (.int c.length) H):=by intro e s j H d l Q I r h;obtain⟨a,c,rfl,f,q⟩:=h;obtain⟨u,rfl,g⟩:=bq r;cases g;exact Jm I (.inl f) λt m i=>⟨.int c.length,H,i,⟨t,rfl⟩,q⟩
end
theorem Cd{A:Prop}[Decidable c](a:c->A)(d:¬ c->B):if c then A else B:=by
 by_cases h:c
 ·rw[TY h];exact a h
 ·rw[TQ h];exact d h
noncomputable def W3(H a:Hp):Prop:=∀b o,H b=some o->a b=some o
theorem W3.refl(H:Hp):W3 H H:=λ_ _ h=>h
theorem W3.trans(a:W3 H d)(b:W3 d e):W3 H e:=λc o h=>b c o (a c o h)
theorem W3.free(e:W3 H a)(h:a l=Option.none):H l=Option.none:=by
 cases q:H l with
 |none=>rfl
 |some o =>rw[e l o q]at h;cases h
theorem W3.seq(e:W3 H c)(h:Xk K H a d):Xk K c a d:=by
 rcases h with(h|⟨o,h⟩)|h
 ·exact .inl (.inl (e _ _ h))
 ·exact .inl (.inr ⟨o,e _ _ h⟩)
 ·exact .inr h
section
variable{κ:Type}[DecidableEq κ]
end
noncomputable def rk(env:Env)(x:Str)(k:NameKind):NameKind :=
 if (k==NameKind.free&&env.scope.kind==.function&&env.kindOf x==some .cell)=true then .cell else k
theorem iF(d:Scope)(env:Env)(x:Str):(relabel d env).names.lookup x=(d.names.lookup x).map (rk env x):=by
 have all:∀l:List (Str×NameKind),(l.map λ(n,k)=>if (k==NameKind.free&&env.scope.kind==.function&&env.kindOf n==some .cell)then (n,NameKind.cell)else (n,k)).lookup x=(l.lookup x).map (rk env x):=by
  intro l
  induction l with
  |nil=>rfl
  |cons p r f =>
   obtain⟨n,k⟩:=p;rw[T9]
   cases a:x==n with
   |true =>
    have e:x=n:=by simpa using a
    subst e;by_cases c:(k==NameKind.free&&env.scope.kind==.function&&env.kindOf x==some .cell)=true
    ·simp[Uh,rk,c]
    ·simp[Uh,rk,c]
   |false =>
    have e1:((n,k)::r).lookup x=r.lookup x:=by rw[Uh,a]
    rw[e1,<- f];by_cases c:(k==NameKind.free&&env.scope.kind==.function&&env.kindOf n==some .cell)=true
    ·show List.lookup x ((if (k==NameKind.free&&env.scope.kind==.function&&env.kindOf n==some .cell)=true then (n,NameKind.cell)else (n,k))::_)=_;rw[TY c,Uh,a]
    ·show List.lookup x ((if (k==NameKind.free&&env.scope.kind==.function&&env.kindOf n==some .cell)=true then (n,NameKind.cell)else (n,k))::_)=_;rw[TQ c,Uh,a]
 exact all d.names
theorem wN:rk env x .free=.cell\/rk env x .free=.free:=by
 unfold rk;split
 ·exact .inl rfl
 ·exact .inr rfl
theorem Bj(h:k≠.free):rk env x k=k:=by
 unfold rk;rw[TQ];intro c
 have:(k==NameKind.free)=true:=by
  cases q:(k==NameKind.free)with
  |true=>rfl
  |false=>rw[q]at c;simp at c
 exact h (by simpa using this)
noncomputable def Fo:Option NameKind->Bool
 |some .free=>true
 |_=>false
noncomputable def Fm:Option NameKind->Bool
 |some .free=>true
 |some .cell=>true
 |_=>false
noncomputable def Fp:Option NameKind->Bool
 |some .local=>true
 |_=>false
theorem wa(h:Fo o=true):o=some .free:=by
 cases o with
 |none=>cases h
 |some k=>cases k<;>first|rfl|cases h
theorem v9(h:Fm o=true):o=some .cell\/o=some .free:=by
 cases o with
 |none=>cases h
 |some k=>cases k<;>first|exact .inl rfl|exact .inr rfl|cases h
theorem wb(h:Fp o=true):o=some .local:=by
 cases o with
 |none=>cases h
 |some k=>cases k<;>first|rfl|cases h
noncomputable def bO(N:List Str)(ok:Str->Option NameKind)(names:List (Str×NameKind))(a:List Str)(fr:List Nat)(c:List Str):Bool :=
 decide (c=a++fr.map λj=>N.getD j "")&&(fr.all λj=>decide (j<N.length)&&Fo (names.lookup (N.getD j ""))) &&
  names.all λp=>match p.2 with
   | .free=>Fm (ok p.1)
   | .cell=>false
   | .local=>Fp (names.lookup p.1)
   |_=>true
structure Blk(N:List Str)(ok:Str->Option NameKind)(names:List (Str×NameKind))(own:List Str)(fr:List Nat)(N':List Str):Prop where
 eN:N'=own++fr.map λj=>N.getD j ""
 fr:∀j∈fr,j<N.length/\names.lookup (N.getD j "")=some .free
 free:∀p∈names,p.2=.free->ok p.1=some .cell\/ok p.1=some .free
 cell:∀p∈names,p.2≠.cell
 loc:∀p∈names,p.2=.local->names.lookup p.1=some .local
theorem tQ(h:bO N ok names d fr f=true):Blk N ok names d fr f:=by
 unfold bO at h;rw[Tz,Tz]at h;obtain⟨⟨g,i⟩,l⟩:=h;have a:=U3.mp l;refine⟨Ue g,λj m=>?_,λp c e=>?_,λp c e=>?_,λp c e=>?_⟩
 ·have q:=U3.mp i j m;rw[Tz]at q;exact⟨Ue q.1,wa q.2⟩
 ·have q:=a p c;rw[e]at q;exact v9 q
 ·have q:=a p c;rw[e]at q;cases q
 ·have q:=a p c;rw[e]at q;exact wb q
noncomputable def Zw(a:List Str)(fr:List Nat)(c:St):St:=a.map (λ_=>none)++fr.map λj=>(c[j]?).getD none
theorem BZ(i:Scope)(env:Env)(h:∀p∈i.names,p.2=.free->∃c,env.cells.lookup p.1=some c) :
  ∃cl,closureFor i env=pure cl/\(∀x c,cl.lookup x=some c->env.cells.lookup x=some c)/\∀p∈i.names,p.2=.free->cl.lookup p.1=env.cells.lookup p.1:=by
 unfold closureFor
 have all:∀(l:List (Str×NameKind))(d:List (Str×Addr)),(∀p∈l,p.2=.free->∃c,env.cells.lookup p.1=some c)->(∀x c,d.lookup x=some c->env.cells.lookup x=some c) ->
   ∃cl,(forIn l d λ(p:Str×NameKind)(r:List (Str×Addr))=>(match p with
    | (name,kind)=>if (kind==NameKind.free)=true then (do let a <- cellOf env name;pure (ForInStep.yield ((name,a)::r)))else pure (ForInStep.yield r):Sem (ForInStep (List (Str×Addr)))))=pure cl /\
    (∀x c,cl.lookup x=some c->env.cells.lookup x=some c)/\(∀p∈l,p.2=.free->cl.lookup p.1=env.cells.lookup p.1)/\∀x,d.lookup x=env.cells.lookup x->cl.lookup x=env.cells.lookup x:=by
  intro l
  induction l with
  |nil=>intro d _ j;exact⟨d,rfl,j,λp hp=>(by simp at hp),λx e=>e⟩
  |cons p r v =>
   intro d hl j;obtain⟨n,k⟩:=p;rw[Wj];by_cases hk:k=.free
   ·subst hk;obtain⟨c,m⟩:=hl (n,.free) Uq rfl;have u:cellOf env n=pure c:=by unfold cellOf;rw[m]
    obtain⟨cl,e1,e2,e3,q⟩:=v ((n,c)::d) (λp hp=>hl p (Ua _ hp)) (λx w e=>by
     rw[Uh]at e
     cases g:x==n with
     |true =>
      rw[g]at e;have:x=n:=by simpa using g
      subst this;cases e;exact m
     |false=>rw[g]at e;exact j x w e)
    refine⟨cl,?_,e2,λp hp e=>?_,λx e=>q x ?_⟩
    ·simp only[V6,VU,u];exact e1
    ·rcases T3.mp hp with rfl|hp
     ·exact q n (by rw[Uh];simp[m])
     ·exact e3 p hp e
    ·rw[Uh]
     cases g:x==n with
     |true =>
      have:x=n:=by simpa using g
      subst this;simp[m]
     |false=>exact e
   ·have y:(k==NameKind.free)=false:=by simpa using hk
    obtain⟨cl,e1,e2,e3,q⟩:=v d (λp hp=>hl p (Ua _ hp)) j;refine⟨cl,?_,e2,λp hp e=>?_,q⟩
    ·simp only[y,WE,WQ];exact e1
    ·rcases T3.mp hp with rfl|hp
     ·exact absurd e hk
     ·exact e3 p hp e
 obtain⟨cl,e1,e2,e3,_⟩:=all i.names [] h (λx c e=>by simp at e);refine⟨cl,?_,e2,e3⟩;have f:=UI (λt:Sem (List (Str×Addr))=>t >>= λz=>pure z) e1
 first
  |exact f
  | (simp only[pure_bind]at f;exact f)
  | (refine Eq.trans ?_ f;rfl)
  | (dsimp only at f ⊢;exact f)
noncomputable def Cx.Xl(X:Cx)(a:Scope)(cl:List (Str×Addr))(C:Addr)(N:List Str)(s:Shared)(H:Hp)(c:List Addr):Cx where
 prog:=X.prog
 w:=X.w
 K:=X.K
 mg:=X.mg
 base:=X.base
 A:=X.A
 N:=N
 s₀:=s
 H₀:=H
 env:=compEnvC a cl C X.env
 outer:=X.stack
 stack:=X.stack
 ex:=c
 fn:=λ_=>false
 calm:=X.calm
 pn:=[]
 xe:=λ_ _=>False
section
theorem nA{X:Cx}{g:List (Addr×Obj)}{E:St}{H:Hp}{s:Shared}{f:Scope}{cl:List (Str×Addr)}{a:List Str}{fr:List Nat}{G:List Str}{Q:List Addr}(I:Inv X g E H s)(B:Blk X.N X.env.kindOf f.names a fr G)(hk:f.kind=.function)
  (sub:∀x c,cl.lookup x=some c->X.env.cells.lookup x=some c) (has:∀p∈f.names,p.2=.free->cl.lookup p.1=X.env.cells.lookup p.1)
  (T:∀b∈Q,eK X g H b) (fo:∀b∈Q,b<s.heap.objs.size) {U:Heap} {tk:Nat} {C D:Addr} {n:Nat} (J:D=s.heap.objs.size) (Y:s.heap.objs.size<C)
  (hns:U.Ns C (λ_=>none)) (old:∀b o,s.heap.get? b=some o->U.get? b=some o) (hD:U.get? D=some {cls:=.type "list",data:=.seq ([]:List Value).toArray n}) :
  Inv (X.Xl f cl C G s H Q) [] (Zw a fr E) (upd H D (.lst [])) {s with heap:=U,toks:=tk}:=by
 have Zk:∀x c,cl.lookup x=some c->c<s.heap.objs.size:=λx c e=>by obtain⟨v,q⟩:=I.cell x c (sub x c e);exact q.lt
 have hDn:H D=none:=I.hok.fresh (Vr J.symm);have kind:∀x,(X.Xl f cl C G s H Q).env.kindOf x=(f.names.lookup x).map (rk X.env x):=λx=>iF f X.env x
 refine⟨⟨I.ok.mod,hk,I.ok.glob,I.ok.blt,UX Y,λx y c e1 e2=>I.ok.inj x y c (sub x c e1) (sub y c e2),λx hx=>?_,(λx c e=>nomatch (show false=true from e)),I.ok.hd,I.ok.frames,.inl rfl,λb m=>⟨?_,λx c e=>?_⟩,I.bs,Ub I.ok.Z9 I.sz,λb o e m=>?_,λb m=>?_,I.stack,I.YI⟩,
  rfl,I.bare,Un.laid old (Vr J.symm) hDn,⟨_,hns,λi x v e1 e2 e3=>?_⟩,λx c e=>?_,?_,λx c e=>?_,λp hp=>?_,I.hok.laid old (Vr J.symm) ⟨Uw _,[],n,.nil,hD⟩,?_⟩
 ·have d:(f.names.lookup x).map (rk X.env x)=some .cell\/(f.names.lookup x).map (rk X.env x)=some .free:=by
   rw[<- kind x];exact hx
  cases q:f.names.lookup x with
  |none=>rw[q]at d;simp at d
  |some k =>
   have w:=UE q;by_cases hf:k=.free
   ·subst hf;show ∃c,cl.lookup x=some c;rw[has _ w rfl];have z:=B.free _ w rfl;exact I.ok.has x z
   ·rw[q]at d;simp only[U8,Bj hf]at d;rcases d with z|z
    ·exact absurd (T7 z) (B.cell _ w)
    ·exact absurd (T7 z) hf
 ·exact TV (UR (fo b m) Y)
 ·exact(T b m).2.2.2.2.1 x c (sub x c e)
 ·rcases(T b m).2.2.2.1 with z|z
  ·exact I.ok.ZH b o e z
  ·exact absurd (TR (TJ e) (Ub I.ok.Z9 z)) (Uz _)
 ·intro z;rcases T3.mp (I.YG b z)with e|e
  ·exact(T b m).2.1 e
  ·exact(T b m).2.2.1 e
 ·
  have M:G[i]?=some x:=e1
  have hi:¬ i<a.length:=λz=>by unfold Zw at e2;rw[Uo (by simpa using z),T4,RL z]at e2;cases e2
  unfold Zw at e2;rw[Uj (by simpa using hi),T8,T4]at e2;rw[B.eN,Uj (by simpa using hi),T4]at M
  cases q:fr[i - a.length]? with
  |none=>rw[q]at e2;cases e2
  |some j =>
   rw[q]at e2 M;simp only[U8,Option.some.injEq]at e2 M;obtain⟨hj,t⟩:=B.fr j (US q)
   have ej:X.N[j]?=some x:=by rw[<- M,UJ,RL hj];rfl
   have eσ:E[j]?=some (some v):=by
    cases z:E[j]? with
    |none=>rw[z]at e2;cases e2
    |some o=>rw[z]at e2;simp only[V7]at e2;rw[e2]
   rw[M]at t;have w:=UE t;have O:=B.free _ w rfl;obtain⟨m0,hn0,hl0⟩:=I.loc
   have hv:Vis X.env.scope x:=by
    rcases O with z|z
    ·exact .inr (.inl z)
    ·exact .inr (.inr z)
   obtain⟨u,r,l⟩:=hl0 j x v ej eσ hv;refine⟨u,r,?_⟩;rcases l with⟨z,_⟩|⟨_,c,hc,o,ho,hd⟩
   ·have ZK:X.env.kindOf x=some .cell\/X.env.kindOf x=some .free:=O;rw[z]at ZK;rcases ZK with y|y<;>cases y
   ·refine .inr ⟨?_,c,?_,o,old c o ho,hd⟩
    ·rw[kind x,t];rcases wN (env:=X.env) (x:=x)with y|y
     ·exact .inl (by rw[U8,y])
     ·exact .inr (by rw[U8,y])
    ·show cl.lookup x=some c;have z:=has _ w rfl;exact z.trans hc
 ·obtain⟨v,o,ho,hd⟩:=I.cell x c (sub x c e);exact⟨v,o,old c o ho,hd⟩
 ·show upd H D _ C=none;rw[ag (by rw[J];exact UB Y)];exact I.hok.fresh (UX Y)
 ·show upd H D _ c=none;rw[ag (by rw[J];exact TV (Zk x c e))];exact I.XE x c (sub x c e)
 ·exact absurd (show p∈([]:List (Addr×Obj)) from hp) (by simp)
 ·show(Zw a fr E).length=G.length;rw[B.eN];simp[Zw]
theorem oR{X:Cx}{a:List (Addr×Obj)}{g:St}{H:Hp}{s:Shared}{l:Scope}{cl:List (Str×Addr)}{m:List Str}{e:List Addr}{C:Addr}{f:St}{i:Hp}{j:Shared}(I:Inv X a g H s)(c:∀b∈e,eK X a H b)(J:Inv (X.Xl l cl C m s H e) [] f i j):Inv X a g i j :=
 I.YY (ch:=e) J.os J.base J.hok J.bare λb d=>⟨(c b d).2.2.2.1,(c b d).2.1,(c b d).2.2.2.2.1,(c b d).2.2.2.2.2⟩
theorem Inv.young{X:Cx}{a:List (Addr×Obj)}{i:St}{H:Hp}{s:Shared}{C:Addr}{j:Shared}{m:Hp}{g:St}{l:Heap}(d:Inv X a g m j)(I:Inv X a i H s)(f:j.heap.objs.size<=C)(n:H C=none)(hs:Heap.SameBut C s.heap l):Inv X a i H {s with heap:=l} :=
 I.turned (t':=s.toks) (λb o r e=>(hs.2 b r).trans e) n (UB (TR d.lt f)) (.inr (Ub d.sz f))
  (λx c e z=>by
   obtain⟨v,q⟩:=d.cell x c e;exact absurd (TR q.lt (by rw[z];exact f)) (Uz _))
  (λp t z=>absurd (TR (TJ (d.pin p t).1) (by rw[z];exact f)) (Uz _))
end
noncomputable def ke(X:Cx)(d:List Expr)(t:TT):Prop :=
 ∀(a:List (Addr×Obj))(s:Shared)(e:St)(H:Hp)(Q:Bool->Hp->Prop),Inv X a e H s->t e H Q ->
  wpAny (model X.prog X.w) X.A (forIn d true λc r=>if r=true then do let ok <- isTrue c X.env (eval c X.env);pure (ForInStep.yield ok)else pure (ForInStep.yield r)) (TP X a e Q) X.xe s
noncomputable def sZ:TT:=λ_ H Q=>Q true H
theorem sy:ke X [] sZ:=λa s c H Q I h=>wpAny_tests_nil ⟨H,I,h⟩
theorem sA(h:PT X c t):ke X [c] t:=λa s d H Q I e=>wpAny_tests_one (h a s d H Q I e)
section
theorem hV(J:Nat->Shared->Prop)
  (i:∀n s,J n s->wpAny (model prog w) A (pyNext it) (λr d=>match r with
   |none=>R (.ok .next) d
   |some v=>wpAny (model prog w) A (letOwnedTupleGo a it v) (λ_ e=>wpAny (model prog w) A (assign a env v) (λ_ f =>
     wpAny (model prog w) A (forIn j true λc r=>if r=true then do let ok <- isTrue c env (eval c env);pure (ForInStep.yield ok)else pure (ForInStep.yield r)) (λok s₄ =>
      if ok=true then wpAny (model prog w) A (eval l env) (λx s₅=>wpAny (model prog w) A (call (.builtin "list.append") [p,x]) (λ_ s₆=>∃m,m<n/\J m s₆) (λ_ _=>False) s₅) (λ_ _=>False) s₄
      else ∃m,m<n/\J m s₄) (λ_ _=>False) f) (λ_ _=>False) e) (λ_ _=>False) d) (λ_ _=>False) s)
  (n:Nat) (h:J n s):codeAny (model prog w) A (.compLoop (.ListComp l [⟨a,iter,j,0⟩] scope u) 0 it p env) R s:=by
 refine codeAny_loop rfl J (λn s y=>?_) n h;show wpAny (model prog w) A ((compTurn (.ListComp l [⟨a,iter,j,0⟩] scope u) 0 it p env).onRaise λx=>do noteFrame x env;theTreesLotGoes x) _ _ s;refine wpAny_noted (WI ?_);rw[compTurn_list];refine Ar (UG (Ar (WY (i n s y) λr d g=>?_)))
 cases r with
 |none=>exact RB g
 |some v =>
  refine Ar (WY g λ_ e q=>Ar (WY q λ_ f t=>Ar (WY t λok s₄ h₄=>?_)))
  cases ok with
  |false=>exact RB ⟨rfl,h₄⟩
  |true=>exact Ar (Ar (WY h₄ λx s₅ h₅=>Ar (WY h₅ λ_ s₆ h₆=>RB (RB ⟨rfl,h₆⟩))))
end
noncomputable def YK(u:TI)(mk:St->St)(g:TG)(w:TT)(y:TE):TE:=λn H Q=>u n H λJ p=>∀D,p D=none->∃W:Nat->Nat->St->Hp->Prop,(∃m,W 0 m (mk n) (upd p D (.lst [])))/\∀i m d e,W i m d e ->
 (J.stop i e/\Q (.ref D) e) \/
 (J.go i e/\∃j:St->Hp->Prop,(∀c f,j c f->∃q,q<m/\W (i+1) q c f)/\∀x f,J.yld i e x f->g x d f λa z=>w a z λb r =>
  if b=true then y a r λv t=>∃l,t D=some (.lst l)/\l.length<sizeLine/\j a (upd t D (.lst (l++[v])))else j a r)
section
theorem qT{X:Cx}{elt iter tg:Expr}{ifs:List Expr}{q:Scope}{pos:Pos}{own:List Str}{fr:List Nat}{N':List Str}{g:TG}{tt:TT}{te:TE}{pins:List (Addr×Obj)}{σ:St}{H:Hp}{s:Shared}{cl:List (Str×Addr)}{f:List Addr}{it:Addr}{J:It}{tn:Nat->Heap->Prop}{E:Value->Shared->Prop}{Q:VK}{RR:Value->Addr->Result->Shared->Prop}
  (I:Inv X pins σ H s) (B:Blk X.N X.env.kindOf q.names own fr N') (hk:q.kind=.function) (hc:X.calm=true)
  (sub:∀x c,cl.lookup x=some c->X.env.cells.lookup x=some c) (has:∀p∈q.names,p.2=.free->cl.lookup p.1=X.env.cells.lookup p.1)
  (T:gR X.prog X.w X.K tg J f it tn) (st:tn 0 s.heap) (f2:∀b∈f,eK X pins H b)
  (hg:∀cl C s H f,PG (X.Xl q cl C N' s H f) tg g) (ht:∀cl C s H f,ke (X.Xl q cl C N' s H f) ifs tt) (he:∀cl C s H f,PE (X.Xl q cl C N' s H f) elt te)
  (hw:∀D,H D=none->∃W:Nat->Nat->St->Hp->Prop,(∃m,W 0 m (Zw own fr σ) (upd H D (.lst [])))/\∀i m l t,W i m l t ->
   (J.stop i t/\Q (.ref D) t) \/
   (J.go i t/\∃Nx:St->Hp->Prop,(∀σ'' Xu,Nx σ'' Xu->∃m',m'<m/\W (i+1) m' σ'' Xu)/\∀x Xu,J.yld i t x Xu->g x l Xu λσ2 H2=>tt σ2 H2 λb H3 =>
    if b=true then te σ2 H3 λv H4=>∃ys,H4 D=some (.lst ys)/\ys.length<sizeLine/\Nx σ2 (upd H4 D (.lst (ys++[v])))else Nx σ2 H3))
  (hRR:∀D C l t s',D=s.heap.objs.size->s.heap.objs.size<=C->Inv (X.Xl q cl C N' s H f) [] l t s'->Q (.ref D) t->RR (.ref D) C (.ok .next) s') :
  wpAny (model X.prog X.w) X.A (newList []) (λacc M=>wpAny (model X.prog X.w) X.A (newFunctionEnv q X.env.globals cl [] X.env.qual none .none (some X.env)) (λcenv s₄ =>
   codeAny (model X.prog X.w) X.A (.compStart (.ListComp elt [⟨tg,iter,ifs,0⟩] q pos) 0 (.ref it) acc {cenv with scope:=relabel q X.env}) (RR acc cenv.locals) s₄) E M) E s:=by
 have fo:∀b∈f,b<s.heap.objs.size:=λb Y=>by obtain⟨o,e,_⟩:=T.obj _ _ st b Y;exact TJ e
 refine UK (wpAny_newFunctionEnv B.cell (by intro y hy;simp at hy) (λO a j=>?_) hk);dsimp only at a j ⊢;generalize hH2:s.heap.push {cls:=.type "list",dict:=none,data:=.seq ([]:List Value).toArray}=G at a j ⊢;have hG:G.objs.size=s.heap.objs.size+1:=by rw[<- hH2,Ui]
 have hlt:s.heap.objs.size<G.objs.size:=by rw[hG];exact Va _
 have old:∀b o,s.heap.get? b=some o->O.get? b=some o:=λb o e =>
  j.extBut b o (TV (UR (TJ e) hlt)) (LD _ (hH2▸LD _ e))
 have hacc:O.get? s.heap.objs.size=some {cls:=.type "list",data:=.seq ([]:List Value).toArray} :=
  j.extBut _ _ (TV hlt) (LD _ (hH2▸TX _ rfl))
 obtain⟨W,⟨m0,w0⟩,turn⟩:=hw s.heap.objs.size (I.hok.fresh (TN _));have st₁:tn 0 O:=T.keep _ _ _ st λb _ o e=>old b o e
 have hns':O.Ns G.objs.size (λ_=>none):=by
  have e:(λx=>([]:List (Str×Value)).reverse.lookup x)=(λ_:Str=>(none:Option Value)):=by funext x;rfl
  first
   |exact a
   | (rw[e]at a;exact a)
 have loop:∀M:Shared,M={s with heap:=O,toks:=s.toks+([]:List (Str×Value)).length} ->
   codeAny (model X.prog X.w) X.A (.compLoop (.ListComp elt [⟨tg,iter,ifs,0⟩] q pos) 0 (.ref it) (.ref s.heap.objs.size) (compEnvC q cl G.objs.size X.env)) (RR (.ref s.heap.objs.size) G.objs.size) M:=by
  rintro M rfl;have I0:=nA (tk:=s.toks+([]:List (Str×Value)).length) I B hk sub has f2 fo rfl hlt hns' old hacc
  have Yc:∀{XN:List (Addr×Obj)}{t:Hp},XN=[]->(∀b∈f,t b=none)->∀b∈f,eK (X.Xl q cl G.objs.size N' s H f) XN t b:=λep hn b Y=>by
   subst ep;refine⟨hn b Y,TV (UR (fo b Y) hlt),λz=>?_,.inl Y,λx c e=>(f2 b Y).2.2.2.2.1 x c (sub x c e),λp hp=>absurd (show p∈([]:List (Addr×Obj)) from hp) (by simp)⟩;rcases T3.mp (I.YG b z)with e|e
   ·exact(f2 b Y).2.1 e
   ·exact(f2 b Y).2.2.1 e
  have fr0:∀b∈f,upd H s.heap.objs.size (.lst []) b=none:=λb Y=>by rw[ag (TV (fo b Y))];exact(f2 b Y).1
  refine hV (λn s'=>∃i l t,Inv (X.Xl q cl G.objs.size N' s H f) [] l t s'/\tn i s'.heap/\(∀b∈f,t b=none)/\W i n l t) ?_ m0 ⟨0,_,_,I0,st₁,fr0,w0⟩;rintro n s3 ⟨i,σ3,H3,I3,st3,fr3,w3⟩;rcases turn i n σ3 H3 w3 with⟨stop,qn⟩|⟨go,Nx,hN,step⟩
  ·refine WY (T.done (X.Xl q cl G.objs.size N' s H f) rfl rfl rfl hc i [] s3 σ3 H3 _ I3 (Yc rfl fr3) st3 stop) λr s4 ⟨hr,I4⟩=>?_;subst hr;exact hRR _ _ _ _ _ rfl (UX hlt) I4 qn
  ·refine WY (T.item (X.Xl q cl G.objs.size N' s H f) rfl rfl rfl hc i [] s3 σ3 H3 _ I3 (Yc rfl fr3) st3 go) λr s4 ⟨u,hr,h4⟩=>?_;subst hr;refine WY h4 λ_ s5 ⟨x,H5,I5,r5,y5,ZI,fr5⟩=>?_;have I5':=I5.pinned (Yc rfl fr5) (T.obj _ _ ZI);refine WY (hg cl G.objs.size s H f _ s5 σ3 H5 x u _ I5' r5 (step x H5 y5)) λ_ s6 ⟨U,H6,I6,q6⟩=>?_;refine WY (ht cl G.objs.size s H f _ s6 U H6 _ I6 q6) λok s7 ⟨H7,I7,q7⟩=>?_
   have again:∀{s8:Shared}{H8:Hp},Inv (X.Xl q cl G.objs.size N' s H f) ([]++gH f s5.heap) U H8 s8->Nx U H8 ->
     ∃m,m<n/\∃i l t,Inv (X.Xl q cl G.objs.size N' s H f) [] l t s8/\tn i s8.heap/\(∀b∈f,t b=none)/\W i m l t:=λ{s8 H8} I8 n8=>by
    obtain⟨m',hm,w8⟩:=hN U H8 n8;refine⟨m',hm,i+1,U,H8,I8.XS,T.keep _ _ _ ZI λb Y o e=>(I8.pin (b,o) (TZ _ (TZ _ (aX Y e)))).1,λb Y=>?_,w8⟩;obtain⟨o,e,d⟩:=T.obj _ _ ZI b Y;exact(I8.pin (b,o) (TZ _ (TZ _ (aX Y e)))).2.1
   cases ok with
   |false =>rw[TQ TU]at q7 ⊢;exact again I7 q7
   |true =>rw[TY rfl]at q7 ⊢;refine WY (he cl G.objs.size s H f _ s7 U H7 _ I7 q7) λy s8 ⟨v,H8,I8,rv,ys,hD8,hz,nx⟩=>?_;refine WY (fQ (X:=X.Xl q cl G.objs.size N' s H f) _ s8 U H8 (.ref s.heap.objs.size) [v] (.ref s.heap.objs.size) [y] (λ_ H9=>Nx U H9) I8 rfl (.cons rv .nil) ⟨_,ys,v,rfl,rfl,hD8,hz,nx⟩) λ_ s9 ⟨_,H9,I9,_,n9⟩=>?_;exact again I9 n9
 exact V5 (loop _ rfl) (T.self _ 0 _ _ _ st₁ (loop _ rfl))
theorem wz{c:Scope}(G:PI X y iter M)(hk:c.kind=.function)(O:bO X.N X.env.kindOf c.names own fr N'=true)(U:X.calm=true)
  (Y:∀cl C s H d,PG (X.Xl c cl C N' s H d) y g) (ht:∀cl C s H d,ke (X.Xl c cl C N' s H d) f tt) (he:∀cl C s H d,PE (X.Xl c cl C N' s H d) i te)
  (hs:∀x,foldedSetIterable iter X.env x=pure x:=by intro _;rfl):PE X (.ListComp i [⟨y,iter,f,0⟩] c pos) (YK M (Zw own fr) g tt te):=by
 intro a s z H Q I h;have B:=tQ O;obtain⟨cl,j,sub,has⟩:=BZ c X.env λp hp e=>I.ok.has p.1 (B.free p hp e);rw[eval_ListComp];refine Vs (use:=none) rfl hs j hk B.loc (WY (G a s z H _ I h) λv s1 h1=>WY h1 λitv s2 h2=>?_);obtain⟨it,d,tn,J,H2,e,l,T,n,E,body⟩:=h2;subst e;refine qT (RR:=λr C=>compPost (model X.prog X.w) X.A X.xe none (EP X a z Q) r C) l B hk U sub has T n E Y ht he body ?_;intro D C σ' H' s' eD hC t q;obtain⟨m,hn,_⟩:=t.loc;refine⟨m,hn,λh' u=>⟨.ref D,H',?_,rfl,q⟩⟩;exact Inv.young l (oR l E t) hC t.free u
theorem uI{d:Scope}{f:Pos}(hi:PI X G iter wi)(hk:d.kind=.function)(hb:bO X.N X.env.kindOf d.names M fr O=true)(hc:X.calm=true)
  (hg:∀cl C s H n,PG (X.Xl d cl C O s H n) G g) (ht:∀cl C s H n,ke (X.Xl d cl C O s H n) j tt) (he:∀cl C s H n,PE (X.Xl d cl C O s H n) l te)
  (hN:X.N.Nodup) (hy:X.N[i]?=some y) (hx:X.env.scope.names.lookup y=some .local)
  (U:swapsWith (.ListComp l [⟨G,iter,j,0⟩] d t) (some (.Name y u)) f.line X.env=pure true)
  (hs:∀x,foldedSetIterable iter X.env x=pure x:=by intro _;rfl):PS X (.Assign [.Name y u] (.ListComp l [⟨G,iter,j,0⟩] d t) f) (Y6 (YK wi (Zw M fr) g tt te) (dZ i)):=by
 intro c s σ H D I h;have B:=tQ hb;obtain⟨cl,Y,sub,has⟩:=BZ d X.env λp hp e=>I.ok.has p.1 (B.free p hp e);rw[exec_Assign_Name_used _ _ _ _ U];refine Ar (UG (Ar ?_));show wpAny _ _ (do let _ <- comprehension (.ListComp l [⟨G,iter,j,0⟩] d t) d X.env _ (newList []) false (eval iter X.env) (some (assign (.Name y u) X.env))) _ _ s
 refine Ar (Up (Vs (use:=some (assign (.Name y u) X.env)) (Q:=λ_ r=>SP X c D .next r) rfl hs Y hk B.loc
  (WY (hi c s σ H _ I h) λv s1 h1=>WY h1 λitv s2 h2=>?_)) (λ_ r hq=>RB (RB hq)) λ_ _ e=>e)
 obtain⟨it,n,tn,J,H2,e,E,T,st2,f2,body⟩:=h2;subst e;refine qT (Q:=λv H'=>D.nx (σ.set i (some v)) H') (RR:=λacc C=>compPost (model X.prog X.w) X.A X.xe (some (assign (.Name y u) X.env)) (λ_ r=>SP X c D .next r) acc C) E B hk hc sub has T st2 f2 hg ht he body ?_;intro D' C σ' H' r eD hC J' q;have I3:=oR E f2 J';show wpAny _ _ (assign (.Name y u) X.env (.ref D')) _ _ r;refine WK (jt I3 hN hy (.inl hx) (v:=.ref D') rfl (λs4 I4 ⟨a,hsb,ha⟩=>?_) (.inr hx));obtain⟨m,hn,_⟩:=J'.loc
 have hCa:C≠a:=by
  rcases ha with e|e
  ·rw[e];exact UB (TR E.lt hC)
  ·obtain⟨v,z⟩:=E.cell _ _ e;exact UB (TR z.lt hC)
 refine⟨m,hn.sameBut hsb hCa,λh' hs'=>⟨_,H',?_,q⟩⟩;exact Inv.young E I4 hC J'.free hs'
end
inductive D where
 |WX|bl (b:Bool)|int (i:Int)|str (x:Str)|tup (ds:List D)
 |lst
mutual
noncomputable def Dat(K:W.Frag)(H:Hp):D->V->Prop
 | .WX,v=>v=.WX
 | .bl b,v=>v=.bl b
 | .int i,v=>v=.int i
 | .str x,v=>v=.str x
 | .tup d,v=>∃a c,v=.ref a/\Xz K H a c/\WW K H d c
 | .lst,v=>∃a c,v=.ref a/\Xk K H a c
noncomputable def WW(K:W.Frag)(H:Hp):List D->List V->Prop
 |[],a=>a=[]
 |d::c,a=>∃v r,a=v::r/\Dat K H d v/\WW K H c r
end
section
variable{K:W.Frag}{H H':Hp}
theorem Dat.tupI(h:Xz K H a c)(r:WW K H d c):Dat K H (.tup d) (.ref a):=by unfold Dat;exact⟨a,c,rfl,h,r⟩
theorem WW.nil:WW K H [] []:=by unfold WW;rfl
theorem WW.cons(h:Dat K H d v)(r:WW K H c a):WW K H (d::c) (v::a):=by unfold WW;exact⟨v,a,rfl,h,r⟩
theorem Dat.intI(i:Int):Dat K H (.int i) (.int i):=by unfold Dat;rfl
theorem Dat.strI(x:Str):Dat K H (.str x) (.str x):=by unfold Dat;rfl
theorem Dat.blI(b:Bool):Dat K H (.bl b) (.bl b):=by unfold Dat;rfl
theorem Dat.nonI:Dat K H .WX .WX:=by unfold Dat;rfl
theorem Dat.lstI(h:Xk K H a c):Dat K H .lst (.ref a):=by unfold Dat;exact⟨a,c,rfl,h⟩
theorem Dat.Xf(h:Dat K H (.tup d) v):∃a c,v=.ref a/\Xz K H a c/\WW K H d c:=by unfold Dat at h;exact h
theorem Dat.W4(h:Dat K H (.int i) v):v=.int i:=by unfold Dat at h;exact h
theorem Dat.Xi(h:Dat K H (.str x) v):v=.str x:=by unfold Dat at h;exact h
theorem Dat.X7(h:Dat K H (.bl b) v):v=.bl b:=by unfold Dat at h;exact h
theorem Dat.XF(h:Dat K H .WX v):v=.WX:=by unfold Dat at h;exact h
theorem Dat.lstE(h:Dat K H .lst v):∃a c,v=.ref a/\Xk K H a c:=by unfold Dat at h;exact h
theorem WW.XA(h:WW K H [] a):a=[]:=by unfold WW at h;exact h
theorem WW.W0(h:WW K H (d::a) c):∃v r,c=v::r/\Dat K H d v/\WW K H a r:=by unfold WW at h;exact h
structure wZ(K:W.Frag)(H H':Hp):Prop where
 tup:∀a xs,Xz K H a xs->Xz K H' a xs
 lst:∀a xs,Xk K H a xs->∃ys,Xk K H' a ys
mutual
theorem Dat.mono(g:wZ K H H'):∀(d:D){v:V},Dat K H d v->Dat K H' d v
 | .WX,v,h=>by unfold Dat at h ⊢;exact h
 | .bl b,v,h=>by unfold Dat at h ⊢;exact h
 | .int i,v,h=>by unfold Dat at h ⊢;exact h
 | .str x,v,h=>by unfold Dat at h ⊢;exact h
 | .tup c,v,h=>by obtain⟨a,f,e,q,r⟩:=h.Xf;subst e;exact Dat.tupI (g.tup _ _ q) (WW.mono g c r)
 | .lst,v,h=>by obtain⟨a,f,e,q⟩:=h.lstE;subst e;obtain⟨l,j⟩:=g.lst _ _ q;exact Dat.lstI j
theorem WW.mono(g:wZ K H H'):∀(a:List D){c:List V},WW K H a c->WW K H' a c
 |[],c,h=>by unfold WW at h ⊢;exact h
 |d::a,c,h=>by obtain⟨v,r,e,f,i⟩:=h.W0;subst e;exact WW.cons (Dat.mono g d f) (WW.mono g a i)
end
theorem WW.length:∀{c:List D}{a:List V},WW K H c a->c.length=a.length
 |[],a,h=>by rw[h.XA];rfl
 |d::c,a,h=>by obtain⟨v,r,e,g,f⟩:=h.W0;subst e;rw[Us,Us,WW.length f]
theorem WW.getV:∀{c:List D}{a:List V}{i:Nat}{v:V},WW K H c a->a[i]?=some v->∃d,c[i]?=some d/\Dat K H d v
 |[],a,i,v,h,e=>by rw[h.XA]at e;simp at e
 |d0::c,a,0,v,h,e=>by obtain⟨u,r,e1,f,g⟩:=h.W0;subst e1;simp at e;subst e;exact⟨d0,rfl,f⟩
 |d0::c,a,i+1,v,h,e=>by obtain⟨u,r,e1,f,g⟩:=h.W0;subst e1;obtain⟨d,j,l⟩:=WW.getV (i:=i) (v:=v) g (by simpa using e);exact⟨d,by simpa using j,l⟩
theorem WW.append:∀{g a:List D}{c f:List V},WW K H g c->WW K H a f->WW K H (g++a) (c++f)
 |[],a,c,f,h,i=>by rw[h.XA];exact i
 |d::g,a,c,f,h,i=>by obtain⟨v,r,e,j,l⟩:=h.W0;subst e;exact WW.cons j (WW.append l i)
end
mutual
noncomputable def Xd:D->D->Bool
 | .WX,.WX=>true
 | .bl a,.bl b=>a==b
 | .int a,.int b=>a==b
 | .bl a,.int b=>(if a then 1 else 0)==b
 | .int a,.bl b=>a==(if b then 1 else 0)
 | .str a,.str b=>a==b
 | .tup a,.tup b=>Xv a b
 |_,_=>false
noncomputable def Xv:List D->List D->Bool
 |[],[]=>true
 |a::r,b::q=>Xd a b&&Xv r q
 |_,_=>false
end
mutual
noncomputable def cG:D->Nat
 | .tup a=>Xj a+1
 |_=>0
noncomputable def Xj:List D->Nat
 |[]=>0
 |d::a=>max (cG d) (Xj a)
end
mutual
noncomputable def XY:D->Bool
 | .tup a=>Xp a
 | .lst=>false
 |_=>true
noncomputable def Xp:List D->Bool
 |[]=>true
 |d::a=>XY d&&Xp a
end
noncomputable def eAt(a b:List D)(j:Nat):Bool:=match a[j]?,b[j]? with
 |some x,some y=>Xd x y
 |_,_=>false
theorem kN(n:Nat)(e:Nat->Bool):(List.range (n+1)).all e=(e 0&&(List.range n).all λj=>e (j+1)):=by rw[List.range_succ_eq_map,Ud,List.all_map];rfl
theorem dM:∀a b:List D,((List.range (min a.length b.length)).all (eAt a b)&&a.length==b.length)=Xv a b
 |[],[]=>by unfold Xv;rfl
 |[],y::b=>by unfold Xv;simp
 |x::a,[]=>by unfold Xv;simp
 |x::a,y::b=>by
  have c:=dM a b;unfold Xv;rw[<- c,Us,Us,Nat.succ_min_succ,kN];have d:eAt (x::a) (y::b) 0=Xd x y:=rfl
  have e1:(λj=>eAt (x::a) (y::b) (j+1))=eAt a b:=by
   funext j
   simp[eAt]
  rw[d,e1,Bool.and_assoc];congr 2;simp
theorem rK{a b:List D}(h:a.length=b.length):(List.range a.length).all (eAt a b)=Xv a b:=by have q:=dM a b;rw[<- h,Nat.min_self]at q;rw[<- q];simp
mutual
theorem rJ:∀d:D,XY d=true->Xd d d=true
 | .WX,_=>by unfold Xd;rfl
 | .bl b,_=>by unfold Xd;simp
 | .int i,_=>by unfold Xd;simp
 | .str x,_=>by unfold Xd;simp
 | .tup a,h=>by unfold Xd;unfold XY at h;exact ZD a h
 | .lst,h=>by unfold XY at h;cases h
theorem ZD:∀a:List D,Xp a=true->Xv a a=true
 |[],_=>by unfold Xv;rfl
 |d::a,h=>by unfold Xp at h;rw[Tz]at h;unfold Xv;rw[rJ d h.1,ZD a h.2];rfl
end
section
mutual
theorem kH{X:Cx}{m:List (Addr×Obj)}{p:St}{H:Hp}{s:Shared}(I:Inv X m p H s):∀(d e:D){v:V},XY d=true->Dat X.K H d v->Dat X.K H e v->XY e=true->d=e
 | .WX,e,v,l,h,f,g=>by
  have z:=h.XF;subst z
  cases e with
  |WX=>rfl
  |bl b=>exact nomatch f.X7
  |int i=>exact nomatch f.W4
  |str x=>exact nomatch f.Xi
  |tup n=>obtain⟨_,_,q,_⟩:=f.Xf;exact nomatch q
  |lst=>obtain⟨_,_,q,_⟩:=f.lstE;exact nomatch q
 | .bl b,e,v,l,h,f,g=>by
  have z:=h.X7;subst z
  cases e with
  |WX=>exact nomatch f.XF
  |bl c=>have q:=f.X7;injection q with q;rw[q]
  |int i=>exact nomatch f.W4
  |str x=>exact nomatch f.Xi
  |tup n=>obtain⟨_,_,q,_⟩:=f.Xf;exact nomatch q
  |lst=>obtain⟨_,_,q,_⟩:=f.lstE;exact nomatch q
 | .int i,e,v,l,h,f,g=>by
  have z:=h.W4;subst z
  cases e with
  |WX=>exact nomatch f.XF
  |bl c=>exact nomatch f.X7
  |int j=>have q:=f.W4;injection q with q;rw[q]
  |str x=>exact nomatch f.Xi
  |tup n=>obtain⟨_,_,q,_⟩:=f.Xf;exact nomatch q
  |lst=>obtain⟨_,_,q,_⟩:=f.lstE;exact nomatch q
 | .str x,e,v,l,h,f,g=>by
  have z:=h.Xi;subst z
  cases e with
  |WX=>exact nomatch f.XF
  |bl c=>exact nomatch f.X7
  |int j=>exact nomatch f.W4
  |str y=>have q:=f.Xi;injection q with q;rw[q]
  |tup n=>obtain⟨_,_,q,_⟩:=f.Xf;exact nomatch q
  |lst=>obtain⟨_,_,q,_⟩:=f.lstE;exact nomatch q
 | .tup n,e,v,l,h,f,g=>by
  obtain⟨a,G,z,q,r⟩:=h.Xf;subst z
  cases e with
  |WX=>exact nomatch f.XF
  |bl c=>exact nomatch f.X7
  |int j=>exact nomatch f.W4
  |str y=>exact nomatch f.Xi
  |tup t =>obtain⟨J,u,z,w,B⟩:=f.Xf;cases z;have E:=I.ZA q w;subst E;unfold XY at l g;rw[Z0 I n t l r B g]
  |lst=>unfold XY at g;cases g
 | .lst,e,v,l,h,f,g=>by unfold XY at l;cases l
theorem Z0{X:Cx}{f:List (Addr×Obj)}{p:St}{H:Hp}{s:Shared}(I:Inv X f p H s):∀(g a:List D){i:List V},Xp g=true->WW X.K H g i->WW X.K H a i->Xp a=true->g=a
 |[],a,i,_,h,j,_=>by
  have z:=h.XA;subst z
  cases a with
  |nil=>rfl
  |cons e a=>obtain⟨_,_,q,_⟩:=j.W0;exact nomatch q
 |d::g,a,i,l,h,j,c=>by
  obtain⟨v,r,z,t,u⟩:=h.W0;subst z
  cases a with
  |nil=>exact nomatch j.XA
  |cons e a =>obtain⟨B,E,z,m,n⟩:=j.W0;injection z with w y;subst w y;unfold Xp at l c;rw[Tz]at l c;rw[kH I d e l.1 t m c.1,Z0 I g a l.2 u n c.2]
end
end
theorem jd(A:Around):A.in1.units=A.units+1:=rfl
section
theorem dJ:∀{ds:List D}{j:Nat}{d:D},ds[j]?=some d->cG d<=Xj ds
 |[],_,_,e=>by simp at e
 |d0::ds,0,d,e=>by simp at e;subst e;unfold Xj;exact Nat.le_max_left _ _
 |d0::ds,j+1,d,e=>by have q:=dJ (ds:=ds) (j:=j) (d:=d) (by simpa using e);unfold Xj;exact Ub q (Nat.le_max_right _ _)
theorem bI:∀{ds:List D}{j:Nat}{d:D},Xp ds=true->ds[j]?=some d->XY d=true
 |[],_,_,_,e=>by simp at e
 |d0::ds,0,d,h,e=>by simp at e;subst e;unfold Xp at h;rw[Tz]at h;exact h.1
 |d0::ds,j+1,d,h,e=>by unfold Xp at h;rw[Tz]at h;exact bI (ds:=ds) (j:=j) (d:=d) h.2 (by simpa using e)
theorem lE{X:Cx}(n:Nat)
  (all:∀(d e:D)(x y:V)(u w:Value),cG d<=n->XY d=true->XY e=true->Dat X.K H d x->Dat X.K H e y->RelV x u->RelV y w->SeqAt.EqAt A s u w (Xd d e))
  (J:Xj f<=n) (M:Xp f=true) (N:Xp m=true) (O:WW X.K H f g) (r2:WW X.K H m l) (E:Vals g a) (G:Vals l c) :
  ∀j (p:j<a.toArray.size) (q:j<c.toArray.size),SeqAt.EqAt A s a.toArray[j] c.toArray[j] (eAt f m j):=by
 intro j p q;have l1:j<g.length:=by rw[E.length];simpa using p
 have l2:j<l.length:=by rw[G.length];simpa using q
 obtain⟨u,Q,T⟩:=E.get (i:=j) (x:=g[j]) (RL l1);obtain⟨w,U,r⟩:=G.get (i:=j) (x:=l[j]) (RL l2);obtain⟨d,t,Y⟩:=O.getV (i:=j) (v:=g[j]) (RL l1);obtain⟨e,I,qe⟩:=r2.getV (i:=j) (v:=l[j]) (RL l2)
 have z1:a.toArray[j]=u:=by
  have:a[j]?=some u:=Q;have z:j<a.length:=by simpa using p
  rw[RL z]at this;simpa using T7 this
 have z2:c.toArray[j]=w:=by
  have:c[j]?=some w:=U;have B:j<c.length:=by simpa using q
  rw[RL B]at this;simpa using T7 this
 have z3:eAt f m j=Xd d e:=by unfold eAt;rw[t,I]
 rw[z1,z2,z3];exact all d e _ _ u w (Ub (dJ t) J) (bI M t) (bI N I) Y qe T r
theorem sH{X:Cx}{c:List (Addr×Obj)}{B:St}{H:Hp}{s:Shared}{A:Around}{ds es:List D}{a b:Addr}{i j:List V}(I:Inv X c B H s)(l:A.units<cLine)(n:Nat)
  (all:∀(d e:D)(x y:V)(u w:Value),cG d<=n->XY d=true->XY e=true->Dat X.K H d x->Dat X.K H e y->RelV x u->RelV y w->SeqAt.EqAt A.in1 s u w (Xd d e))
  (E:Xj ds<=n) (G:Xp ds=true) (J:Xp es=true) (m:WW X.K H ds i) (r2:WW X.K H es j) (M:Xz X.K H a i) (N:Xz X.K H b j) :
  SeqAt.RcAt A s (.ref a) (.ref b) (Xv ds es)/\SeqAt.RcNeAt A s (.ref a) (.ref b) (!Xv ds es):=by
 obtain⟨f,q,t1,_⟩:=I.tuple M;obtain⟨g,r,t,_⟩:=I.tuple N;have v:=lE (X:=X) (H:=H) (s:=s) n all E G J m r2 q r;have p:=SeqAt.RcAt.tuples (show s.heap.IsTuple a f.toArray from t1) (show s.heap.IsTuple b g.toArray from t) l v;have z:=SeqAt.RcNeAt.tuples (show s.heap.IsTuple a f.toArray from t1) (show s.heap.IsTuple b g.toArray from t) l v;have e1:f.toArray.size=ds.length:=by rw[TH,<- q.length,m.length]
 have e2:g.toArray.size=es.length:=by rw[TH,<- r.length,r2.length]
 rw[e1,e2,dM]at p z;exact⟨p,z⟩
theorem o7{X:Cx}{M:List (Addr×Obj)}{σ:St}{H:Hp}{s:Shared}(I:Inv X M σ H s):∀(n:Nat)(A:Around)(d e:D)(x y:V)(u w:Value),A.units+n+1<cLine->cG d<=n->XY d=true->XY e=true->Dat X.K H d x->Dat X.K H e y->RelV x u->RelV y w->SeqAt.EqAt A s u w (Xd d e):=by
 intro n
 induction n with
 |zero =>
  intro A d e x y u w q hn r g v f E r2
  exact base I A d e x y u w (by lia) r g v f E r2 λG j a b T B ed Y=>by subst ed;unfold cG at hn;lia
 |succ n ih =>intro A d e x y u w q hn r g v f E r2;refine base I A d e x y u w (by lia) r g v f E r2 λG j a b T B ed Y t1 N s1 l hne=>?_;subst ed Y;unfold cG at hn;unfold XY at r g;have p:=(sH (A:=A) (ds:=G) (es:=j) I (by lia) n (λd e x y u w k1 k2 k3 k4 k5 k6 k7=>ih A.in1 d e x y u w (by rw[jd];lia) k1 k2 k3 k4 k5 k6 k7) (by lia) r g t1 N s1 l).1;unfold Xd;exact .of_refs hne p
where
 base (I:Inv X M σ H s) (A:Around) (d e:D) (x y:V) (u w:Value) (q:A.units<cLine) (r:XY d=true) (g:XY e=true) (v:Dat X.K H d x) (f:Dat X.K H e y) (E:RelV x u) (r2:RelV y w)
   (tt:∀(G j:List D)(a b:Addr)(T B:List V),d=.tup G->e=.tup j->WW X.K H G T->WW X.K H j B->Xz X.K H a T->Xz X.K H b B->a≠b->SeqAt.EqAt A s (.ref a) (.ref b) (Xd (.tup G) (.tup j))) :
   SeqAt.EqAt A s u w (Xd d e):=by
  cases d with
  |lst=>unfold XY at r;cases r
  |WX =>
   have z:=v.XF;subst z;cases E
   cases e with
   |lst=>unfold XY at g;cases g
   |WX=>have z:=f.XF;subst z;cases r2;unfold Xd;exact SeqAt.EqAt.same _
   |bl b=>have z:=f.X7;subst z;cases r2;unfold Xd;exact SeqAt.EqAt.none_bool b
   |int i=>have z:=f.W4;subst z;obtain⟨t,rfl⟩:=r2;unfold Xd;exact SeqAt.EqAt.none_int i t
   |str i=>have z:=f.Xi;subst z;obtain⟨t,rfl⟩:=r2;unfold Xd;exact SeqAt.EqAt.none_str i t
   |tup j=>obtain⟨b,B,z,l,N⟩:=f.Xf;subst z;cases r2;obtain⟨O,v2,Q,_⟩:=I.tuple l;unfold Xd;exact SeqAt.EqAt.none_tuple (show s.heap.IsTuple b O.toArray from Q) q
  |bl c =>
   have z:=v.X7;subst z;cases E
   cases e with
   |lst=>unfold XY at g;cases g
   |WX=>have z:=f.XF;subst z;cases r2;unfold Xd;exact SeqAt.EqAt.bool_none c
   |bl b=>have z:=f.X7;subst z;cases r2;unfold Xd;exact SeqAt.EqAt.bool_bool c b
   |int i=>have z:=f.W4;subst z;obtain⟨t,rfl⟩:=r2;unfold Xd;exact SeqAt.EqAt.bool_int c i t
   |str i=>have z:=f.Xi;subst z;obtain⟨t,rfl⟩:=r2;unfold Xd;exact SeqAt.EqAt.bool_str c i t
   |tup j=>obtain⟨b,B,z,l,N⟩:=f.Xf;subst z;cases r2;obtain⟨O,v2,Q,_⟩:=I.tuple l;unfold Xd;exact SeqAt.EqAt.bool_tuple c (show s.heap.IsTuple b O.toArray from Q) q
  |int c =>
   have z:=v.W4;subst z;obtain⟨m,rfl⟩:=E
   cases e with
   |lst=>unfold XY at g;cases g
   |WX=>have z:=f.XF;subst z;cases r2;unfold Xd;exact SeqAt.EqAt.int_none c m
   |bl b=>have z:=f.X7;subst z;cases r2;unfold Xd;exact SeqAt.EqAt.int_bool c m b
   |int i=>have z:=f.W4;subst z;obtain⟨t,rfl⟩:=r2;unfold Xd;exact SeqAt.EqAt.int_int c m i t
   |str i=>have z:=f.Xi;subst z;obtain⟨t,rfl⟩:=r2;unfold Xd;exact Ww c m i t
   |tup j=>obtain⟨b,B,z,l,N⟩:=f.Xf;subst z;cases r2;obtain⟨O,v2,Q,_⟩:=I.tuple l;unfold Xd;exact SeqAt.EqAt.int_tuple c m (show s.heap.IsTuple b O.toArray from Q) q
  |str c =>
   have z:=v.Xi;subst z;obtain⟨m,rfl⟩:=E
   cases e with
   |lst=>unfold XY at g;cases g
   |WX=>have z:=f.XF;subst z;cases r2;unfold Xd;exact SeqAt.EqAt.str_none c m
   |bl b=>have z:=f.X7;subst z;cases r2;unfold Xd;exact SeqAt.EqAt.str_bool c m b
   |int i=>have z:=f.W4;subst z;obtain⟨t,rfl⟩:=r2;unfold Xd;exact Wx c m i t
   |str i=>have z:=f.Xi;subst z;obtain⟨t,rfl⟩:=r2;unfold Xd;exact SeqAt.EqAt.str_str c m i t
   |tup j=>obtain⟨b,B,z,l,N⟩:=f.Xf;subst z;cases r2;obtain⟨O,v2,Q,_⟩:=I.tuple l;unfold Xd;exact SeqAt.EqAt.str_tuple c m (show s.heap.IsTuple b O.toArray from Q) q
  |tup G =>
   have q1':=v
   obtain⟨a,T,z,s1,t1⟩:=v.Xf;subst z;cases E;obtain⟨us,v1,p1,_⟩:=I.tuple s1
   have J:s.heap.IsTuple a us.toArray:=p1
   cases e with
   |lst=>unfold XY at g;cases g
   |WX=>have z:=f.XF;subst z;cases r2;unfold Xd;exact SeqAt.EqAt.tuple_none J q
   |bl b=>have z:=f.X7;subst z;cases r2;unfold Xd;exact SeqAt.EqAt.tuple_bool b J q
   |int i=>have z:=f.W4;subst z;obtain⟨t,rfl⟩:=r2;unfold Xd;exact SeqAt.EqAt.tuple_int i t J q
   |str i=>have z:=f.Xi;subst z;obtain⟨t,rfl⟩:=r2;unfold Xd;exact SeqAt.EqAt.tuple_str i t J q
   |tup j =>
    have q2':=f
    obtain⟨b,B,z,l,N⟩:=f.Xf;subst z;cases r2
    by_cases U:a=b
    ·subst U
     have Y:=kH I (.tup G) (.tup j) r q1' q2' g
     rw[<- Y,rJ _ r]
     exact SeqAt.EqAt.same _
    ·exact tt G j a b T B rfl rfl t1 N s1 l U
theorem Lc{X:Cx}{v:List (Addr×Obj)}{T:St}{H:Hp}{s:Shared}(I:Inv X v T H s)(n:Nat)(A:Around)(d e:D)(x y:V)(u w:Value)(hu:A.units+n+2<cLine)(U:cG d<=n+1)(M:XY d=true)(m:XY e=true)(B:Dat X.K H d x)(f:Dat X.K H e y)(E:RelV x u)(r2:RelV y w) :
  SeqAt.RcAt A s u w (Xd d e)/\SeqAt.RcNeAt A s u w (!Xd d e):=by
 have j:A.units<cLine:=by lia
 cases d with
 |lst=>unfold XY at M;cases M
 |WX =>
  have z:=B.XF;subst z;cases E
  cases e with
  |lst=>unfold XY at m;cases m
  |WX=>have z:=f.XF;subst z;cases r2;unfold Xd;exact⟨SeqAt.RcAt.none_none,SeqAt.RcNeAt.none_none⟩
  |bl b=>have z:=f.X7;subst z;cases r2;unfold Xd;exact⟨SeqAt.RcAt.none_bool b,SeqAt.RcNeAt.none_bool b⟩
  |int i=>have z:=f.W4;subst z;obtain⟨t,rfl⟩:=r2;unfold Xd;exact⟨SeqAt.RcAt.none_int i t,SeqAt.RcNeAt.none_int i t⟩
  |str i=>have z:=f.Xi;subst z;obtain⟨t,rfl⟩:=r2;unfold Xd;exact⟨SeqAt.RcAt.none_str i t,SeqAt.RcNeAt.none_str i t⟩
  |tup G=>obtain⟨b,N,z,r,J⟩:=f.Xf;subst z;cases r2;obtain⟨p,O,q,_⟩:=I.tuple r;unfold Xd;exact⟨SeqAt.RcAt.none_tuple (show s.heap.IsTuple b p.toArray from q) j,SeqAt.RcNeAt.none_tuple (show s.heap.IsTuple b p.toArray from q) j⟩
 |bl c =>
  have z:=B.X7;subst z;cases E
  cases e with
  |lst=>unfold XY at m;cases m
  |WX=>have z:=f.XF;subst z;cases r2;unfold Xd;exact⟨SeqAt.RcAt.bool_none c,SeqAt.RcNeAt.bool_none c⟩
  |bl b=>have z:=f.X7;subst z;cases r2;unfold Xd;exact⟨SeqAt.RcAt.bool_bool c b,SeqAt.RcNeAt.bool_bool c b⟩
  |int i=>have z:=f.W4;subst z;obtain⟨t,rfl⟩:=r2;unfold Xd;exact⟨SeqAt.RcAt.bool_int c i t,SeqAt.RcNeAt.bool_int c i t⟩
  |str i=>have z:=f.Xi;subst z;obtain⟨t,rfl⟩:=r2;unfold Xd;exact⟨SeqAt.RcAt.bool_str c i t,SeqAt.RcNeAt.bool_str c i t⟩
  |tup G=>obtain⟨b,N,z,r,J⟩:=f.Xf;subst z;cases r2;obtain⟨p,O,q,_⟩:=I.tuple r;unfold Xd;exact⟨SeqAt.RcAt.bool_tuple c (show s.heap.IsTuple b p.toArray from q) j,SeqAt.RcNeAt.bool_tuple c (show s.heap.IsTuple b p.toArray from q) j⟩
 |int c =>
  have z:=B.W4;subst z;obtain⟨g,rfl⟩:=E
  cases e with
  |lst=>unfold XY at m;cases m
  |WX=>have z:=f.XF;subst z;cases r2;unfold Xd;exact⟨SeqAt.RcAt.int_none c g,SeqAt.RcNeAt.int_none c g⟩
  |bl b=>have z:=f.X7;subst z;cases r2;unfold Xd;exact⟨SeqAt.RcAt.int_bool c g b,SeqAt.RcNeAt.int_bool c g b⟩
  |int i=>have z:=f.W4;subst z;obtain⟨t,rfl⟩:=r2;unfold Xd;exact⟨SeqAt.RcAt.int_int c g i t,SeqAt.RcNeAt.int_int c g i t⟩
  |str i=>have z:=f.Xi;subst z;obtain⟨t,rfl⟩:=r2;unfold Xd;exact⟨SeqAt.RcAt.int_str c g i t,SeqAt.RcNeAt.int_str c g i t⟩
  |tup G=>obtain⟨b,N,z,r,J⟩:=f.Xf;subst z;cases r2;obtain⟨p,O,q,_⟩:=I.tuple r;unfold Xd;exact⟨SeqAt.RcAt.int_tuple c g (show s.heap.IsTuple b p.toArray from q) j,SeqAt.RcNeAt.int_tuple c g (show s.heap.IsTuple b p.toArray from q) j⟩
 |str c =>
  have z:=B.Xi;subst z;obtain⟨g,rfl⟩:=E
  cases e with
  |lst=>unfold XY at m;cases m
  |WX=>have z:=f.XF;subst z;cases r2;unfold Xd;exact⟨SeqAt.RcAt.str_none c g,SeqAt.RcNeAt.str_none c g⟩
  |bl b=>have z:=f.X7;subst z;cases r2;unfold Xd;exact⟨SeqAt.RcAt.str_bool c g b,SeqAt.RcNeAt.str_bool c g b⟩
  |int i=>have z:=f.W4;subst z;obtain⟨t,rfl⟩:=r2;unfold Xd;exact⟨SeqAt.RcAt.str_int c g i t,SeqAt.RcNeAt.str_int c g i t⟩
  |str i=>have z:=f.Xi;subst z;obtain⟨t,rfl⟩:=r2;unfold Xd;exact⟨SeqAt.RcAt.str_str c g i t,SeqAt.RcNeAt.str_str c g i t⟩
  |tup G=>obtain⟨b,N,z,r,J⟩:=f.Xf;subst z;cases r2;obtain⟨p,O,q,_⟩:=I.tuple r;unfold Xd;exact⟨SeqAt.RcAt.str_tuple c g (show s.heap.IsTuple b p.toArray from q) j,SeqAt.RcNeAt.str_tuple c g (show s.heap.IsTuple b p.toArray from q) j⟩
 |tup Y =>
  obtain⟨a,xs,z,Q,t1⟩:=B.Xf;subst z;cases E;obtain⟨us,v1,p1,_⟩:=I.tuple Q;have l:s.heap.IsTuple a us.toArray:=p1
  cases e with
  |lst=>unfold XY at m;cases m
  |WX=>have z:=f.XF;subst z;cases r2;unfold Xd;exact⟨SeqAt.RcAt.tuple_none l j,SeqAt.RcNeAt.tuple_none l j⟩
  |bl b=>have z:=f.X7;subst z;cases r2;unfold Xd;exact⟨SeqAt.RcAt.tuple_bool b l j,SeqAt.RcNeAt.tuple_bool b l j⟩
  |int i=>have z:=f.W4;subst z;obtain⟨t,rfl⟩:=r2;unfold Xd;exact⟨SeqAt.RcAt.tuple_int i t l j,SeqAt.RcNeAt.tuple_int i t l j⟩
  |str i=>have z:=f.Xi;subst z;obtain⟨t,rfl⟩:=r2;unfold Xd;exact⟨SeqAt.RcAt.tuple_str i t l j,SeqAt.RcNeAt.tuple_str i t l j⟩
  |tup G =>obtain⟨b,N,z,r,J⟩:=f.Xf;subst z;cases r2;unfold cG at U;unfold XY at M m;unfold Xd;exact sH (A:=A) (ds:=Y) (es:=G) I j n (λd e x y u w k1 k2 k3 k4 k5 k6 k7=>o7 I n A.in1 d e x y u w (by rw[jd];lia) k1 k2 k3 k4 k5 k6 k7) (by lia) M m t1 J Q r
theorem Ld{X:Cx}{i:List (Addr×Obj)}{N:St}{H:Hp}{s:Shared}(I:Inv X i N H s)(n:Nat)(A:Around)(f g:List D)(a b:Addr)(t v:List V)(hu:A.units+n+2<cLine)(O:Xj f<=n)(Q:Xp f=true)(T:Xp g=true)(U:Xk X.K H a t)(Y:Xk X.K H b v)(B:WW X.K H f t)(r2:WW X.K H g v) :
  SeqAt.RcAt A s (.ref a) (.ref b) (Xv f g)/\SeqAt.RcNeAt A s (.ref a) (.ref b) (!Xv f g):=by
 have j:A.units<cLine:=by lia
 obtain⟨q,E,l,_⟩:=I.list U;obtain⟨r,G,m,_⟩:=I.list Y;have e1:q.toArray.size=f.length:=by rw[TH,<- E.length,B.length]
 have e2:r.toArray.size=g.length:=by rw[TH,<- G.length,r2.length]
 have J:=lE (X:=X) (H:=H) (s:=s) (A:=A.in1) n (λd e x y u w k1 k2 k3 k4 k5 k6 k7=>o7 I n A.in1 d e x y u w (by rw[jd];lia) k1 k2 k3 k4 k5 k6 k7) O Q T B r2 E G;by_cases hl:f.length=g.length
 ·have c:q.toArray.size=r.toArray.size:=by rw[e1,e2,hl]
  have p:=SeqAt.RcAt.lists l.isList m.isList c j J;have M:=SeqAt.RcNeAt.lists l.isList m.isList c j J;rw[e1,rK hl]at p M;exact⟨p,M⟩
 ·have c:(q.toArray.size != r.toArray.size)=true:=by rw[e1,e2];simpa using hl
  have z:Xv f g=false:=by
   rw[<- dM];have:(f.length==g.length)=false:=by simpa using hl
   rw[this,Bool.and_false]
  rw[z];exact⟨SeqAt.RcAt.lists_lengths l.isList m.isList c j,SeqAt.RcNeAt.lists_lengths l.isList m.isList c j⟩
noncomputable def yq(K:W.Frag)(a:Bool):R2:=λx y H Q=>∃d e,Dat K H d x/\Dat K H e y/\XY d=true/\XY e=true/\cG d<=20/\Q (.bl (if a then !Xd d e else Xd d e)) H
theorem Hc{X:Cx}(c:W2 k X.A):XT X (compareOp .Eq) (yq X.K false):=by
 intro a s p H x y v u Q I f g h;obtain⟨d,e,i,j,l,m,r,q⟩:=h;have n:X.A.units+19+2<cLine:=by have:=c.un;lia
 exact(Lc I 19 X.A d e x y v u n (by lia) l m i j f g).1 _ _ _ _ ⟨.bl _,H,I,rfl,q⟩
theorem AI{X:Cx}(c:W2 k X.A):XT X (compareOp .NotEq) (yq X.K true):=by
 intro a s p H x y v u Q I f g h;obtain⟨d,e,i,j,l,m,r,q⟩:=h;have n:X.A.units+19+2<cLine:=by have:=c.un;lia
 exact(Lc I 19 X.A d e x y v u n (by lia) l m i j f g).2 _ _ _ _ ⟨.bl _,H,I,rfl,q⟩
noncomputable def yr(K:W.Frag)(e:Bool):R2:=λx y H Q=>∃a b f g c d,x=.ref a/\y=.ref b/\Xk K H a f/\Xk K H b g/\WW K H c f/\WW K H d g/\Xp c=true/\Xp d=true/\Xj c<=20/\Q (.bl (if e then !Xv c d else Xv c d)) H
theorem AG{X:Cx}(d:W2 k X.A):XT X (compareOp .Eq) (yr X.K false):=by
 intro c s E H x y v u Q I e f h;obtain⟨a,b,g,i,j,l,ex,m,n,p,r,r2,t,w,z,q⟩:=h;subst ex m;cases e;cases f;have B:X.A.units+20+2<cLine:=by have:=d.un;lia
 exact(Ld I 20 X.A j l a b g i B z t w n p r r2).1 _ _ _ _ ⟨.bl _,H,I,rfl,q⟩
theorem AJ{X:Cx}(d:W2 k X.A):XT X (compareOp .NotEq) (yr X.K true):=by
 intro c s E H x y v u Q I e f h;obtain⟨a,b,g,i,j,l,ex,m,n,p,r,r2,t,w,z,q⟩:=h;subst ex m;cases e;cases f;have B:X.A.units+20+2<cLine:=by have:=d.un;lia
 exact(Ld I 20 X.A j l a b g i B z t w n p r r2).2 _ _ _ _ ⟨.bl _,H,I,rfl,q⟩
noncomputable def tyD:D->String
 | .WX=>"NoneType"
 | .bl _=>"bool"
 | .int _=>"int"
 | .str _=>"str"
 | .tup _=>"tuple"
 | .lst=>"list"
noncomputable def uo(d:D)(T:String):Bool:=tyD d==T||(tyD d=="bool"&&T=="int")
theorem zm{X:Cx}(hk:∀d:D,W.kitOne X.K (.type (tyD d)) (.type T)=some (uo d T)) :
  bo X (.builtin "isinstance") (λm H Q=>∃x d,m=[x,.ty T]/\Dat X.K H d x/\Q (.bl (uo d T)) H):=by
 intro j s n H m w Q I r h;obtain⟨x,d,e,q,h⟩:=h;subst e;obtain⟨u,c,e,f,p⟩:=EM r;subst e;cases (show c=Value.type T from p);have fin:∀tk,EP X j n Q (.bool (uo d T)) {s with toks:=tk}:=λtk=>⟨.bl _,H,I.tok tk,rfl,h⟩
 have g:=hk d
 cases d with
 |WX=>have z:=q.XF;subst z;cases f;exact Vf W.kitx_none I.Xy True.intro g (λz=>nomatch z) fin
 |bl b=>have z:=q.X7;subst z;cases f;exact Vf W.kitx_bool I.Xy True.intro g (λz=>nomatch z) fin
 |int i=>have z:=q.W4;subst z;obtain⟨t,rfl⟩:=f;exact Vf W.kitx_int I.Xy True.intro g (λz=>nomatch z) fin
 |str y=>have z:=q.Xi;subst z;obtain⟨t,rfl⟩:=f;exact Vf W.kitx_str I.Xy True.intro g (λz=>nomatch z) fin
 |tup B =>obtain⟨a,v,z,sq,_⟩:=q.Xf;subst z;cases f;obtain⟨l,_,⟨o,e1,e2,_⟩,_⟩:=I.tuple sq;exact Vf W.kitx_tuple I.Xy ⟨o,e1,e2⟩ g (λz=>nomatch z) fin
 |lst =>obtain⟨a,v,z,sq⟩:=q.lstE;subst z;cases f;obtain⟨l,_,⟨o,_,e1,e2,_⟩,_⟩:=I.list sq;exact Vf W.kitx_list I.Xy ⟨o,e1,e2⟩ g (λz=>nomatch z) fin
end
noncomputable def dH(K:W.Frag)(a:Addr)(T:List (Str×KTD.Dat)):Prop:=∀h:Heap,K.In h->KTD.TextTab h a T
section
theorem sk:XT X (compareOp .In) (λx y H Q=>∃k a T,x=.str k/\y=.ref a/\dH X.K a T/\Q (.bl (KTD.inKeys k T)) H):=by intro c s i H x y v u Q I d f h;obtain⟨k,a,T,ex,g,t,q⟩:=h;subst ex g;obtain⟨tk,rfl⟩:=d;cases f;exact KTD.in_text (h₀:=s.heap) ⟨t _ I.Xy,λ_ _ e=>e⟩ ⟨.bl _,H,I.tok _,rfl,q⟩
noncomputable def Ib(K:W.Frag):R2:=λx y H Q=>∃a k T i,x=.ref a/\y=.str k/\dH K a T/\(T.all λp=>KTD.plain p.2)=true/\KTD.datumAt k T=some (.flat (.int i))/\Q (.int i) H
theorem ix_tab:IxR X (Ib X.K):=by
 intro m n p s M H x y v u Q I r w h hs;obtain⟨a,k,T,i,ex,z,t,B,g,q⟩:=h;subst ex z;obtain⟨tk,rfl⟩:=w;cases r;have E:KTD.inKeys k T=true:=by rw[<- VO,g];rfl
 refine KTD.item_textA (h₀:=s.heap) ⟨t _ I.Xy,λ_ _ e=>e⟩ B E ?_ hs
 exact f T g λv G=>by obtain⟨J,rfl⟩:=PyProof.V.Flat.int_inv G;exact⟨.int i,H,I.tok _,⟨J,rfl⟩,q⟩
where
 f {h:Heap} {k:Str} {P:Value->Prop} {i:Int}:∀(T:List (Str×KTD.Dat)),KTD.datumAt k T=some (.flat (.int i))->(∀v,PyProof.V.Flat v (.int i)->P v)->KTD.EachL h k P T
  |[],g,_=>by simp[KTD.datumAt]at g
  | (x,d)::T,g,j=>by
   have c:(if decide (k=x)=true then some d else KTD.datumAt k T)=some (.flat (.int i)):=g
   by_cases l:k=x
   ·rw[TY (U4 l)]at c
    cases c
    refine KTD.eachL_hit l ?_
    exact opened j
   ·rw[TQ (by simp[l])]at c
    exact KTD.eachL_miss l (f T c j)
 opened {h:Heap} {P:Value->Prop} {i:Int} (j:∀v,PyProof.V.Flat v (.int i)->P v):KTD.Opened h P (.flat (.int i)):=by
  first
   |exact KTD.opened_int λt=>j _ (PyProof.V.Flat.int i t)
   |exactλt=>j _ (PyProof.V.Flat.int i t)
end
section
variable{H H':Hp}
variable{K:W.Frag}
theorem W3.sqT(e:W3 H H')(h:Xz K H a c):Xz K H' a c:=by
 rcases h with(h|⟨o,h⟩)|h
 ·exact .inl (.inl (e _ _ h))
 ·exact .inl (.inr ⟨o,e _ _ h⟩)
 ·exact .inr h
theorem W3.grow(e:W3 H H'):wZ K H H':=⟨λ_ _ h=>e.sqT h,λ_ a h=>⟨a,e.seq h⟩⟩
theorem W3.dat(e:W3 H H')(h:Dat K H d v):Dat K H' d v:=Dat.mono e.grow d h
theorem W3.dats(e:W3 H H')(h:WW K H a c):WW K H' a c:=WW.mono e.grow a h
theorem bx(h:H p=none)(o:HO):W3 H (upd H p o):=λb u q=>by rw[ag (aA q h)];exact q
noncomputable def YZ(t:Addr)(H H':Hp):Prop:=∀b o,b≠t->H b=some o->H' b=some o
theorem W3.but(e:W3 H H'):YZ t H H':=λb o _ h=>e b o h
theorem YZ.trans(a:YZ t H H')(b:YZ t H' d):YZ t H d:=λc o n h=>b c o n (a c o n h)
theorem YZ.upd(a:YZ t H H'):YZ t H (upd H' t o):=λb u n h=>by rw[ag n];exact a b u n h
theorem YZ.sqT(e:YZ t H H')(c:H t=some (.lst f))(h:Xz K H a d):Xz K H' a d:=by
 rcases h with(h|⟨o,h⟩)|h
 ·exact .inl (.inl (e _ _ (λz=>by rw[z,c]at h;cases h) h))
 ·exact .inl (.inr ⟨o,e _ _ (λz=>by rw[z,c]at h;cases h) h⟩)
 ·exact .inr h
theorem YZ.Zf(e:YZ t H H')(n:a≠t)(h:Xk K H a c):Xk K H' a c:=by
 rcases h with(h|⟨o,h⟩)|h
 ·exact .inl (.inl (e _ _ n h))
 ·exact .inl (.inr ⟨o,e _ _ n h⟩)
 ·exact .inr h
theorem YZ.grow(e:YZ t H H')(f:H t=some (.lst i))(c:H' t=some (.lst d)):wZ K H H' :=
 ⟨λ_ _ h=>e.sqT f h,λa g h=>by
  by_cases n:a=t
  ·subst n;exact⟨d,Xk.of c⟩
  ·exact⟨g,e.Zf n h⟩⟩
end
section
theorem Fj{K:W.Frag}(d:D):W.kitOne K (.type (tyD d)) (.type "str")=some (uo d "str"):=by cases d<;>rfl
end
noncomputable def spD(K:W.Frag)(R:List D->D->Prop):Sp:=λe H Q _=>∃c d,WW K H c e/\R c d/\∀v a,W3 H a->Dat K a d v->Q v a
theorem Jn(h:WW K H [a] c):∃u,c=[u]/\Dat K H a u:=by obtain⟨u,r,e,d,h⟩:=h.W0;have z:=h.XA;subst z e;exact⟨u,rfl,d⟩
theorem qu{a:St}:(a.set j z).set j x=a.set j x:=by rw[List.set_set]
variable{J:It}{item:Nat->V}{σ0:St}
theorem tW{G:TE}{Q:VK}(Ok:Hp->Prop)
  (M:∀i a,Ok a->i<n->J.go i a/\∀x d,J.yld i a x d->d=a/\x=item i) (stop:∀a,Ok a->J.stop n a) (N:σ0.set j none=σ0)
  (D:Addr) (r:Nat->Hp->Prop) (p0:r 0 (upd O D (.lst []))) (ok:∀i a,i<=n->r i a->Ok a)
  (w:∀i a,i<n->r i a->G (σ0.set j (some (item i))) a λv B=>∃t,B D=some (.lst t)/\t.length<sizeLine/\(∃z,σ0.set j (some (item i))=σ0.set j z)/\r (i+1) (upd B D (.lst (t++[v]))))
  (fin:∀a,r n a->Q (.ref D) a) :
  ∃W:Nat->Nat->St->Hp->Prop,(∃m,W 0 m σ0 (upd O D (.lst [])))/\∀i m f a,W i m f a ->
   (J.stop i a/\Q (.ref D) a) \/
   (J.go i a/\∃E:St->Hp->Prop,(∀c d,E c d->∃H,H<m/\W (i+1) H c d)/\∀x d,J.yld i a x d->dZ j x f d λl T=>sZ l T λb I =>
    if b=true then G l I λv B=>∃t,B D=some (.lst t)/\t.length<sizeLine/\E l (upd B D (.lst (t++[v])))else E l I):=by
 refine⟨λi m f a=>m=n - i/\i<=n/\(∃z,f=σ0.set j z)/\r i a,⟨n,by lia,Uw _,⟨none,N.symm⟩,p0⟩,?_⟩;rintro i m f a ⟨rfl,U,⟨z,rfl⟩,p⟩;have o:=ok i a U p;by_cases u:i<n
 ·obtain⟨g,y⟩:=M i a o u;refine .inr ⟨g,λc d=>(∃z,c=σ0.set j z)/\r (i+1) d,λc d q=>⟨n - (i+1),by lia,rfl,u,q.1,q.2⟩,λx d Y=>?_⟩;obtain⟨e1,e2⟩:=y x d Y;subst e1 e2;simp only[dZ,sZ,VU,qu];exact w i _ u p
 ·have e:i=n:=by lia
  subst e;exact .inl ⟨stop a o,fin a p⟩
section
noncomputable def K4(K:W.Frag):V->V->Hp->VK->Prop:=λo i H Q=>∃p a k v,o=.ref p/\i=.int k/\0<=k/\Xk K H p a/\a[k.toNat]?=some v/\Q v H
theorem zH:Jb X (K4 X.K):=by intro c s B H o i E G Q I e r2 h;obtain⟨p,f,k,v,g,j,l,m,d,q⟩:=h;subst g j;cases e;obtain⟨t,rfl⟩:=r2;obtain⟨n,r,u,M⟩:=I.list m;obtain⟨w,y,a⟩:=r.get d;have hl:=r.length;have z:k.toNat<f.length:=(M1.mp d).1;have N:=fj;exact wpAny_getItem_list u.isList l (by lia) (by simpa using y) ⟨v,H,I,a,q⟩
theorem C9:XT X (binaryOp .Mult) (rI IntMulOk λi j=>.int (i*j)):=opI λ_ _ _ _ _ _ _ a q=>mul_int q a
end
theorem wc(h:j<n):ixN n (j:Int)=some j:=by unfold ixN;rw[TY (by lia),TY (by lia)];simp
theorem at0{α:Type}{x:α}{r:List α}:atI (x::r) 0=some x:=gW (j:=0) rfl
theorem at1{α:Type}{x y:α}{r:List α}:atI (x::y::r) 1=some y:=gW (j:=1) rfl
theorem ix0:ixN (n+1) 0=some 0:=wc (j:=0) (by lia)
theorem ix1:ixN (n+2) 1=some 1:=wc (j:=1) (by lia)
theorem nM:∀a:List Int,WW K H (a.map D.int) (a.map V.int)
 |[]=>WW.nil
 |n::a=>WW.cons (Dat.intI n) (nM a)
theorem nW:∀a:List Int,Xp (a.map D.int)=true
 |[]=>by unfold Xp;rfl
 |n::a=>by show Xp (D.int n::a.map D.int)=true;unfold Xp;rw[nW a];unfold XY;rfl
theorem jH:∀a:List Int,Xj (a.map D.int)=0
 |[]=>by unfold Xj;rfl
 |n::a=>by show Xj (D.int n::a.map D.int)=0;unfold Xj;rw[jH a];unfold cG;rfl
theorem zz(a:List Int):Xv (a.map D.int) []=a.isEmpty:=by
 cases a with
 |nil=>unfold Xv;rfl
 |cons n a=>show Xv (D.int n::a.map D.int) []=false;unfold Xv;rfl
theorem Bu(h:n<=1000):n<=sizeLine:=UX (oI h)
noncomputable def Scr(K:W.Frag)(H:Hp)(a:Addr)(d:List Int):Prop:=(∃o,H a=some (.frz o (.lst (d.map V.int)))) \/
 ∃(o:Obj)(c:Array Value)(n:Nat),K.lookup a=some o/\o.cls=.type "list"/\o.dict=none/\o.data=.seq c n/\c.size<=sizeLine/\Vals (d.map V.int) c.toList
theorem Scr.Zf(h:Scr K H a c):Xk K H a (c.map V.int):=by
 rcases h with⟨o,h⟩|h
 ·exact .inl (.inr ⟨o,h⟩)
 ·exact .inr h
theorem Scr.but(h:Scr K H a c)(e:YZ t H d)(f:H t=some (.lst g)):Scr K d a c:=by
 rcases h with⟨o,h⟩|h
 ·exact .inl ⟨o,e _ _ (λz=>by rw[z,f]at h;cases h) h⟩
 ·exact .inr h
theorem Io{c:List Int}(d:BQ H)(h:Xk K H a (c.map V.int)):Scr K H a c:=by
 rcases h with(h|⟨o,h⟩)|h
 ·rcases d a with z|⟨o,e,z⟩
  ·rw[h]at z;cases z
  ·rw[h]at z;cases z
 ·exact .inl ⟨o,h⟩
 ·exact .inr h
noncomputable def Bv(K:W.Frag):Sp:=λe H Q _=>∃(a t:Addr)(f:List Int)(m p q:Int)(rest:List V),e=[.ref a,.ref t,.int m]/\Scr K H a f/\H t=some (.lst (.int p::.int q::rest))/\0<=p/\0<m/\m<=1000000 /\
 ∀(r:Int)(c:Hp)(d g:Int),YZ t H c->c t=some (.lst (.int d::.int g::rest))->0<=d->0<=r->r<m->Q (.int r) c
noncomputable def RE(K:W.Frag)(t:TE)(e:St)(H:Hp)(d:D):Prop:=∀a,W3 H a->∀Q:VK,(∀v c,W3 a c->Dat K c d v->Q v c)->t e a Q
noncomputable def RT(t:TT)(d:St)(H:Hp)(b:Bool):Prop:=∀a,W3 H a->∀Q:Bool->Hp->Prop,(∀c,W3 a c->Q b c)->t d a Q
noncomputable def RA(K:W.Frag)(t:TA)(e:St)(H:Hp)(f:List D):Prop:=∀a,W3 H a->∀Q:List V->Hp->Prop,(∀d c,W3 a c->WW K c f d->Q d c)->t e a Q
section
variable{K:W.Frag}
theorem RE.mono(h:RE K t a H d)(e:W3 H c):RE K t a c d:=λf s Q q=>h f (e.trans s) Q q
theorem RE.as(h:RE K t a H d)(e:d=c):RE K t a H c:=e▸h
theorem RT.as(h:RT a d H b)(e:b=c):RT a d H c:=e▸h
theorem RE.use(h:RE K t c H d)(q:∀v a,W3 H a->Dat K a d v->Q v a):t c H Q:=h H (W3.refl H) Q q
theorem RT.use(h:RT c d H b)(q:∀a,W3 H a->Q b a):c d H Q:=h H (W3.refl H) Q q
theorem RA.use(h:RA K tA d H e)(q:∀c a,W3 H a->WW K a e c->Q c a):tA d H Q:=h H (W3.refl H) Q q
theorem uQ:RE K (tC (.int i)) a H (.int i):=λc _ Q q=>q _ _ (W3.refl _) (Dat.intI i)
theorem uR:RE K (tC (.str x)) a H (.str x):=λc _ Q q=>q _ _ (W3.refl _) (Dat.strI x)
theorem EF:RE K (tC (.bl b)) a H (.bl b):=λc _ Q q=>q _ _ (W3.refl _) (Dat.blI b)
theorem lS(h:Dat K H d v)(e:a[k]?=some (some v):=by rfl):RE K (cB k) a H d:=λc s Q q=>⟨v,e,q _ _ (W3.refl _) (s.dat h)⟩
theorem lQ:RA K bM a H []:=λc _ Q q=>q _ _ (W3.refl _) WW.nil
theorem a6(h:RE K t a H d)(r:RA K tA a H f):RA K (ay t tA) a H (d::f):=λg s Q q =>
 h g s _ λv i c j=>r i (s.trans c) _ λm n e l=>q _ _ (c.trans e) (WW.cons (e.dat j) l)
theorem Ih(h:RA K tA e H a)(hl:a.length<=1000:=by simp):RE K (Lw tA) e H (.tup a):=λf s Q q =>
 h f s _ λi j g c=>⟨by rw[<- c.length];exact Bu hl,λp d=>q _ _ (g.trans (bx d _)) (Dat.tupI (Xz.of ai) ((bx d _).dats c))⟩
theorem Ig(d:RE K f a H (.int i))(g:RE K l a H (.int j)):RE K (tOp rNe f l) a H (.bl (!decide (i=j))):=λm s Q q =>
 d m s _ λv n c p=>g n (s.trans c) _ λw u r t=>by
  rw[p.W4,t.W4];refine⟨rfl,?_⟩;have e:decide (V.int i=V.int j)=decide (i=j):=by by_cases z:i=j<;>simp[z]
  rw[e];exact q _ _ (c.trans r) (Dat.blI _)
theorem Bh(h:RE K t a H d):RE K (tCB (λc H Q=>∃x d,c=[x,.ty T]/\Dat K H d x/\Q (.bl (uo d T)) H) (ay t (ay (tC (.ty T)) bM))) a H (.bl (uo d T)):=λe s Q q =>
 h e s _ λv i f g=>⟨v,d,rfl,g,q _ _ f (Dat.blI _)⟩
theorem Bg{i:Int}{p r:Int->Int->Bool}(g:RE K l c H (.int i))(m:RE K n c H (.int j))(t:p i j=true->RE K u c H (.int k)) :
  RE K (Yt (ZJ λi j=>.bl (p i j)) (ZJ λi j=>.bl (r i j)) l n u) c H (.bl (p i j&&r j k)):=λy s Q q =>
 g y s _ λv B a E=>m B (s.trans a) _ λw G d f=>by
  refine⟨i,j,E.W4,f.W4,p i j,rfl,?_⟩
  cases e:p i j with
  |true =>simp only[VU,WJ];exact t e G (s.trans (a.trans d)) _ λz N I M=>⟨j,k,f.W4,M.W4,q _ _ (a.trans (d.trans I)) (by rw[e];exact Dat.blI _)⟩
  |false =>simp only[WE,WQ,Wu];exact q _ _ (a.trans d) (by rw[e];exact Dat.blI _)
theorem wO(h:RE K t a H (.bl b)):RT (Ys t) a H b:=λc s Q q=>h c s _ λv f d e=>⟨b,e.X7,q _ d⟩
theorem lV(h:RE K t a H (.bl b)):RT (λa H Q=>t a H λx c=>∃k,yR K x c k/\Q k c) a H b:=λd s Q q=>h d s _ λv g e f=>by rw[f.X7];exact⟨b,rfl,q _ e⟩
theorem pY(h:RT a c H b):RT (Lq a) c H (!b):=λd s Q q=>h d s _ λf e=>q _ e
theorem Bl(h:RT e d H b)(f:b=false->RT g d H c):RT (tOr e g) d H (b||c):=λi s Q q=>h i s _ λj a=>by
 cases b with
 |true=>rw[TY rfl];exact q _ a
 |false=>rw[TQ TU];exact f rfl j (s.trans a) _ λm l=>q _ (a.trans l)
theorem pX{c:Ends}(h:RE K t e H d)(q:∀v a,W3 H a->Dat K a d v->c.rt v a):By t c e H:=h.use q
theorem Lf(h:RT e c H b)(f:b=true->∀a,W3 H a->g d c a)(i:b=false->∀a,W3 H a->j d c a):DS e g j d c H:=h.use λa s=>by
 cases b with
 |true=>rw[TY rfl];exact f rfl a s
 |false=>rw[TQ TU];exact i rfl a s
end
theorem dI:bootBuiltins "len"=some (.builtin "len"):=by decide +kernel
theorem au:bootBuiltins "isinstance"=some (.builtin "isinstance"):=by decide +kernel
theorem y3:bootBuiltins "all"=some (.builtin "all"):=by decide +kernel
theorem E4:bootBuiltins "any"=some (.builtin "any"):=by decide +kernel
theorem E7:bootBuiltins "sum"=some (.builtin "sum"):=by decide +kernel
theorem E5:bootBuiltins "int"=some (.type "int"):=by decide +kernel
theorem BX:bootBuiltins "bool"=some (.type "bool"):=by decide +kernel
theorem y6:bootBuiltins "str"=some (.type "str"):=by decide +kernel
theorem qM:bootBuiltins "tuple"=some (.type "tuple"):=by decide +kernel
theorem kG:bootBuiltins "list"=some (.type "list"):=by decide +kernel
theorem y4:bootBuiltins "range"=some (.type "range"):=by decide +kernel
theorem E6:bootBuiltins "set"=some (.type "set"):=by decide +kernel
theorem E8:bootBuiltins "zip"=some (.type "zip"):=by decide +kernel
theorem jx:bootBuiltins "reversed"=some (.type "reversed"):=by decide +kernel
theorem mM:bootBuiltins "ValueError"=some (.type "ValueError"):=by decide +kernel
theorem Bk(h:RA K tA f H d)(q:∀p c a,W3 H a->a p=none->WW K a d c->Q (.ref p) (upd a p (.lst c)))(hl:d.length<=1000:=by simp):vx tA f H Q :=
 h.use λc a g e=>⟨by rw[<- e.length];exact Bu hl,λp i=>q p c a g i e⟩
theorem xq{K:PySem.W.Frag}{e:Hp}{Q:VK}(Y:∀i a,W3 e a->i<n->J.go i a/\∀x q,J.yld i a x q->q=a/\x=item i)(stop:∀a,W3 e a->J.stop n a)
  (h0:σ0.set j none=σ0) (u:List D) (hn:u.length=n) (I:n<=1000) (y:∀i d,u[i]?=some d->RE K te (σ0.set j (some (item i))) e d)
  (fin:∀l c a,e l=none->W3 e a->a l=some (.lst c)->WW K a u c->Q (.ref l) a) (l:Addr) (hl:e l=none) :
  ∃W:Nat->Nat->St->Hp->Prop,(∃m,W 0 m σ0 (upd e l (.lst [])))/\∀i m z a,W i m z a ->
   (J.stop i a/\Q (.ref l) a) \/
   (J.go i a/\∃M:St->Hp->Prop,(∀r q,M r q->∃T,T<m/\W (i+1) T r q)/\∀x q,J.yld i a x q->dZ j x z q λf H2=>sZ f H2 λb U =>
    if b=true then te f U λv w=>∃c,w l=some (.lst c)/\c.length<sizeLine/\M f (upd w l (.lst (c++[v])))else M f U):=by
 refine tW (λa=>W3 e a) Y stop h0 l (λi a=>W3 e a/\∃c,a l=some (.lst c)/\WW K a (u.take i) c) ?_ ?_ ?_ ?_
 ·exact⟨bx hl _,[],ai,by rw[List.take_zero];exact WW.nil⟩
 ·intro i a _ p;exact p.1
 ·intro i a hi ⟨H,c,N,B⟩;have E:i<u.length:=by lia
  refine((y i u[i] (RL E)).mono H).use λv w O q4=>?_;have G:=O _ _ N;have lys:c.length=i:=by rw[<- B.length,Vb];lia
  refine⟨c,G,oI (by lia),⟨_,rfl⟩,λb o I=>?_,c++[v],ai,?_⟩
  ·rw[ag (aA I hl)];exact O _ _ (H _ _ I)
  ·have g:wZ K w (upd w l (.lst (c++[v]))):=YZ.grow (t:=l) (YZ.upd (W3.refl w).but) G ai;rw[List.take_add_one,RL E];exact WW.append (WW.mono g _ (O.dats B)) (WW.cons (Dat.mono g _ q4) WW.nil)
 ·intro a ⟨H,c,N,B⟩;rw[UZ (by lia)]at B;exact fin l c a hl H N B
theorem uV{K:W.Frag}(h:RT f c H b)(g:b=true->∀a,W3 H a->i {d with nx:=e d} c a)(j:b=false->∀a,W3 H a->e d c a):bf (DS f i EL) e d c H :=
 Lf h g j
theorem Ij(h:c a H λx d=>e f (a.set k (some x)) d):bf (Y6 c (dZ k)) e f a H:=h
theorem ED(h:a c H λx d=>r [x] d Q):tCB r (ay a bM) c H Q:=h
theorem pW(h:RA K tA i G t)(hl:G l=some (.lst c))(B:c.length<=900)
  (q:∀u f,YZ l G f->f l=some (.lst (c++u))->WW K f t u->w y i f) (z:i[j]?=some (some (.ref l)):=by rfl) (E:t.length<=100:=by simp):bf (EJ (tBM K "list" pT (cB j) (ay (vx tA) bM))) w y i G:=by
 refine⟨_,z,.inl ⟨rfl,_,Xk.of hl⟩,?_⟩;refine Bk h (λp a d m n v=>?_) (by lia);have r:l≠p:=aA (m _ _ hl) n;have e:upd d p (.lst a) l=some (.lst c):=by rw[ag r];exact m _ _ hl
 have H:=v.length;refine⟨l,p,c,a,rfl,rfl,e,ai,Bu (by lia),?_⟩;have b:YZ l (upd d p (.lst a)) (upd (upd d p (.lst a)) l (.lst (c++a))):=YZ.upd (W3.refl _).but;have g:wZ K (upd d p (.lst a)) (upd (upd d p (.lst a)) l (.lst (c++a))):=b.grow e ai;exact q a _ ((m.trans (bx n _)).but.trans b) ai (WW.mono g _ ((bx n _).dats v))
noncomputable def b5:Expr->Bool
 | .Starred ..=>false
 |_=>true
theorem aP(h:b5 e=true):starEach (e::a) env=(false,eval e env)::starEach a env:=by cases e<;>first|rfl|cases h
theorem aB(a:PE X e c)(d:PA X f t)(h:b5 e=true:=by rfl):PA X (e::f) (ay c t):=aw a d (aP h)
theorem mK{bs:List Bool}:Vals (bs.map V.bl) a->a=bs.map Value.bool:=by
 intro h
 induction bs generalizing a with
 |nil=>cases h;rfl
 |cons b bs c =>
  cases h with
  |cons r t=>cases r;rw[c t];rfl
theorem Bd(bs:List Bool)(d:Bool):(List.range bs.length).map (λi=>(bs[i]?).getD d)=bs:=by
 apply List.ext_getElem
 ·simp
 ·intro i a c;simp at a;simp[a]
section
theorem qQ{X:Cx}(t:X.calm=true):bo X (.builtin "all") (λg H Q=>∃(l:Addr)(bs:List Bool),g=[.ref l]/\Xk X.K H l (bs.map V.bl)/\Q (.bl (bs.all id)) H):=by
 intro j s G H g M Q I r h;obtain⟨l,bs,rfl,w,q⟩:=h;obtain⟨u,rfl,y⟩:=bq r;cases y;obtain⟨c,z,p,N⟩:=I.list w;have m:=mK z;have hl:=p.isList;have d:l<s.heap.objs.size:=by obtain⟨_,e,_⟩:=hl;exact TJ e
 refine call_all_walk (Vx hl ?_)
 refine⟨s.heap.objs.size,[s.heap.objs.size,l],[s.heap.objs.size],c.toArray.size,_,_,λi=>(bs[i]?).getD true,rfl,Walks.list (A:=X.A.in1) (I.ok.hd t) _ l (TV d) c.toArray,
  ⟨⟨_,TX _ rfl,rfl,rfl⟩,hl.push _⟩,λi v O T U B n=>?_,λY tk hk=>?_⟩
 ·subst m;have a:(bs.map Value.bool)[i]?=some v:=by simpa using B
  rw[T4]at a
  cases f:bs[i]? with
  |none=>rw[f]at a;cases a
  |some b =>rw[f]at a;cases a;simp only[f,V7]at n;exact Uv n
 ·have e:((List.range c.toArray.size).all λi=>(bs[i]?).getD true)=bs.all id:=by
   subst m;rw[TH,T8]
   conv=>rhs;rw[<- Bd bs true]
   rw[List.all_map];rfl
  rw[e];exact⟨.bl _,H,I.kept (t':=tk) λb x e=>hk b x (λE=>by rw[Ur.mp E]at e;exact Uz _ (TJ e)) (LD _ e),rfl,q⟩
theorem zk{X:Cx}(t:X.calm=true):bo X (.builtin "any") (λg H Q=>∃(l:Addr)(bs:List Bool),g=[.ref l]/\Xk X.K H l (bs.map V.bl)/\Q (.bl (bs.any id)) H):=by
 intro j s G H g M Q I r h;obtain⟨l,bs,rfl,w,q⟩:=h;obtain⟨u,rfl,y⟩:=bq r;cases y;obtain⟨c,z,p,N⟩:=I.list w;have m:=mK z;have hl:=p.isList;have d:l<s.heap.objs.size:=by obtain⟨_,e,_⟩:=hl;exact TJ e
 refine call_any_walk (Vx hl ?_)
 refine⟨s.heap.objs.size,[s.heap.objs.size,l],[s.heap.objs.size],c.toArray.size,_,_,λi=>(bs[i]?).getD false,rfl,Walks.list (A:=X.A.in1) (I.ok.hd t) _ l (TV d) c.toArray,
  ⟨⟨_,TX _ rfl,rfl,rfl⟩,hl.push _⟩,λi v O T U B n=>?_,λY tk hk=>?_⟩
 ·subst m;have a:(bs.map Value.bool)[i]?=some v:=by simpa using B
  rw[T4]at a
  cases f:bs[i]? with
  |none=>rw[f]at a;cases a
  |some b =>rw[f]at a;cases a;simp only[f,V7]at n;exact Uv n
 ·have e:((List.range c.toArray.size).any λi=>(bs[i]?).getD false)=bs.any id:=by
   subst m;rw[TH,T8]
   conv=>rhs;rw[<- Bd bs false]
   rw[List.any_map];rfl
  rw[e];exact⟨.bl _,H,I.kept (t':=tk) λb x e=>hk b x (λE=>by rw[Ur.mp E]at e;exact Uz _ (TJ e)) (LD _ e),rfl,q⟩
end
structure FunD(K:W.Frag)(x qual:Str)(st:Stmt)(f:Addr)(fd:FuncData)(T:Addr)(ds:List Value):Prop where
 ex:∃(oc:Value)(od:Option Addr)(kV doc pm:Value)(an:Option Addr)(cdv ct:Value)(osl:Array (Option Value)),
  fd=W.fnOf x qual (b9 st) (aV st) (aa st) (.ref T) kV doc pm an cdv ct/\K.lookup f=some ⟨oc,od,.func fd,osl⟩/\W.codeIn K cdv qual=true
 kp:W.keepIn K (.ref f)=true
 df:∃(o:Obj)(n:Nat),K.lookup T=some o/\o.data=.seq ds.toArray n
section
theorem zu{K:W.Frag}:∀{bs:List Bool}{a:List V},WW K H (bs.map D.bl) a->a=bs.map V.bl
 |[],a,h=>by rw[WW.XA h];rfl
 |b::bs,a,h=>by obtain⟨v,r,e,c,d⟩:=h.W0;rw[e,c.X7,zu d];rfl
theorem AH:XT X (compareOp .LtE) (λx y H Q=>∃i j:Str,x=.str i/\y=.str j/\Q (.bl (!decide (j.cps.toList<i.cps.toList))) H):=by intro a s e H x y v u Q I c d h;obtain⟨i,j,rfl,rfl,q⟩:=h;obtain⟨t,rfl⟩:=c;obtain⟨f,rfl⟩:=d;refine PySem.P.le_str ?_;exact⟨.bl _,H,I,rfl,q⟩
noncomputable def Its(x:Str):It:=⟨λi _=>i<x.cps.size,λi H v a=>a=H/\∃c,x.cps[i]?=some c/\v=.str ⟨#[c]⟩,λi _=>i=x.cps.size⟩
theorem oJ{K:PySem.W.Frag}{x:Str}(Y:["enumerate","zip","dict_itemiterator","dict_reverseitemiterator","odict_iterator","itertools.zip_longest","itertools.pairwise"].contains n=false)
  (W:∀A:Around,A.handled=none->Walks P w A it [it] [it] x.cps.size (SignAt x) (λi h=>h.IsStrIter it n x t i))
  (self:∀(A:Around)(i:Nat)(s:Shared)(Q:Value->Shared->Prop)(E:Value->Shared->Prop),s.heap.IsStrIter it n x t i->Q (.ref it) s->wpAny (model P w) A (pyIter (.ref it)) Q E s) :
  gR P w K tg (Its x) [it] it (λi h=>h.IsStrIter it n x t i) where
 mem:=by simp
 obj:=λi h st b f=>by
  have e:b=it:=by simpa using f
  subst e;obtain⟨o,e,c,d⟩:=st;exact⟨o,e,λv z=>by rw[d]at z;cases z⟩
 keep:=λi h j st k=>by obtain⟨o,e,r⟩:=st;exact⟨o,k it (by simp) o e,r⟩
 item:=by intro X m p q y i a s U H E I l st B;subst m p q;obtain⟨G,M,f2,N,O,f5⟩:=l it (by simp);refine(W X.A (I.ok.hd y)).item i s _ _ B st λv j tk hv g kk=>?_;obtain⟨c,u,hx,rfl⟩:=hv;have I1:Inv X a U H {s with heap:=j,toks:=tk}:=I.turned (λb o f e=>kk b o (by simpa using f) e) G M N O f5;obtain⟨o,e,cc,d⟩:=id g;exact⟨_,rfl,nP (s:={s with heap:=j,toks:=tk}) e cc d Y ⟨.str ⟨#[c]⟩,H,I1,⟨u,rfl⟩,⟨rfl,c,hx,rfl⟩,g,λb f=>(l b f).1⟩⟩
 done:=by intro X m p q y i a s U H E I l st B;subst m p q;obtain⟨G,M,f2,N,O,f5⟩:=l it (by simp);have T:i=x.cps.size:=B;subst T;exact(W X.A (I.ok.hd y)).done s _ _ st λj tk eb=>⟨rfl,I.turned (λb o f e=>eb b o (by simpa using f) e) G M N O f5⟩
 self:=self
noncomputable def JB(tl:TE):TI:=λa H R=>tl a H λv c=>∃x,v=.str x/\R (Its x) c
theorem Ho(hl:PE X l tl):PI X g l (JB tl):=by
 intro c s j H R I h;refine WY (hl c s j H _ I h) λv a ⟨z,p,d,r,u⟩=>?_;obtain⟨x,e,q⟩:=u;subst e;obtain⟨t,rfl⟩:=r
 have fin:∀(o:Obj)(n:String),gR X.prog X.w X.K g (Its x) [a.heap.objs.size] a.heap.objs.size (λi h=>h.IsStrIter a.heap.objs.size n x t i)->(a.heap.push o).IsStrIter a.heap.objs.size n x t 0->PIE X c j g R (.ref a.heap.objs.size) {a with heap:=a.heap.push o}:=by
  intro o n T st;refine⟨a.heap.objs.size,[a.heap.objs.size],_,_,p,rfl,d.kept (t':=a.toks) λb o e=>LD _ e,T,st,λb y=>?_,q⟩;have e:b=a.heap.objs.size:=by simpa using y
  subst e;exact d.ZX (TN _) (d.hok.fresh (TN _))
 cases m:x.cps.all (·<128)
 ·exact wpAny_pyIter_wide m (fin _ "str_iterator" (oJ (by decide) (λA f=>Walks.strWide f _ x t) λA i s Q E st q=>wpAny_pyIter_striter_wide st q) ⟨_,TX _ rfl,rfl,rfl⟩)
 ·exact wpAny_pyIter_ascii m (fin _ "str_ascii_iterator" (oJ (by decide) (λA f=>Walks.strAscii f _ x t) λA i s Q E st q=>wpAny_pyIter_striter_ascii st q) ⟨_,TX _ rfl,rfl,rfl⟩)
theorem jQ:XT X (compareOp .NotIn) (λx y H Q=>∃k a T,x=.str k/\y=.ref a/\dH X.K a T/\Q (.bl (!KTD.inKeys k T)) H):=by intro c s i H x y v u Q I d f h;obtain⟨k,a,T,ex,g,t,q⟩:=h;subst ex g;obtain⟨tk,rfl⟩:=d;cases f;exact KTD.notin_text (h₀:=s.heap) ⟨t _ I.Xy,λ_ _ e=>e⟩ ⟨.bl _,H,I.tok _,rfl,q⟩
noncomputable def DH(K:W.Frag):R2:=λx y H Q=>∃a k T z,x=.ref a/\y=.str k/\dH K a T/\(T.all λp=>KTD.plain p.2)=true/\KTD.datumAt k T=some (.flat (.str z))/\Q (.str z) H
theorem Cg:IxR X (DH X.K):=by
 intro j l m s M H x y v u Q I p r h hs;obtain⟨a,k,T,z,ex,w,t,B,g,q⟩:=h;subst ex w;obtain⟨tk,rfl⟩:=r;cases p;have E:KTD.inKeys k T=true:=by rw[<- VO,g];rfl
 refine KTD.item_textA (h₀:=s.heap) ⟨t _ I.Xy,λ_ _ e=>e⟩ B E ?_ hs;exact f T g λG=>⟨.str z,H,I.tok _,⟨G,rfl⟩,q⟩
where
 f {h:Heap} {k:Str} {P:Value->Prop} {z:Str}:∀(T:List (Str×KTD.Dat)),KTD.datumAt k T=some (.flat (.str z))->(∀t,P (.str z t))->KTD.EachL h k P T
  |[],g,_=>by simp[KTD.datumAt]at g
  | (x,d)::T,g,n=>by
   have c:(if decide (k=x)=true then some d else KTD.datumAt k T)=some (.flat (.str z)):=g
   by_cases i:k=x
   ·rw[TY (U4 i)]at c
    cases c
    exact KTD.eachL_hit i (KTD.opened_str n)
   ·rw[TQ (by simp[i])]at c
    exact KTD.eachL_miss i (f T c n)
noncomputable def DU(K:W.Frag)(d ty e:TE):TE:=λc H Q=>d c H λx f=>∃a T,x=.ref a/\dH K a T/\ty c f λy g=>e c g λz l=>∃k i,y=.str k/\z=.int i/\(∀p∈T,∃j,p.2=.flat (.int j)) /\
 Q (.int (match KTD.datumAt k T with|some (.flat (.int j))=>j|_=>i)) l
theorem oh(ho:PE X o td)(he:PE X e ty)(hf:PE X f tx)(m:M2 X o "get" l e f n):PE X (.Call (.Attribute o "get" l) [e,f] [] n) (DU X.K td ty tx):=by
 intro c s r H Q I h;refine wpAny_Call_method m.base m.few m.line F.plainAttrs_dict F.slot_dict_get F.type_dict_get (WY (ho c s r H _ I h) λu s1 ⟨x,H1,U,rx,a,T,ex,tk,q1⟩=>?_);subst ex;obtain rfl:u=Value.ref a:=rx;have t1:=tk _ U.Xy;obtain⟨lo,ob,es,ep,w,hex,Y,G⟩:=id t1;refine⟨⟨ob,w,hex.1⟩,λb eb=>?_,?_⟩
 ·cases eb;exact⟨ob,w,hex.2.1⟩
 rw[m.trees]
 refine V4 rfl (Wh (WA (WY (he c s1 r H1 _ U q1) λiv s2 ⟨y,H2,I2,ry,q2⟩ =>
  WA (WY (hf c s2 r H2 _ I2 q2) λfv g ⟨z,M,N,rz,k,i,ey,ez,hT,q3⟩=>Calls.spliced_nil ?_))))
 subst ey ez;obtain⟨tok1,rfl⟩:=ry;obtain⟨B,rfl⟩:=rz;refine KTD.get2_text (h₀:=g.heap) ⟨tk _ N.Xy,λ_ _ e=>e⟩ ?_
 have fin:∀(D:List (Str×KTD.Dat)),(∀p∈D,∃j,p.2=.flat (.int j))->Q (.int (match KTD.datumAt k D with|some (.flat (.int j))=>j|_=>i)) M ->
   KTD.Each g.heap k (λv=>EP X c r Q v {g with toks:=g.toks+1}) (EP X c r Q (.int i B) {g with toks:=g.toks+1}) D:=by
  intro D
  induction D with
  |nil=>intro _ q;exact KTD.each_nil ⟨.int i,M,N.tok _,⟨_,rfl⟩,q⟩
  |cons p D ih =>
   intro hD q;obtain⟨x,d⟩:=p;obtain⟨j,ej⟩:=hD (x,d) Uq;have O:d=.flat (.int j):=ej;subst O;have ed:KTD.datumAt k ((x,KTD.Dat.flat (.int j))::D)=if decide (k=x)=true then some (.flat (.int j))else KTD.datumAt k D:=rfl;rw[ed]at q;by_cases E:k=x
   ·rw[TY (U4 E)]at q;exact KTD.each_hit E (KTD.opened_int λt=>⟨.int j,M,N.tok _,⟨t,rfl⟩,q⟩)
   ·rw[TQ (by simp[E])]at q;exact KTD.each_miss E (ih (λp hp=>hD p (Ua _ hp)) q)
 exact fin T hT q3
end
structure vL(P:Program)(w:World)(K:W.Frag)(a:Addr)(ks:List Str):Prop where
 lk:∃o,K.lookup a=some o
 tb:∀h:Heap,K.In h->∃D,StrTab P w h a D/\D.map (·.1)=ks.map PyData.str
noncomputable def Itk(a:List Str):It:=⟨λi _=>i<a.length,λi H v c=>c=H/\∃k,a[i]?=some k/\v=.str k,λi _=>i=a.length⟩
theorem xM{D:List (PyData×PyData)}{a:List Str}(h:PyProof.V.FlatPairs PyData.str c D)(e:D.map (·.1)=a.map PyData.str):c.map (·.1)=a:=by
 induction h generalizing a with
 |nil =>
  cases a with
  |nil=>rfl
  |cons k a=>simp at e
 |cons _ _ d =>
  cases a with
  |nil=>simp at e
  |cons k a =>simp only[T9,List.cons.injEq]at e;obtain⟨e1,e2⟩:=e;injection e1 with e1;rw[T9,d e2,<- e1]
theorem BB(T:∀h:Heap,K.In h->h.DictAt (strKind P w) d a ep) :
  gR P w K tg (Itk (a.map (·.1))) [it] it (λi h=>h.IsKeyIter it d i a.length ep) where
 mem:=by simp
 obj:=λi h st b g=>by
  have e:b=it:=by simpa using g
  subst e;obtain⟨o,e,c,d⟩:=st;exact⟨o,e,λv z=>by rw[d]at z;cases z⟩
 keep:=λi h l st k=>by obtain⟨o,e,r⟩:=st;exact⟨o,k it (by simp) o e,r⟩
 item:=by
  intro X p u y U i f s Y H E I m st B;subst p u y;obtain⟨G,M,f2,N,O,f5⟩:=m it (by simp);have n:i<a.length:=by have z:i<(a.map (·.1)).length:=B;simpa using z
  refine wpAny_pyNext_dict_item st (T _ I.Xy) (RL n) λkey l hk j sb=>?_;obtain⟨t,rfl⟩:=Value.isStrOf_shape hk;have I1:Inv X f Y H {s with heap:=l}:=I.turned (t':=s.toks) (λb o g e=>(sb.2 b g).trans e) G M N O f5;refine⟨_,rfl,PyProof.Rows.letGo_keyiter (s':={s with heap:=l}) j ⟨.str (a[i]).1,H,I1,⟨t,rfl⟩,⟨rfl,(a[i]).1,?_,rfl⟩,j,λb g=>(m b g).1⟩⟩;rw[T4,RL n];rfl
 done:=by
  intro X p u y U i f s Y H E I m st B;subst p u y;obtain⟨G,M,f2,N,O,f5⟩:=m it (by simp);have n:i=a.length:=by have z:i=(a.map (·.1)).length:=B;simpa using z
  exact wpAny_pyNext_dict_end (I.ok.hd U) st (T _ I.Xy) (by simp[n]) λl eb=>⟨rfl,I.turned (t':=s.toks) (λb o g e=>eb b o g e) G M N O f5⟩
 self:=λA i s Q E st q=>wpAny_pyIter_keyiter st q
section
noncomputable def iTab(P:Program)(w:World)(K:W.Frag)(tl:TE):TI:=λd H R=>tl d H λv e=>∃a c,v=.ref a/\vL P w K a c/\R (Itk c) e
theorem Hq(hl:PE X l tl):PI X U l (iTab X.prog X.w X.K tl):=by
 intro c s t H R I h;refine WY (hl c s t H _ I h) λv i ⟨Y,u,d,y,B⟩=>?_;obtain⟨a,ks,e,n,q⟩:=B;subst e;cases y;obtain⟨D,T,E⟩:=n.tb _ d.Xy;obtain⟨o,p⟩:=n.lk;obtain⟨lo,j,m,G⟩:=T;obtain⟨M,f⟩:=m.dictAt;have N:=xM G E;subst N
 have g:∀h:Heap,X.K.In h->h.DictAt (strKind X.prog X.w) a j M:=λh x=>by obtain⟨o',O,e1,r⟩:=f;have z:=d.Xy _ _ p;rw[e1]at z;cases z;exact⟨_,O,x _ _ p,r⟩
 refine wpAny_pyIter_dict lo f ?_;refine⟨i.heap.objs.size,[i.heap.objs.size],_,_,u,rfl,d.kept (t':=i.toks) λb o e=>LD _ e,BB g,⟨_,TX _ rfl,rfl,rfl⟩,λb Q=>?_,q⟩;have e:b=i.heap.objs.size:=by simpa using Q
 subst e;exact d.ZX (TN _) (d.hok.fresh (TN _))
end
noncomputable def RC(K:W.Frag)(t:TE)(e:St)(H:Hp)(f:List D):Prop:=∀a,W3 H a->∀Q:VK,(∀l d c,a l=none->W3 a c->c l=some (.lst d)->WW K c f d->Q (.ref l) c)->t e a Q
section
variable{K:W.Frag}
theorem RC.mono(h:RC K t a H c)(e:W3 H d):RC K t a d c:=λf s Q q=>h f (e.trans s) Q q
theorem RC.use(h:RC K t d H e)(q:∀l c a,H l=none->W3 H a->a l=some (.lst c)->WW K a e c->Q (.ref l) a):t d H Q:=h H (W3.refl H) Q q
theorem Ie(h:RE K tl j H (.str x))(a:x.cps.size<=1000)(f:List D)(hl:f.length=x.cps.size)(w:(mk j).set u none=mk j)
  (g:∀p (i:Nat) c d,W3 H p->x.cps[i]?=some c->f[i]?=some d->RE K z ((mk j).set u (some (.str ⟨#[c]⟩))) p d):RC K (YK (JB tl) mk (dZ u) sZ z) j H f:=λp s Q q=>by
 refine(h.mono s).use λT B r E=>?_;have e:=E.Xi;subst e;refine⟨x,rfl,?_⟩;refine xq (K:=K) (Q:=Q) (n:=x.cps.size) (item:=λi=>.str ⟨#[x.cps.getD i 0]⟩) (λi G s m=>⟨m,λv U y=>⟨y.1,?_⟩⟩) (λG s=>rfl) w f hl a (λi d m=>?_) (λl I M t N=>q l I M (r.free t) (r.trans N))
 ·obtain⟨_,c,a,e⟩:=y;rw[e,Array.getD_eq_getD_getElem?,a];rfl
 ·have O:i<f.length:=(M1.mp m).1
  have a:x.cps[i]?=some (x.cps.getD i 0):=by rw[Array.getD_eq_getD_getElem?,Array.getElem?_eq_getElem (by lia)];rfl
  exact g B i _ d (s.trans r) a m
theorem DJ{bs:List Bool}(h:RC K t a H (bs.map D.bl)):RE K (tCB (λc H Q=>∃(l:Addr)(bs:List Bool),c=[.ref l]/\Xk K H l (bs.map V.bl)/\Q (.bl (bs.all id)) H) (ay t bM)) a H (.bl (bs.all id)):=λg s Q q =>
 ED ((h.mono s).use λl i j _ d e f=>⟨l,bs,rfl,by rw[<- zu f];exact Xk.of e,q _ _ d (Dat.blI _)⟩)
theorem DK(h:RE K t a H (.str x))(c:x.length<=sizeLine):RE K (tCB (λd H Q=>∃z:Str,d=[.str z]/\z.length<=sizeLine/\Q (.int z.length) H) (ay t bM)) a H (.int x.length):=λg s Q q =>
 ED ((h.mono s).use λv i e f=>by
  rw[f.Xi];exact⟨x,rfl,c,q _ _ e (Dat.intI _)⟩)
theorem yu{p q':Str->Str->Bool}(g:RE K l c H (.str x))(m:RE K n c H (.str y))(r:p x y=true->RE K t c H (.str z)) :
  RE K (Yt (λu v H Q=>∃i j:Str,u=.str i/\v=.str j/\Q (.bl (p i j)) H) (λu v H Q=>∃i j:Str,u=.str i/\v=.str j/\Q (.bl (q' i j)) H) l n t) c H (.bl (p x y&&q' y z)):=λB s Q q =>
 g B s _ λv E a G=>m E (s.trans a) _ λw I d f=>by
  refine⟨x,y,G.Xi,f.Xi,p x y,rfl,?_⟩
  cases e:p x y with
  |true =>simp only[VU,WJ];exact r e I (s.trans (a.trans d)) _ λO T M N=>⟨y,z,f.Xi,N.Xi,q _ _ (a.trans (d.trans M)) (by rw[e];exact Dat.blI _)⟩
  |false =>simp only[WE,WQ,Wu];exact q _ _ (a.trans d) (by rw[e];exact Dat.blI _)
end
mutual
noncomputable def b4(K:W.Frag):D->Value->Bool
 | .WX,u=>(match u with | .none=>true|_=>false)
 | .bl b,u=>(match u with | .bool c=>b==c|_=>false)
 | .int i,u=>(match u with | .int j _=>i==j|_=>false)
 | .str x,u=>(match u with | .str y _=>x==y|_=>false)
 | .tup e,u=>(match u with | .ref a=>(match K.lookup a with|some ⟨.type "tuple",_,.seq d _,_⟩=>decide (d.size<=1000)&&YW K e d.toList|_=>false)|_=>false)
 | .lst,_=>false
noncomputable def YW(K:W.Frag):List D->List Value->Bool
 |[],a=>a.isEmpty
 |d::c,a=>(match a with|u::r=>b4 K d u&&YW K c r |[]=>false)
end
mutual
variable{K:W.Frag}
theorem jG(H:Hp):∀(d:D)(u:Value),b4 K d u=true->∃v,RelV v u/\Dat K H d v
 | .WX,u,h=>by unfold b4 at h;cases u<;>first | (exact⟨.WX,rfl,Dat.nonI⟩)|cases h
 | .bl b,u,h=>by
  unfold b4 at h;cases u<;>first|cases h|skip
  rename_i c;have e:b=c:=by simpa using h
  subst e;exact⟨.bl b,rfl,Dat.blI _⟩
 | .int i,u,h=>by
  unfold b4 at h;cases u<;>first|cases h|skip
  rename_i j t;have e:i=j:=by simpa using h
  subst e;exact⟨.int i,⟨t,rfl⟩,Dat.intI _⟩
 | .str x,u,h=>by
  unfold b4 at h;cases u<;>first|cases h|skip
  rename_i y t;have e:x=y:=by simpa using h
  subst e;exact⟨.str x,⟨t,rfl⟩,Dat.strI _⟩
 | .tup g,u,h=>by
  unfold b4 at h;cases u<;>first|cases h|skip
  rename_i a;dsimp only at h;split at h
  ·rename_i m f n p e;rw[Tz]at h;obtain⟨q,r,l⟩:=Yd H g f.toList h.2;refine⟨.ref a,rfl,Dat.tupI (.inr ⟨_,f,n,e,rfl,rfl,?_,r⟩) l⟩;exact Ub (Ue h.1) (by decide)
  ·cases h
 | .lst,u,h=>by unfold b4 at h;cases h
theorem Yd(H:Hp):∀(c:List D)(a:List Value),YW K c a=true->∃e,Vals e a/\WW K H c e
 |[],a,h=>by
  unfold YW at h
  cases a with
  |nil=>exact⟨[],.nil,WW.nil⟩
  |cons u r=>cases h
 |d::c,a,h=>by
  unfold YW at h
  cases a with
  |nil=>cases h
  |cons u r =>dsimp only at h;rw[Tz]at h;obtain⟨v,f,g⟩:=jG H d u h.1;obtain⟨e,r2,i⟩:=Yd H c r h.2;exact⟨v::e,.cons f r2,WW.cons g i⟩
end
theorem Mo(h:b4 K (.tup d) (.ref a)=true)(H:Hp):Dat K H (.tup d) (.ref a):=by obtain⟨v,r,c⟩:=jG H _ _ h;obtain⟨b,f,e,_⟩:=id c.Xf;subst e;have z:Value.ref a=.ref b:=r;cases z;exact c
section
theorem zo:bo X (.type "range") (λa H Q=>∃n:Nat,a=[.int n]/\∀p,H p=none->Q (.ref p) (upd H p (.YU 0 n))):=by intro c s f H a g Q I r h;obtain⟨n,rfl,q⟩:=h;obtain⟨u,rfl,d⟩:=bq r;obtain⟨t,rfl⟩:=d;refine call_range_1 ⟨.ref s.heap.objs.size,_,I.laid (λb o e=>LD _ e) (TN _) (show W7 X.prog X.w _ _ _ (.YU 0 n) from ⟨_,_,_,TX _ rfl⟩),rfl,q _ (I.hok.fresh (TN _))⟩
theorem BH(h:ItemsOf (λi v=>∃t,v=.int ((0:Int)+(i:Nat)*1) t) a n):Vals ((List.range n).map λi:Nat=>V.int i) a.toList:=by
 obtain⟨hs,d⟩:=h
 have all:∀(l:List Value)(k:Nat),(∀(j:Nat)(v:Value),l[j]?=some v->∃t,v=Value.int ((0:Int)+((k+j:Nat):Int)*1) t)->Vals ((List.range' k l.length).map λi:Nat=>V.int i) l:=by
  intro l
  induction l with
  |nil=>intro k _;exact .nil
  |cons u l f =>
   intro k c;rw[Us,List.range'_succ,T9];refine .cons ?_ (f (k+1) λj v e=>?_)
   ·obtain⟨t,e⟩:=c 0 u rfl;refine⟨t,?_⟩;rw[e];congr 1;simp
   ·obtain⟨t,g⟩:=c (j+1) v (by simpa using e);refine⟨t,?_⟩;rw[g];congr 1;have:k+(j+1)=k+1+j:=by lia
    rw[this]
 have q:=all a.toList 0 λj v e=>by rw[Nat.zero_add];exact d j v (by simpa using e)
 rw[List.range_eq_range'];rw[VH,hs]at q;exact q
theorem mO{X:Cx}(j:X.calm=true):bo X (.type "list") (λd H Q=>∃(p:Addr)(n:Nat),d=[.ref p]/\H p=some (.YU 0 n)/\n<=1000/\∀l,H l=none->Q (.ref l) (upd H l (.lst ((List.range n).map λi:Nat=>V.int i)))):=by
 intro f s N H d O Q I r h;obtain⟨p,n,rfl,m,y,q⟩:=h;obtain⟨u,rfl,z⟩:=bq r;cases z;obtain⟨t,u,v,e⟩:=(show W7 X.prog X.w H s.heap p (.YU 0 n) from I.hok p _ m)
 refine call_list_range (n:=n) (I.ok.hd j) (show IsRange s.heap p 0 n 1 t u v from e) (small_one (by lia) (by lia) (by lia) (by lia)) ?_ (by lia) λB tk a E G M c=>?_
 ·rw[rangeSize_one];split<;>lia
 ·have g:=BH c;have hl:=g.length;refine⟨.ref s.heap.objs.size,_,I.laid G (TN _) (show W7 X.prog X.w _ B _ (.lst _) from ⟨?_,a.toList,E,g,by simpa using M⟩),rfl,q _ (I.hok.fresh (TN _))⟩;simp only[T8,WN];exact Ub y (by decide)
noncomputable def BP(K:W.Frag)(a:Addr)(d:List V):Prop:=∃(c:Array Value)(n:Nat),K.lookup a=some ⟨.type "list",none,.seq c n,#[]⟩/\c.size<=1000/\Vals d c.toList
noncomputable def Y8(K:W.Frag)(H:Hp)(a:Addr)(c:List V):Prop:=H a=some (.lst c)\/BP K a c
theorem Y8.Zf{K:W.Frag}(h:Y8 K H a d):Xk K H a d:=by
 rcases h with h|⟨c,n,e,f,r⟩
 ·exact Xk.of h
 ·exact .inr ⟨_,c,n,e,rfl,rfl,rfl,Ub f (by decide),r⟩
theorem Y8.at{X:Cx}{d:List (Addr×Obj)}{g:St}{H:Hp}{s:Shared}{a:Addr}{f:List V}(I:Inv X d g H s)(h:Y8 X.K H a f):∃(c:List Value)(n:Nat),Vals f c/\s.heap.get? a=some {cls:=.type "list",data:=.seq c.toArray n}:=by
 rcases h with h|⟨c,n,e,i,r⟩
 ·obtain⟨z,c,n,r,hl,e⟩:=I.lstM h;exact⟨c,n,r,e⟩
 ·exact⟨c.toList,n,r,by simpa using I.Xy _ _ e⟩
noncomputable def wL(K:W.Frag):R2:=λx y H Q=>∃l b a c,x=.ref l/\y=.ref b/\Y8 K H l a/\Y8 K H b c/\a.length+c.length<=1000/\∀p,H p=none->Q (.ref p) (upd H p (.lst (a++c)))
theorem ZL:XT X (binaryOp .Add) (wL X.K):=by
 intro d s B H x y v u Q I f g h;obtain⟨l,b,i,j,rfl,rfl,m,p,t,q⟩:=h;cases f;cases g;obtain⟨c,n,r,e⟩:=m.at I;obtain⟨a,n2,r2,e2⟩:=p.at I;have l1:=r.length;have l2:=r2.length;have w:i.length+j.length<=sizeLine:=Ub t (by decide);refine PySem.P.add_list e e2 ?_ (by rw[TH,TH];lia);have z:c.toArray++a.toArray=(c++a).toArray:=by simp
 rw[z];exact⟨.ref _,_,I.lnew (t':=s.toks) (r.append r2) (by rw[Uk];lia),rfl,q _ I.fresh⟩
end
section
variable{K:W.Frag}
noncomputable def pD(K:W.Frag)(d:List D)(a:Addr):Bool:=match K.lookup a with
 |some ⟨.type "list",none,.seq c _,e⟩=>decide (c.size<=1000)&&(e.isEmpty&&YW K d c.toList)
 |_=>false
theorem pE{K:W.Frag}(h:pD K f a=true)(H:Hp):∃d,BP K a d/\WW K H f d:=by
 unfold pD at h;split at h
 ·rename_i c n g e;rw[Tz,Tz]at h;obtain⟨d,r,i⟩:=Yd H f c.toList h.2.2;have j:g=#[]:=by simpa using h.2.1
  subst j;exact⟨d,⟨c,n,e,Ue h.1,r⟩,i⟩
 ·cases h
end
section
end
theorem vZ:∀{c:List Int}{a:List Value},Vals (c.map V.int) a->IntsAre a c
 |[],a,h=>by cases h;exact .nil
 |n::c,a,h=>by
  cases h with
  |cons r t =>obtain⟨tk,rfl⟩:=r;exact .cons n tk (vZ t)
section
theorem zq{X:Cx}(j:X.calm=true):bo X (.builtin "sum") (λf H Q=>∃(l:Addr)(a:List Int),f=[.ref l]/\Xk X.K H l (a.map V.int)/\Q (.int a.sum) H):=by
 intro g s B H f E Q I r h;obtain⟨l,a,rfl,m,q⟩:=h;obtain⟨u,rfl,n⟩:=bq r;cases n;obtain⟨e,t,p,G⟩:=I.list m;have i:=vZ t;obtain⟨c,d⟩:=i.allInts.items;refine sum_intListG (I.ok.hd j) (show s.heap.IsList l (intItems c) from d▸p.isList) λM tk v hk=>?_
 have w:c.toList.map (·.1)=a:=by have z:=i.numsOf;rw[show e=(intItems c).toList by rw[<- d]]at z;rw[<- z,nums_intItems]
 have y:preSum (numAt c) c.size=a.sum:=by rw[preSum_eq,<- w,UZ (by simp)]
 rw[y];exact⟨.int a.sum,H,I.kept (t':=tk) hk,⟨v,rfl⟩,q⟩
noncomputable def Itv(K:W.Frag)(a:Addr)(c:List V):It:=⟨λi H=>i<c.length/\Xk K H a c,λi H x d=>d=H/\c[c.length - 1 - i]?=some x,λi _=>i=c.length⟩
theorem BA{K:W.Frag}(a it:Addr)(f:List V):gR P w K tg (Itv K a f) [it] it (λi h=>h.IsRevIter it a ((f.length:Int) - 1 - (i:Int))) where
 mem:=by simp
 obj:=λi h st b j=>by
  have e:b=it:=by simpa using j
  subst e;obtain⟨o,e,c,d⟩:=st;exact⟨o,e,λv z=>by rw[d]at z;cases z⟩
 keep:=λi h m st k=>by obtain⟨o,e,r⟩:=st;exact⟨o,k it (by simp) o e,r⟩
 item:=by
  intro X t y B hc i g s σ H E I n st G;subst t y B;obtain⟨hi,hq⟩:=G;obtain⟨its,rv,p,hz⟩:=I.list hq;obtain⟨M,N,f2,O,T,f5⟩:=n it (by simp);have lr:=rv.length;have hx:f[f.length - 1 - i]?=some (f[f.length - 1 - i]'(by lia)):=RL (by lia);obtain⟨u,hu,ru⟩:=rv.get hx;have e1:(f.length:Int) - 1 - (i:Int)=((f.length - 1 - i:Nat):Int):=by lia
  have U:s.heap.IsRevIter it a ((f.length - 1 - i:Nat):Int):=by rw[<- e1];exact st
  refine wpAny_pyNext_rev_item U p.isList (x:=u) (by simpa using hu) λm l sb=>?_;have e2:((f.length - 1 - i:Nat):Int) - 1=(f.length:Int) - 1 - ((i+1:Nat):Int):=by lia
  rw[e2]at l;have I1:Inv X g σ H {s with heap:=m}:=I.turned (t':=s.toks) (λb o j e=>(sb.2 b j).trans e) M N O T f5;obtain⟨o,e,c,d⟩:=id l;exact⟨u,rfl,nP (s:={s with heap:=m}) e c d (by decide) ⟨_,H,I1,ru,⟨rfl,hx⟩,l,λb j=>(n b j).1⟩⟩
 done:=by
  intro X t y B hc i g s σ H E I n st G;subst t y B;obtain⟨M,N,f2,O,T,f5⟩:=n it (by simp);have Y:i=f.length:=G;subst Y;have e1:(f.length:Int) - 1 - (f.length:Int)=-1:=by lia
  rw[e1]at st;exact wpAny_pyNext_rev_end (I.ok.hd hc) st λm eb=>⟨rfl,I.turned (t':=s.toks) (λb o j e=>eb b o j e) M N O T f5⟩
 self:=λA i s Q E st q=>wpAny_pyIter_revIter st q
noncomputable def zO(K:W.Frag)(e:TA):TI:=λf H R=>e f H λg c=>∃a d,g=[.ref a]/\Xk K c a d/\R (Itv K a d) c
theorem Hn(m:Gl X "reversed")(n:X.mg "reversed"=none)(r:PA X [a] t)(hs:starEach [a] X.env=[(false,eval a X.env)]:=by rfl):PI X Q (.Call (.Name "reversed" p) [a] [] i) (zO X.K t):=by
 intro d s v H R I h;refine Call_ (gE I m n jx (UT (WY (r i d s v H _ I h) λT c ⟨U,w,g,y,z⟩=>?_) hs rfl));obtain⟨l,j,e,B,q⟩:=z;subst e;obtain⟨u,rfl,E⟩:=bq y;cases E;obtain⟨f,G,M,Y⟩:=g.list B;have N:=G.length;refine call_reversed_list M.isList ?_;have st:(c.heap.push (revObj l ((f.toArray.size:Int) - 1))).IsRevIter c.heap.objs.size l ((j.length:Int) - 1 - ((0:Nat):Int)):=⟨_,TX _ rfl,rfl,by simp[revObj,N]⟩
 refine wpAny_pyIter_revIter (s:={c with heap:=c.heap.push (revObj l ((f.toArray.size:Int) - 1))}) st ?_;refine⟨c.heap.objs.size,[c.heap.objs.size],_,_,w,rfl,g.kept (t':=c.toks) λb o e=>LD _ e,BA l _ j,st,λb O=>?_,q⟩;have e:b=c.heap.objs.size:=by simpa using O
 subst e;exact g.ZX (TN _) (g.hok.fresh (TN _))
end
noncomputable def met(f:Nat->Str)(i:Nat):List Str:=((List.range i).map f).foldl step_dedup []
theorem lK(f:Nat->Str)(i:Nat):met f (i+1)=step_dedup (met f i) (f i):=by unfold met;rw[List.range_succ,List.map_append,List.foldl_append];rfl
theorem vT(l:List Str)(x:Str):(step_dedup l x).length=if l.any (·==x)then l.length else l.length+1:=by unfold step_dedup;split<;>simp
theorem B4(l:List Str)(x y:Str):(step_dedup l x).any (·==y)=(l.any (·==y)||decide (y=x)):=by
 unfold step_dedup;split
 ·rename_i h;by_cases e:y=x
  ·subst e;rw[h];rfl
  ·rw[Um e,Bool.or_false]
 ·rw[List.any_append];congr 1;by_cases e:y=x
  ·subst e;simp
  ·have a:¬ x=y:=λz=>e z.symm;simp[e,a]
theorem Ax(f:Nat->Str):∀i,(met f i).length<=i
 |0=>by simp[met]
 |i+1=>by rw[lK,vT];have:=Ax f i;split<;>lia
theorem BG{P:Program}{A:Around}{R:Result->Shared->Prop}{wr:List Addr}{Pv:Nat->Value->Prop}{St:Nat->Shared->Prop}
  (W:WalksS P w A.in1 it Q wr G n Pv St) (sa:Addr) (c:sa∉Q) (f:Nat->Str) (T:∀i v,Pv i v->∃t,v=.str (f i) t) (few:n+1<scanBound) :
  ∀(m i:Nat)(s:Shared),n - i=m->i<=n->St i s->s.heap.SetOf (strKind P w) sa (λy=>(met f i).any (·==y)) (met f i).length ->
   (∀e,Moved (sa::wr) G s e->e.heap.SetOf (strKind P w) sa (λy=>(met f n).any (·==y)) (met f n).length->R (.ok (.ret .none)) e)->codeAny (model P w) A (.builtin "set.update.loop" ⟨[.ref sa,.ref it],[]⟩) R s:=by
 have N:sa∉wr:=λz=>c (W.sub _ z);have more:∀b∈wr,b∈sa::wr:=λb z=>Ua _ z;intro m
 induction m with
 |zero =>
  intro i s e1 e2 st j fin;obtain rfl:i=n:=by lia
  refine Wk VP ?_;rw[Around.under_plainId Vg _];show wpAny _ A.in1 (pyNext (.ref it) >>= _) _ _ s;refine Ar (W.done s _ _ st λa d=>?_);show wpAny _ A.in1 (ret Value.none) _ _ a;obtain⟨o,l,p,r,g,rest⟩:=j;exact RB (fin a (d.mono more) ⟨o,l,p,r,d.heap sa _ N g,rest⟩)
 |succ m U =>
  intro i s e1 e2 st j fin;have lt:i<n:=by lia
  refine Wk VP ?_;rw[Around.under_plainId Vg _];show wpAny _ A.in1 (pyNext (.ref it) >>= _) _ _ s;refine Ar (W.item i s _ _ lt st λv a pv u d=>?_);obtain⟨tk,rfl⟩:=T i v pv;have B:a.heap.SetOf (strKind P w) sa (λy=>(met f i).any (·==y)) (met f i).length:=let⟨o,l,p,r,g,rest⟩:=j;⟨o,l,p,r,d.heap sa _ N g,rest⟩;show wpAny _ A.in1 (holding [Value.str (f i) tk] (setAdd sa (.str (f i) tk)) >>= _) _ _ a;refine Ar (UA ?_);unfold setAdd;refine UA (Ar ((strKind P w).pyHash (k:=f i) (strKind_is P w _ _) ?_));have Y:(met f i).length+1<scanBound:=by have:=Ax f i;lia
  refine wpAny_setAddHashed_of (knd:=strKind P w) (s:={a with toks:=a.toks+1}) (strKind_is P w _ _) rfl B Y λh' O E=>?_;have H:h'.SetOf (strKind P w) sa (λy=>(met f (i+1)).any (·==y)) (met f (i+1)).length:=SetOf_congr E (λy=>by rw[lK,B4]) (by rw[lK,vT]);refine RB ⟨plainId_quiet Vg _,U (i+1) _ (by lia) lt (W.frame _ a _ _ u (Nat.le_succ _) λb z o g=>?_) H λs3 I M=>?_⟩
  ·rw[O.2 b (λq:b=sa=>c (by rw[<- q];exact z))];exact g
  ·refine fin s3 (Moved.trans W.gtrans ((d.mono more).then_heap (Nat.le_succ _) λb o z g=>?_) I) M;rw[O.2 b (λq:b=sa=>z (by rw[q];exact Uq))];exact g
noncomputable abbrev qq(a:Bool):Obj:={cls:=.type "set",dict:=none,data:=.set #[] 0 (.fresh 0 0 a)}
theorem xh{A:Around}{s:Shared}(T:A.handled=none)(hl:s.heap.IsList l a)
  (U:∀(i:Nat)(v:Value),a[i]?=some v->∃t,v=.str (f i) t) (few:a.size+1<scanBound)
  (fin:∀(j:Heap)(tk:Nat),j.SetOf (strKind P w) s.heap.objs.size (λy=>(met f a.size).any (·==y)) (met f a.size).length->(∀b o,b<s.heap.objs.size->s.heap.get? b=some o->j.get? b=some o)->Q (.ref s.heap.objs.size) {s with heap:=j,toks:=tk}) :
  wpAny (model P w) A (call (.type "set") [.ref l]) Q E s:=by
 obtain⟨c,tl,Y⟩:=Vt.mro;have made:=Vt.made;have sub:=Vt.sub;refine U7 (codeAny_of_tree ?_);show wpAny _ _ (callAny (.type "set") _) _ _ _;refine RB ⟨VQ _ (by decide +kernel),Wk F.entry_type_call ?_⟩;rw[Around.under_plain (weight_type_call_type "set" [.ref l] []) rfl];have k1:=Vt.notType;have k2:=Vt.canCreate;have k3:=F.typeCall_set_1 (.ref l)
 repeat (any_goals (first|assumption|wp_step))
 refine UC (code_set_new_1 (.ref l) (E:=E) (Q₁:=λobj H=>∃d:Bool,obj=.ref s.heap.objs.size/\H={s with heap:=s.heap.push (qq d)}) λd=>⟨d,rfl,rfl⟩) λr H p=>?_
 cases r with
 |error e=>exact p
 |ok fl =>
  cases fl with
  |ret obj =>
   obtain⟨d,rfl,rfl⟩:=p;have g0:(s.heap.push (qq d)).get? s.heap.objs.size=some (qq d):=TX _ rfl;have ty:Shared.TypeIs {s with heap:=s.heap.push (qq d)} (.ref s.heap.objs.size) "set":=⟨_,g0,rfl⟩
   have k4:=Vt.init.lookup;have k5:=Vt.init.bind (.ref s.heap.objs.size)
   repeat (any_goals (first|assumption|wp_step))
   refine UC (VE (R:=wants (λr I=>r=.none/\∃j tk,I={s with heap:=j,toks:=tk}/\j.SetOf (strKind P w) s.heap.objs.size (λy=>(met f a.size).any (·==y)) (met f a.size).length /\
     (∀b o,b<s.heap.objs.size->s.heap.get? b=some o->j.get? b=some o)) E) Vt.init.plain F.entry_set_init (check_set_init_1 ty ?_)) λr2 I m=>?_
   ·obtain⟨ol,g1,g2,M,g3⟩:=hl;obtain⟨oc,od,ob,os⟩:=ol;simp only at g2 g3;subst g2;subst g3;have g4:(s.heap.push (qq d)).get? l=some {cls:=.type "list",dict:=od,data:=.seq a M,slots:=os}:=LD _ g1;have m1:=F.sub_list_set;have m2:=F.sub_list_frozenset;have m3:(Value.type "list"==Value.type "dict")=false:=by decide
    have N:(s.heap.push (qq d)).IsList l a:=⟨_,g4,rfl,M,rfl⟩
    unfold Builtin.«set.__init__» noKeywords Builtin.Frozenset.updateFrom;generalize q:pyIter=PI
    wp_walk
    subst q;refine Vx N (Ar (wpAny_runValue ?_));have O:l<s.heap.objs.size:=TJ g1;have h3:A.in1.in1.in1.handled=none:=by simp[T]
    have n1:l≠(s.heap.push (qq d)).objs.size:=by rw[Ui];exact TV (V0 O)
    have n2:s.heap.objs.size∉[(s.heap.push (qq d)).objs.size,l]:=by rw[Ui];simp only[T3,Ur,Uu,Vu,not_or];exact⟨TV (Va _),UB O⟩
    refine BG ((Walks.list h3 _ l n1 a).toS) s.heap.objs.size n2 f U few (a.size - 0) 0 _ (by lia) (Uw _) ⟨⟨_,TX _ rfl,rfl,rfl⟩,(N.push _)⟩ ?so ?fi
    case so=>exact SetOf_congr ((setObjOf_fresh (knd:=strKind P w) d).setOf (LD _ g0) (by unfold scanBound;lia)) (λ_=>rfl) rfl
    case fi =>
     intro s' n so;obtain⟨j,g',d',u,B⟩:=s';obtain rfl:g'=s.gens:=n.gens;obtain rfl:d'=s.drawn:=n.drawn;obtain rfl:B=s.os:=n.os;show wpAny _ _ _ _ _ _;refine RB ?_;show wpAny _ _ (ret Value.none) _ _ _;refine RB ⟨rfl,j,u,rfl,so,λb o z g=>?_⟩;have z1:b≠s.heap.objs.size:=TV z;have z2:b≠(s.heap.push (qq d)).objs.size:=by rw[Ui];exact TV (V0 z)
     exact n.heap b o (by simp only[T3,Ur,Uu,Vu,not_or];exact⟨z1,z2⟩) (LD _ (LD _ g))
   ·cases r2 with
    |error e=>exact m
    |ok G =>
     cases G with
     |ret r =>
      obtain⟨rfl,j,tk,rfl,so,kp⟩:=m
      repeat (any_goals (first|assumption|wp_step))
      exact fin _ _ so kp
     |_=>exact m.elim
  |_=>exact p.elim
noncomputable def qr(a:Addr)(n:Nat)(h:Heap):Prop:=∃o c d t,h.get? a=some o/\o.ExactSet/\o.data=.set c d t/\t.fits c.size=true/\c.size=n
section
theorem wU:∀{zs:List Str}{a:List Value}(i:Nat)(v:Value),Vals (zs.map V.str) a->a[i]?=some v->∃t,v=.str (zs.getD i "") t
 |[],a,i,v,h,e=>by cases h;simp at e
 |z::zs,a,i,v,h,e=>by
  cases h with
  |cons r t =>
   obtain⟨tk,rfl⟩:=r
   cases i with
   |zero =>
    have c:Value.str z tk=v:=by simpa using e
    exact⟨tk,c.symm⟩
   |succ i =>obtain⟨d,c⟩:=wU (zs:=zs) i v t (by simpa using e);exact⟨d,by simpa using c⟩
noncomputable def tX(a:List Str):Nat:=(met (λi=>a.getD i "") a.length).length
theorem xi{X:Cx}(G:X.calm=true):bo X (.type "set") (λm H Q=>∃(l:Addr)(a:List Str),m=[.ref l]/\Xk X.K H l (a.map V.str)/\a.length<=100/\∀p,H p=none->Q (.ref p) (upd H p (.ext (qr p (tX a))))):=by
 intro n s σ H m us Q I r h;obtain⟨l,a,rfl,M,hz,q⟩:=h;obtain⟨u,rfl,N⟩:=bq r;cases N;obtain⟨O,y,p,_⟩:=I.list M;have B:=y.length;rw[T8]at B;refine xh (f:=λi=>a.getD i "") (I.ok.hd G) p.isList (λi v e=>wU i v y (by simpa using e)) (by unfold scanBound;simp;lia) λE tk T U=>?_
 have c:qr s.heap.objs.size (tX a) E:=by obtain⟨o,g,j,t,d,Y,a3,_,_,_,a4,a5⟩:=T;refine⟨o,g,j,t,d,Y,a3,a4,?_⟩;rw[a5];unfold tX;rw[B];simp
 refine⟨.ref s.heap.objs.size,_,I.laid (t':=tk) (λb o e=>U b o (TJ e) e) (TN _) (show W7 X.prog X.w _ E _ (.ext (qr s.heap.objs.size (tX a))) from ⟨c,?_,λh1 h2 z k=>?_⟩),rfl,q _ (I.hok.fresh (TN _))⟩
 ·obtain⟨o,_,_,_,d,_⟩:=c;exact⟨o,d⟩
 ·obtain⟨o,g,j,t,d,rest⟩:=z;exact⟨o,g,j,t,k _ d,rest⟩
theorem qR:bo X (.builtin "len") (λa H Q=>∃(p:Addr)(n:Nat),a=[.ref p]/\H p=some (.ext (qr p n))/\n<=1000/\Q (.int n) H):=by
 intro c s m H a v Q I r h;obtain⟨p,n,rfl,d,y,q⟩:=h;obtain⟨u,rfl,e⟩:=bq r;cases e;obtain⟨⟨o,f,z,t,g,i,j,a4,l⟩,_⟩:=(show W7 X.prog X.w H s.heap p (.ext (qr p n)) from I.hok p _ d)
 subst l;exact call_len_set g i j a4 (by lia) ⟨.int (f.size:Nat),H,I.tok _,⟨_,rfl⟩,q⟩
end
noncomputable def pU(K:W.Frag):V->List V->Hp->VK->Prop:=λx f H Q=>∃l c y a d j,x=.ref l/\f=[y]/\Y8 K H l c/\WW K H a c/\Dat K H d y/\Xp a=true/\XY d=true/\Xj a<=20/\c.length<=1000 /\
 (∃e,a[j]?=some e/\Xd e d=true)/\(∀(m:Nat) e,m<j->a[m]?=some e->Xd e d=false)/\Q (.int (j:Nat)) H
section
theorem ya{X:Cx}(hr:W2 k X.A):MtM X "list.index" (pU X.K):=by
 intro pins s σ H x vs v us Q I rx rv h;obtain⟨l,xs,y,U,d,j,rfl,rfl,hH,E,hd,n1,n2,dp,hx,⟨e0,G,hit⟩,hno,q⟩:=h;cases rx;obtain⟨u,rfl,ru⟩:=bq rv;obtain⟨a,n,r,e⟩:=hH.at I;have hl:=r.length;have ll:=E.length
 have item:∀(m:Nat)(w:Value),a[m]?=some w->∃g,U[m]?=some g/\∃M,RelV M w/\Dat X.K H g M:=λm w c=>by have Y:m<a.length:=(M1.mp c).1;obtain⟨g,p,dg⟩:=E.getV (i:=m) (v:=xs[m]'(by lia)) (RL (by lia));obtain⟨w',t,rr⟩:=r.get (i:=m) (x:=xs[m]'(by lia)) (RL (by lia));rw[c]at t;cases t;exact⟨g,p,_,rr,dg⟩
 have B:∀{x1 x2:V}{w:Value},RelV x1 w->RelV x2 w->x1=x2:=λ{x1 x2 w} h1 h2=>RelV.inj h1 h2
 classical
 let eq:Value->Bool:=λw=>if c:∃m:Nat,a[m]?=some w then (match U[Classical.choose c]? with|some g=>Xd g d|none=>false)else false
 have z:∀(m:Nat)(w:Value)(g:D),a[m]?=some w->U[m]?=some g->eq w=Xd g d:=λm w g c p=>by
  have t:∃m:Nat,a[m]?=some w:=⟨m,c⟩
  show(if c:∃m:Nat,a[m]?=some w then _ else false)=_;rw[dif_pos t];have hc:=Classical.choose_spec t;obtain⟨g',N,xv',r1,d1⟩:=item _ w hc;obtain⟨g2,O,M,r2,d2⟩:=item m w c;rw[p]at O;cases O;rw[N];have ex:=B r1 r2;subst ex;have:=kH I g' g (bI n1 N) d1 d2 (bI n1 p);rw[this]
 have hj:j<U.length:=(M1.mp G).1
 have hu:X.A.in1.units+20+1<cLine:=by have:=hr.un;show X.A.units+1+20+1<cLine;lia
 refine Vp V1 ⟨_,e,rfl⟩ F.entry_list_index (F.args_list_index_2 _ _) (SeqAt.list_indexAt l a.toArray n none #[] u eq j (by simp;lia) (by lia) ?_ ?_) ⟨e,?_,?_⟩
 ·have c:a[j]?=some (a[j]'(by lia)):=RL (by lia);have:=z j _ e0 c G;simpa[this]using hit
 ·intro m Y hmj;have f:m<a.length:=by simpa using Y
  have c:a[m]?=some (a[m]'f):=RL f;obtain⟨g,p,_⟩:=item m _ c;have:=z m _ g c p;simpa[this]using hno m g hmj p
 ·intro w c;obtain⟨m,Y,rfl⟩:=Array.getElem_of_mem c;have f:m<a.length:=by simpa using Y
  have T:a[m]?=some (a[m]'f):=RL f;obtain⟨g,p,M,r1,d1⟩:=item m _ T;have z1:a.toArray[m]=a[m]'f:=by simp
  rw[z1,z m _ g T p];exact o7 I 20 X.A.in1 g d M y _ u hu (Ub (dJ p) dp) (bI n1 p) n2 d1 hd r1 ru
 ·exact⟨.int (j:Nat),H,I.tok _,⟨_,rfl⟩,q⟩
theorem yb{X:Cx}(a:W2 k X.A):MtR X "list.index" (pU X.K):=ya a
end
section
variable{P:Program}{w:World}{H H':Hp}{h:Heap}{a T:Addr}
theorem W7.has(x:W7 P w H h a o):∃u,h.get? a=some u:=by
 cases o with
 |lst d=>obtain⟨_,_,_,_,e⟩:=x;exact⟨_,e⟩
 |tup d=>obtain⟨_,_,_,ob,e,_⟩:=x;exact⟨ob,e⟩
 |dK c=>obtain⟨_,_,_,_,o,_,_,e,_⟩:=x;exact⟨_,e⟩
 |dT c=>obtain⟨_,_,_,_,o,_,_,e,_⟩:=x;exact⟨_,e⟩
 |set S n=>obtain⟨o,_,_,_,e,_⟩:=x;exact⟨_,e⟩
 |ins C g fs=>obtain⟨_,_,_,e,_⟩:=x;exact⟨_,e⟩
 |own y=>exact x
 |xd fs=>obtain⟨_,⟨_,_,_,e,_⟩,_⟩:=x;exact⟨_,e⟩
 |YU lo i=>obtain⟨_,_,_,e⟩:=x;exact⟨_,e⟩
 |frz ob u=>obtain⟨e,_⟩:=x;exact⟨_,e⟩
 |Zc j=>exact⟨_,(show h.get? a=some _ from x)⟩
 |met f y=>exact⟨_,(show h.get? a=some _ from x)⟩
 |ext φ=>obtain⟨_,e,_⟩:=x;exact e
theorem X4.empty(x:X4 P w H h)(e:h.get? a=none):H a=none:=by
 cases q:H a with
 |none=>rfl
 |some u =>obtain⟨v,r⟩:=(x a u q).has;rw[e]at r;cases r
noncomputable def Trc(h:Heap)(e T:Addr)(cls i:Value):Prop :=
 ∃c d f g,h.get? e=some c/\(c.cls=cls/\d[0]?=some i)/\c.data=.fields d/\d[1]?=some (.ref T)/\T≠e/\h.get? T=some f/\f.data=.fields g/\g[3]?=some .none
noncomputable def CX1(P:Program)(w:World):CXT:=λouter H s E e c =>
 ∃a T cls d H',e=.ref a/\c.os=s.os/\AllBare c.gens/\Un (frs outer) [] H H' s.heap c.heap/\X4 P w H' c.heap /\
  (s.heap.get? a=none/\s.heap.get? T=none/\H' a=none/\H' T=none)/\Trc c.heap a T cls d/\E cls none H'
theorem BF{f:Heap}(U:Un fs [] H H' h g)(p:h.get? a=none)(r:h.get? T=none)(k:∀b o,g.get? b=some o->b≠a->b≠T->b∉fs->f.get? b=some o)
  (e:∀b o,g.get? b=some o->b∈fs->∃e,f.get? b=some {o with slots:=e}):Un fs [] H H' h f:=by
 have i:∀b o,h.get? b=some o->b≠a:=λb o q z=>by rw[z,p]at q;cases q
 have j:∀b o,h.get? b=some o->b≠T:=λb o q z=>by rw[z,r]at q;cases q
 refine⟨λb o q n c d=>k b o (U.keep b o q n c d) (i b o q) (j b o q) c,λb o q n c d=>?_,U.free,λb o q d=>?_,U.tups,U.Y5,U.Zh⟩
 ·obtain⟨t,e1⟩:=U.slot b o q n c d;obtain⟨l,e2⟩:=e b _ e1 c;exact⟨l,e2⟩
 ·obtain⟨m,e1⟩:=U.there b o q d;by_cases c:b∈fs
  ·obtain⟨l,e2⟩:=e b _ e1 c;exact⟨_,e2⟩
  ·exact⟨m,k b m e1 (i b o q) (j b o q) c⟩
theorem zM{f:Heap}{fs:List Addr}(O:X4 P w H g)(i:H a=none)(j:H T=none)(l:∀b∈fs,H b=none)(k:∀b o,g.get? b=some o->b≠a->b≠T->b∉fs->f.get? b=some o):X4 P w H f:=λc u e =>
 (O c u e).stay (λb v m q=>by
  have d:H b≠none:=by
   rcases m with z|z
   ·rw[z,e];exactλy=>nomatch y
   ·rw[z];exactλy=>nomatch y
  exact k b v q (λz=>d (by rw[z];exact i)) (λz=>d (by rw[z];exact j)) λz=>d (l b z)) (λ_ q=>q) λ_ _ q=>q
theorem Fd(F:h.FunFrames base l)(t:Trc h a T cls e):Heap.FlyingW (W.hideAll h (a::T::frs l)) l a cls e h:=by
 obtain⟨f,g,i,j,m,n,p,r,c,u,d,v⟩:=t
 exact⟨λb o q=>W.of_hideAll _ q,VT _ (.head _),W.funFrames_hide F λenv y b z=>.tail _ (.tail _ (VM.mpr ⟨env,y,z⟩)),
  f,g,T,i,j,m,n,p,r,VT _ (.tail _ (.head _)),c,u,d,v⟩
theorem rL(F:h.FunFrames base l)(x:Heap.FlyingW (W.hideAll h (a::T::frs l)) Y a cls t g)(U:h.UpToSlots g) :
  ∃d,Trc g a d cls t/\(d=T\/h.get? d=none)/\(∀b o,h.get? b=some o->b≠a->b≠T->b∉frs l->g.get? b=some o)/\(∀b o,h.get? b=some o->b∈frs l->∃f,g.get? b=some {o with slots:=f}):=by
 obtain⟨u,f2,f3,v,y,d,B,n,E,G,I,M,p,i,r,j,N⟩:=x
 have f:∀b o,h.get? b=some o->b∈frs l->∃f,g.get? b=some {o with slots:=f}:=λb o q O=>by obtain⟨_,Q,c,e⟩:=F.mem O;rw[q]at c;cases c;exact U b o q e
 refine⟨d,⟨v,y,B,n,E,G,I,M,i,r,j,N⟩,?_,λb o q n1 n2 n3=>u b o (W.hideAll_get _ q λz=>?_),f⟩
 ·cases q:h.get? d with
  |none=>exact .inr rfl
  |some o =>
   refine .inl ?_;by_cases m:d∈a::T::frs l
   ·rcases T3.mp m with z|m
    ·exact absurd z i
    ·rcases T3.mp m with z|m
     ·exact z
     ·obtain⟨_,Q,c,e⟩:=F.mem m;rw[q]at c;cases c;obtain⟨s2,e2⟩:=f d o q m;rw[r]at e2;cases e2;exact absurd j (e n)
   ·rw[W.hideAll_get _ q m]at p;cases p
 ·rcases T3.mp z with z|z
  ·exact n1 z
  ·rcases T3.mp z with z|z
   ·exact n2 z
   ·exact n3 z
end
section
theorem CX1.behind{X:Cx}{c:List (Addr×Obj)}{t:St}{H:Hp}{s f:Shared}{E:XK}{e:Value}(I:Inv X c t H s)(x:CX1 X.prog X.w X.stack H s E e f):∃a T cls m d,e=.ref a/\E cls none d/\s.heap.get? a=none/\d a=none/\Inv X c t d f /\
  Heap.FlyingW (W.hideAll f.heap (a::T::frs X.stack)) X.stack a cls m f.heap /\
  ∀j G,Heap.FlyingW (W.hideAll f.heap (a::T::frs X.stack)) G a cls m j->f.heap.UpToSlots j ->
   ∃g,Inv X c t d {f with heap:=j}/\Trc j a g cls m/\s.heap.get? g=none/\d g=none/\Un (frs X.stack) [] H d s.heap j:=by
 obtain⟨a,T,cls,m,d,O,os,i,un,l,⟨sa,u,M,N⟩,tr,q⟩:=x;have J:Inv X c t d f:=I.YY (ch:=[]) os un l i (λb z=>absurd z (by simp));refine⟨a,T,cls,m,d,O,q,sa,M,J,Fd J.stack tr,λj G fl up=>?_⟩;obtain⟨g,Q,n,v,p⟩:=rL J.stack fl up
 have y:d g=none:=by
  rcases n with z|z
  ·rw[z];exact N
  ·exact l.empty z
 have B:s.heap.get? g=none:=by
  rcases n with z|z
  ·rw[z];exact u
  ·cases q:s.heap.get? g with
   |none=>rfl
   |some o =>obtain⟨U,r⟩:=un.there g o q (by simp);rw[z]at r;cases r
 exact⟨g,I.YY (s':={f with heap:=j}) (ch:=[]) os (BF un sa u v p) (zM l M N J.YI v) i (λb z=>absurd z (by simp)),Q,B,y,BF un sa u v p⟩
end
noncomputable def Fre(h:Heap)(e:Addr)(cls d:Value):Prop:=∃a c,h.get? e=some a/\(a.cls=cls/\c[0]?=some d)/\a.data=.fields c/\c[1]?=some .none
noncomputable def cq(K:W.Frag)(C:Addr)(c:List Value)(a:String)(d:Option Value):Bool:=match K.lookup C with
 |some ⟨.type "type",_,.cls cd,slots⟩=>(match cd.mro,slots.toList with
  | .ref e::f,[_,_,_,_,some (.builtin n),_]=>e==C&&n==a&&!cd.hasDel&&W.tailIn K c f&&W.nsOkIn K cd.ns&&W.nsIn K cd.ns "__init__"==some d
  |_,_=>false)
 |_=>false
theorem uz(X:K.In h)(G:h.Ns N mg)(e:W.nsIn K N n=some (some v)):mg n=some v:=by
 obtain⟨o,l,m,a,f,_,g⟩:=G;unfold W.nsIn at e;split at e
 ·rename_i c d i p r q;have:=X _ _ q;rw[a]at this;cases this;cases f;split at e
  ·rename_i en j;rw[<- g];unfold nsFind findBy;rw[<- Array.find?_toList,j];cases e;rfl
  ·split at e<;>cases e
 ·cases e
theorem ui(X:K.In h)(q:cq K C l d f=true) :
  ∃bm N nm M bs O sn sub ab col dd k0 k1 k2 k3 k5 mN,h.get? C=some (excClassObj nm M C N bs bm O sn sub ab col dd k0 k1 k2 k3 k5 d)/\h.Ns N mN/\mN "__init__"=f/\OwnTail h l bm:=by
 unfold cq at q;split at q
 ·rename_i dd cd Q T;split at q
  ·rename_i U bm k0 k1 k2 k3 n k5 m hs;rw[Tz,Tz,Tz,Tz,Tz]at q;obtain⟨⟨⟨⟨⟨e1,e2⟩,c⟩,Y⟩,p⟩,a⟩:=q;obtain rfl:=U0.mp e1;obtain rfl:=U0.mp e2;have a:=U0.mp a;obtain⟨r,t,u,w,y,B,E,g,G,i,e⟩:=cd;have j:Q.toList.toArray=[k0,k1,k2,k3,some (.builtin n),k5].toArray:=by rw[hs]
   rw[Array.toArray_toList]at j;subst j;have m:u=.ref U::bm:=m
   have H:e=false:=by
    have z:(!e)=true:=c
    cases e with
    |true=>cases z
    |false=>rfl
   clear c;subst m H;have I:h.Ns w (h.nsMap w):=.of_isNs (W.isNs_of_in X p);refine⟨bm,w,r,y,t,B,E,g,G,i,dd,k0,k1,k2,k3,k5,_,X _ _ T,I,?_,W.tail_of_in X Y⟩
   cases f with
   |none=>exact W.ns_none_of X I a
   |some v=>exact uz X I a
  ·cases q
 ·cases q
noncomputable def aE(f:CXT)(X:Cx)(E:St->XK):Prop:=∀(a:List (Addr×Obj))(c:St)(H:Hp)(s:Shared)(e:Value)(d:Shared),Inv X a c H s->f X.stack H s (E c) e d->X.xe e d
theorem Passes.s(h:Passes a X E):aE a X (λ_=>E):=h
section
theorem p6{X:Cx}{l:CXT}{k:Nat}{f:Addr}{m:FuncData}{j:List Str}{n:Sp}{i:List V}{c:List Value}{E:St->XK}{a:List (Addr×Obj)}{d:St}{H:Hp}{s:Shared}{Q:VK}{us:List Value}{vs:List V}(F:WV X.prog X.w X.K X.mg X.base l k f m j n)(p:W2 k X.A)(q:Binds X.K m j c)(t:Vals i c)(v:aE l X E)
  (I:Inv X a d H s) (r:Vals vs us) (h:n (vs++i) H Q (E d)):wpAny (model X.prog X.w) X.A (call (.ref f) us) (EP X a d Q) X.xe s:=by
 have r2:Vals (vs++i) (us++c):=r.append t;have hl:(us++c).length=j.length:=by rw[<- r2.length];exact F.len _ _ _ _ h
 refine U7 (UC (F.run X.A X.stack s H ⟨us,[]⟩ (us++c) (vs++i) Q (E d) p I.ZY (q s us I.Xy hl) r2 h) λr y g=>?_)
 cases r with
 |error e=>exact v a d H s e y I g
 |ok fl =>
  cases fl with
  |ret u=>exact I.after g
  |next=>exact False.elim g
  |brk=>exact False.elim g
  |cont=>exact False.elim g
theorem bg{X:Cx}(F:WV X.prog X.w X.K X.mg X.base m k f n u v)(y:W2 k X.A)(z:Gl X x)(B:X.mg x=some (.ref f))(hk:W.keepIn X.K (.ref f)=true)(G:Binds X.K n u M)(N:Vals XX M)(O:aE m X E)
  (T:PA X (e::d) t) (i:(x==("__debug__":Str))=false:=by decide) (U:starEach (e::d) X.env=(false,eval e X.env)::starEach d X.env:=by rfl) (j:(backTo a (starEach d X.env)).any (·.1)=false:=by rfl) :
  PE X (.Call (.Name x p) (e::d) [] a) (λg=>cS v XX (E g) t g):=by
 intro c s g H Q I h;refine UD (bj I z B ?_ i);refine VN (h₀:=X.base) I.ok.mod.kin hk (WY (T a c s g H _ I h) λY s1 ⟨vs,H1,l,r,q⟩=>⟨l.Xy,?_⟩) U j;exact p6 F y G N O l r q
end
theorem WV.cx0(F:WV P w K mg base CX0 k f a c d):WV P w K mg base CX k f a c d :=
 ⟨F.len,λA outer s H args g i Q E j l m n hs=>UC (F.run A outer s H args g i Q E j l m n hs) λr p h=>by
  cases r with
  |error e=>exact False.elim h
  |ok fl=>cases fl<;>exact h⟩
noncomputable def Cx.hand(X:Cx)(e:Value):Cx:={X with A:=X.A.mark (some e),calm:=false,xe:=λ_ _=>False}
theorem Cx.Ok.hand{X:Cx}(o:X.Ok):(X.hand e).Ok :=
 ⟨o.mod,o.kind,o.glob,o.blt,o.above,o.inj,o.has,o.cab,(λz=>nomatch z),o.frames,o.stk,o.exf,o.bs,o.Z9,o.ZH,o.exfs,o.Yq,o.frf⟩
section
theorem Inv.hand{X:Cx}{a:List (Addr×Obj)}{c:St}{H:Hp}{s:Shared}{e:Value}(I:Inv X a c H s):Inv (X.hand e) a c H s:=⟨I.ok.hand,I.os,I.bare,I.base,I.loc,I.cell,I.free,I.XE,I.pin,I.hok,I.len⟩
theorem Inv.XI{X:Cx}{a:List (Addr×Obj)}{c:St}{H:Hp}{s:Shared}{e:Value}(o:X.Ok)(I:Inv (X.hand e) a c H s):Inv X a c H s:=⟨o,I.os,I.bare,I.base,I.loc,I.cell,I.free,I.XE,I.pin,I.hok,I.len⟩
theorem Inv.inTry{X:Cx}{a:List (Addr×Obj)}{c:St}{H:Hp}{s:Shared}{xe:Value->Shared->Prop}(I:Inv X a c H s):Inv {X with pn:=X.pn++a,xe:=xe} [] c H s :=
 ⟨⟨I.ok.mod,I.ok.kind,I.ok.glob,I.ok.blt,I.ok.above,I.ok.inj,I.ok.has,I.ok.cab,I.ok.hd,I.ok.frames,I.ok.stk,I.ok.exf,I.ok.bs,I.ok.Z9,I.ok.ZH,I.ok.exfs,I.ok.Yq,I.ok.frf⟩,I.os,I.bare,I.base,I.loc,I.cell,I.free,I.XE,
  λp d=>I.pin p (by simpa using d),I.hok,I.len⟩
theorem Inv.Xw{X:Cx}{a d:List (Addr×Obj)}{c:St}{H:Hp}{s:Shared}{xe:Value->Shared->Prop}(o:X.Ok)(I:Inv {X with pn:=X.pn++a,xe:=xe} d c H s):Inv X a c H s :=
 ⟨o,I.os,I.bare,I.base,I.loc,I.cell,I.free,I.XE,λp e=>I.pin p (VD _ e),I.hok,I.len⟩
end
end L2
namespace L2
open PySem PySem.Spec PySem.Calls PyProof.Rows PySem.W PySem.Builtin PySem.Builtin.ObjectAttr PySem.Builtin.Getset_descriptor
section
variable{K:Frag}{D:Addr}
theorem yX(o:Value):bindSpecial (.builtin "BaseException.__getattribute__") o=pure (.builtin "BaseException.__getattribute__",[o]):=F.attr_ValueError.ga.bind o
structure eO(K:Frag)(D:Addr):Prop where
 ga:findIn K (.ref D) "__getattribute__"=some (some (.builtin "BaseException.__getattribute__"))
 gt:findIn K (.ref D) "__getattr__"=some none
 dct:hasDictIn K D=true
 a:findIn K (.ref D) "__class__"=some (some (.builtin "object.__class__"))
 n:specialIn K (.builtin "object.__class__") "__get__"=some (some (.builtin "getset_descriptor.__get__"))
 tk:takesIn K (.builtin "object.__class__")=some true
 m:mroIn K D (.type "object")=some true
 b:mroIn K D (.type "BaseException")=some true
theorem CQ{s:Shared}(X:K.In s.heap)(c:Looks (model prog w) s.heap (typeOf (.ref x)) (.ref D))(a:mroIn K D (.type "object")=some true)
  (h:R (.ok (.ret (.ref D))) s):codeAny (model prog w) A (.call (.builtin "getset_descriptor.__get__") ⟨[.builtin "object.__class__",.ref x,d],[]⟩) R s:=by
 obtain⟨e,g,f,t,os⟩:=s;have i:=looks_mroIn (M:=model prog w) X a;refine VE KF.slot_gs.plain KF.entry_gs ?_;refine KF.slot_gs.check _ _ _ _ _ _ _ _ KF.type_class (KF.args_gs _ _ _) ?_;unfold «getset_descriptor.__get__»;unfold descrGet;rw[dga_obj];refine Ar (RB ?_);unfold descrGetter descrCheckInstance;unfold descrNameAndClass isInstance;simp only[KF.owner_class]
 repeat lk
 refine⟨VQ _ (by decide +kernel),?_⟩;refine Wk KF.entry_class ?_;unfold Builtin.«object.__class__» shownTypeOf
 repeat lk
 exact h
theorem Ag(X:K.In h)(c:eO K D):Looks M h (Builtin.ObjectAttr.find (.ref x) (.ref D) "__class__") (.bind (.builtin "getset_descriptor.__get__") (.builtin "object.__class__")):=by have d:=WR (M:=M) X c.a;have L2:Looks M h (Builtin.ObjectAttr.getOf (some (.builtin "object.__class__"))) (some (.builtin "getset_descriptor.__get__")):=looks_specialIn X c.n;have e:=looks_takesIn (M:=M) X c.tk;unfold Builtin.ObjectAttr.find;refine d.andThen (L2.andThen ?_);unfold Builtin.ObjectAttr.dataDescriptor?;refine Looks.andThen (a:=some (.builtin "getset_descriptor.__get__",.builtin "object.__class__")) (e.andThen .now) ?_;exact Looks.tag .now
theorem xQ{s:Shared}(X:K.In s.heap)(c:Looks (model prog w) s.heap (typeOf (.ref x)) (.ref D))(a:eO K D)
  (h:Q (some (.ref D)) {s with toks:=s.toks+1}):wpAny (model prog w) A (getAttr? (.ref x) "__class__") Q E s:=by
 obtain⟨e,g,d,t,os⟩:=s;have f:=WR (M:=model prog w) X a.ga;have L2:=WR (M:=model prog w) X a.gt;have i:=Ag (M:=model prog w) (x:=x) X a;have j:Looks (model prog w) e (isInstance (.ref x) (.type "BaseException")) true:=c.andThen (looks_mroIn X a.b);unfold getAttr? getAttrBy? getAttrBy;refine Ar (wpAny_mkText (Ar (Vv (UA ?_))));refine Ar (c.at ?_);refine Ar (f.at ?_);show wpAny _ _ (getAttrByItsOwn _ _ _ _ _ _) _ _ _;unfold getAttrByItsOwn hookBefore;refine Ar ?_;show wpAny _ _ (typeLookup (.ref D) "__getattr__") _ _ _;refine L2.at (Ar (Vv (UA ?_)));show wpAny _ _ (boundAndCalled _ _ _) _ _ _;unfold boundAndCalled;rw[yX];refine Ar (RB (U7 ?_));refine VE F.attr_ValueError.ga.plain F.entry_bexc_ga (@check_slot (model prog w) _ _ _ "BaseException.__getattribute__" "BaseException" "__getattribute__" (.ref x) _ [] _ (by decide +kernel) (by decide +kernel) j (F.args_bexc_ga _ _) ?_);refine Ar (RB (Ar (RB (Ar (c.at (Ar (i.at ?_)))))));show wpAny _ _ (holding [Value.builtin "object.__class__"] (call (.builtin "getset_descriptor.__get__") [.builtin "object.__class__",.ref x,.ref D]) >>= ret) _ _ _;refine Ar (UA (U7 (CQ (s:=⟨e,g,d,t+1,os⟩) X c a.m ?_)));refine RB ?_;refine handed_on rfl ?_;exact RB h
end
noncomputable def gq(x:Addr)(D:Addr):HO:=.ext λh=>∃a,h.get? x=some a/\a.cls=.ref D
theorem zD{h:Heap}{D:Addr}(q:∃a,h.get? x=some a/\a.cls=.ref D):Looks M h (typeOf (.ref x)) (.ref D):=by obtain⟨a,c,d⟩:=q;rw[<- d];exact(Looks.ld c).andThen .now
theorem Ah{K:Frag}{D:Addr}(c:eO K D):KitX K (.ref x) (.ref D) (λh=>∃l,h.get? x=some l/\l.cls=.ref D) where
 ty:=λ_ _ _ q=>zD q
 it:=λ_ _ X _=>by
  obtain⟨d,a,_⟩:=any_some c.dct;unfold clsIn at a;split at a
  ·rename_i m p e f g;intro t u v w k q;unfold isType loadHead;have i:=k _ _ (X _ _ g);exact Ar (wpAny_loadPart i (RB q))
  ·cases a
 ne:=λh y B r n E X j=>by
  obtain⟨d,a,_⟩:=any_some c.dct;refine Bool.eq_false_iff.mpr λq=>?_;cases U0.mp q;unfold clsIn at a;split at a
  ·rename_i m p e f g;have z:=(X _ _ g).symm.trans j;cases z
  ·cases a
 ca:=λX q k=>xQ X (zD q) c k
theorem ur{X:Cx}{a:List (Addr×Obj)}{d:St}{H:Hp}{s:Shared}{A:Around}{E:Value->Shared->Prop}{Q:Value->Shared->Prop}{c:Value}{b:Bool}{x D:Addr}(I:Inv X a d H s)(f:H x=some (gq x D))(g:eO X.K D)
  (e:kitOne X.K (.ref D) c=some b) (h:∀tk,Q (.bool b) {s with toks:=tk}):wpAny (model X.prog X.w) A (call (.builtin "isinstance") [.ref x,c]) Q E s:=by
 obtain⟨q,_,_⟩:=(show W7 X.prog X.w H s.heap x (gq x D) from I.hok x _ f)
 exact kia_one (Ah g) I.Xy q e (λz=>nomatch z) h
section
theorem X4.ZE(d:X4 P w H h)(f:H a=none)(new:W7 P w (upd H a o) h a o):X4 P w (upd H a o) h:=λb u e=>by
 by_cases g:b=a
 ·subst g;rw[ai]at e;cases e;exact new
 ·rw[ag g]at e;exact(d b u e).stay (λ_ _ _ q=>q) (λc q=>by rw[ag (aA q f)];exact q) λc i q=>by rw[ag (aA q f)];exact q
theorem Inv.ZE{X:Cx}{c:List (Addr×Obj)}{g:St}{H d:Hp}{s e:Shared}{a:Addr}{o:HO}(I:Inv X c g H s)(J:Inv X c g d e)(un:Un (frs X.stack) [] H d s.heap e.heap)(sa:s.heap.get? a=none)(f:d a=none)(new:W7 X.prog X.w (upd d a o) e.heap a o):Inv X c g (upd d a o) e:=by
 have nb:∀b u,s.heap.get? b=some u->b≠a:=λb u q z=>by rw[z,sa]at q;cases q
 refine I.YY (ch:=[]) (J.os.trans I.os.symm) ⟨un.keep,un.slot,λb u q n j=>by rw[ag (nb b u q)];exact un.free b u q n j,un.there,λb i q=>?_,λb u i q=>?_,λb l q=>?_⟩ (J.hok.ZE f new) J.bare (λb z=>absurd z (by simp))
 ·have z:=un.tups b i q;rw[ag (aA z f)];exact z
 ·have z:=un.Y5 b u i q;rw[ag (aA z f)];exact z
 ·obtain⟨m,z⟩:=un.Zh b l q;exact⟨m,by rw[ag (aA z f)];exact z⟩
theorem Inv.gone{X:Cx}{a:List (Addr×Obj)}{G:St}{H:Hp}{s:Shared}{M:Model}{A:Around}{E:Value->Shared->Prop}{i:Nat}{n:Str}{g:Pos}{Q:Unit->Shared->Prop}(I:Inv X a G H s)(U:X.N.Nodup)(Y:X.N[i]?=some n)(hl:X.env.kindOf n=some .local)
  (h:∀J,Inv X a (G.set i none) H J->Q () J):wpAny M A (do bindName X.env n .none;unbindBehindTheSuite X.env n g) Q E s:=by
 obtain⟨m,O,l⟩:=id I.loc;obtain⟨oL,_,_,hoL,_⟩:=id O;have cne:=I.cne;refine wpAny_nameGoes_keeps hl O (by rw[I.ok.kind];rfl) λh' v r hs=>h _ ?_
 have t:X4 X.prog X.w H h':=λb ob e=>by
  refine(I.hok b ob e).stay (λc T hc q=>(hs.2 c ?_).trans q) (λ_ q=>q) λ_ _ q=>q;rintro rfl;rcases hc with z|z
  ·rw[<- z,I.free]at e;cases e
  ·rw[I.free]at z;cases z
 refine⟨I.ok,I.os,I.bare,⟨λb o e n u f=>?_,λb o e n u f=>?_,I.base.free,λb o e f=>?_,I.base.tups,I.base.Y5,I.base.Zh⟩,⟨_,r,λj y v' e1 e2 e3=>?_⟩,λy c e=>?_,I.free,I.XE,λp hp=>?_,t,by simpa using I.len⟩
 ·exact(hs.2 b (TV (TR (TJ e) I.ok.above))).trans (I.base.keep b o e n u f)
 ·obtain⟨sl,e1⟩:=I.base.slot b o e n u f;exact⟨sl,(hs.2 b (TV (TR (TJ e) I.ok.above))).trans e1⟩
 ·obtain⟨o',e1⟩:=I.base.there b o e f;exact⟨o',(hs.2 b (TV (TR (TJ e) I.ok.above))).trans e1⟩
 ·by_cases B:j=i
  ·subst B;rw[List.getElem?_set]at e2;simp at e2
  ·rw[Vo (Ut B)]at e2;obtain⟨u',r',q⟩:=l j y v' e1 e2 e3;refine⟨u',r',?_⟩;rcases q with⟨k,e⟩|⟨k,c,e,z⟩
   ·refine .inl ⟨k,?_⟩;have:y≠n:=λe=>B (lL U e1 (e▸Y));simp[this,e]
   ·exact .inr ⟨k,c,e,z.sameBut hs (cne y c e)⟩
 ·obtain⟨T,z⟩:=I.cell y c e;exact⟨T,z.sameBut hs (cne y c e)⟩
 ·obtain⟨e,n,ne,nf,d⟩:=I.pin p hp;exact⟨(hs.2 p.1 ne).trans e,n,ne,nf,d⟩
end
noncomputable def Ends.gone(D:Ends)(i:Nat):Ends:={nx:=λa H=>D.nx (a.set i none) H,rt:=D.rt,bk:=λa H=>D.bk (a.set i none) H,ct:=λa H=>D.ct (a.set i none) H}
end L2
namespace L2
open PySem PySem.Spec PySem.Calls PyProof.Rows
section
variable{P:Program}{w:World}{K:W.Frag}{mg:Str->Option Value}{base:Heap}
structure YC(k:Nat)(A:Around):Prop where
 dp:A.depth+3*k+5<recursionLimit
 un:A.units+16*k+200<cLine
theorem W2.h(r:W2 k A):YC k A:=⟨r.dp,r.un⟩
theorem YC.mark(r:YC k A):YC k (A.mark e):=⟨r.dp,r.un⟩
theorem YC.deeper(r:YC (k+1) A)(env:Env):YC k (A.deeper env) :=
 ⟨by have:=r.dp;show A.depth+1+3*k+5<_;lia,by have:=r.un;show A.units+3+16*k+200<_;lia⟩
structure qI(P:Program)(w:World)(K:W.Frag)(mg:Str->Option Value)(base:Heap)(k:Nat)(f:Addr)(fd:FuncData)(ps:List Str)(sp:Sp):Prop where
 len:∀vs H Q E,sp vs H Q E->vs.length=ps.length
 run:∀(A:Around)(outer:List Env)(s:Shared)(H:Hp)(args:Args)(us:List Value)(vs:List V)(Q:VK)(E:XK),YC k A->Y7 P w K mg base A outer s H->BindsTo s fd args (ps.zip us)->Vals vs us->sp vs H Q E ->
  codeAny (model P w) A (.call (.ref f) args) (CR CX0 outer P w H s Q E) s
noncomputable def Cx.uncalm(X:Cx):Cx:={X with calm:=false,xe:=λ_ _=>False}
theorem YH.okH{st:Stmt}(F:YH K x c st f fd)(S:WT N G (aa st))(len:∀i H Q E,sp i H Q E->i.length=G.length)
  (m:∀(d:Value)(A:Around)(outer:List Env)(s:Shared)(H:Hp)(i:List V)(Q:VK)(E:XK),YC k (A.deeper (envOfC c (aa st) s.heap.objs.size f d))->sp i H Q E ->
   ∃t,XH (bG CX0 P w K mg base N c (aa st) f d A outer s H E).uncalm (aV st) t/\t {nx:=λ_ l=>Q .WX l,rt:=Q} (start N i) H):qI P w K mg base (k+1) f fd G sp:=by
 obtain⟨oc,od,kV,doc,pm,an,d,ct,osl,rfl,lk,M⟩:=F.ex;refine⟨len,λA outer s H args us i Q E hr g hb r B=>?_⟩;have hl:=len _ _ _ _ B;have KX:K.In s.heap:=g.mod.kin.keeps λb o e=>(g.bs b o e).1;have O:s.heap.NoLimit:=g.mod.nolimit.keeps λb o e=>(g.bs b o e).1
 have p:∀y∈G.zip us,(aa st).names.lookup y.1=some .local\/((aa st).names.lookup y.1=some .cell/\((cellsFrom (s.heap.objs.size+1) (aa st).names []).lookup y.1).isSome=true):=λ⟨n,v⟩ hy=>by
  rcases S.par n (Wg hy).1 with q|q
  ·exact .inl q
  ·exact .inr ⟨q,W.cellsFrom_some _ _ _ (.inl q)⟩
 refine codeAny_call_function (by have:=hr.dp;lia) (KX _ _ lk) rfl S.co S.gen rfl (W.codeRec_of KX M) (hb _ _ _ _ ?_);refine wpAny_newFunctionEnv_cells S.kind p λenv he T x=>?_;subst he;refine⟨O.keeps x.toInCall.keep,codeAny_func ?_⟩;obtain⟨t,ht,hq⟩:=m d A outer s H i Q E (hr.deeper _) B;have e1:Y7 P w K mg base {A with handled:=none} outer s H:=⟨g.frames,g.mod,g.bs,g.Z9,g.Yq,g.frf,g.hok,g.bare⟩
 have a:Inv (bG CX0 P w K mg base N c (aa st) f d {A with handled:=none} outer s H E) [] (start N i) H T:=nQ S rfl e1 hl r x
 have I:Inv (bG CX0 P w K mg base N c (aa st) f d A outer s H E).uncalm [] (start N i) H T :=
  ⟨⟨a.ok.mod,a.ok.kind,a.ok.glob,a.ok.blt,a.ok.above,a.ok.inj,a.ok.has,a.ok.cab,(λz=>nomatch z),Around.frames_deeper g.frames,a.ok.stk,a.ok.exf,a.ok.bs,a.ok.Z9,a.ok.ZH,a.ok.exfs,a.ok.Yq,a.ok.frf⟩,
   a.os,a.bare,a.base,a.loc,a.cell,a.free,a.XE,a.pin,a.hok,a.len⟩
 refine Up (ht [] T (start N i) H _ I hq) (λfl U hs=>?_) λe U hs=>hs.elim
 have fin:∀{j:St}{l:Hp}{v:V}{u:Value},Inv (bG CX0 P w K mg base N c (aa st) f d A outer s H E).uncalm [] j l U->RelV v u->Q v l->CE outer P w H s Q u U :=
  λ{j l v u} J Y q=>⟨v,l,J.os,J.bare,J.base,J.hok,Y,q⟩
 cases fl with
 |ret u =>obtain⟨v,j,l,J,Y,q⟩:=hs;exact fin J Y q
 |next =>obtain⟨j,l,J,q⟩:=hs;exact fin (v:=V.WX) (u:=Value.none) J rfl q
 |brk =>obtain⟨_,_,_,q⟩:=hs;exact False.elim q
 |cont =>obtain⟨_,_,_,q⟩:=hs;exact False.elim q
end
section
theorem su{X:Cx}(F:qI X.prog X.w X.K X.mg X.base k f G y J)(M:YC k X.A)(N:Gl X x)(O:X.mg x=some (.ref f))(hk:W.keepIn X.K (.ref f)=true)(T:Binds X.K G y i)(U:Vals m i)
  (Y:PA X (e::j) t) (n:(x==("__debug__":Str))=false:=by decide) (he:starEach (e::j) X.env=(false,eval e X.env)::starEach j X.env:=by rfl) (v:(backTo a (starEach j X.env)).any (·.1)=false:=by rfl) :
  PE X (.Call (.Name x p) (e::j) [] a) (cS J m E t):=by
 intro c s σ H Q I h;refine UD (bj I N O ?_ n);refine VN (h₀:=X.base) I.ok.mod.kin hk (WY (Y a c s σ H _ I h) λd z ⟨B,H1,l,r,q⟩=>⟨l.Xy,?_⟩) he v;have r2:Vals (B++m) (d++i):=r.append U;have hl:(d++i).length=y.length:=by rw[<- r2.length];exact F.len _ _ _ _ q
 refine U7 (UC (F.run X.A X.stack z H1 ⟨d,[]⟩ (d++i) (B++m) Q E M l.ZY (T z d l.Xy hl) r2 q) λr s' g=>?_)
 cases r with
 |error e=>exact False.elim g
 |ok fl =>
  cases fl with
  |ret u=>exact l.after g
  |next=>exact False.elim g
  |brk=>exact False.elim g
  |cont=>exact False.elim g
end
theorem AQ{x:Str}(m:PE X e n)(p:x.length<=1000) :
  PE X (.JoinedStr [.Constant (.str x) j E,.FormattedValue e (-1) none G] r) (λc H Q=>n c H λv d=>∃i:Int,v=.int i/\i.natAbs.log2<1920/\∀y:Str,Q (.str y) d):=by
 intro a s c H Q I h;have J:(Str.empty++x).length<=1000:=by rw[Str.append_left_empty (by rfl)];exact p
 refine wpAny_JoinedStr ?_;refine Calls.Constant_str ⟨x,_,rfl,by rw[Ul];lia,?_⟩;refine wpAny_FormattedValue_plain (WY (m a _ c H _ (I.tok _) h) λu M ⟨v,d,w,z,i,B,f,q⟩=>?_);subst B;obtain⟨t,rfl⟩:=(show ∃t,u=Value.int i t from z)
 refine wpAny_formatField_int f ?_;have e:=int_text_length_le (k:=1920) (by decide) f
 have g:((Str.empty++x)++Str.ofString (toString i)).length<=sizeLine:=by have l:((Str.empty++x)++Str.ofString (toString i)).length=(Str.empty++x).length+(Str.ofString (toString i)).length:=Array.size_append;rw[l,PySem.ofString_length,Ul];lia
 exact⟨_,_,rfl,g,g,.str _,d,w.tok _,⟨_,rfl⟩,q _⟩
noncomputable def blV(bs:List Bool):List V:=bs.map V.bl
theorem qG:∀{bs:List Bool}{a:List Value},Vals (blV bs) a->a=bs.map Value.bool
 |[],_,.nil=>rfl
 |b::bs,_,.cons r t=>by have e:=qG (bs:=bs) t;rw[e,show _=Value.bool b from r];rfl
theorem lT:∀(bs:List Bool),∃as,ReadsAll h (bs.map Value.bool) (bs.map PyData.bool) as
 |[]=>⟨_,.nil⟩
 |b::bs=>let⟨_,r⟩:=lT bs;⟨_,.cons (.bool b) r⟩
theorem tM:∀(bs:List Bool),(bs.map PyData.bool).all Shape.bool.has=true
 |[]=>rfl
 |b::bs=>by rw[T9,Ud,tM bs];rfl
theorem qU:∀(bs:List Bool),(bs.map Value.bool).countP (isBoolOf true)=bs.count true
 |[]=>rfl
 |b::bs=>by rw[T9,List.countP_cons,qU bs,List.count_cons];cases b<;>rfl
section
theorem xY:MtM X "list.count" (λx a H Q=>∃l bs,x=.ref l/\a=[.bl true]/\H l=some (.lst (blV bs))/\Q (.int (bs.count true:Nat)) H):=by
 intro c s t H x a v z Q I d f h;obtain⟨l,bs,rfl,rfl,g,q⟩:=h;cases d;obtain⟨u,rfl,i⟩:=bq f;obtain rfl:u=Value.bool true:=i;obtain⟨_,j,n,r,e⟩:=(show W7 X.prog X.w H s.heap l (.lst (blV bs)) from I.hok l _ g)
 obtain rfl:=qG r;obtain⟨as,m⟩:=lT (h:=s.heap) bs;refine Vp F.slot_list_count ⟨_,e,rfl⟩ F.entry_list_count (F.args_list_count_2 _ _) (SeqAt.list_countAt l (bs.map Value.bool).toArray n none #[] (.bool true) (isBoolOf true)) ⟨e,λy p=>eq_isBoolOf true m (tM bs) y (by simpa using p) _ _,?_⟩;rw[show ∀(x:List Value),x.toArray.toList=x from λ_=>rfl,qU];exact⟨.int _,H,I.tok _,⟨_,rfl⟩,q⟩
theorem xZ:MtM X "list.index" (λx i H Q=>∃l bs j,x=.ref l/\i=[.bl true]/\H l=some (.lst (blV bs))/\bs.length<=1000/\bs[j]?=some true/\(∀m,m<j->bs[m]?=some false)/\Q (.int (j:Nat)) H):=by
 intro p s U H x i v Y Q I z B h;obtain⟨l,bs,j,rfl,rfl,E,t,G,a,q⟩:=h;cases z;obtain⟨u,rfl,J⟩:=bq B;obtain rfl:u=Value.bool true:=J;obtain⟨_,M,n,r,e⟩:=(show W7 X.prog X.w H s.heap l (.lst (blV bs)) from I.hok l _ E)
 obtain rfl:=qG r;obtain⟨as,N⟩:=lT (h:=s.heap) bs;obtain⟨c,d⟩:=M1.mp G;refine Vp V1 ⟨_,e,rfl⟩ F.entry_list_index (F.args_list_index_2 _ _) (SeqAt.list_indexAt l (bs.map Value.bool).toArray n none #[] (.bool true) (isBoolOf true) j (by simpa using c) (by lia) ?_ ?_) ⟨e,λy O=>eq_isBoolOf true N (tM bs) y (by simpa using O) _ _,?_⟩
 ·simp[d,isBoolOf]
 ·intro m hm f;obtain⟨T,g⟩:=M1.mp (a m f);simp[g,isBoolOf]
 ·exact⟨.int _,H,I.tok _,⟨_,rfl⟩,q⟩
end
noncomputable def clV:V->Value
 | .ref a=>.ref a
 | .ty n=>.type n
 |_=>.none
theorem aJ:bo X (.builtin "isinstance") (λd H Q=>∃x D c b,d=[.ref x,c]/\((∃a,c=.ref a)\/∃n,c=.ty n)/\H x=some (gq x D)/\eO X.K D/\W.kitOne X.K (.ref D) (clV c)=some b/\Q (.bl b) H):=by
 intro f s t H d v Q I r h;obtain⟨x,D,c,b,rfl,i,j,l,e,q⟩:=h
 cases r with
 |cons m rt =>
  obtain⟨u,rfl,g⟩:=bq rt;obtain rfl:=(show _=Value.ref x from m)
  have p:u=clV c:=by
   rcases i with⟨a,rfl⟩|⟨n,rfl⟩
   ·exact g
   ·exact g
  subst p;exact ur I j l e λtk=>⟨.bl b,H,I.tok _,rfl,q⟩
section
theorem yh{X:Cx}(F:WV X.prog X.w X.K X.mg X.base CX k f fd N sp)(hr:W2 k X.A)(hg:Gl X x)(hm:X.mg x=some (.ref f))(hk:W.keepIn X.K (.ref f)=true)(O:i5 X.K fd N T g U)(hx:aE CX X E)
  (ha:PA X (e::n) t) (z:PK X d tk) (j:(backToKw a (keywordEach d X.env)).all (·.1.isSome)=true:=by rfl) (B:(backToKw a (keywordEach d X.env)).filterMap (·.1)=T:=by rfl)
  (G:(x==("__debug__":Str))=false:=by decide) (he:starEach (e::n) X.env=(false,eval e X.env)::starEach n X.env:=by rfl)
  (J:((backTo a (starEach (e::n) X.env)).any (·.1)||(backToKw a (keywordEach d X.env)).any (·.1.isNone))=false:=by rfl) :
  PE X (.Call (.Name x p) (e::n) d a) (λi=>Iq sp U (E i) t tk i):=by
 intro c s i H Q I h;refine UD (bj I hg hm ?_ G);refine W.callWith_KW (h₀:=X.base) I.ok.mod.kin hk j (WY (ha a c s i H _ I h) λv s1 ⟨vs,H1,I1,r,q⟩=>?_) J he;refine WY (z a c s1 i H1 _ I1 q) λy M ⟨zs,Y,l,rz,q2⟩=>⟨l.Xy,?_⟩
 rw[B];have r2:=O.rel r rz;have hl:(g v y).length=N.length:=by rw[<- r2.length];exact F.len _ _ _ _ q2
 refine U7 (UC (F.run X.A X.stack M Y ⟨v,T.zip y⟩ (g v y) (U vs zs) Q (E i) hr l.ZY (O.to M v y l.Xy hl) r2 q2) λr s' m=>?_)
 cases r with
 |error e=>exact hx c i Y M e s' l m
 |ok fl =>
  cases fl with
  |ret u=>exact l.after m
  |next=>exact False.elim m
  |brk=>exact False.elim m
  |cont=>exact False.elim m
variable{K:W.Frag}
theorem aU{D:Addr}(f:H x=some (gq x D))(g:eO K D)(d:W.kitOne K (.ref D) (clV c)=some b)(j:(∃a,c=.ref a)\/∃n,c=.ty n)(e:l[i]?=some (some (.ref x)):=by rfl) :
  RE K (tCB (λm H Q=>∃x D c b,m=[.ref x,c]/\((∃a,c=.ref a)\/∃n,c=.ty n)/\H x=some (gq x D)/\eO K D/\W.kitOne K (.ref D) (clV c)=some b/\Q (.bl b) H) (ay (cB i) (ay (tC c) bM))) l H (.bl b):=λp s Q q =>
 ⟨_,e,x,D,c,b,rfl,j,s _ _ f,g,d,q _ _ (W3.refl _) (Dat.blI _)⟩
theorem yv(hl:H l=some (.lst (blV bs)))(e:a[i]?=some (some (.ref l)):=by rfl) :
  RE K (tBM K "list" (λx c H Q=>∃l bs,x=.ref l/\c=[.bl true]/\H l=some (.lst (blV bs))/\Q (.int (bs.count true:Nat)) H) (cB i) (ay (tC (.bl true)) bM)) a H (.int (bs.count true:Nat)):=λd s Q q =>
 ⟨_,e,.inl ⟨rfl,_,Xk.of (s _ _ hl)⟩,l,bs,rfl,rfl,s _ _ hl,q _ _ (W3.refl _) (Dat.intI _)⟩
theorem yw(hl:H l=some (.lst (blV bs)))(a:bs.length<=1000)(c:bs[j]?=some true)(d:∀m,m<j->bs[m]?=some false)(e:f[i]?=some (some (.ref l)):=by rfl) :
  RE K (tBM K "list" (λx g H Q=>∃l bs j,x=.ref l/\g=[.bl true]/\H l=some (.lst (blV bs))/\bs.length<=1000/\bs[j]?=some true/\(∀m,m<j->bs[m]?=some false)/\Q (.int (j:Nat)) H) (cB i) (ay (tC (.bl true)) bM)) f H (.int (j:Nat)):=λn s Q q =>
 ⟨_,e,.inl ⟨rfl,_,Xk.of (s _ _ hl)⟩,l,bs,j,rfl,rfl,s _ _ hl,a,c,d,q _ _ (W3.refl _) (Dat.intI _)⟩
theorem jg:fillsNumberSlot (.type "tuple") "mul"=pure false :=
 PySem.fillsNumberSlot_seq (id:="tuple.__mul__") (r:=some (.builtin "tuple.__rmul__")) F.slot_tuple_mul.lookup (by decide +kernel) F.slot_tuple_rmul.lookup (by decide +kernel)
theorem pV:seqRepeat? (.type "tuple")=pure (some (.builtin "tuple.__mul__")):=by unfold seqRepeat?;rw[PySem.seqSlot_of (T:="tuple") (name:="__mul__") (id:="tuple.__mul__") F.slot_tuple_mul.lookup (by decide +kernel),PySem.seqSlot_of (T:="tuple") (name:="__rmul__") (id:="tuple.__rmul__") F.slot_tuple_rmul.lookup (by decide +kernel)];rfl
theorem lH(a:Int)(t:Tok)(l:Addr)(c:Array Value)(n:Nat)(e:Option Addr)(f:Array (Option Value)) :
  Meets (Builtin.«int.__rmul__» ⟨[.int a t,.ref l],[]⟩) (λ_ R s=>s.heap.get? l=some {cls:=.type "tuple",dict:=e,data:=.seq c n,slots:=f}/\R (.ok (.ret Value.notImplemented)) s) :=
 .of_wp λ_ _ _ _ s q=>by
  obtain⟨g,g0,i,j,m⟩:=s;obtain⟨d,q⟩:=q
  wp_walk
  exact⟨_,rfl,q⟩
end
end L2
namespace L2
open PySem PySem.Spec PySem.Calls PyProof.Rows PySem.W PySem.Builtin PySem.Builtin.ObjectAttr
noncomputable abbrev Jg(a:List Value):Obj:={cls:=.type "tuple",data:=.seq a.toArray}
noncomputable abbrev yW(C t:Addr):Obj:={cls:=.ref C,data:=.fields #[.ref t,.none,.none,.none,.bool false,.none]}
noncomputable abbrev jL(h:Heap)(C:Addr)(a:List Value):Heap:=(h.push (Jg a)).push (yW C h.objs.size)
theorem bX{h:Heap}(b:Addr)(o:Obj)(q:h.get? b=some o):(jL h C us).get? b=some o:=by have a:=LD (Jg us) q;exact LD _ a
theorem dq:(jL h C a).get? (h.objs.size+1)=some (yW C h.objs.size):=by heap_get
theorem xT{h:Heap}:h.get? (h.objs.size+1)=none:=Heap.get?_none_of_le (by lia)
structure IniK(K:Frag)(C fI:Addr):Prop where
 at_:cq K C [.type "ValueError",.type "Exception",.type "BaseException",.type "object"] "ValueError.__new__" (some (.ref fI))=true
 ini:findIn K (.ref C) "__init__"=some (some (.ref fI))
 fn:typeIn K (.ref fI)=some (.type "function")
 kp:keepIn K (.ref C)=true
section
theorem xW{A:Around}{K:Frag}{c:List Value}{s:Shared}(X:K.In s.heap)(e:IniK K C i)(hl:c.length<=sizeLine)
  (h:wpAny (model prog w) (A.under (.builtin "type.__call__" ⟨.ref C::c,[]⟩)) (call (.ref i) (.ref (s.heap.objs.size+1)::c)) (λr g=>r=.none/\Q (.ref (s.heap.objs.size+1)) g) E {s with heap:=jL s.heap C c}) :
  wpAny (model prog w) A (call (.ref C) c) Q E s:=by
 obtain⟨j,N,G,H,bs,l,I,sub,J,m,M,k0,O,U,Y,k5,mN,a,_,_,T⟩:=ui X e.at_;have V:=F.excBase_ValueError;have n:s.TypeIs (.ref C) "type":=⟨_,a,rfl⟩
 have l1:=tc_lookup;have l2:=tc_bind (.ref C);have f:=bX (us:=c) (C:=C) C _ a;have p:K.In (jL s.heap C c):=X.keeps bX;have d:(Value.ref C::j).contains (.ref C)=true:=by simp
 obtain⟨t,g0,u,v,y⟩:=s;refine U7 (codeAny_of_tree ?_);show wpAny _ _ (callAny (.ref C) _) _ _ _
 repeat' (first|assumption | (with_reducible refine Vy a ?_)|wp_step)
 refine⟨rfl,codeAny_call_builtin_at (VQ _ (by decide +kernel)) entry_typeCall (wpAny_check_type_call_sub a ?_)⟩
 repeat (first | (with_reducible refine wpAny_madeBy_exc a ?_) | (with_reducible refine VI a ?_) | (with_reducible refine Vy a ?_)|wp_step)
 refine codeAny_call_builtin_code (VQ _ V.quiet) (wpAny_check_new_subU V (by decide) T a (codeAny_exc_new_subU V (by decide) V T a ?_ hl));show wpAny _ _ _ _ _ _;unfold isInstance
 repeat (first | (with_reducible refine wpAny_madeBy_exc dq ?_) | (with_reducible refine VI dq ?_) | (with_reducible refine Vy dq ?_)|wp_step)
 refine VI f ?_;rw[d];refine Ar (UA (special_fn (s:=⟨jL t C c,g0,u,v,y⟩) p (od:=none) ⟨dq,rfl,rfl,trivial⟩ e.ini e.fn (Up h (λr g ⟨B,q⟩=>?_) λ_ _ z=>z)));subst B;exact RB q
end
noncomputable abbrev tF(h:Heap)(x:Addr):Heap:=(h.push {cls:=.type "dict",data:=.dict #[]}).update x λo=>{cls:=o.cls,dict:=some h.objs.size,data:=o.data,slots:=o.slots}
section
theorem BJ{h:Heap}(q:h.get? x=some o)(a:o.data=.fields f):(tF h x).get? x=some {o with dict:=some h.objs.size}:=by have e:(h.push {cls:=.type "dict",data:=.dict #[]}).get? x=some o:=LD _ q;refine Wb _ e ?_;obtain⟨c,d,g,i⟩:=o;subst a;rfl
theorem tH{h:Heap}(a:b≠x)(q:h.get? b=some o):(tF h x).get? b=some o:=by rw[VJ _ _ _ _ a];exact LD _ q
theorem vK{h:Heap}(q:h.get? x=some o):(tF h x).Ns1 h.objs.size λ_=>none:=by
 have lt:h.objs.size≠x:=Ut (TV (TJ q))
 have e:(tF h x).get? h.objs.size=some {cls:=.type "dict",data:=.dict #[]}:=by rw[VJ _ _ _ _ lt];exact UL rfl rfl
 exact Heap.Ns1.of_empty ⟨_,#[],_,e,rfl,λen a=>absurd a (by simp),λ_=>rfl⟩
end
noncomputable def iC:List Value->Bool
 | .ref _::r=>iC r
 |l=>l==[.type "ValueError",.type "Exception",.type "BaseException",.type "object"]
theorem jS(self:Value):∀{l:List Value},iC l=true->refuseLoop self "__setattr__" l=pure ()
 |[],e=>by simp[iC]at e
 |v::r,e=>by
  cases v with
  |ref c=>rw[refuseLoop_ref];exact jS self (l:=r) e
  |type n =>have a:=U0.mp (show(Value.type n::r==[.type "ValueError",.type "Exception",.type "BaseException",.type "object"])=true from e);rw[a];exact F.store_ValueError.passes self
  |_=>exact absurd (U0.mp (show(_==([.type "ValueError",.type "Exception",.type "BaseException",.type "object"]:List Value))=true from e)) (by simp)
structure BR(K:Frag)(C:Addr)(name:Str):Prop where
 sa:findIn K (.ref C) "__setattr__"=some (some (.builtin "object.__setattr__"))
 ob:mroIn K C (.type "object")=some true
 over:(clsIn K C).any (λcd=>iC cd.mro)=true
 no:findIn K (.ref C) name=some none
 hd:(clsIn K C).any (·.hasDict)=true
section
variable{K:Frag}
theorem pC{s:Shared}(X:K.In s.heap)(ty:Looks M s.heap (typeOf (.ref x)) (.ref C))(st:BR K C name):Looks M s.heap (refuseIfOverridden (.ref x) "__setattr__") ():=by obtain⟨cd,d,a⟩:=any_some st.over;have c:Looks M s.heap (mroOf (.ref C)) cd.mro:=(looks_clsIn X d).andThen .now;exact ty.andThen (c.andThen (Looks.of_pure (jS (.ref x) a)))
theorem sX{s:Shared}(X:K.In s.heap)(st:BR K C name)(c:s.heap.get? x=some d)(l:d.cls=.ref C)(m:d.dict=none)(a:d.data=.fields N)
  (h:∀e tk,(∀b o,b≠x->s.heap.get? b=some o->e.get? b=some o)->e.get? x=some {d with dict:=some s.heap.objs.size}->e.Ns1 s.heap.objs.size (λy=>if y=name then some v else none)->Q () {s with heap:=e,toks:=tk}) :
  wpAny (model prog w) A (setAttr (.ref x) name v) Q E s:=by
 have inst:InstAt s.heap x d C none:=⟨c,l,by unfold notCls;rw[a],by rw[m];trivial⟩
 have ty:Looks (model prog w) s.heap (typeOf (.ref x)) (.ref C):=inst.type;have ok:Looks (model prog w) s.heap (isInstance (.ref x) (.type "object")) true:=ty.andThen (looks_mroIn X st.ob);have f:=F.store_object;refine set_plain X inst st.sa (VE f.slot.plain f.entry ?_);refine @check_slot (model prog w) _ _ {s with toks:=s.toks+1} "object.__setattr__" "object" "__setattr__" (.ref x) [.str name s.toks,v] [] _ f.kind f.split ok (f.args _ _ _) ?_;rw[osa_eq];refine Ar ((pC (s:={s with toks:=s.toks+1}) X ty st).here ?_);refine Ar (Looks.here (s:={s with toks:=s.toks+1}) ty ?_);refine Ar (Looks.here (s:={s with toks:=s.toks+1}) (WR X st.no) ?_);refine Ar (RB ?_);obtain⟨cd,n,has⟩:=any_some st.hd;obtain⟨oc,O,B,G⟩:=d;dsimp only at l m a;subst l m a;obtain⟨g,g0,p,i,r⟩:=s;show wpAny _ _ (storeInOwnDict (.ref x) (.ref C) (.str name i) name v false) _ _ ⟨g,g0,p,i+1,r⟩;have H:K.In g:=X;refine Ar (RB (Ar ?_));show wpAny _ _ (instanceDict x true) _ _ _;refine Ar (wpAny_loadPart c (Ar (Looks.here (s:=⟨g,g0,p,i+1,r⟩) (looks_clsIn H n) ?_)));rw[has];dsimp only;rw[TQ (by simp)];refine Ar (wpAny_alloc' (Ar (wpAny_update' (LD _ c) (RB ?_))));show wpAny _ _ (storeInDict g.objs.size (.str name i) name v) _ _ ⟨tF g x,g0,p,i+1,r⟩;unfold storeInDict newKeyGuard;refine Ar (RB (Ar (wpAny_nsSet1 (vK c) λe j same=>?_)));obtain⟨I,J,T,t,u,few⟩:=j.count (Within.cons name v Within.nil);have z:J.size<=1:=few;refine Ar (wpAny_lookBehind t (by rw[u];exact pastItsLine_dict (by rw[Ul];lia)) (RB (h e _ (λb ob M q=>?_) ?_ j)))
 ·exact(same.2 b (TV (TJ q))).trans (tH M q)
 ·exact(same.2 x (TV (TJ c))).trans (BJ c rfl)
end
noncomputable def ka(e C:Addr)(d:Value):HO:=.ext λh=>∃a c,h.get? e=some a/\(a.cls=.ref C/\c[0]?=some d)/\a.data=.fields c/\c[1]?=some .none/\a.dict=none
section
end
theorem yt{A:Around}{K:Frag}(n:IniK K C H)(p:A.handled=none)
  (h:wpAny M A x (λr d=>∃e a c,r=.ref e/\d.heap.get? e=some a/\a.cls=.ref C/\a.data=.fields c/\c[1]?=some .none/\K.In d.heap/\E (.ref e) d) E s):wpAny M A (raiseStmt env (some x) none) Q E s:=by
 refine Ar (WY h λr t ⟨e,a,c,u,v,f,g,i,w,q⟩=>?_);subst u;obtain⟨y,N,I,J,bs,z,O,sub,U,B,Y,k0,k1,k2,k3,k5,mN,m,_,_,T⟩:=ui w n.at_
 have j:(Value.ref C::y).contains (.type "BaseException")=true:=by rw[List.contains_cons,T.hasType (X:="BaseException") (b:=true) (by decide)];rfl
 obtain⟨oc,od,l,G⟩:=a;obtain rfl:oc=.ref C:=f;obtain rfl:l=.fields c:=g;obtain⟨h1,g1,d1,t1,o1⟩:=t
 repeat (first | (with_reducible refine Vy v ?_) | (with_reducible refine Vy m ?_) | (with_reducible refine VI m ?_;rw[j])|rw[i]|wp_step)
 exact Wo p q
end L2
namespace L2
open PySem PySem.Spec PySem.Calls PyProof.Rows
noncomputable abbrev nt(h:Heap)(it t:Addr)(i:Nat):Prop:=h.get? it=some {cls:=.type "tuple_iterator",dict:=none,data:=.fields #[.ref t,rawInt i],slots:=#[]}
section
theorem vB{s:Shared}(d:nt s.heap it t i)(g:s.heap.IsTuple t a)(j:a[i]?=some x)
  (q:∀c,nt c it t (i+1)->Heap.SameBut it s.heap c->Q x {s with heap:=c}):wpAny (model prog w) A (Builtin.SmallTypes.nextOf (.ref it)) Q E s:=by
 have ty:s.TypeIs (.ref it) "tuple_iterator":=⟨_,d,rfl⟩
 obtain⟨⟨c2,d2,f,u⟩,g,l,n,m⟩:=g;obtain rfl:c2=.type "tuple":=l;obtain rfl:f=.seq a n:=m;unfold Builtin.SmallTypes.nextOf;refine Ar (Uy (name:=Str.ofString "__next__") ty Vm (UQ Vm ty F.entry_tuple_iterator_next ?_ (F.args_tuple_iterator_next_1 _)));obtain⟨v,g0,y,z,B⟩:=s;unfold nt rawInt at d
 wp_walk
 rw[WM,j];refine Ar (U5 d (by simp) λc p r=>RB ⟨x,rfl,RB (q c ?_ r)⟩);show c.get? it=some _;have e:((i+1:Nat):Int)=(i:Int)+1:=by lia
 rw[e];exact p
theorem vA{A:Around}{s:Shared}(j:A.handled=none)(d:nt s.heap it t i)(g:s.heap.IsTuple t a)(l:a[i]?=none)
  (q:∀c e,Heap.ExtBut it s.heap c->(∃o,c.get? e=some o/\o.cls=.type "StopIteration")->E (.ref e) {s with heap:=c}):wpAny (model prog w) A (Builtin.SmallTypes.nextOf (.ref it)) Q E s:=by
 have ty:s.TypeIs (.ref it) "tuple_iterator":=⟨_,d,rfl⟩
 obtain⟨⟨c2,d2,f,u⟩,g,m,n,p⟩:=g;obtain rfl:c2=.type "tuple":=m;obtain rfl:f=.seq a n:=p;unfold Builtin.SmallTypes.nextOf;refine Ar (Uy (name:=Str.ofString "__next__") ty Vm (UQ Vm ty F.entry_tuple_iterator_next ?_ (F.args_tuple_iterator_next_1 _)));obtain⟨v,g0,y,z,B⟩:=s;unfold nt rawInt at d
 wp_walk
 rw[WM,l];refine Ar (Wf (Ar (U5 d (by simp) λc G r=>?_)));unfold Builtin.SmallTypes.stopIteration
 wp_walk
 exact Wo j (q _ _ ((r.extBut.push _).push _) ⟨_,TX _ rfl,rfl⟩)
end
theorem Inv.turnedL{X:Cx}{a:List (Addr×Obj)}{i:St}{H:Hp}{s:Shared}{h':Heap}{t':Nat}{its:List Addr}(I:Inv X a i H s)(k:∀b o,b∉its->s.heap.get? b=some o->h'.get? b=some o)
  (ok:∀b∈its,H b=none/\b≠X.env.locals/\(b∈X.ex\/X.s₀.heap.objs.size<=b)/\(∀x c,X.env.cells.lookup x=some c->c≠b)/\∀p∈X.pn++a,p.1≠b):Inv X a i H {s with heap:=h',toks:=t'}:=by
 have f:∀b u,H b=some u->b∉its:=λb u e z=>by rw[(ok b z).1]at e;cases e
 refine I.step (g':=s.gens) (d':=s.drawn) (ch:=its) (λb g=>⟨(ok b g).2.2.1,(ok b g).2.1,(ok b g).2.2.2⟩) (λb o _ _ d e _=>k b o d e) (λb o _ _ d e _=>⟨o.slots,k b o d e⟩) (λ_ _ _ _ n=>n)
  (λb o d e=>⟨o,k b o d e⟩) (λ_ _ e=>e) (λ_ _ _ e=>e) (λb y e=>⟨#[],by rw[WG];exact e⟩) (λm j=>?_) (λb u e=>?_) I.bare
 ·obtain⟨o,l,t,w,r⟩:=j;exact⟨o,l,t,k _ o (λz=>(ok _ z).2.1 rfl) w,r⟩
 ·refine(I.hok b u e).stay (λc v d q=>k c v ?_ q) (λ_ q=>q) λ_ _ q=>q;rcases d with z|z
  ·rw[z];exact f b u e
  ·exact f c _ z
noncomputable def Xx:Bool->Heap->Addr->Addr->Nat->Prop
 |true,h,i,t,k=>h.IsListIter i t k
 |false,h,i,t,k=>nt h i t k
noncomputable def XG:Bool->Heap->Addr->Array Value->Prop
 |true,h,t,a=>h.IsList t a
 |false,h,t,a=>h.IsTuple t a
noncomputable def SqK:Bool->W.Frag->Hp->Addr->List V->Prop
 |true,K,H,a,c=>Xk K H a c
 |false,K,H,a,c=>Xz K H a c
noncomputable def Cf:Bool->Addr->Obj
 |true,t=>{cls:=.type "list_iterator",data:=.fields #[.ref t,.int 0 0]}
 |false,t=>{cls:=.type "tuple_iterator",data:=.fields #[.ref t,.int 0 0]}
section
theorem Xx.at{a:Heap}(q:Xx b h i t k)(e:∀o,h.get? i=some o->a.get? i=some o):Xx b a i t k:=by
 cases b with
 |false=>exact e _ q
 |true=>exact Heap.IsListIter.at q e
theorem Xx.ob(q:Xx b h i t k):∃o,h.get? i=some o/\∀v,o.data≠.cell v:=by
 cases b with
 |false=>exact⟨_,q,λv e=>by cases e⟩
 |true=>obtain⟨o,e,c,d⟩:=q;exact⟨o,e,λv z=>by rw[d]at z;cases z⟩
theorem Xx.lt(q:Xx b h i t k):i<h.objs.size:=let⟨_,e,_⟩:=q.ob;TJ e
theorem Xx.mk{h:Heap}(e:h.get? i=some (Cf b t)):Xx b h i t 0:=by
 cases b with
 |false=>exact e
 |true=>exact⟨_,e,rfl,rfl⟩
theorem XG.but(l:XG b h t a)(x:Heap.ExtBut z h c)(n:t≠z):XG b c t a:=by
 cases b with
 |false=>exact Heap.IsTuple.extBut l x n
 |true=>exact Heap.IsList.extBut l x n
theorem XG.push(l:XG b h t a)(o:Obj):XG b (h.push o) t a:=by
 cases b with
 |false=>exact Heap.IsTuple.push l o
 |true=>exact Heap.IsList.push l o
theorem XG.lt(l:XG b h t a):t<h.objs.size:=by
 cases b with
 |false=>obtain⟨o,e,_⟩:=l;exact TJ e
 |true=>obtain⟨o,e,_⟩:=l;exact TJ e
theorem Em{s:Shared}(c:Xx b s.heap i t k)(d:XG b s.heap t f)(e:f[k]?=some x)(q:∀a,Xx b a i t (k+1)->Heap.SameBut i s.heap a->Q x {s with heap:=a}):wpAny (model prog w) A (Builtin.SmallTypes.nextOf (.ref i)) Q E s:=by
 cases b with
 |false=>exact vB c d e q
 |true=>exact wpAny_nextOf_list_item c d e q
theorem Jo{A:Around}{s:Shared}(c:A.handled=none)(d:Xx b s.heap i t k)(f:XG b s.heap t j)(g:j[k]?=none)(q:∀a e,Heap.ExtBut i s.heap a->(∃o,a.get? e=some o/\o.cls=.type "StopIteration")->E (.ref e) {s with heap:=a}):wpAny (model prog w) A (Builtin.SmallTypes.nextOf (.ref i)) Q E s:=by
 cases b with
 |false=>exact vA c d f g q
 |true=>exact wpAny_nextOf_list_end c d f g q
theorem wF{s:Shared}(l:XG b s.heap t a)(q:Q (.ref s.heap.objs.size) {s with heap:=s.heap.push (Cf b t)}):wpAny (model prog w) A (pyIter (.ref t)) Q E s:=by
 cases b with
 |false=>exact wpAny_pyIter_tuple l q
 |true=>exact Vx l q
theorem Inv.seqK{b:Bool}{t:Addr}{s:Shared}{X:Cx}{a:List (Addr×Obj)}{g:St}{H:Hp}{f:List V}(I:Inv X a g H s)(e:SqK b X.K H t f):∃c:List Value,Vals f c/\XG b s.heap t c.toArray:=by
 cases b with
 |false=>obtain⟨d,r,p,_⟩:=I.tuple e;exact⟨d,r,p⟩
 |true=>obtain⟨d,r,p,_⟩:=I.list e;exact⟨d,r,p.isList⟩
theorem yN{A:Around}{s:Shared}{TI TO t1:Addr}{Q:Value->Shared->Prop}(G:IsZip s.heap z TI TO .none)(hI:IsPair s.heap TI (.ref d) (.ref c))(hO:IsPair s.heap TO a b)(h1:Xx I s.heap d t1 k)(h2:Xx p s.heap c i k)
  (l1:XG I s.heap t1 xs) (l2:XG p s.heap i Y) (hx:xs[k]?=some x) (hy:Y[k]?=some y) (D:ZipApart z TI TO d c t1 i)
  (q:∀r,IsZip r z TI TO (rawInt s.heap.objs.size)->IsPair r TO x y->Xx I r d t1 (k+1)->Xx p r c i (k+1)->r.get? s.heap.objs.size=some {cls:=.type "tuple",data:=.seq #[x,y]} ->
   (∀b o,b≠z->b≠TO->b≠d->b≠c->s.heap.get? b=some o->r.get? b=some o)->Q (.ref s.heap.objs.size) {s with heap:=r}):wpAny (model prog w) A (Builtin.«zip.__next__» ⟨[.ref z],[]⟩) (λfin s'=>∃v,fin=.done (.ret v)/\Q v s') E s:=by
 show wpAny _ _ (field (.ref z) 2 >>= _) _ _ _;refine Ar (U6 G rfl rfl ?_);show wpAny _ _ (field (.ref z) 3 >>= _) _ _ _;refine Ar (U6 G rfl rfl ?_);refine Ar (VW hI rfl ?_);refine Ar (Ar (U6 G rfl rfl (RB ?_)));refine Ar (Wf ?_);refine Ar (U6 G rfl rfl ?_);refine Ar (U5 G (by simp) λj za sa=>?_)
 replace za:IsZip j z TI TO .ellipsis:=za
 rw[show(#[Value.ref d,Value.ref c]:Array Value).toList.zipIdx=[(.ref d,0),(.ref c,1)] from rfl,Wj];have h1a:Xx I j d t1 k:=h1.at λo e=>(sa.2 d D.i1z).trans e;have h2a:Xx p j c i k:=h2.at λo e=>(sa.2 c D.i2z).trans e;have l1a:XG I j t1 xs:=l1.but sa.extBut D.l1z;have l2a:XG p j i Y:=l2.but sa.extBut D.l2z;have hOa:IsPair j TO a b:=(sa.2 TO D.TOz).trans hO;refine Ar (Ar (Ar (wpAny_onRaise (Ar (Em (s:={s with heap:=j}) h1a l1a hx λJ h1b l=>RB ?_)))))
 replace l:Heap.SameBut d j J:=l
 have M:IsPair J TO a b:=(l.2 TO D.TOi1).trans hOa;refine Ar (VW (s:={s with heap:=J}) M rfl ?_);refine Ar (wpAny_updateSeq_pair (s:={s with heap:=J}) M λH t m=>?_)
 replace m:Heap.SameBut TO J H:=m
 replace t:IsPair H TO x b:=t
 refine Ar (wpAny_letGo (RB ?_));have h2c:Xx p H c i k:=h2a.at λo e=>(m.2 c (Ut D.TOi2)).trans ((l.2 c (Ut D.i12)).trans e);have l2c:XG p H i Y:=(l2a.but l.extBut D.l2i1).but m.extBut D.l2TO;show wpAny _ _ (forIn [(Value.ref c,1)] _ _) _ _ _;rw[Wj];refine Ar (Ar (wpAny_onRaise (Ar (Em (s:={s with heap:=H}) h2c l2c hy λN h2d u=>RB ?_))))
 replace u:Heap.SameBut c H N:=u
 have O:IsPair N TO x b:=(u.2 TO D.TOi2).trans t;refine Ar (VW (s:={s with heap:=N}) O rfl ?_);refine Ar (wpAny_updateSeq_pair (s:={s with heap:=N}) O λf g B=>?_)
 replace B:Heap.SameBut TO N f:=B
 replace g:IsPair f TO x y:=g
 refine Ar (wpAny_letGo (RB ?_));show wpAny _ _ (forIn [] _ _) _ _ _;rw[List.forIn_nil];refine RB ?_;show wpAny _ _ (seqItems? (.ref TO) >>= _) _ _ _;refine Ar (VW (s:={s with heap:=f}) g rfl ?_);refine Ar (wpAny_newTuple ?_);have T:f.objs.size=s.heap.objs.size:=by rw[B.1,u.1,m.1,l.1,sa.1]
 have ze:IsZip f z TI TO .ellipsis:=(B.2 z (Ut D.TOz)).trans ((u.2 z (Ut D.i2z)).trans ((m.2 z (Ut D.TOz)).trans ((l.2 z (Ut D.i1z)).trans za)));have zf:IsZip (f.push {cls:=.type "tuple",data:=.seq #[x,y]}) z TI TO .ellipsis:=LD _ ze;have tf:(f.push {cls:=.type "tuple",data:=.seq #[x,y]}).get? s.heap.objs.size=some {cls:=.type "tuple",data:=.seq #[x,y]}:=UL T.symm rfl;have of:IsPair (f.push {cls:=.type "tuple",data:=.seq #[x,y]}) TO x y:=LD _ g;have f1:Xx I (f.push {cls:=.type "tuple",data:=.seq #[x,y]}) d t1 (k+1):=h1b.at λo e=>LD _ ((B.2 d (Ut D.TOi1)).trans ((u.2 d D.i12).trans ((m.2 d (Ut D.TOi1)).trans e)));have f2:Xx p (f.push {cls:=.type "tuple",data:=.seq #[x,y]}) c i (k+1):=h2d.at λo e=>LD _ ((B.2 c (Ut D.TOi2)).trans e)
 have kf:∀b o,b≠z->b≠TO->b≠d->b≠c->s.heap.get? b=some o->(f.push {cls:=.type "tuple",data:=.seq #[x,y]}).get? b=some o:=λb o n1 n2 n3 n4 e =>
  LD _ ((B.2 b n2).trans ((u.2 b n4).trans ((m.2 b n2).trans ((l.2 b n3).trans ((sa.2 b n1).trans e)))))
 generalize f.push {cls:=.type "tuple",data:=.seq #[x,y]}=hf at zf tf of f1 f2 kf;have lz:z<s.heap.objs.size:=TJ G;show wpAny _ _ (Builtin.SmallTypes.ownedTupleHandOut (.ref z) (.ref f.objs.size) >>= _) _ _ _;rw[T];refine Ar (Ar (U5 (s:={s with heap:=hf}) zf (by simp) λhg zg sg=>U5 (s:={s with heap:=hg}) zg (by simp) λhh zh sh=>RB ⟨_,rfl,?_⟩))
 replace sg:Heap.SameBut z hf hg:=sg
 replace sh:Heap.SameBut z hg hh:=sh
 have U:∀b,b≠z->hh.get? b=hf.get? b:=λb n=>(sh.2 b n).trans (sg.2 b n);refine q hh zh ?_ ?_ ?_ ?_ λb o n1 n2 n3 n4 e=>(U b n1).trans (kf b o n1 n2 n3 n4 e)
 ·exact(U TO D.TOz).trans of
 ·exact f1.at λo e=>(U d D.i1z).trans e
 ·exact f2.at λo e=>(U c D.i2z).trans e
 ·exact(U _ (UB lz)).trans tf
theorem yM{A:Around}{s:Shared}{TI TO t1:Addr}(J:A.handled=none)(f:IsZip s.heap z TI TO .none)(M:IsPair s.heap TI (.ref c) (.ref l))(hO:IsPair s.heap TO a b)(N:Xx m s.heap c t1 k)
  (l1:XG m s.heap t1 G) (O:G[k]?=none) (D:ZipApart z TI TO c l t1 t2)
  (q:∀n e,(∀b o,b≠z->b≠c->s.heap.get? b=some o->n.get? b=some o)->(∃o,n.get? e=some o/\o.cls=.type "StopIteration")->E (.ref e) {s with heap:=n}):wpAny (model prog w) A (Builtin.«zip.__next__» ⟨[.ref z],[]⟩) Q E s:=by
 show wpAny _ _ (field (.ref z) 2 >>= _) _ _ _;refine Ar (U6 f rfl rfl ?_);show wpAny _ _ (field (.ref z) 3 >>= _) _ _ _;refine Ar (U6 f rfl rfl ?_);refine Ar (VW M rfl ?_);refine Ar (Ar (U6 f rfl rfl (RB ?_)));refine Ar (Wf ?_);refine Ar (U6 f rfl rfl ?_);refine Ar (U5 f (by simp) λg p sa=>?_)
 replace p:IsZip g z TI TO .ellipsis:=p
 rw[show(#[Value.ref c,Value.ref l]:Array Value).toList.zipIdx=[(.ref c,0),(.ref l,1)] from rfl,Wj];have r:Xx m g c t1 k:=N.at λo e=>(sa.2 c D.i1z).trans e;have t:XG m g t1 G:=l1.but sa.extBut D.l1z;refine Ar (Ar (Ar (wpAny_onRaise (Ar (Jo (s:={s with heap:=g}) J r t O λu e j T=>?_)))))
 replace j:Heap.ExtBut c g u:=j
 have H:IsZip u z TI TO .ellipsis:=j z _ (Ut D.i1z) p;obtain⟨U,d,i⟩:=T;have v:e≠z:=λy=>by rw[y,H]at d;cases d;simp at i
 refine U5 (s:={s with heap:=u}) H (by simp) λY zc I=>q Y e (λb o n1 n2 B=>?_) ⟨U,(I.2 e v).trans d,i⟩;exact(I.2 b n1).trans (j b o n2 ((sa.2 b n1).trans B))
end
theorem BN(c d:Bool)(t1 f:Addr)(j l:Array Value) :
  Meets (Builtin.«zip.__new__» ⟨[.type "zip",.ref t1,.ref f],[]⟩) (λ_ R s=>XG c s.heap t1 j/\XG d s.heap f l /\
   ∀a,IsZip a (s.heap.objs.size+4) (s.heap.objs.size+2) (s.heap.objs.size+3) .none->IsPair a (s.heap.objs.size+2) (.ref s.heap.objs.size) (.ref (s.heap.objs.size+1))->IsPair a (s.heap.objs.size+3) .none .none ->
    Xx c a s.heap.objs.size t1 0->Xx d a (s.heap.objs.size+1) f 0->(∀b o,s.heap.get? b=some o->a.get? b=some o)->R (.ok (.ret (.ref (s.heap.objs.size+4)))) {s with heap:=a}) :=
 .of_wp λ_ _ _ _ s q=>by
  obtain⟨g,g0,m,n,p⟩:=s;obtain⟨r,t,q⟩:=q;have i:=sub_zip;have e1:XG c (Shared.heap ⟨g,g0,m,n,p⟩) t1 j:=r;have e2:XG d (Shared.heap ⟨g.push (Cf c t1),g0,m,n,p⟩) f l:=XG.push t _
  wp_walk using wF e1,wF e2
  refine⟨_,rfl,?_⟩;have n1:(g.push (Cf c t1)).objs.size=g.objs.size+1:=Ui _ _;simp only[Ui];refine q _ ?_ ?_ ?_ ?_ ?_ λb o e=>?_
  ·exact UL (by simp[Ui]) rfl
  ·exact LD _ (LD _ (UL (by simp[Ui]) rfl))
  ·exact LD _ (UL (by simp[Ui]) rfl)
  ·exact .mk (LD _ (LD _ (LD _ (LD _ (UL (by simp[Ui]) (by cases c<;>rfl))))))
  ·exact .mk (LD _ (LD _ (LD _ (UL (by simp[Ui]) (by cases d<;>rfl)))))
  ·exact LD _ (LD _ (LD _ (LD _ (LD _ e))))
theorem xj{s:Shared}(g:XG d s.heap t1 i)(j:XG e s.heap c l)
  (q:∀a,IsZip a (s.heap.objs.size+4) (s.heap.objs.size+2) (s.heap.objs.size+3) .none->IsPair a (s.heap.objs.size+2) (.ref s.heap.objs.size) (.ref (s.heap.objs.size+1))->IsPair a (s.heap.objs.size+3) .none .none ->
   Xx d a s.heap.objs.size t1 0->Xx e a (s.heap.objs.size+1) c 0->(∀b o,s.heap.get? b=some o->a.get? b=some o)->Q (.ref (s.heap.objs.size+4)) {s with heap:=a}):wpAny (model prog w) A (call (.type "zip") [.ref t1,.ref c]) Q E s :=
 callType_new F.called_zip (by decide) (F.typeCall_zip_2 _ _) (F.newCall_zip_2 _ _) (λo=>F.args_object_init_3 o _ _) F.entry_zip_new (BN d e t1 c i l) ⟨g,j,λa f m n z4 p r=>⟨⟨_,f,rfl⟩,q a f m n z4 p r⟩⟩
noncomputable def Ja(e f:Bool)(K:W.Frag)(a b:Addr)(c d:List V):It:=⟨λi H=>i<c.length/\i<d.length/\SqK e K H a c/\SqK f K H b d,λi H x g=>∃p u v,H p=none/\x=.ref p/\c[i]?=some u/\d[i]?=some v/\g=upd H p (.tup [u,v]),λi H=>i=c.length/\SqK e K H a c⟩
theorem BC{K:W.Frag}{c1}(a b z TI TO l m:Addr)(t B:List V)(D:ZipApart z TI TO l m a b):gR P w K (.Tuple elts c1 ps) (Ja b1 b2 K a b t B) [z,TI,TO,l,m] z
  (λi h=>∃c d,IsZip h z TI TO .none/\IsPair h TI (.ref l) (.ref m)/\IsPair h TO c d/\Xx b1 h l a i/\Xx b2 h m b i) where
 mem:=by simp
 obj:=λi h ⟨c,d,g,n,p,r,G⟩ b f=>by
  simp only[T3,Uu,Vu]at f;rcases f with rfl|rfl|rfl|rfl|rfl
  ·exact⟨_,g,λv e=>by cases e⟩
  ·exact⟨_,n,λv e=>by cases e⟩
  ·exact⟨_,p,λv e=>by cases e⟩
  ·exact r.ob
  ·exact G.ob
 keep:=λi h J ⟨c,d,g,n,p,r,G⟩ k=>⟨c,d,k z (by simp) _ g,k TI (by simp) _ n,k TO (by simp) _ p,r.at λo e=>k l (by simp) o e,G.at λo e=>k m (by simp) o e⟩
 item:=by
  intro X hP hw hK hc i j s σ H E I O st hg;subst hP hw hK;obtain⟨c,d,g,n,p,r,G⟩:=st;obtain⟨hi,hj,ha,f⟩:=hg;obtain⟨us,ru,pu⟩:=I.seqK ha;obtain⟨vs,rv,pv⟩:=I.seqK f;have hx:t[i]?=some t[i]:=RL hi;have hy:B[i]?=some B[i]:=RL hj;obtain⟨u,hu,r1⟩:=ru.get hx;obtain⟨v,hv,r2⟩:=rv.get hy;have ty:s.TypeIs (.ref z) "zip":=⟨_,g,rfl⟩
  unfold pyNext;refine Ar (Vv (Uy (name:=Str.ofString "__next__") ty Wl (UQ Wl ty F.entry_zip_next ?_ (F.args_zip_next_1 _))));refine yN (x:=u) (y:=v) g n p r G pu pv (by simpa using hu) (by simpa using hv) D λJ w1 w2 w3 w4 w5 w6=>RB ⟨_,rfl,?_⟩;refine wpAny_letOwnedTupleGo_zip (s:={s with heap:=J}) w1 λU e2 same=>?_
  replace same:Heap.SameBut z J U:=same
  have lz:z<s.heap.objs.size:=TJ g;have lTI:TI<s.heap.objs.size:=TJ n;have lTO:TO<s.heap.objs.size:=TJ p;have l1:l<s.heap.objs.size:=r.lt;have l2:m<s.heap.objs.size:=G.lt
  have low:∀b∈[z,TI,TO,l,m],b<s.heap.objs.size:=λb f=>by simp only[T3,Uu,Vu]at f;rcases f with rfl|rfl|rfl|rfl|rfl<;>assumption
  have M:U.get? s.heap.objs.size=some {cls:=.type "tuple",data:=.seq #[u,v]}:=(same.2 _ (UB lz)).trans w5
  have I1:Inv X j σ (upd H s.heap.objs.size (.tup [t[i],B[i]])) {s with heap:=s.heap.push {cls:=.type "tuple",data:=.seq #[u,v]},toks:=s.toks} :=
   I.laid (o:=.tup [t[i],B[i]]) (λb ob q=>LD _ q) (TN _) ⟨by rw[Ul];simp,[u,v],.cons r1 (.cons r2 .nil),Wz _ _⟩
  have frees:∀b,b<s.heap.objs.size->upd H s.heap.objs.size (.tup [t[i],B[i]]) b=H b:=λb f=>ag (TV f)
  have I2:Inv X j σ (upd H s.heap.objs.size (.tup [t[i],B[i]])) {s with heap:=U,toks:=s.toks}:=by
   refine Inv.turnedL (s:={s with heap:=s.heap.push {cls:=.type "tuple",data:=.seq #[u,v]},toks:=s.toks}) (h':=U) (its:=[z,TI,TO,l,m]) (t':=s.toks) I1 (λb o f q=>?_) (λb f=>?_)
   ·simp only[T3,Uu,Vu,not_or]at f;obtain⟨n1,n2,n3,n4,n5⟩:=f;by_cases N:b=s.heap.objs.size
    ·subst N;have Y:(s.heap.push {cls:=.type "tuple",data:=.seq #[u,v]}).get? s.heap.objs.size=some o:=q;rw[UL rfl rfl]at Y;cases Y;exact M
    ·have Y:s.heap.get? b=some o:=(Heap.get?_push_ne _ _ _ N).symm.trans q;exact(same.2 b n1).trans (w6 b o n1 n3 n4 n5 Y)
   ·obtain⟨f0,f1,f2,f3,f4,f5⟩:=O b f;exact⟨by rw[frees b (low b f)];exact f0,f1,f3,f4,f5⟩
  refine⟨.ref s.heap.objs.size,_,I2,rfl,⟨_,_,_,I.hok.fresh (TN _),rfl,hx,hy,rfl⟩,⟨u,v,e2,?_,?_,?_,?_⟩,λb f=>?_⟩
  ·exact(same.2 TI D.TIz).trans (w6 TI _ D.TIz D.TITO D.TIi1 D.TIi2 n)
  ·exact(same.2 TO D.TOz).trans w2
  ·exact w3.at λo e=>(same.2 l D.i1z).trans e
  ·exact w4.at λo e=>(same.2 m D.i2z).trans e
  ·rw[frees b (low b f)];exact(O b f).1
 done:=by
  intro X hP hw hK hc i j s σ H E I O st hg;subst hP hw hK;obtain⟨c,d,g,n,p,r,G⟩:=st;obtain⟨hi,ha⟩:=hg;obtain⟨us,ru,pu⟩:=I.seqK ha;have lr:=ru.length;have ty:s.TypeIs (.ref z) "zip":=⟨_,g,rfl⟩
  unfold pyNext;refine Ar (Vv (Uy (name:=Str.ofString "__next__") ty Wl (UQ Wl ty F.entry_zip_next ?_ (F.args_zip_next_1 _))));refine yM (I.ok.hd hc) g n p r pu (by simp;lia) D λJ e kk ⟨o,ho,hco⟩=>?_;refine Ar (wpAny_isInstance (T:="StopIteration") (b:=true) ⟨o,ho,hco⟩ isSubtype_stop (RB ⟨rfl,?_⟩));refine Inv.turnedL (s:=s) (h':=J) (its:=[z,l]) (t':=s.toks) I (λb o f q=>kk b o (λy=>f (by simp[y])) (λy=>f (by simp[y])) q) (λb f=>?_)
  obtain⟨f0,f1,f2,f3,f4,f5⟩:=O b (by
   simp only[T3,Uu,Vu]at f;rcases f with rfl|rfl<;>simp)
  exact⟨f0,f1,f3,f4,f5⟩
 self:=λA i s Q E ⟨_,_,g,_⟩ q=>wpAny_pyIter_zip g q
noncomputable def JC(d e:Bool)(K:W.Frag)(i:TA):TI:=λj H R=>i j H λl c=>∃a b f g,l=[.ref a,.ref b]/\SqK d K c a f/\SqK e K c b g/\R (Ja d e K a b f g) c
theorem Dm(B E:Bool){c1}(G:Gl X "zip")(J:X.mg "zip"=none)(M:PA X [a,b] N)(hs:starEach [a,b] X.env=(false,eval a X.env)::starEach [b] X.env:=by rfl)(l:(backTo f (starEach [b] X.env)).any (·.1)=false:=by rfl) :
  PI X (.Tuple t c1 ps) (.Call (.Name "zip" p) [a,b] [] f) (JC B E X.K N):=by
 intro g s O H R I h;refine Call_ (gE I G J E8 (UT (WY (M f g s O H _ I h) λQ c ⟨T,U,i,Y,q1⟩=>?_) hs l));obtain⟨t1,m,xs,ys,ev,n,r,q⟩:=q1;subst ev
 cases Y with
 |cons e1 rt =>
  obtain⟨u2,rfl,e2⟩:=bq rt;cases e1;cases e2;obtain⟨Q,ru,u⟩:=i.seqK n;obtain⟨T,rv,pv⟩:=i.seqK r;have d:t1<c.heap.objs.size:=u.lt;have e:m<c.heap.objs.size:=pv.lt;refine xj u pv λh' v z2 z3 z4 z5 kk=>?_;refine wpAny_pyIter_zip (s:={c with heap:=h'}) v ?_;have ne:∀{x y:Nat},x<y->x≠y:=λh=>TV h;have j:∀{x y:Nat},y<x->x≠y:=λh=>UB h
  have ap:ZipApart (c.heap.objs.size+4) (c.heap.objs.size+2) (c.heap.objs.size+3) c.heap.objs.size (c.heap.objs.size+1) t1 m :=
   ⟨ne (by lia),ne (by lia),ne (by lia),ne (by lia),ne (by lia),j (by lia),j (by lia),j (by lia),j (by lia),ne (by lia),ne (TR d (by lia)),ne (TR d (by lia)),ne d,ne (TR d (by lia)),
    ne (TR e (by lia)),ne (TR e (by lia)),ne e,ne (TR e (by lia))⟩
  refine⟨c.heap.objs.size+4,[c.heap.objs.size+4,c.heap.objs.size+2,c.heap.objs.size+3,c.heap.objs.size,c.heap.objs.size+1],_,_,U,rfl,i.kept (t':=c.toks) kk,BC t1 m _ _ _ _ _ xs ys ap,⟨.none,.none,v,z2,z3,z4,z5⟩,λb w=>?_,q⟩
  have z:c.heap.objs.size<=b:=by
   simp only[T3,Uu,Vu]at w;rcases w with rfl|rfl|rfl|rfl|rfl
   ·exact V8 _ _
   ·exact V8 _ _
   ·exact V8 _ _
   ·exact TN _
   ·exact V8 _ _
  exact i.ZX z (i.hok.fresh z)
section
end
end L2
namespace L2
open PySem
noncomputable def Kept(h c:Heap):Prop:=∀(b:Addr)(o:Obj),h.objs[b]?=some o->∃a,c.objs[b]?=some a/\a.dict=o.dict
theorem Kept.refl:Kept h h:=λ_ o e=>⟨o,e,rfl⟩
theorem Kept.trans(x:Kept a c)(y:Kept c d):Kept a d:=λb o e =>
 let⟨f,e1,d1⟩:=x b o e;let⟨g,e2,d2⟩:=y b f e1;⟨g,e2,d2.trans d1⟩
theorem Kept.push:Kept h (h.push o):=λb u e=>by obtain⟨a,l⟩:=h;refine⟨u,?_,rfl⟩;show(a.push o)[b]?=some u;have e:a[b]?=some u:=e;rw[Array.getElem?_push_lt (VG.mp e).1];exact UI some (VG.mp e).2
theorem Kept.update(d:∀o,(f o).dict=o.dict):Kept h (h.update a f):=λb u e=>by
 obtain⟨c,l⟩:=h;have e:c[b]?=some u:=e;by_cases q:a=b
 ·refine⟨f u,?_,d u⟩;show(c.modify a f)[b]?=some (f u);rw[Array.getElem?_modify,TY q,e];rfl
 ·refine⟨u,?_,rfl⟩;show(c.modify a f)[b]?=some u;rw[Array.getElem?_modify,TQ q,e]
theorem Kept.at(k:Kept h c)(e:h.get? a=some o)(f:c.get? a=some i):i.dict=o.dict:=by
 have r:∀{g:Heap}{u:Obj},g.get? a=some u->g.objs[a]?=some u:=λ{g u} q=>by
  unfold Heap.get? at q;split at q
  ·cases q
  ·exact q
 obtain⟨u,j,d⟩:=k a o (r e);have z:=(r f).symm.trans j;cases z;exact d
noncomputable def W6{α:Type}:Sem α->Prop
 | .rule _ k=>W6 (k ())
 | .at _ k=>W6 (k ())
 | .load _ _ k=>∀x,W6 (k x)
 | .update _ _ f k=>(∀o,(f o).dict=o.dict)/\W6 (k ())
 | .loadIfAlive _ k=>∀x,W6 (k x)
 | .point _ k=>W6 (k ())
 | .alloc _ k=>∀x,W6 (k x)
 | .fresh k=>∀x,W6 (k x)
 | .ask k=>∀x,W6 (k x)
 | .choose _ _ k=>∀x,W6 (k x)
 | .handled _ k=>∀x,W6 (k x)
 | .stack k=>∀x,W6 (k x)
 | .call ..=>False
 | .resume ..=>False
 | .os ..=>False
 | .newGen ..=>False
 | .genState ..=>False
 | .thread ..=>False
 |_=>True
theorem W6.bind{β:Type}{f:α->Sem β}(e:∀a,W6 (f a)):∀{m:Sem α},W6 m->W6 (m >>= f):=by
 intro m d;show W6 (m.bind f)
 induction m with
 |pure a=>exact e a
 |rule _ k c=>exact c () d
 | «at» _ k c=>exact c () d
 |load _ _ k c=>exactλx=>c x (d x)
 |update _ _ g k c=>exact⟨d.1,c () d.2⟩
 |loadIfAlive _ k c=>exactλx=>c x (d x)
 |point _ k c=>exact c () d
 |alloc _ k c=>exactλx=>c x (d x)
 |fresh k c=>exactλx=>c x (d x)
 |ask k c=>exactλx=>c x (d x)
 |choose _ _ k c=>exactλx=>c x (d x)
 |handled _ k c=>exactλx=>c x (d x)
 |stack k c=>exactλx=>c x (d x)
 |call=>exact d.elim
 |resume=>exact d.elim
 |os=>exact d.elim
 |newGen=>exact d.elim
 |genState=>exact d.elim
 |thread=>exact d.elim
 |_=>trivial
theorem D6:∀{t:Sem α}{p:Pos}{s:Shared},W6 t->Kept j s.heap->Sem.wp M Γ t Q E p s ->
  Sem.wp M Γ t (λa l i=>Q a l i/\Kept j i.heap) E p s:=by
 intro t
 induction t with
 |pure a=>exactλ_ k h=>⟨h,k⟩
 |raise e=>exactλ_ _ h=>h
 |unsupported=>exactλ_ _ h=>h
 |finish=>exactλ_ _ h=>h
 |rule _ k d=>exactλc g h=>d () c g h
 | «at» _ k d=>exactλc g h=>d () c g h
 |load _ _ k d=>exactλc g ⟨o,e,h⟩=>⟨o,e,d o (c o) g h⟩
 |update _ _ f k d=>exactλc g ⟨e,h⟩=>⟨e,d () c.2 (g.trans (Kept.update c.1)) h⟩
 |loadIfAlive _ k d=>exactλc g h=>d _ (c _) g h
 |point _ k d=>exactλc g h=>d () c g h
 |register=>exactλ_ _ h=>h
 |alloc _ k d=>exactλc g h=>d _ (c _) (g.trans Kept.push) h
 |fresh k d=>exactλc g h=>d _ (c _) g h
 |ask k d=>exactλc g h=>d _ (c _) g h
 |choose _ _ k d=>exactλc g ⟨n,h⟩=>⟨n,d _ (c _) g h⟩
 |handled _ k d=>exactλc g h=>d _ (c _) g h
 |stack k d=>exactλc g h=>d _ (c _) g h
 |yield=>exactλ_ _ h=>h
 |fork=>exactλ_ _ h=>h
 |await=>exactλ_ _ h=>h
 |_=>exactλc=>c.elim
theorem cD{α:Type}{A:Around}{t:Sem α}{Q:α->Shared->Prop}{E:Value->Shared->Prop}(hs:W6 t)(h:wpAny M A t Q E s):wpAny M A t (λa c=>Q a c/\Kept s.heap c.heap) E s :=
 λΓ p hΓ=>D6 hs Kept.refl (h Γ p hΓ)
theorem dE(a:α):W6 (pure a:Sem α):=trivial
theorem Bq(h:∀o,(f o).dict=o.dict):W6 (update a f):=⟨h,trivial⟩
theorem mi:W6 stack:=λ_=>trivial
theorem mY(v:Value):W6 (fieldsOf v):=by
 unfold fieldsOf;split
 ·refine W6.bind (λo=>?_) (λ_=>trivial);split<;>trivial
 ·trivial
theorem dR(v:Value)(i:Nat):W6 (field v i):=by unfold field;refine W6.bind (λa=>?_) (mY v);split<;>trivial
theorem lJ(f:Array Value->Array Value)(o:Obj):(Obj.mapFields f o).dict=o.dict:=by unfold Obj.mapFields;split<;>rfl
theorem cY(v:Value)(i:Nat)(x:Value):W6 (setField v i x):=by
 unfold setField;split
 ·unfold updateField;refine W6.bind (λo=>?_) (λ_=>trivial);split
  ·split
   ·exact⟨λo=>lJ _ o,trivial⟩
   ·trivial
  ·trivial
 ·trivial
theorem sN(env:Env)(outer:List Env):W6 (behindIsImport env outer):=by
 unfold behindIsImport;split
 ·trivial
 ·split
  ·trivial
  ·exact W6.bind (λ_=>dE _) (dR _ _)
theorem yB(env:Env)(b:Bool)(outer:List Env):W6 (keptBack env b outer):=by
 unfold keptBack;split
 ·split
  ·trivial
  ·have h:W6 underTheClaimsCaller:=W6.bind (λ_=>dE _) mi;exact W6.bind (λc=>dE _) h
 ·trivial
theorem mh:∀l:List Env,W6 (readyFrames l)
 |[]=>trivial
 |env::outer=>by
  unfold readyFrames;split
  ·refine W6.bind (λo=>?_) (λ_=>trivial);split
   ·trivial
   ·refine W6.bind (λi=>W6.bind (λb=>W6.bind (λ_=>mh outer) ?_) (yB _ _ _)) (sN _ _);exact Bq λ_=>rfl
  ·trivial
theorem uY(env:Env):W6 (frameOf env):=by
 unfold frameOf;have h:W6 frameEnvs:=W6.bind (λ_=>dE _) mi;refine W6.bind (λl=>?_) h;refine W6.bind (λo=>?_) ?_
 ·split<;>trivial
 ·unfold frameObject;split
  ·trivial
  ·exact W6.bind (λ_=>dE _) (mh (_::_))
theorem uZ(f:Addr)(b:Bool):W6 (entryPlaceOf f b):=by unfold entryPlaceOf;refine W6.bind (λl=>?_) (λ_=>trivial);split<;>trivial
theorem uX(a b c d e:Value)(l:List Value):W6 (EntryCells.newEntry a b c d e l):=by
 unfold EntryCells.newEntry newFields newObj;have h:∀d:Data,W6 (newObjAsIs (.type "traceback") d):=λd _=>trivial;generalize ([a,b,c,d,e]++if l.isEmpty=true then List.replicate 6 Value.none else l).toArray=f;dsimp only;split
 ·exact W6.bind (λ_=>h _) (m:=unsupported _) trivial
 ·exact h _
theorem fL(e:Value)(f:Option Addr):W6 (setFlight e f):=by
 unfold setFlight;refine W6.bind (λa=>?_) (dR _ _);split
 ·exact cY _ _ _
 ·trivial
theorem oH(e:Value)(env:Env):W6 (noteFrame e env):=by
 unfold noteFrame;split
 ·refine W6.bind (λc=>?_) (dR _ _)
  have a:∀b:Bool,W6 (do setField e 1 (<- EntryCells.newEntry c (<- frameOf env) .none (rawInt ‹Addr›) .none (<- entryPlaceOf ‹Addr› b))):=λb =>
   W6.bind (λfr=>W6.bind (λd=>W6.bind (λen=>cY _ _ _) (uX _ _ _ _ _ _)) (uZ _ _)) (uY _)
  split
  ·refine W6.bind (λfl=>?_) (dR _ _);split
   ·trivial
   ·exact W6.bind (λ_=>a _) (cY _ _ _)
  ·exact a _
 ·trivial
theorem iO(env:Env)(e:Value):W6 (leaving env e):=W6.bind (λ_=>fL _ _) (oH _ _)
end L2
namespace L2
open PySem PySem.Spec PySem.Calls PyProof.Rows PySem.W PySem.Builtin PySem.Builtin.ObjectAttr
noncomputable def DictAt(h:Heap)(a:Addr)(d:Option Addr):Prop:=∃c,h.get? a=some c/\c.dict=d
theorem Kept.dictAt(k:Kept h c)(d:DictAt h a f)(t:Trc c a T cls l):DictAt c a f:=by obtain⟨m,g,i⟩:=d;obtain⟨j,_,_,_,e,_⟩:=t;exact⟨j,e,(k.at g e).trans i⟩
noncomputable def Xb(P:Program)(w:World):CXT:=λouter H s E e c =>
 ∃a T cls g f d,e=.ref a/\c.os=s.os/\AllBare c.gens/\Un (frs outer) [] H d s.heap c.heap/\X4 P w d c.heap /\
  (s.heap.get? a=none/\s.heap.get? T=none/\d a=none/\d T=none)/\Trc c.heap a T cls g/\DictAt c.heap a f/\E cls f d
section
theorem Xb.behind{X:Cx}{d:List (Addr×Obj)}{p:St}{H:Hp}{s g:Shared}{E:XK}{e:Value}(I:Inv X d p H s)(x:Xb X.prog X.w X.stack H s E e g):∃a T cls i n f,e=.ref a/\E cls n f/\DictAt g.heap a n/\s.heap.get? a=none/\f a=none/\Inv X d p f g /\
  Heap.FlyingW (W.hideAll g.heap (a::T::frs X.stack)) X.stack a cls i g.heap /\
  ∀j u,Heap.FlyingW (W.hideAll g.heap (a::T::frs X.stack)) u a cls i j->g.heap.UpToSlots j ->
   ∃l,Inv X d p f {g with heap:=j}/\Trc j a l cls i/\s.heap.get? l=none/\f l=none/\Un (frs X.stack) [] H f s.heap j:=by
 obtain⟨a,T,cls,i,n,f,rfl,os,m,un,r,fr,tr,v,q⟩:=x;obtain⟨z,l,c2,t,B,e2,⟨rfl,rfl⟩,sa,y,J,fl,back⟩:=CX1.behind (E:=λc _ G=>c=cls/\G=f) I ⟨a,T,cls,i,f,rfl,os,m,un,r,fr,tr,rfl,rfl⟩;cases e2;exact⟨a,l,_,t,n,_,rfl,q,v,sa,y,J,fl,back⟩
end
variable{K:W.Frag}
theorem bb :
  Passes (Xb P w) (bG (Xb P w) P w K mg base N d scope f cd A outer s H E) E:=by
 intro p σ H1 B e j I x;obtain⟨a,T,cls,t,G,M,rfl,q,O,sa,U,J,fl,back⟩:=Xb.behind I x
 refine Up (cD (iO _ _) (wpAny_leaves_onW (Q:=λ_ u=>∃c,u={j with heap:=c}/\Heap.FlyingW (W.hideAll j.heap (a::T::frs (envOfC d scope s.heap.objs.size f cd::outer))) outer a cls t c/\j.heap.UpToSlots c)
  (L:=s.heap.objs.size) I.ok.frames rfl fl λc l up=>⟨c,rfl,l,up⟩)) (λ_ u ⟨⟨c,e2,l,up⟩,Y⟩=>?_) λ_ _ z=>z
 subst e2;obtain⟨v,i,y,m,n,_⟩:=back c _ l up
 have g:∀b,B.heap.get? b=none->s.heap.get? b=none:=λb z=>by
  cases q:s.heap.get? b with
  |none=>rfl
  |some o =>obtain⟨o',r⟩:=I.base.there b o q (by show b∉([]:List Addr);simp);rw[z]at r;cases r
 exact⟨a,v,cls,t,G,M,rfl,i.os,i.bare,i.base,i.hok,⟨g a sa,g v m,U,n⟩,y,Y.dictAt O y,q⟩
noncomputable def tK(P:Program)(w:World):CXT:=λouter H s E e c =>
 ∃a cls g f d,e=.ref a/\c.os=s.os/\AllBare c.gens/\Un (frs outer) [] H d s.heap c.heap/\X4 P w d c.heap /\
  (s.heap.get? a=none/\d a=none)/\Fre c.heap a cls g/\DictAt c.heap a f/\E cls f d
theorem vz :
  Passes (tK P w) (bG (Xb P w) P w K mg base N c scope f cd A outer s H E) E:=by
 intro d U H1 u e j I x;obtain⟨a,cls,p,dx,v,rfl,os,g,un,l,⟨sa,y⟩,⟨B,vs,he,⟨hc,h0⟩,hd,hv⟩,da,q⟩:=x;have J:Inv (bG (Xb P w) P w K mg base N c scope f cd A outer s H E) d U v j:=I.YY (ch:=[]) os un l g (λb z=>absurd z (by simp));subst hc
 refine Up (cD (iO _ _) (wpAny_leaving_firstW (Q:=λ_ Y=>∃i,Y={j with heap:=i}/\Heap.LeftW (W.hideAll j.heap (a::a::frs (envOfC c scope s.heap.objs.size f cd::outer))) (envOfC c scope s.heap.objs.size f cd::outer) a B.cls p j.heap i) (L:=s.heap.objs.size) (a0:=p) I.ok.frames
  (W.funFrames_hide J.stack λenv hm b hb=>.tail _ (.tail _ (VM.mpr ⟨env,hm,hb⟩))) rfl he (λb o q=>W.of_hideAll _ q) (VT _ (.head _)) hd hv h0 λi L2=>⟨i,rfl,L2⟩)) (λ_ Y ⟨⟨i,e2,k1,k2,k3,k4⟩,kp⟩=>?_) λ_ _ z=>z
 subst e2;obtain⟨m,G,M,kk,O⟩:=rL (T:=a) J.stack (show Heap.FlyingW _ _ a B.cls p i from ⟨k1,VT _ (.head _),k2,k3⟩) k4;have neT:m≠a:=by obtain⟨_,_,_,_,_,_,_,_,z,_⟩:=G;exact z
 have nT:j.heap.get? m=none:=M.resolve_left neT
 have sT:u.heap.get? m=none:=by
  cases q:u.heap.get? m with
  |none=>rfl
  |some o =>obtain⟨o',r⟩:=un.there m o q (by simp);rw[nT]at r;cases r
 have n:∀b,u.heap.get? b=none->s.heap.get? b=none:=λb z=>by
  cases q:s.heap.get? b with
  |none=>rfl
  |some o =>obtain⟨o',r⟩:=I.base.there b o q (by show b∉([]:List Addr);simp);rw[z]at r;cases r
 have t:Inv (bG (Xb P w) P w K mg base N c scope f cd A outer s H E) d U v {j with heap:=i} :=
  I.YY (s':={j with heap:=i}) (ch:=[]) os (BF un sa sa kk O) (zM l y y J.YI kk) g (λb z=>absurd z (by simp))
 exact⟨a,m,B.cls,p,dx,v,rfl,t.os,t.bare,t.base,t.hok,⟨n a sa,n m sT,y,l.empty nT⟩,G,kp.dictAt da G,q⟩
theorem YH.ok2{P:Program}{st:Stmt}(F:YH K x c st f m)(S:WT N j (aa st))(len:∀d H Q E,l d H Q E->d.length=j.length)
  (e:∀(a:Value)(A:Around)(outer:List Env)(s:Shared)(H:Hp)(d:List V)(Q:VK)(E:XK),W2 k (A.deeper (envOfC c (aa st) s.heap.objs.size f a))->l d H Q E ->
   ∃t,XH (bG (Xb P w) P w K mg base N c (aa st) f a A outer s H E) (aV st) t/\t {nx:=λ_ n=>Q .WX n,rt:=Q} (start N d) H):WV P w K mg base (Xb P w) (k+1) f m j l:=by
 obtain⟨oc,r,kV,doc,u,v,a,ct,p,rfl,lk,g⟩:=F.ex;exact zE lk g S len λA outer s H d Q E q i=>e a A outer s H d Q E q i
theorem sr :
  PassesOwn (model P w) (bG c P w K mg base N a scope f cd A outer s H E).A (bG c P w K mg base N a scope f cd A outer s H E).env (bG c P w K mg base N a scope f cd A outer s H E).xe :=
 λ_ _ h=>wpAny_leaving_again (SameStack.refl _) h
noncomputable def yP(e C:Addr)(d:Value)(f:Addr):HO:=.ext λh=>∃a c,h.get? e=some a/\(a.cls=.ref C/\c[0]?=some d)/\a.data=.fields c/\c[1]?=some .none/\a.dict=some f
noncomputable abbrev iZ(H:Hp)(e C:Addr)(c:Value)(a:Addr)(f:Str)(v:V):Hp:=upd (upd H e (yP e C c a)) a (.xd [(f,v)])
section
theorem BK:iZ H e C c a f v a=some (.xd [(f,v)]):=ai
theorem qH(h:a≠e):iZ H e C c a f v e=some (yP e C c a):=(ag (Ut h)).trans ai
theorem BL(h:b≠a)(c:b≠e):iZ H e C d a f v b=H b:=(ag h).trans (ag c)
end
theorem uG{X:Cx}{r:Pos}(st:BR X.K C f)(ha:PE X o ta)(hv:PE X a tv)(hs:swapsWith a (some (.Attribute o f t)) r.line X.env=pure false:=by rfl) :
  PS X (.Assign [.Attribute o f t] a r) (λD l H=>tv l H λy G=>ta l G λx d=>∃e m,x=.ref e/\d e=some (ka e C m)/\∀dx,d dx=none->D.nx l (iZ d e C m dx f y)):=by
 intro c s l H D I h;refine Wd (WY (hv c s l H _ I h) λu s1 ⟨y,G,I1,ry,q⟩=>WY (ha c s1 l G _ I1 q) λov i ⟨x,d,v,rx,e,m,ex,p,q2⟩=>?_) hs;subst ex;obtain rfl:ov=Value.ref e:=rx;obtain⟨⟨oe,vs,M,⟨B,N⟩,E,O,Q⟩,_,_⟩:=(show W7 X.prog X.w d i.heap e (ka e C m) from v.hok e _ p)
 refine sX v.Xy st M B Q E λT tk k j ns=>?_
 have sd:i.heap.get? i.heap.objs.size=none:=by
  cases q:i.heap.get? i.heap.objs.size with
  |none=>rfl
  |some o=>exact absurd (TJ q) (Uz _)
 have U:d i.heap.objs.size=none:=v.hok.empty sd
 have J:Inv X c l (upd d e (yP e C m i.heap.objs.size)) {i with heap:=T,toks:=tk}:=by refine v.write (x:=e) (e:=e) (t':=tk) (by rw[p];trivial) (.inl rfl) k ⟨_,j⟩ ?_;exact⟨⟨_,vs,j,⟨B,N⟩,E,O,rfl⟩,⟨_,j⟩,λh1 h2 ⟨o1,v1,e1,c1⟩ k=>⟨o1,v1,k o1 e1,c1⟩⟩
 have nb:∀b,d b=none->b≠e:=λb z y=>by rw[y,p]at z;cases z
 have un:Un (frs X.stack) [] d (upd d e (yP e C m i.heap.objs.size)) i.heap T:=by
  refine⟨λb o q n hf Y=>k b o (nb b n) q,λb o q n hf Y=>⟨o.slots,k b o (nb b n) q⟩,λb o q n Y=>by rw[ag (nb b n)];exact n,λb o q Y=>?_,λb xs q=>?_,λb u xs q=>?_,λb ps q=>⟨#[],?_⟩⟩
  ·by_cases hb:b=e
   ·subst hb;exact⟨_,j⟩
   ·exact⟨o,k b o hb q⟩
  ·rw[ag (λz=>by rw[z,p]at q;cases q)];exact q
  ·rw[ag (λz=>by rw[z,p]at q;cases q)];exact q
  ·rw[WG,ag (λz=>by rw[z,p]at q;cases q)];exact q
 refine⟨l,_,Inv.ZE (o:=.xd [(f,y)]) v J un sd (by rw[ag (nb _ U)];exact U) (show ∃mA,T.Ns1 _ mA/\_ from ⟨_,ns,λg=>?_⟩),q2 _ U⟩;by_cases hg:g=f
 ·subst hg;rw[TY rfl,List.lookup_cons_self];exact ry
 ·rw[TQ hg]
  have e:List.lookup g [(f,y)]=none:=by rw[Uh,UM.mpr hg];rfl
  rw[e]
  trivial
noncomputable def iW(C:Addr)(f:Str):Sp:=λd H Q _=>∃e a v,d=[.ref e,v]/\H e=some (ka e C a)/\∀c,H c=none->Q .WX (iZ H e C a c f v)
section
theorem qJ{X:Cx}{p:List (Addr×Obj)}{σ:St}{H:Hp}{s l:Shared}{C e a:Addr}{g:Value}{f:Str}{v:V}(I:Inv X p σ H s)(hn:s.heap.get? e=none)(Q:H e=none)(E:upd H e (ka e C g) a=none){T:Heap}(G:∀b o,s.heap.get? b=some o->T.get? b=some o)
  (un:Un (frs X.stack) [] (upd H e (ka e C g)) (iZ (upd H e (ka e C g)) e C g a f v) T l.heap) (r:X4 X.prog X.w (iZ (upd H e (ka e C g)) e C g a f v) l.heap) :
  H a=none/\a≠e/\Un (frs X.stack) [] H (upd H a (.xd [(f,v)])) s.heap l.heap/\X4 X.prog X.w (upd H a (.xd [(f,v)])) l.heap /\
   ∃J M,l.heap.get? e=some J/\(J.cls=.ref C/\M[0]?=some g)/\J.data=.fields M/\M[1]?=some .none/\J.dict=some a:=by
 have m:a≠e:=λz=>by rw[z,ai]at E;cases E
 have t:H a=none:=by rw[ag m]at E;exact E
 have i:∀b o,s.heap.get? b=some o->b≠e:=λb o q z=>by rw[z,hn]at q;cases q
 have U:∀b u,H b=some u->b≠e:=λb u q z=>by rw[z,Q]at q;cases q
 have d:∀b u,H b=some u->b≠a:=λb u q z=>by rw[z,t]at q;cases q
 have same:∀b,b≠e->iZ (upd H e (ka e C g)) e C g a f v b=upd H a (.xd [(f,v)]) b:=λb z=>by
  by_cases B:b=a
  ·rw[B,BK,ai]
  ·rw[BL B z,ag B,ag z]
 refine⟨t,m,⟨λb o q n N j=>?_,λb o q n N j=>?_,λb o q n j=>?_,λb o q j=>un.there b o (G b o q) j,λb Y q=>?_,λb u Y q=>?_,λb ps q=>⟨#[],?_⟩⟩,λb u q=>?_,?_⟩
 ·exact un.keep b o (G b o q) (by rw[ag (i b o q)];exact n) N j
 ·exact un.slot b o (G b o q) (by rw[ag (i b o q)];exact n) N j
 ·have z:=un.free b o (G b o q) (by rw[ag (i b o q)];exact n) j;rw[same b (i b o q)]at z;exact z
 ·rw[ag (d b _ q)];exact q
 ·rw[ag (d b _ q)];exact q
 ·rw[WG,ag (d b _ q)];exact q
 ·have B:b≠e:=λz=>by rw[z,ag (Ut m),Q]at q;cases q
  refine(r b u (by rw[same b B];exact q)).stay (λ_ _ _ z=>z) (λc z=>?_) λc Y z=>?_
  ·have O:c≠e:=λy=>by rw[y,qH m]at z;cases z
   rw[same c O]at z;exact z
  ·have O:c≠e:=λy=>by rw[y,qH m]at z;cases z
   rw[same c O]at z;exact z
 ·obtain⟨q,_,_⟩:=(show W7 X.prog X.w _ l.heap e (yP e C g a) from r e _ (qH m))
  exact q
theorem yy{X:Cx}{a:List (Addr×Obj)}{M:St}{H:Hp}{s:Shared}{C fI:Addr}{fd:FuncData}{k:Nat}{O:List Str}{f:Str}{v:V}{E:XK}{u:Value}(kc:IniK X.K C fI)(FI:WV X.prog X.w X.K X.mg X.base CX0 k fI fd O (iW C f))(hb:Binds X.K fd O [])(hr:W2 (k+1) X.A)(I:Inv X a M H s)(ru:RelV v u)(q:∀c,H c=none->E (.ref C) (some c) (upd H c (.xd [(f,v)]))) :
  wpAny (model X.prog X.w) X.A (call (.ref C) [u]) (λr m=>∃e i vs,r=.ref e/\m.heap.get? e=some i/\i.cls=.ref C/\i.data=.fields vs/\vs[1]?=some .none/\X.K.In m.heap/\tK X.prog X.w X.stack H s E (.ref e) m) X.xe s:=by
 refine xW I.Xy kc (by rw[Ul];simp) ?_;have I2:Inv X a M H {s with heap:=jL s.heap C [u]}:=I.kept (t':=s.toks) bX;have p:s.heap.get? (s.heap.objs.size+1)=none:=xT;have N:H (s.heap.objs.size+1)=none:=I.hok.empty p;have Q:(jL s.heap C [u]).get? (s.heap.objs.size+1)=some (yW C s.heap.objs.size):=dq;generalize s.heap.objs.size+1=e at p N Q ⊢
 have I3:Inv X a M (upd H e (ka e C (.ref s.heap.objs.size))) {s with heap:=jL s.heap C [u]} :=
  Inv.ZE I I2 (Un.kept bX) p N ⟨⟨_,_,Q,⟨rfl,rfl⟩,rfl,rfl,rfl⟩,⟨_,Q⟩,λg1 g2 ⟨o1,v1,e1,c1⟩ kk=>⟨o1,v1,kk o1 e1,c1⟩⟩
 have hq:iW C f [.ref e,v] (upd H e (ka e C (.ref s.heap.objs.size))) (λw H2=>∃c,upd H e (ka e C (.ref s.heap.objs.size)) c=none/\w=.WX/\H2=iZ (upd H e (ka e C (.ref s.heap.objs.size))) e C (.ref s.heap.objs.size) c f v) (λ_ _ _=>True) :=
  ⟨e,_,v,rfl,ai,λc n=>⟨c,n,rfl,rfl⟩⟩
 have hl:([Value.ref e,u]++[]).length=O.length:=FI.len _ _ _ _ hq;refine U7 (UC (FI.run _ X.stack _ _ ⟨[.ref e,u],[]⟩ [.ref e,u] _ _ (λ_ _ _=>True) (hr.make C [u] []) (I3.ZY.make C [u] []) (hb _ [.ref e,u] I3.Xy hl) (show Vals [V.ref e,v] [Value.ref e,u] from .cons rfl (.cons ru .nil)) hq) λr m j=>?_)
 cases r with
 |error _=>exact False.elim j
 |ok fl =>
  cases fl with
  |ret uu =>obtain⟨_,_,t,d,T,ZK,rv,c,nd,rfl,rfl⟩:=j;obtain⟨U,de,y,g,i,ws,l,B,G,J,Y⟩:=qJ I p N nd bX T ZK;have I4:Inv X a M _ m:=I.YY (ch:=[]) t y g d (λb z=>absurd z (by simp));exact⟨rv,e,i,ws,rfl,l,B.1,G,J,I4.Xy,e,.ref C,_,some c,_,rfl,t,d,y,g,⟨p,by rw[ag (Ut de)];exact N⟩,⟨i,ws,l,B,G,J⟩,⟨i,l,Y⟩,q c U⟩
  |_=>exact False.elim j
end
theorem uH{X:Cx}(l:IniK X.K C y)
  (z:WV X.prog X.w X.K X.mg X.base CX0 k y B G (iW C f)) (J:Binds X.K B G []) (M:W2 (k+1) X.A) (N:Passes (tK X.prog X.w) X E) (O:Gl X x) (Q:X.mg x=some (.ref C)) (T:PA X [a] U) (g:X.calm=true:=by rfl)
  (Y:starEach [a] X.env=(false,eval a X.env)::starEach [] X.env:=by rfl) (m:(backTo c (starEach [] X.env)).any (·.1)=false:=by rfl) (hd:(x==("__debug__":Str))=false:=by decide) :
  PS X (.Raise (some (.Call (.Name x np) [a] [] c)) none pos) (λ_ i H=>U i H λt j=>∃v,t=[v]/\∀n,j n=none->E (.ref C) (some n) (upd j n (.xd [(f,v)]))):=by
 intro d s i H D I h;rw[arm_exec_Raise];refine Ar (UG (yt (K:=X.K) l (I.ok.hd g) ?_));refine Ar (UD (bj I O Q ?_ hd));refine VN (h₀:=X.base) I.ok.mod.kin l.kp (WY (T c d s i H _ I h) λus s1 ⟨t,j,p,r,v,hv,q⟩=>⟨p.Xy,?_⟩) Y m;subst hv;obtain⟨u,rfl,ru⟩:=bq r;refine WY (yy (E:=E) l z J M p ru q) λr s2 ⟨e,oe,ws,er,h1,h2,h3,h4,h5,h6⟩=>Ar (UG (RB ?_));exact⟨e,oe,ws,er,h1,h2,h3,h4,h5,N d i j s1 _ _ p h6⟩
noncomputable def BO(x D:Addr)(c:Option Addr):HO:=.ext λh=>∃a d,h.get? x=some a/\a.cls=.ref D/\a.data=.fields d/\a.dict=c
section
end
end L2
namespace L2
open PySem PySem.Spec PySem.Calls PyProof.Rows
noncomputable abbrev lU(t:Addr)(i:Int):Obj:={cls:=.type "reversed",data:=.fields #[.ref t,rawInt i]}
theorem nq:Slot "reversed" "__init__" "object.__init__":=.of (owner:="object") (n:="__init__") (by rw[VL,Vl];kernel_rfl) (by decide +kernel) (by decide +kernel) (by decide +kernel) (by first|exact .inl (by decide +kernel)|exact .inr (by decide +kernel)) (by rw[Wv];kernel_rfl)
theorem tU:TypeCalled "reversed" "reversed.__new__" "object.__init__":=⟨by decide +kernel,by decide +kernel,⟨_,_,F.mro_reversed⟩,F.made_reversed,by decide +kernel,F.sub_reversed_self,nq⟩
theorem Xq:Slot "reversed" "__next__" "reversed.__next__":=.of (owner:="reversed") (n:="__next__") (by rw[VL,Vl];kernel_rfl) (by decide +kernel) (by decide +kernel) (by decide +kernel) (by first|exact .inl (by decide +kernel)|exact .inr (by decide +kernel)) (by rw[Wv];kernel_rfl)
theorem gn:Slot "reversed" "__iter__" "reversed.__iter__":=.of (owner:="reversed") (n:="__iter__") (by rw[VL,Vl];kernel_rfl) (by decide +kernel) (by decide +kernel) (by decide +kernel) (by first|exact .inl (by decide +kernel)|exact .inr (by decide +kernel)) (by rw[Wv];kernel_rfl)
theorem eX:entryFor table "reversed.__next__"=some Builtin.«reversed.__next__»:=entryFor_of_tree (by kernel_rfl)
theorem lD:entryFor table "reversed.__iter__"=some Builtin.«dict_keyiterator.__iter__»:=entryFor_alias (id':="dict_keyiterator.__iter__") (by kernel_rfl) (by first|rfl|decide +kernel | (unfold String.splitOn;simp +decide [String.splitOnAux])) (by decide +kernel) (by kernel_rfl)
theorem nZ:Manifest.owners.lookup (String.ofList ['d','e','s','r','e','v','e','r'].reverse)=some Manifest.sig_reversed:=by kernel_rfl
theorem fV(a:Value):argsOk "reversed.__next__" ⟨[a],[]⟩:=by unfold argsOk;rw[signature?_of (id:="reversed.__next__") (n:=['_','_','t','x','e','n','_','_']) (o:=['d','e','s','r','e','v','e','r']) (by kernel_rfl) nZ];kernel_rfl
theorem mL(a:Value):argsOk "reversed.__iter__" ⟨[a],[]⟩:=by unfold argsOk;rw[signature?_of (id:="reversed.__iter__") (n:=['_','_','r','e','t','i','_','_']) (o:=['d','e','s','r','e','v','e','r']) (by kernel_rfl) nZ];kernel_rfl
theorem yF:typeLookup (.type "tuple") "__reversed__"=pure none:=by rw[VL,Vl];kernel_rfl
theorem vC:isSubtype (.type "tuple") (.type "dict")=pure false:=by rw[Wv];kernel_rfl
theorem j8:typeLookup (.type "tuple") "__getitem__"=pure (some (.builtin "tuple.__getitem__")):=by rw[VL,Vl];kernel_rfl
theorem Bi(t:Addr)(a:Array Value)(n:Nat)(d2:Option Addr)(f:Array (Option Value)) :
  Meets (Builtin.«reversed.__new__» ⟨[.type "reversed",.ref t],[]⟩) (λ_ R s=>s.heap.get? t=some {cls:=.type "tuple",dict:=d2,data:=.seq a n,slots:=f} /\
   (a.size:Int)<2 ^ 63/\R (.ok (.ret (.ref s.heap.objs.size))) {s with heap:=s.heap.push (lU t ((a.size:Int) - 1)),toks:=s.toks+2}) :=
 .of_wp λ_ _ _ _ s q=>by
  obtain⟨g,g0,i,j,l⟩:=s;obtain⟨m,c,q⟩:=q;have d:Heap.IsTuple (Shared.heap ⟨g,g0,i,j,l⟩) t a:=⟨_,m,rfl,n,rfl⟩
  have e:=F.sub_reversed_self
  wp_walk
  show wpAny _ _ (typeLookup (.type "tuple") "__reversed__") _ _ _;rw[yF];refine RB ?_;dsimp only
  wp_walk
  show wpAny _ _ (isSubtype (.type "tuple") (.type "dict")) _ _ _;rw[vC];refine RB ?_;rw[TQ (by decide)]
  wp_walk
  show wpAny _ _ (typeLookup (.type "tuple") "__getitem__") _ _ _;rw[j8];refine RB ?_;dsimp only;rw[TY (by decide +kernel)];refine RB ?_;rw[TQ (by decide)];refine Ar ?_;refine PyProof.Rows.len_tuple d c ?_
  wp_walk
  exact⟨_,rfl,q⟩
theorem xg{s:Shared}(c:s.heap.IsTuple t a)(d:(a.size:Int)<2 ^ 63)
  (q:Q (.ref s.heap.objs.size) {s with heap:=s.heap.push (lU t ((a.size:Int) - 1)),toks:=s.toks+2}):wpAny (model prog w) A (call (.type "reversed") [.ref t]) Q E s:=by
 obtain⟨⟨c2,d2,e,f⟩,c,g,n,i⟩:=c;obtain rfl:c2=.type "tuple":=g;obtain rfl:e=.seq a n:=i;refine callType_new tU (by decide) (F.typeCall_reversed_1 _) (F.newCall_reversed_1 _) (λo=>F.args_object_init_2 o _) F.entry_reversed_new (Bi t a n d2 f) ⟨c,d,?_⟩;show _/\_;exact⟨⟨_,UL rfl rfl,rfl⟩,q⟩
theorem sx{i n:Nat}(h:i<n):seqIndex? (i:Int) n=some i:=(pf (by unfold ixN;rw[TY (by lia),TY (by lia)];rfl)).1
noncomputable abbrev ju(h:Heap)(it t:Addr)(i:Int):Prop:=h.get? it=some (lU t i)
section
theorem uU{A:Around}{E:Value->Shared->Prop}{s:Shared}{a:Array Value}{i:Nat}{Q:Option Value->Shared->Prop}(c:ju s.heap it t i)(f:s.heap.IsTuple t a)(l:(a.size:Int)<2 ^ 63)(g:a[i]?=some x)
  (q:∀d tk,ju d it t ((i:Int) - 1)->Heap.SameBut it s.heap d->Q (some x) {s with heap:=d,toks:=tk}):wpAny (model prog w) A (pyNext (.ref it)) Q E s:=by
 have ty:s.TypeIs (.ref it) "reversed":=⟨_,c,rfl⟩
 have lt:i<a.size:=(VG.mp g).1;unfold pyNext;refine Ar (Vv (Uy (name:=Str.ofString "__next__") ty Xq (UQ Xq ty eX ?_ (fV _))));obtain⟨⟨c2,d2,e,r⟩,u,m,n,p⟩:=id f;obtain rfl:c2=.type "tuple":=m;obtain rfl:e=.seq a n:=p;obtain⟨v,g0,y,z,B⟩:=s;unfold ju lU rawInt at c
 wp_walk
 show wpAny _ _ (typeLookup (.type "tuple") "__getitem__") _ _ _;rw[j8];refine RB ?_;rw[TQ (by decide)];refine Ar (wpAny_mkInt (Ar (Vv ?_)));show wpAny _ _ (getItem (.ref t) (.int (i:Int) _)) _ _ _;refine PyProof.Rows.getItem_tuple (j:=i) f (by lia) (by lia) (sx lt) g ?_
 wp_walk
 exact⟨x,rfl,RB (q _ _ (Wb _ c rfl) (Heap.SameBut.update ..))⟩
theorem uT{A:Around}{s:Shared}(f:A.handled=none)(a:ju s.heap it t (-1))(q:∀c,Heap.ExtBut it s.heap c->Q none {s with heap:=c}):wpAny (model prog w) A (pyNext (.ref it)) Q E s:=by
 have ty:s.TypeIs (.ref it) "reversed":=⟨_,a,rfl⟩
 unfold pyNext;refine Ar (Vv (Uy (name:=Str.ofString "__next__") ty Xq (UQ Xq ty eX ?_ (fV _))));obtain⟨g,g0,i,j,l⟩:=s;unfold ju lU rawInt at a
 wp_walk
 refine Wo f ?_;refine Ar (wpAny_isInstance (T:="StopIteration") (b:=true) ⟨_,TX _ rfl,rfl⟩ isSubtype_stop (RB (q _ λb o d e=>?_)));exact LD _ (LD _ ((VJ _ _ _ _ d).trans ((VJ _ _ _ _ d).trans e)))
theorem sI{s:Shared}(a:ju s.heap it t i)(h:Q (.ref it) s):wpAny (model prog w) A (pyIter (.ref it)) Q E s:=by
 have ty:s.TypeIs (.ref it) "reversed":=⟨_,a,rfl⟩
 refine wpAny_pyIter_slot ty gn (UQ gn ty lD ?_ (mL _));show wpAny _ _ (ret (.ref it)) _ _ s;exact RB ⟨_,rfl,"reversed",_,ty,Xq.lookup,h⟩
end
noncomputable def Itw(K:W.Frag)(a:Addr)(c:List V):It:=⟨λi H=>i<c.length/\Xz K H a c,λi H x d=>d=H/\c[c.length - 1 - i]?=some x,λi _=>i=c.length⟩
variable{K:W.Frag}
theorem yH(a it:Addr)(c:List V):gR P w K tg (Itw K a c) [it] it (λi h=>ju h it a ((c.length:Int) - 1 - (i:Int))) where
 mem:=by simp
 obj:=λi h st b f=>by
  have e:b=it:=by simpa using f
  subst e;exact⟨_,st,λv z=>by cases z⟩
 keep:=λi h j st k=>k it (by simp) _ st
 item:=by
  intro X m n r N i d s O H E I l st t;subst m n r;obtain⟨hi,Y⟩:=t;obtain⟨its,T,p,hz⟩:=I.tuple Y;obtain⟨y,B,f2,G,J,f5⟩:=l it (by simp);have lr:=T.length;have U:c[c.length - 1 - i]?=some (c[c.length - 1 - i]'(by lia)):=RL (by lia);obtain⟨u,hu,ru⟩:=T.get U;have e1:(c.length:Int) - 1 - (i:Int)=((c.length - 1 - i:Nat):Int):=by lia
  rw[e1]at st;refine uU st p (by rw[TH];rw[Ul]at hz;lia) (x:=u) (by simpa using hu) λj tk g sb=>?_;have e2:((c.length - 1 - i:Nat):Int) - 1=(c.length:Int) - 1 - ((i+1:Nat):Int):=by lia
  rw[e2]at g;have I1:Inv X d O H {s with heap:=j,toks:=tk}:=I.turned (t':=tk) (λb o f e=>(sb.2 b f).trans e) y B G J f5;exact⟨u,rfl,nP (s:={s with heap:=j,toks:=tk}) g rfl rfl (by decide) ⟨_,H,I1,ru,⟨rfl,U⟩,g,λb f=>(l b f).1⟩⟩
 done:=by
  intro X m n r N i d s O H E I l st t;subst m n r;obtain⟨y,B,f2,G,J,f5⟩:=l it (by simp);have M:i=c.length:=t;subst M;have e1:(c.length:Int) - 1 - (c.length:Int)=-1:=by lia
  rw[e1]at st;exact uT (I.ok.hd N) st λj eb=>⟨rfl,I.turned (t':=s.toks) (λb o f e=>eb b o f e) y B G J f5⟩
 self:=λA i s Q E st q=>sI st q
section
noncomputable def Jz(K:W.Frag)(e:TA):TI:=λf H R=>e f H λg c=>∃a d,g=[.ref a]/\Xz K c a d/\R (Itw K a d) c
theorem Dl(m:Gl X "reversed")(n:X.mg "reversed"=none)(r:PA X [a] t)(hs:starEach [a] X.env=[(false,eval a X.env)]:=by rfl):PI X T (.Call (.Name "reversed" p) [a] [] i) (Jz X.K t):=by
 intro d s v H R I h;refine Call_ (gE I m n jx (UT (WY (r i d s v H _ I h) λU c ⟨Y,w,g,y,z⟩=>?_) hs rfl));obtain⟨l,f,e,B,q⟩:=z;subst e;obtain⟨u,rfl,E⟩:=bq y;cases E;obtain⟨j,G,J,M⟩:=g.tuple B;have N:=G.length;refine xg J (by rw[TH];rw[Ul]at M;lia) ?_;have O:((j.toArray.size:Nat):Int) - 1=(f.length:Int) - 1 - ((0:Nat):Int):=by rw[TH,N];lia
 rw[O];have st:ju (c.heap.push (lU l ((f.length:Int) - 1 - ((0:Nat):Int)))) c.heap.objs.size l ((f.length:Int) - 1 - ((0:Nat):Int)):=TX _ rfl;refine sI (s:={c with heap:=c.heap.push (lU l ((f.length:Int) - 1 - ((0:Nat):Int))),toks:=c.toks+2}) st ?_;refine⟨c.heap.objs.size,[c.heap.objs.size],_,_,w,rfl,g.kept (t':=c.toks+2) λb o e=>LD _ e,yH l _ f,st,λb Q=>?_,q⟩;have e:b=c.heap.objs.size:=by simpa using Q
 subst e;exact g.ZX (TN _) (g.hok.fresh (TN _))
end
structure i6(X:Cx)(pins:List (Addr×Obj))(σ:St)(H:Hp)(a:Addr)(cls:Value)(dx:Option Addr)(s:Shared):Prop where
 ok:X.Ok
 inv:Inv X pins σ H s
 ty:W.Looks (model X.prog X.w) s.heap (typeOf (.ref a)) cls
 na:H a=none
 again:∀(A:Around)(Q:Unit->Shared->Prop)(E:Value->Shared->Prop),(∀h',Inv X pins σ H {s with heap:=h'}->(∀Dx,cls=.ref Dx->Inv X pins σ (upd H a (BO a Dx dx)) {s with heap:=h'}/\Inv X pins σ (upd H a (gq a Dx)) {s with heap:=h'})->Q () {s with heap:=h'})->wpAny (model X.prog X.w) A (setFlight (.ref a) none) Q E s
theorem Ej{X:Cx}{l XN:List (Addr×Obj)}{σ:St}{N:Hp}{O d:Shared}{E:XK}{e:Value}{xe E':Value->Shared->Prop}{R:Shared->Prop}(ok:X.Ok)(I1:Inv {X with pn:=X.pn++l,xe:=xe} XN σ N O)(x1:Xb X.prog X.w X.stack N O E e d)
  (hR:∀a cls t U s',e=.ref a->E cls t U->i6 X l σ U a cls t s'->R s') (u:X.stack=X.env::X.outer:=by rfl) (hfr:X.env.frame=some X.env.locals:=by rfl) :
  wpAny (model X.prog X.w) X.A (noteFrame e X.env) (λ_ v=>wpAny (model X.prog X.w) X.A (setFlight e none) (λ_ y=>R y) E' v) E' d:=by
 obtain⟨a,T,cls,a0,t,U,rfl,q,da,sa,na,J,fl,back⟩:=Xb.behind I1 x1;have fr:X.A.frames=some (X.env::X.outer):=by rw[<- u];exact ok.frames
 refine Up (cD (oH _ _) (wpAny_looks_onW (Q:=λ_ s4=>∃m,s4={d with heap:=m}/\Heap.HeldW (W.hideAll d.heap (a::T::frs X.stack)) (X.env::X.outer) a cls a0 X.env.locals m/\d.heap.UpToSlots m) fr hfr (by rw[<- u];exact fl) λm c f=>⟨m,rfl,c,f⟩))
  (λ_ s4 ⟨⟨m,e4,c,f⟩,kp4⟩=>?_) λ_ _ z=>z
 subst e4
 refine Up (cD (fL _ _) (wpAny_landsW (Q:=λ_ s5=>∃h5,s5={d with heap:=h5}/\Heap.FlyingW (W.hideAll d.heap (a::T::frs X.stack)) (X.env::X.outer) a cls a0 h5/\m.UpToSlots h5) c λh5 g i=>⟨h5,rfl,g,i⟩))
  (λ_ s5 ⟨⟨h5,e5,g,i⟩,kp5⟩=>?_) λ_ _ z=>z
 subst e5;obtain⟨T5,J5,t5,sT5,nT5,_⟩:=back h5 _ g (f.trans i);have da5:DictAt h5 a t:=(kp4.trans kp5).dictAt da t5
 have LT:W.Looks (model X.prog X.w) h5 (typeOf (.ref a)) cls:=by obtain⟨B,vs,oT,ts,n,⟨Y,_⟩,_⟩:=t5;rw[<- Y];exact(W.Looks.ld n).andThen .now
 refine hR a cls t U _ rfl q ⟨ok,J5.Xw ok,LT,na,λA Q E2 hQ=>?_⟩
 refine Up (cD (fL _ _) (lands_againW (Q:=λ_ s6=>∃j,s6={d with heap:=j}/\Heap.FlyingW (W.hideAll d.heap (a::T::frs X.stack)) (X.env::X.outer) a cls a0 j/\h5.UpToSlots j) g λj p r=>⟨j,rfl,p,r⟩))
  (λ_ s6 ⟨⟨j,e6,p,r⟩,kp6⟩=>?_) λ_ _ z=>z
 subst e6;obtain⟨T6,J6,t6,_,_,G⟩:=back j _ p ((f.trans i).trans r);have da6:DictAt j a t:=Kept.dictAt kp6 da5 t6;refine hQ j (J6.Xw ok) λDx hD=>?_;subst hD;obtain⟨B,vs,oT,ts,n,⟨Y,_⟩,hdt,_⟩:=t6;obtain⟨oe2,I,hdx⟩:=da6;rw[n]at I;cases I;refine⟨Inv.ZE (s:=O) (H:=N) (I1.Xw ok) (J6.Xw ok) G sa na ?_,Inv.ZE (s:=O) (H:=N) (I1.Xw ok) (J6.Xw ok) G sa na ?_⟩
 ·exact⟨⟨B,vs,n,Y,hdt,hdx⟩,⟨B,n⟩,λh1 h2 ⟨M,v1,e1,c1⟩ k=>⟨M,v1,k M e1,c1⟩⟩
 ·exact⟨⟨B,n,Y⟩,⟨B,n⟩,λh1 h2 ⟨M,e1,c1⟩ k=>⟨M,k M e1,c1⟩⟩
section
theorem vY{D:Ends}(L:i6 X c I H a cls J s)(M:Gl X x)(O:X.mg x=some C)(r:X.N.Nodup)(t:X.N[i]?=some n)(hl:X.env.kindOf n=some .local)(Q:∀e:Value,XH (X.hand e) (y::d) T)(U:W.exmOne X.K cls C=some b)
  (Y:b=true->∃B,cls=.ref B/\T (D.gone i) (I.set i (some (.ref a))) (upd H a (BO a B J))) (h2:b=false->wpAny (model X.prog X.w) X.A (handleBy (.ref a) X.env rest) (SP X c D) X.xe s) (hd:(x==("__debug__":Str))=false:=by decide) :
  wpAny (model X.prog X.w) X.A (handleBy (.ref a) X.env (.ExceptHandler (some (.Name x np)) (some n) (y::d) G::rest)) (SP X c D) X.xe s:=by
 refine Wq (Wc (bj (X:=X.hand (.ref a)) L.inv.hand M O ?_ hd)) (by intro q;cases q);refine(W.exm_one L.inv.Xy L.ty U).here ?_
 cases b with
 |false=>exact h2 rfl
 |true =>
  obtain⟨B,hD,q⟩:=Y rfl;refine codeAny_handlers_suite_as (L.again _ _ _ λh6 J6 I6=>?_);refine cz (X:=X.hand (.ref a)) (v:=.ref a) ((I6 B hD).1.hand (e:=.ref a)) r t (.inl hl) rfl (λs7 I7=>?_) (.inr hl);refine Up (Q (.ref a) c s7 _ _ (D.gone i) I7 q) (λf s3 hs=>?_) (λ_ _ z=>z.elim)
  cases f with
  |next=>obtain⟨g,j,l,m⟩:=hs;exact Inv.gone (l.XI L.ok) r t hl λE p=>⟨_,j,p,m⟩
  |brk=>obtain⟨g,j,l,m⟩:=hs;exact Inv.gone (l.XI L.ok) r t hl λE p=>⟨_,j,p,m⟩
  |cont=>obtain⟨g,j,l,m⟩:=hs;exact Inv.gone (l.XI L.ok) r t hl λE p=>⟨_,j,p,m⟩
  |ret u=>obtain⟨v,g,j,l,r3,m⟩:=hs;exact Inv.gone (l.XI L.ok) r t hl λE p=>⟨v,_,j,p,r3,m⟩
theorem rM{D:Ends}(L:i6 X c I H a cls dx s)(J:Gl X x)(M:X.mg x=some C)(r:X.N.Nodup)(t:X.N[i]?=some n)(hl:X.env.kindOf n=some .local)(O:∀e:Value,XH (X.hand e) (y::d) Q)(T:W.exmOne X.K cls C=some b)
  (U:b=true->∃B,cls=.ref B/\Q (D.gone i) (I.set i (some (.ref a))) (upd H a (gq a B))) (Y:b=false->wpAny (model X.prog X.w) X.A (handleBy (.ref a) X.env rest) (SP X c D) X.xe s) (hd:(x==("__debug__":Str))=false:=by decide) :
  wpAny (model X.prog X.w) X.A (handleBy (.ref a) X.env (.ExceptHandler (some (.Name x np)) (some n) (y::d) G::rest)) (SP X c D) X.xe s:=by
 refine Wq (Wc (bj (X:=X.hand (.ref a)) L.inv.hand J M ?_ hd)) (by intro q;cases q);refine(W.exm_one L.inv.Xy L.ty T).here ?_
 cases b with
 |false=>exact Y rfl
 |true =>
  obtain⟨B,hD,q⟩:=U rfl;refine codeAny_handlers_suite_as (L.again _ _ _ λh6 J6 I6=>?_);refine cz (X:=X.hand (.ref a)) (v:=.ref a) ((I6 B hD).2.hand (e:=.ref a)) r t (.inl hl) rfl (λs7 I7=>?_) (.inr hl);refine Up (O (.ref a) c s7 _ _ (D.gone i) I7 q) (λf s3 hs=>?_) (λ_ _ z=>z.elim)
  cases f with
  |next=>obtain⟨g,j,l,m⟩:=hs;exact Inv.gone (l.XI L.ok) r t hl λE p=>⟨_,j,p,m⟩
  |brk=>obtain⟨g,j,l,m⟩:=hs;exact Inv.gone (l.XI L.ok) r t hl λE p=>⟨_,j,p,m⟩
  |cont=>obtain⟨g,j,l,m⟩:=hs;exact Inv.gone (l.XI L.ok) r t hl λE p=>⟨_,j,p,m⟩
  |ret u=>obtain⟨v,g,j,l,r3,m⟩:=hs;exact Inv.gone (l.XI L.ok) r t hl λE p=>⟨v,_,j,p,r3,m⟩
theorem B8{X:Cx}{C:Value}{D:Ends}{rest:List ExceptHandler}(L:i6 X d n H a cls O s)(r:Gl X x)(t:X.mg x=some C)(y:∀e:Value,XH (X.hand e) (m::g) B)(E:W.exmOne X.K cls C=some b)
  (G:b=true->B D n H) (I:b=false->wpAny (model X.prog X.w) X.A (handleBy (.ref a) X.env rest) (SP X d D) X.xe s) (J:(x==("__debug__":Str))=false:=by decide) :
  wpAny (model X.prog X.w) X.A (handleBy (.ref a) X.env (.ExceptHandler (some (.Name x Q)) none (m::g) p::rest)) (SP X d D) X.xe s:=by
 refine Wq (Wc (bj (X:=X.hand (.ref a)) L.inv.hand r t ?_ J)) (by intro q;cases q);refine(W.exm_one L.inv.Xy L.ty E).here ?_
 cases b with
 |false=>exact I rfl
 |true =>
  refine codeAny_handlers_suite (L.again _ _ _ λT M _=>?_);refine Up (y (.ref a) d _ n H D M.hand (G rfl)) (λf U hs=>?_) (λ_ _ z=>z.elim)
  cases f with
  |next=>obtain⟨c,i,j,l⟩:=hs;exact⟨c,i,j.XI L.ok,l⟩
  |brk=>obtain⟨c,i,j,l⟩:=hs;exact⟨c,i,j.XI L.ok,l⟩
  |cont=>obtain⟨c,i,j,l⟩:=hs;exact⟨c,i,j.XI L.ok,l⟩
  |ret u=>obtain⟨v,c,i,j,N,l⟩:=hs;exact⟨v,c,i,j.XI L.ok,N,l⟩
end
theorem wC{X:Cx}{t:(St->XK)->TS}{E:Ends->St->XK}
  (O:∀(pn:List (Addr×Obj))(xe:Value->Shared->Prop)(E:St->XK),aE (Xb X.prog X.w) {X with pn:=pn,xe:=xe} E->XH {X with pn:=pn,xe:=xe} body (t E))
  (hand:∀(c:List (Addr×Obj))(D:Ends)(l:St)(H:Hp)(a:Addr)(cls:Value)(r:Option Addr)(s:Shared),i6 X c l H a cls r s->E D l cls r H->wpAny (model X.prog X.w) X.A (handleBy (.ref a) X.env hs) (SP X c D) X.xe s)
  (B:X.stack=X.env::X.outer:=by rfl) (G:X.env.frame=some X.env.locals:=by rfl) (J:∃h t,hs=h::t) :
  PS X (.Try body hs [] [] Q) (λD l H=>t (E D) D l H):=by
 intro c s l H D I h;obtain⟨T,U,rfl⟩:=J
 refine wpAny_Try_except (Up (O (X.pn++c) (λe m=>wpAny (model X.prog X.w) X.A (noteFrame e X.env) (λ_ n=>wpAny (model X.prog X.w) X.A (setFlight e none) (λ_ p =>
  wpAny (model X.prog X.w) X.A (handleBy e X.env (T::U)) (SP X c D) X.xe p) X.xe n) X.xe m) _ ?_ [] s l H D I.inTry h) (λf M y=>?_) λe M z=>z)
 ·intro XN N H1 M e s2 Y x1;refine Ej I.ok Y x1 (λa cls r H' s' he q L=>?_) B G;subst he;exact hand c D N H' a cls r s' L q
 ·cases f with
  |next=>obtain⟨d,g,i,j⟩:=y;exact cJ c M d g D (i.Xw I.ok) j
  |brk=>obtain⟨d,g,i,j⟩:=y;exact⟨d,g,i.Xw I.ok,j⟩
  |cont=>obtain⟨d,g,i,j⟩:=y;exact⟨d,g,i.Xw I.ok,j⟩
  |ret u=>obtain⟨v,d,g,i,r3,j⟩:=y;exact⟨v,d,g,i.Xw I.ok,r3,j⟩
theorem yo{X:Cx}{t:(St->XK)->TS}{l:TS}{C:Value}
  (u:∀(pn:List (Addr×Obj))(xe:Value->Shared->Prop)(E:St->XK),aE (Xb X.prog X.w) {X with pn:=pn,xe:=xe} E->XH {X with pn:=pn,xe:=xe} body (t E))
  (v:Gl X x) (y:X.mg x=some C) (B:X.N.Nodup) (G:X.N[i]?=some n) (hl:X.env.kindOf n=some .local) (I:∀e:Value,XH (X.hand e) (g::c) l)
  (m:X.stack=X.env::X.outer:=by rfl) (p:X.env.frame=some X.env.locals:=by rfl) (J:(x==("__debug__":Str))=false:=by decide) :
  PS X (.Try body [.ExceptHandler (some (.Name x Q)) (some n) (g::c) r] [] [] M)
   (λD O H=>t (λd cls _ j=>W.exmOne X.K cls C=some true/\∃f,cls=.ref f/\∀a,j a=none->l (D.gone i) (d.set i (some (.ref a))) (upd j a (gq a f))) D O H) :=
 wC (E:=λD d cls _ j=>W.exmOne X.K cls C=some true/\∃f,cls=.ref f/\∀a,j a=none->l (D.gone i) (d.set i (some (.ref a))) (upd j a (gq a f))) u (λ_ _ _ _ a _ _ _ L q=>rM L v y B G hl I q.1 (λ_=>q.2.elim λf h=>⟨f,h.1,h.2 a L.na⟩) (λz=>nomatch z) J) m p ⟨_,_,rfl⟩
theorem yn{X:Cx}{g:List Value}
  (Fn:ExcBaseFacts U i Y bmN) (v:g.contains (.type U)=true) (F:ExcBaseFacts B nid n g) (hc:cq X.K C g i none=true)
  (ht:Passes (tK X.prog X.w) X E) (hg:Gl X x) (j:X.mg x=some (.ref C)) (ha:PA X (a::rest) ta) (l:X.calm=true:=by rfl)
  (M:starEach (a::rest) X.env=(false,eval a X.env)::starEach rest X.env:=by rfl)
  (d:(backTo c (starEach rest X.env)).any (·.1)=false:=by rfl) (hd:(x==("__debug__":Str))=false:=by decide) :
  PS X (.Raise (some (.Call (.Name x np) (a::rest) [] c)) none pos) (λ_ p H=>ta p H λO u=>O.length<=sizeLine/\E (.ref C) none u):=by
 intro f s p H D I h;obtain⟨bm,N,nm,qn,bs,y,sn,sub,ab,G,dd,k0,k1,k2,k3,k5,mN,hC,hN,J,T⟩:=ui I.mod.kin hc
 refine wpAny_Raise_call_subU (C:=C) (nm:=nm) (q:=qn) (N:=N) (bs:=bs) (bm:=bm) (hdct:=y) (sn:=sn) (sub:=sub) (ab:=ab) (col:=G) (dd:=dd) (k0:=k0) (k1:=k1) (k2:=k2) (k3:=k3) (k5:=k5)
  Fn v F (mN:=mN) (T.hasType F.hasBase) (I.ok.hd l) (by rw[M];show(false||(backTo c (starEach rest X.env)).any (·.1))=false;rw[d];rfl) J (bj I hg j ⟨rfl,?_⟩ hd)
 have w:=ha c f s p H _ I h;rw[M]at w ⊢;refine Wh (WY w λus s2 ⟨O,u,m,r,z,q⟩=>⟨rfl,by rw[<- r.length];exact z,m.bk _ _ hC,hN.keeps m.bk,T.keeps m.bk,λh' e j=>?_⟩);obtain⟨t,Q,h2,h3⟩:=j.there;exact ht f p u s2 _ _ m ⟨e,.ref C,.ref t,none,u,rfl,rfl,m.bare,Un.kept j.keeps,m.hok.kept j.keeps,⟨j.new,m.hok.empty j.new⟩,⟨_,_,Q,⟨rfl,rfl⟩,rfl,rfl⟩,⟨_,Q,rfl⟩,q⟩
theorem yj(r:PE X o t)(c:ZC X.K C)(n:Meth X.K C m f)(F:WV X.prog X.w X.K X.mg X.base v k f y z B)(G:W2 k X.A)(J:Binds X.K y z M)(N:Vals XX M)(O:aE v X E)
  (T:eval (.Call (.Attribute o m e) [] [] d) X.env=(do
   let p <- eval o X.env
   standAt e.atName
   let(f,first) <- holding [p] (getMethod p m U)
   callWith d f first (backTo d (starEach [] X.env)) (backToKw d (keywordEach [] X.env))):=by rfl) :
  PE X (.Call (.Attribute o m e) [] [] d) (λi=>EK C m B XX (E i) t bM i):=by
 intro g s i H Q I h;refine W.methodCall_KW (pl:=U) (WY (r g s i H _ I h) λu s1 ⟨x,H1,j,Y,a,dx,fs,ex,ea,l,q⟩=>?_) T;subst ex;obtain rfl:u=Value.ref a:=Y;refine gC j ea c n l ?_;exact W.callWith_K0 (first:=[.ref a]) j.Xy n.kp (p6 (us:=[.ref a]) (vs:=[.ref a]) F G J N O j (.cons rfl .nil) q)
theorem FunD.ok2{P:Program}{st:Stmt}(F:FunD K x c st f m T r)(S:WT N j (aa st))(len:∀d H Q E,l d H Q E->d.length=j.length)
  (e:∀(a:Value)(A:Around)(outer:List Env)(s:Shared)(H:Hp)(d:List V)(Q:VK)(E:XK),W2 k (A.deeper (envOfC c (aa st) s.heap.objs.size f a))->l d H Q E ->
   ∃t,XH (bG (Xb P w) P w K mg base N c (aa st) f a A outer s H E) (aV st) t/\t {nx:=λ_ n=>Q .WX n,rt:=Q} (start N d) H):WV P w K mg base (Xb P w) (k+1) f m j l:=by
 obtain⟨oc,u,kV,doc,v,y,a,ct,p,rfl,lk,g⟩:=F.ex;exact zE lk g S len λA outer s H d Q E q i=>e a A outer s H d Q E q i
end L2
namespace L2
open PySem PySem.Spec PyProof.Rows
section
end
end L2
namespace L2
open PySem PySem.Spec PySem.Calls PyProof.Rows
section
variable{elt t0 i0 t1 i1:Expr}{sc:Scope}{pos:Pos}
noncomputable abbrev lc2(elt t0 i0 t1 i1:Expr)(sc:Scope)(pos:Pos):Expr:=.ListComp elt [⟨t0,i0,[],0⟩,⟨t1,i1,[],0⟩] sc pos
theorem Bz(it a:Value)(env:Env):compTurn (lc2 elt t0 i0 t1 i1 sc pos) 0 it a env=(standAt i0.pos >>= λ_=>pyNext it >>= λr=>match r with
  |none=>pure (.done .next)
  |some v=>letOwnedTupleGo t0 it v >>= λ_=>assign t0 env v >>= λ_=>eval i1 env >>= λx=>standAt i1.pos >>= λ_=>foldedSetIterable i1 env x >>= λy=>holding [y] (pyIter y) >>= λi =>
    runOwn (.compStart (lc2 elt t0 i0 t1 i1 sc pos) 1 i a env) env >>= λ_=>again (.compLoop (lc2 elt t0 i0 t1 i1 sc pos) 0 it a env)):=by rfl
theorem DV(it a:Value)(env:Env):compTurn (lc2 elt t0 i0 t1 i1 sc pos) 1 it a env=(standAt i1.pos >>= λ_=>pyNext it >>= λr=>match r with
  |none=>pure (.done .next)
  |some v=>letOwnedTupleGo t1 it v >>= λ_=>assign t1 env v >>= λ_=>(eval elt env >>= λx=>call (.builtin "list.append") [a,x] >>= λ_=>pure ()) >>= λ_=>again (.compLoop (lc2 elt t0 i0 t1 i1 sc pos) 1 it a env)):=by rfl
theorem CT(J:Nat->Shared->Prop)
  (f:∀n s,J n s->wpAny (model prog w) A (pyNext it) (λr a=>match r with
   |none=>R (.ok .next) a
   |some v=>wpAny (model prog w) A (letOwnedTupleGo t1 it v) (λ_ c=>wpAny (model prog w) A (assign t1 env v) (λ_ d =>
     wpAny (model prog w) A (eval elt env) (λx s₅=>wpAny (model prog w) A (call (.builtin "list.append") [g,x]) (λ_ s₆=>∃m,m<n/\J m s₆) (λ_ _=>False) s₅) (λ_ _=>False) d) (λ_ _=>False) c) (λ_ _=>False) a) (λ_ _=>False) s)
  (n:Nat) (h:J n s):codeAny (model prog w) A (.compLoop (lc2 elt t0 i0 t1 i1 sc pos) 1 it g env) R s:=by
 refine codeAny_loop rfl J (λn s l=>?_) n h;show wpAny (model prog w) A ((compTurn (lc2 elt t0 i0 t1 i1 sc pos) 1 it g env).onRaise λx=>do noteFrame x env;theTreesLotGoes x) _ _ s;refine wpAny_noted (WI ?_);rw[DV];refine Ar (UG (Ar (WY (f n s l) λr a e=>?_)))
 cases r with
 |none=>exact RB e
 |some v=>exact Ar (WY e λ_ c i=>Ar (WY i λ_ d j=>Ar (Ar (WY j λx s₅ h₅=>Ar (WY h₅ λ_ s₆ h₆=>RB (RB ⟨rfl,h₆⟩))))))
theorem As(J:Nat->Shared->Prop)
  (f:∀n s,J n s->wpAny (model prog w) A (pyNext it) (λr a=>match r with
   |none=>R (.ok .next) a
   |some v=>wpAny (model prog w) A (letOwnedTupleGo t0 it v) (λ_ c=>wpAny (model prog w) A (assign t0 env v) (λ_ d =>
     wpAny (model prog w) A (eval i1 env) (λx s₄=>wpAny (model prog w) A (pyIter x) (λi s₅=>codeAny (model prog w) A (.compStart (lc2 elt t0 i0 t1 i1 sc pos) 1 i g env) (λr s₆=>r=.ok .next/\∃m,m<n/\J m s₆) s₅) (λ_ _=>False) s₄) (λ_ _=>False) d) (λ_ _=>False) c) (λ_ _=>False) a) (λ_ _=>False) s)
  (n:Nat) (h:J n s) (hs:∀x,foldedSetIterable i1 env x=pure x):codeAny (model prog w) A (.compLoop (lc2 elt t0 i0 t1 i1 sc pos) 0 it g env) R s:=by
 refine codeAny_loop rfl J (λn s p=>?_) n h;show wpAny (model prog w) A ((compTurn (lc2 elt t0 i0 t1 i1 sc pos) 0 it g env).onRaise λx=>do noteFrame x env;theTreesLotGoes x) _ _ s;refine wpAny_noted (WI ?_);rw[Bz];refine Ar (UG (Ar (WY (f n s p) λr a e=>?_)))
 cases r with
 |none=>exact RB e
 |some v =>refine Ar (WY e λ_ c j=>Ar (WY j λ_ d l=>Ar (WY l λx s₄ h₄=>?_)));refine Ar (UG (Ar (wpAny_of_eq (hs x) ?_)));refine Ar (UA (WY h₄ λi s₅ h₅=>Ar (wpAny_runOwn (h:=none) (UC h₅ λr s₆ h₆=>?_))));obtain⟨rfl,h₆⟩:=h₆;exact RB ⟨rfl,h₆⟩
theorem Bw(d:codeAny (model prog w) A (.compLoop (lc2 elt t0 i0 t1 i1 sc pos) 1 it a env) R s)
  (h:wpAny (model prog w) A (pyIter it) (λj c=>codeAny (model prog w) A (.compLoop (lc2 elt t0 i0 t1 i1 sc pos) 1 j a env) R c) (λ_ _=>False) s) :
  codeAny (model prog w) A (.compStart (lc2 elt t0 i0 t1 i1 sc pos) 1 it a env) R s:=by
 refine codeAny_of_tree ?_;show wpAny _ _ ((compStart (lc2 elt t0 i0 t1 i1 sc pos) 1 it a env).onRaise λx=>do noteFrame x env;standAt theWindowsPlace) _ _ s;refine wpAny_notedAt (WI ?_);unfold compStart;show wpAny _ _ (ask >>= _) _ _ s;refine Ar (wpAny_askSetting (wpAny_ite ?_));split
 ·exact RB ⟨rfl,d⟩
 ·exact Ar (Wf (Ar (UG (Ar (WY h λj c e=>RB ⟨rfl,e⟩)))))
end
section
theorem xP{X:Cx}{j:Scope}{cl:List (Str×Addr)}{C:Addr}{l:List Str}{p:Shared}{q:Hp}{f:List Addr}{M t0 i0 t1 i1:Expr}{O:Scope}{Q:Pos}{a:List (Addr×Obj)}{σ:St}{H:Hp}{s:Shared}{U:List Addr}{it:Addr}{J:It}{tn:Nat->Heap->Prop}{g1:TG}{te:TE}{D:Addr}{Nx:St->Hp->Prop}
  (I:Inv (X.Xl j cl C l p q f) a σ H s) (hc:X.calm=true) (T:gR X.prog X.w X.K t1 J U it tn) (st:tn 0 s.heap) (f2:∀b∈U,eK (X.Xl j cl C l p q f) a H b) (hg:PG (X.Xl j cl C l p q f) t1 g1) (he:PE (X.Xl j cl C l p q f) M te)
  (hw:∃V:Nat->Nat->St->Hp->Prop,(∃m,V 0 m σ H)/\∀i m c g,V i m c g->(J.stop i g/\Nx c g)\/(J.go i g/\∃Ny:St->Hp->Prop,(∀E Y,Ny E Y->∃m',m'<m/\V (i+1) m' E Y) /\
   ∀x Y,J.yld i g x Y->g1 x c Y λσ2 H2=>te σ2 H2 λv H4=>∃ys,H4 D=some (.lst ys)/\ys.length<sizeLine/\Ny σ2 (upd H4 D (.lst (ys++[v]))))) :
  codeAny (model X.prog X.w) X.A (.compStart (lc2 M t0 i0 t1 i1 O Q) 1 (.ref it) (.ref D) (compEnvC j cl C X.env)) (λr N=>r=.ok .next/\∃c g,Inv (X.Xl j cl C l p q f) a c g N/\Nx c g) s:=by
 obtain⟨V,⟨m0,v0⟩,turn⟩:=hw;have Yc:∀{g:Hp},(∀b∈U,g b=none)->∀b∈U,eK (X.Xl j cl C l p q f) a g b:=λhn b B=>⟨hn b B,(f2 b B).2⟩
 have G:codeAny (model X.prog X.w) X.A (.compLoop (lc2 M t0 i0 t1 i1 O Q) 1 (.ref it) (.ref D) (compEnvC j cl C X.env)) (λr N=>r=.ok .next/\∃c g,Inv (X.Xl j cl C l p q f) a c g N/\Nx c g) s:=by
  refine CT (λn N=>∃i c g,Inv (X.Xl j cl C l p q f) a c g N/\tn i N.heap/\(∀b∈U,g b=none)/\V i n c g) ?_ m0 ⟨0,σ,H,I,st,λb B=>(f2 b B).1,v0⟩;rintro n s3 ⟨i,t,H3,I3,st3,fr3,w3⟩;rcases turn i n t H3 w3 with⟨stop,qn⟩|⟨go,Ny,hN,step⟩
  ·refine WY (T.done (X.Xl j cl C l p q f) rfl rfl rfl hc i a s3 t H3 _ I3 (Yc fr3) st3 stop) λr s4 ⟨hr,I4⟩=>?_;subst hr;exact⟨rfl,t,H3,I4,qn⟩
  ·refine WY (T.item (X.Xl j cl C l p q f) rfl rfl rfl hc i a s3 t H3 _ I3 (Yc fr3) st3 go) λr s4 ⟨u,hr,h4⟩=>?_;subst hr;refine WY h4 λ_ s5 ⟨x,H5,I5,r5,y5,ZI,fr5⟩=>?_;have I5':=I5.pinned (Yc fr5) (T.obj _ _ ZI);refine WY (hg _ s5 t H5 x u _ I5' r5 (step x H5 y5)) λ_ s6 ⟨z,H6,I6,q6⟩=>?_;refine WY (he _ s6 z H6 _ I6 q6) λy s8 ⟨v,H8,I8,rv,ys,hD8,hz,nx⟩=>?_;refine WY (fQ (X:=(X.Xl j cl C l p q f)) _ s8 z H8 (.ref D) [v] (.ref D) [y] (λ_ H9=>Ny z H9) I8 rfl (.cons rv .nil) ⟨_,ys,v,rfl,rfl,hD8,hz,nx⟩) λ_ s9 ⟨_,H9,I9,_,n9⟩=>?_;obtain⟨m',hm,w9⟩:=hN z H9 n9;refine⟨m',hm,i+1,z,H9,I9.XS,T.keep _ _ _ ZI λb B o e=>(I9.pin (b,o) (TZ _ (TZ _ (aX B e)))).1,λb B=>?_,w9⟩;obtain⟨o,e,d⟩:=T.obj _ _ ZI b B;exact(I9.pin (b,o) (TZ _ (TZ _ (aX B e)))).2.1
 exact Bw G (T.self _ 0 _ _ _ st G)
end
noncomputable def ZM(M:TI)(mk:St->St)(g:TG)(N:TI)(g1:TG)(O:TE):TE:=λz H Q=>M z H λJ B=>∀D,B D=none->∃W:Nat->Nat->St->Hp->Prop,(∃m,W 0 m (mk z) (upd B D (.lst [])))/\∀i m d e,W i m d e ->
 (J.stop i e/\Q (.ref D) e) \/
 (J.go i e/\∃E:St->Hp->Prop,(∀a f,E a f->∃l,l<m/\W (i+1) l a f)/\∀x f,J.yld i e x f->g x d f λn T=>N n T λu U=>∃V:Nat->Nat->St->Hp->Prop,(∃m,V 0 m n U)/\∀j m c p,V j m c p->(u.stop j p/\E c p) \/
     (u.go j p/\∃G:St->Hp->Prop,(∀q r,G q r->∃l,l<m/\V (j+1) l q r)/\∀y r,u.yld j p y r->g1 y c r λt Y=>O t Y λv I=>∃w,I D=some (.lst w)/\w.length<sizeLine/\G t (upd I D (.lst (w++[v])))))
section
theorem xo{X:Cx}{elt iter tg t1 i1:Expr}{t:Scope}{pos:Pos}{w1:TI}{own:List Str}{fr:List Nat}{N':List Str}{g g1:TG}{te:TE}{pins:List (Addr×Obj)}{σ:St}{H:Hp}{s:Shared}{cl:List (Str×Addr)}{f:List Addr}{it:Addr}{J:It}{tn:Nat->Heap->Prop}{E:Value->Shared->Prop}{Q:VK}{RR:Value->Addr->Result->Shared->Prop}
  (hs1:∀(cl:List (Str×Addr))(C:Addr)(x:Value),foldedSetIterable i1 (compEnvC t cl C X.env) x=pure x) (I:Inv X pins σ H s) (B:Blk X.N X.env.kindOf t.names own fr N') (hk:t.kind=.function) (hc:X.calm=true)
  (sub:∀x c,cl.lookup x=some c->X.env.cells.lookup x=some c) (has:∀p∈t.names,p.2=.free->cl.lookup p.1=X.env.cells.lookup p.1)
  (T:gR X.prog X.w X.K tg J f it tn) (st:tn 0 s.heap) (f2:∀b∈f,eK X pins H b)
  (hg:∀cl C s H f,PG (X.Xl t cl C N' s H f) tg g) (hI1:∀cl C s H f,PI (X.Xl t cl C N' s H f) t1 i1 w1) (hg1:∀cl C s H f,PG (X.Xl t cl C N' s H f) t1 g1) (he:∀cl C s H f,PE (X.Xl t cl C N' s H f) elt te)
  (hw:∀D,H D=none->∃W:Nat->Nat->St->Hp->Prop,(∃m,W 0 m (Zw own fr σ) (upd H D (.lst [])))/\∀i m q M,W i m q M ->
   (J.stop i M/\Q (.ref D) M) \/
   (J.go i M/\∃Nx:St->Hp->Prop,(∀σ'' Xu,Nx σ'' Xu->∃m',m'<m/\W (i+1) m' σ'' Xu)/\∀x Xu,J.yld i M x Xu->g x q Xu λσ2 H2=>w1 σ2 H2 λJ1 H3=>∃V:Nat->Nat->St->Hp->Prop,(∃m,V 0 m σ2 H3)/\∀j m σ4 H4,V j m σ4 H4->(J1.stop j H4/\Nx σ4 H4) \/
     (J1.go j H4/\∃Ny:St->Hp->Prop,(∀σ5 H5,Ny σ5 H5->∃m',m'<m/\V (j+1) m' σ5 H5)/\∀y H5,J1.yld j H4 y H5->g1 y σ4 H5 λσ6 H6=>te σ6 H6 λv H7=>∃ys,H7 D=some (.lst ys)/\ys.length<sizeLine/\Ny σ6 (upd H7 D (.lst (ys++[v]))))))
  (hRR:∀D C q M s',D=s.heap.objs.size->s.heap.objs.size<=C->Inv (X.Xl t cl C N' s H f) [] q M s'->Q (.ref D) M->RR (.ref D) C (.ok .next) s') :
  wpAny (model X.prog X.w) X.A (newList []) (λacc O=>wpAny (model X.prog X.w) X.A (newFunctionEnv t X.env.globals cl [] X.env.qual none .none (some X.env)) (λcenv s₄ =>
   codeAny (model X.prog X.w) X.A (.compStart (.ListComp elt [⟨tg,iter,[],0⟩,⟨t1,i1,[],0⟩] t pos) 0 (.ref it) acc {cenv with scope:=relabel t X.env}) (RR acc cenv.locals) s₄) E O) E s:=by
 have fo:∀b∈f,b<s.heap.objs.size:=λb Y=>by obtain⟨o,e,_⟩:=T.obj _ _ st b Y;exact TJ e
 refine UK (wpAny_newFunctionEnv B.cell (by intro y hy;simp at hy) (λU a l=>?_) hk);dsimp only at a l ⊢;generalize hH2:s.heap.push {cls:=.type "list",dict:=none,data:=.seq ([]:List Value).toArray}=G at a l ⊢;have hG:G.objs.size=s.heap.objs.size+1:=by rw[<- hH2,Ui]
 have hlt:s.heap.objs.size<G.objs.size:=by rw[hG];exact Va _
 have old:∀b o,s.heap.get? b=some o->U.get? b=some o:=λb o e =>
  l.extBut b o (TV (UR (TJ e) hlt)) (LD _ (hH2▸LD _ e))
 have hacc:U.get? s.heap.objs.size=some {cls:=.type "list",data:=.seq ([]:List Value).toArray} :=
  l.extBut _ _ (TV hlt) (LD _ (hH2▸TX _ rfl))
 obtain⟨W,⟨m0,w0⟩,turn⟩:=hw s.heap.objs.size (I.hok.fresh (TN _));have st₁:tn 0 U:=T.keep _ _ _ st λb _ o e=>old b o e
 have hns':U.Ns G.objs.size (λ_=>none):=by
  have e:(λx=>([]:List (Str×Value)).reverse.lookup x)=(λ_:Str=>(none:Option Value)):=by funext x;rfl
  first
   |exact a
   | (rw[e]at a;exact a)
 have loop:∀O:Shared,O={s with heap:=U,toks:=s.toks+([]:List (Str×Value)).length} ->
   codeAny (model X.prog X.w) X.A (.compLoop (.ListComp elt [⟨tg,iter,[],0⟩,⟨t1,i1,[],0⟩] t pos) 0 (.ref it) (.ref s.heap.objs.size) (compEnvC t cl G.objs.size X.env)) (RR (.ref s.heap.objs.size) G.objs.size) O:=by
  rintro O rfl;have I0:=nA (tk:=s.toks+([]:List (Str×Value)).length) I B hk sub has f2 fo rfl hlt hns' old hacc
  have Yc:∀{XN:List (Addr×Obj)}{M:Hp},XN=[]->(∀b∈f,M b=none)->∀b∈f,eK (X.Xl t cl G.objs.size N' s H f) XN M b:=λep hn b Y=>by
   subst ep;refine⟨hn b Y,TV (UR (fo b Y) hlt),λz=>?_,.inl Y,λx c e=>(f2 b Y).2.2.2.2.1 x c (sub x c e),λp hp=>absurd (show p∈([]:List (Addr×Obj)) from hp) (by simp)⟩;rcases T3.mp (I.YG b z)with e|e
   ·exact(f2 b Y).2.1 e
   ·exact(f2 b Y).2.2.1 e
  have fr0:∀b∈f,upd H s.heap.objs.size (.lst []) b=none:=λb Y=>by rw[ag (TV (fo b Y))];exact(f2 b Y).1
  refine As (λn s'=>∃i q M,Inv (X.Xl t cl G.objs.size N' s H f) [] q M s'/\tn i s'.heap/\(∀b∈f,M b=none)/\W i n q M) ?_ m0 ⟨0,_,_,I0,st₁,fr0,w0⟩ (hs1 _ _);rintro n s3 ⟨i,σ3,H3,I3,st3,fr3,w3⟩;rcases turn i n σ3 H3 w3 with⟨stop,qn⟩|⟨go,Nx,hN,step⟩
  ·refine WY (T.done (X.Xl t cl G.objs.size N' s H f) rfl rfl rfl hc i [] s3 σ3 H3 _ I3 (Yc rfl fr3) st3 stop) λr s4 ⟨hr,I4⟩=>?_;subst hr;exact hRR _ _ _ _ _ rfl (UX hlt) I4 qn
  ·refine WY (T.item (X.Xl t cl G.objs.size N' s H f) rfl rfl rfl hc i [] s3 σ3 H3 _ I3 (Yc rfl fr3) st3 go) λr s4 ⟨u,hr,h4⟩=>?_;subst hr;refine WY h4 λ_ s5 ⟨x,H5,I5,r5,y5,ZI,fr5⟩=>?_;have I5':=I5.pinned (Yc rfl fr5) (T.obj _ _ ZI);refine WY (hg cl G.objs.size s H f _ s5 σ3 H5 x u _ I5' r5 (step x H5 y5)) λ_ s6 ⟨σ6,H6,I6,q6⟩=>?_
   have again:∀{s8:Shared}{σ8:St}{H8:Hp},Inv (X.Xl t cl G.objs.size N' s H f) ([]++gH f s5.heap) σ8 H8 s8->Nx σ8 H8 ->
     ∃m,m<n/\∃i q M,Inv (X.Xl t cl G.objs.size N' s H f) [] q M s8/\tn i s8.heap/\(∀b∈f,M b=none)/\W i m q M:=λ{s8 σ8 H8} I8 n8=>by
    obtain⟨m',hm,w8⟩:=hN σ8 H8 n8;refine⟨m',hm,i+1,σ8,H8,I8.XS,T.keep _ _ _ ZI λb Y o e=>(I8.pin (b,o) (TZ _ (TZ _ (aX Y e)))).1,λb Y=>?_,w8⟩;obtain⟨o,e,d⟩:=T.obj _ _ ZI b Y;exact(I8.pin (b,o) (TZ _ (TZ _ (aX Y e)))).2.1
   refine WY (hI1 cl G.objs.size s H f _ s6 σ6 H6 _ I6 q6) λx6 s7 h7=>WY h7 λitv s8 h8=>?_;obtain⟨it1,fp1,tn1,J1,H8,e8,I8,T1,st8,f8,body8⟩:=h8;subst e8;exact UC (xP I8 hc T1 st8 f8 (hg1 cl G.objs.size s H f) (he cl G.objs.size s H f) body8) λr s9 ⟨hr,σ9,H9,I9,n9⟩=>⟨hr,again I9 n9⟩
 exact V5 (loop _ rfl) (T.self _ 0 _ _ _ st₁ (loop _ rfl))
theorem sE{c:Scope}{f:Pos}(hi:PI X E iter wi)(hk:c.kind=.function)(hb:bO X.N X.env.kindOf c.names O fr G=true)(hc:X.calm=true)
  (hg:∀cl C s H j,PG (X.Xl c cl C G s H j) E g) (U:∀cl C s H j,PI (X.Xl c cl C G s H j) t1 M w1) (Y:∀cl C s H j,PG (X.Xl c cl C G s H j) t1 g1) (he:∀cl C s H j,PE (X.Xl c cl C G s H j) l te)
  (hN:X.N.Nodup) (hy:X.N[i]?=some y) (hx:X.env.scope.names.lookup y=some .local)
  (hsw:swapsWith (.ListComp l [⟨E,iter,[],0⟩,⟨t1,M,[],0⟩] c r) (some (.Name y t)) f.line X.env=pure true)
  (hs:∀x,foldedSetIterable iter X.env x=pure x:=by intro _;rfl) (hs1:∀(cl:List (Str×Addr))(C:Addr)(x:Value),foldedSetIterable M (compEnvC c cl C X.env) x=pure x:=by intro _ _ _;rfl):PS X (.Assign [.Name y t] (.ListComp l [⟨E,iter,[],0⟩,⟨t1,M,[],0⟩] c r) f) (Y6 (ZM wi (Zw O fr) g w1 g1 te) (dZ i)):=by
 intro d s σ H D I h;have B:=tQ hb;obtain⟨cl,hcl,sub,has⟩:=BZ c X.env λp hp e=>I.ok.has p.1 (B.free p hp e);rw[exec_Assign_Name_used _ _ _ _ hsw];refine Ar (UG (Ar ?_));show wpAny _ _ (do let _ <- comprehension (.ListComp l [⟨E,iter,[],0⟩,⟨t1,M,[],0⟩] c r) c X.env _ (newList []) false (eval iter X.env) (some (assign (.Name y t) X.env))) _ _ s
 refine Ar (Up (Vs (use:=some (assign (.Name y t) X.env)) (Q:=λ_ n=>SP X d D .next n) rfl hs hcl hk B.loc
  (WY (hi d s σ H _ I h) λv s1 h1=>WY h1 λitv s2 h2=>?_)) (λ_ n hq=>RB (RB hq)) λ_ _ e=>e)
 obtain⟨it,j,tn,J,H2,e,u,T,st2,f2,body⟩:=h2;subst e;refine xo (Q:=λv H'=>D.nx (σ.set i (some v)) H') (RR:=λacc C=>compPost (model X.prog X.w) X.A X.xe (some (assign (.Name y t) X.env)) (λ_ n=>SP X d D .next n) acc C) hs1 u B hk hc sub has T st2 f2 hg U Y he body ?_;intro D' C σ' H' n eD hC J' q;have I3:=oR u f2 J';show wpAny _ _ (assign (.Name y t) X.env (.ref D')) _ _ n;refine WK (jt I3 hN hy (.inl hx) (v:=.ref D') rfl (λs4 I4 ⟨a,hsb,ha⟩=>?_) (.inr hx));obtain⟨m,hn,_⟩:=J'.loc
 have hCa:C≠a:=by
  rcases ha with e|e
  ·rw[e];exact UB (TR u.lt hC)
  ·obtain⟨v,z⟩:=u.cell _ _ e;exact UB (TR z.lt hC)
 refine⟨m,hn.sameBut hsb hCa,λh' hs'=>⟨_,H',?_,q⟩⟩;exact Inv.young u I4 hC J'.free hs'
end
theorem A3{X:Cx}{t:(St->XK)->TS}{E:Ends->St->XK}
  (O:∀(pn:List (Addr×Obj))(xe:Value->Shared->Prop)(E:St->XK),aE (Xb X.prog X.w) {X with pn:=pn,xe:=xe} E->PassesOwn (model X.prog X.w) X.A X.env xe->XH {X with pn:=pn,xe:=xe} body (t E))
  (hand:∀(c:List (Addr×Obj))(D:Ends)(l:St)(H:Hp)(a:Addr)(cls:Value)(r:Option Addr)(s:Shared),i6 X c l H a cls r s->E D l cls r H->wpAny (model X.prog X.w) X.A (handleBy (.ref a) X.env hs) (SP X c D) X.xe s)
  (B:X.stack=X.env::X.outer:=by rfl) (G:X.env.frame=some X.env.locals:=by rfl) (J:∃h t,hs=h::t) :
  PS X (.Try body hs [] [] Q) (λD l H=>t (E D) D l H):=by
 intro c s l H D I h;obtain⟨T,U,rfl⟩:=J
 refine wpAny_Try_except (Up (O (X.pn++c) (λe m=>wpAny (model X.prog X.w) X.A (noteFrame e X.env) (λ_ n=>wpAny (model X.prog X.w) X.A (setFlight e none) (λ_ p =>
  wpAny (model X.prog X.w) X.A (handleBy e X.env (T::U)) (SP X c D) X.xe p) X.xe n) X.xe m) _ ?_ PassesOwn.looking [] s l H D I.inTry h) (λf M y=>?_) λe M z=>z)
 ·intro XN N H1 M e s2 Y x1;refine Ej I.ok Y x1 (λa cls r H' s' he q L=>?_) B G;subst he;exact hand c D N H' a cls r s' L q
 ·cases f with
  |next=>obtain⟨d,g,i,j⟩:=y;exact cJ c M d g D (i.Xw I.ok) j
  |brk=>obtain⟨d,g,i,j⟩:=y;exact⟨d,g,i.Xw I.ok,j⟩
  |cont=>obtain⟨d,g,i,j⟩:=y;exact⟨d,g,i.Xw I.ok,j⟩
  |ret u=>obtain⟨v,d,g,i,r3,j⟩:=y;exact⟨v,d,g,i.Xw I.ok,r3,j⟩
theorem A1{X:Cx}{t:(St->XK)->TS}{f:TS}{C:Value}
  (m:∀(pn:List (Addr×Obj))(xe:Value->Shared->Prop)(E:St->XK),aE (Xb X.prog X.w) {X with pn:=pn,xe:=xe} E->PassesOwn (model X.prog X.w) X.A X.env xe->XH {X with pn:=pn,xe:=xe} body (t E))
  (n:Gl X x) (p:X.mg x=some C) (r:∀e:Value,XH (X.hand e) (d::a) f)
  (g:X.stack=X.env::X.outer:=by rfl) (i:X.env.frame=some X.env.locals:=by rfl) (u:(x==("__debug__":Str))=false:=by decide) :
  PS X (.Try body [.ExceptHandler (some (.Name x B)) none (d::a) l] [] [] v) (λD y H=>t (λc cls _ j=>W.exmOne X.K cls C=some true/\f D c j) D y H) :=
 A3 (E:=λD c cls _ j=>W.exmOne X.K cls C=some true/\f D c j) m (λ_ _ _ _ _ _ _ _ L q=>B8 L n p r q.1 (λ_=>q.2) (λz=>nomatch z) u) g i ⟨_,_,rfl⟩
section
end
noncomputable def Jx(K:W.Frag)(n:Nat)(t:TGs):TG:=λv d H Q=>∃a c,v=.ref a/\Xk K H a c/\c.length=n/\t c d H Q
theorem Di{X:Cx}(j:X.calm=true)(h:PGs X d t)
  (l:(assignEach d X.env).length=n:=by rfl) (f:(assignEach d X.env).findIdx? (·.1)=none:=by rfl):PG X (.Tuple d k m) (Jx X.K n t):=λc s p H v u Q I r ⟨a,q,w,y,hl,z⟩=>by
 subst w;cases r;obtain⟨g,i,B,G⟩:=I.list y;have en:(assignEach d X.env).length=g.toArray.size:=by rw[l,<- hl,i.length,TH]
 rw[assign_Tuple];refine Ar (UG ?_);unfold unpack;rw[en,f];refine Ar (UA (W.kun_itemsOf (I.ok.hd j) B.isList λJ E=>?_));exact h c _ p H q _ Q (I.kept (t':=s.toks) λb o e=>E b o (TV (TJ e)) e) (by simpa using i) z
section
theorem gB{A:Around}{s:Shared}(c:IsTup s.heap t a)(hs:s.heap.IsSliceOf d x y z)
  (h:wpAny (model prog w) A.in1 (Builtin.Slice.sliceApplied (.ref d) (pure (a.size:Int))) (λr j=>wpAny (model prog w) A.in1 (do
   if r.1==0&&r.2.1==1&&r.2.2==a.size then
    if <- Builtin.Tuple.tupleIsExact (.ref t)then rule "tuple.getitem.whole";return <- ret (.ref t)
   return <- ret (<- Builtin.Tuple.tupleExact ((List.range r.2.2).filterMap λ(k:Nat)=>a[(r.1+(k:Int)*r.2.1).toNat]?).toArray)) (λfin l=>∃v,fin=.done (.ret v)/\Q v l) E j) E s):wpAny (model prog w) A (getItem (.ref t) (.ref d)) Q E s:=by
 obtain⟨os,f,g,m⟩:=id hs;have i:s.TypeIs (.ref d) "slice":=⟨os,f,g⟩
 unfold getItem
 try with_reducible refine UA ?_
 first|refine Ar (RB ?_)|skip
 refine Ar (wpAny_sequenceKey c.typeIs (by decide) (Ar (Uy (name:=Str.ofString "__getitem__") c.typeIs Ux
  (UQ Ux c.typeIs entry_tuple_getitem ?_ (args_tuple_getitem _ _)))))
 show wpAny _ _ (Builtin.Tuple.tupleItemsOf (.ref t) >>= _) _ _ s;refine Ar (tupleItemsOf_ c (Ar (wpAny_typeOf i ?_)));rw[TY (by decide)];refine Ar (Up h (λr j k=>?_) λ_ _ z=>z);obtain⟨lo,step,n⟩:=r;refine Up k (λfin p ⟨v,e,q⟩=>⟨v,e,RB q⟩) λ_ _ z=>z
theorem ij{A:Around}{s:Shared}{lo:Option Int}(c:IsTup s.heap t a)(hs:s.heap.IsSliceOf e f g .none)(i:IsPart f lo)(j:IsPart g l)
  (d:HT.Xs a.size 0 lo=0/\HT.Xs a.size a.size l=a.size) (h:Q (.ref t) s):wpAny (model prog w) A (getItem (.ref t) (.ref e)) Q E s:=by
 refine gB c hs (HT.X6 hs i j ?_);rw[d.1,d.2];dsimp only;rw[TY (by simp)];unfold Builtin.Tuple.tupleIsExact;refine Ar (Ar (wpAny_typeOf c.typeIs (RB ?_)));rw[TY (by decide)];refine Ar (Wf ?_);exact Ar (RB (RB ⟨_,rfl,h⟩))
end
noncomputable def MT(K:W.Frag):V->Option Int->Option Int->Hp->VK->Prop:=λx lo d H Q=>∃a c,x=.ref a/\Xz K H a c/\(HT.Xs c.length 0 lo=0/\HT.Xs c.length c.length d=c.length->Q x H) /\
 (¬ (HT.Xs c.length 0 lo=0/\HT.Xs c.length c.length d=c.length)->∀p,H p=none->Q (.ref p) (upd H p (.tup (eL c lo d))))
theorem qw:SlR X (MT X.K):=λd s q H x v t u lo i w Q I j hs l m ⟨a,c,ex,n,y,z⟩=>by
 by_cases f:HT.Xs c.length 0 lo=0/\HT.Xs c.length c.length i=c.length
 ·subst ex;cases j;obtain⟨g,r,p,B⟩:=I.tuple n;have e:g.toArray.size=c.length:=by rw[TH];exact r.length.symm
  exact⟨"tuple",_,Ux.lookup,p.typeIs,ij p hs l m (by rw[e];exact f) ⟨.ref a,H,I,rfl,y f⟩⟩
 ·exact Ip d s q H x v t u lo i w Q I j hs l m ⟨a,c,ex,n,f,z f⟩
noncomputable def Ez(K:W.Frag):R2:=λx y H Q=>∃a b c,x=.ref a/\y=.ref b/\Xz K H a []/\Xz K H b c/\Q (.ref b) H
theorem op_catE:XT X (binaryOp .Add) (Ez X.K):=λc s w H x y v u Q I i j ⟨a,b,z,ex,l,m,n,q⟩=>by subst ex l;cases i;cases j;obtain⟨B,p,r,_⟩:=I.tuple m;obtain⟨E,r2,t,_⟩:=I.tuple n;have e1:=p.Zd.mpr rfl;subst e1;obtain⟨⟨c1,d1,t1,l1⟩,d,e,n1,m1⟩:=id r;obtain⟨⟨c2,d2,G,l2⟩,f,g,n2,m2⟩:=id t;simp only at e m1 g m2;subst e m1 g m2;exact concat_meets ⟨_,d,rfl⟩ ⟨_,f,rfl⟩ noFill_tuple_add seq_tuple_add F.slot_tuple_add WL (WB _ _) (tuple_addW0 a b _ _ n1 n2 d1 d2 l1 l2 rfl) ⟨d,f,.ref b,H,I,rfl,q⟩
noncomputable def EB(K:W.Frag):R2:=λx y H Q=>Ez K x y H Q\/EA K x y H Q
theorem pG:XT X (binaryOp .Add) (EB X.K):=op_catE.or C8
section
end
noncomputable def Cx.X8(X:Cx)(c:Scope)(cl:List (Str×Addr))(a:Str)(d:Addr)(C:Addr)(N:List Str)(s:Shared)(H:Hp)(e:List Addr):Cx:={X.Xl c ((a,d)::cl) C N s H e with fn:=λx=>x==a}
structure yO(x0:Str)(N:List Str)(ok:Str->Option NameKind)(names:List (Str×NameKind))(own:List Str)(fr:List Nat)(N':List Str):Prop where
 eN:N'=own++fr.map λj=>N.getD j ""
 fr:∀j∈fr,j<N.length/\names.lookup (N.getD j "")=some .free
 free:∀p∈names,p.2=.free->ok p.1=some .cell\/ok p.1=some .free
 cell:∀p∈names,p.2=.cell->p.1=x0
 loc:∀p∈names,p.2=.local->names.lookup p.1=some .local
section
theorem tP{X:Cx}{M:List (Addr×Obj)}{σ:St}{H:Hp}{s:Shared}{m:Scope}{cl:List (Str×Addr)}{t:List Str}{fr:List Nat}{N':List Str}{fp:List Addr}{f:Str}{g:Addr}(I:Inv X M σ H s)(B:yO f X.N X.env.kindOf m.names t fr N')(hk:m.kind=.function)
  (sub:∀x c,cl.lookup x=some c->X.env.cells.lookup x=some c) (has:∀p∈m.names,p.2=.free->cl.lookup p.1=X.env.cells.lookup p.1)
  (f2:∀b∈fp,eK X M H b) (fo:∀b∈fp,b<s.heap.objs.size) {h1:Heap} {tk:Nat} {C D:Addr} {n:Nat} (U:D=s.heap.objs.size) (eC:s.heap.objs.size<C)
  (hx0:m.names.lookup f=some .cell) (Q:s.heap.objs.size<g) (hc0:h1.IsCell g none) (hns:h1.Ns C (λ_=>none)) (old:∀b o,s.heap.get? b=some o->h1.get? b=some o) (hD:h1.get? D=some {cls:=.type "list",data:=.seq ([]:List Value).toArray n}) :
  Inv (X.X8 m cl f g C N' s H fp) [] (Zw t fr σ) (upd H D (.lst [])) {s with heap:=h1,toks:=tk}:=by
 have Zk:∀x c,cl.lookup x=some c->c<s.heap.objs.size:=λx c e=>by obtain⟨v,q⟩:=I.cell x c (sub x c e);exact q.lt
 have look:∀x,x≠f->List.lookup x ((f,g)::cl)=cl.lookup x:=λx T=>by
  rw[Uh];have:(x==f)=false:=by simpa using T
  rw[this]
 have w:List.lookup f ((f,g)::cl)=some g:=by rw[Uh];simp
 have a:∀x c,List.lookup x ((f,g)::cl)=some c->(x=f/\c=g)\/(x≠f/\cl.lookup x=some c):=λx c e=>by
  by_cases T:x=f
  ·subst T;rw[w]at e;exact .inl ⟨rfl,(T7 e).symm⟩
  ·rw[look x T]at e;exact .inr ⟨T,e⟩
 have hDn:H D=none:=I.hok.fresh (Vr U.symm);have kind:∀x,(X.X8 m cl f g C N' s H fp).env.kindOf x=(m.names.lookup x).map (rk X.env x):=λx=>iF m X.env x
 refine⟨⟨I.ok.mod,hk,I.ok.glob,I.ok.blt,UX eC,λx y c e1 e2=>?_,λx T=>?_,(λx c e1 e2=>?_),I.ok.hd,I.ok.frames,.inl rfl,λb O=>⟨?_,λx c e=>?_⟩,I.bs,Ub I.ok.Z9 I.sz,λb o e O=>?_,λb O=>?_,I.stack,I.YI⟩,
  rfl,I.bare,Un.laid old (Vr U.symm) hDn,⟨_,hns,λi x v e1 e2 e3=>?_⟩,λx c e=>?_,?_,λx c e=>?_,λp hp=>?_,I.hok.laid old (Vr U.symm) ⟨Uw _,[],n,.nil,hD⟩,?_⟩
 ·rcases a x c e1 with⟨E,d⟩|⟨E,d⟩<;>rcases a y c e2 with⟨b1,b2⟩|⟨b1,b2⟩
  ·rw[E,b1]
  ·exact absurd (UR (Zk y c b2) (by rw[d];exact Q)) (Uz _)
  ·exact absurd (UR (Zk x c d) (by rw[b2];exact Q)) (Uz _)
  ·exact I.ok.inj x y c (sub x c d) (sub y c b2)
 ·have G:(m.names.lookup x).map (rk X.env x)=some .cell\/(m.names.lookup x).map (rk X.env x)=some .free:=by
   rw[<- kind x];exact T
  cases q:m.names.lookup x with
  |none=>rw[q]at G;simp at G
  |some k =>
   have Y:=UE q;by_cases hf:k=.free
   ·subst hf;show ∃c,List.lookup x ((f,g)::cl)=some c;rw[look x (λz=>by rw[z,hx0]at q;cases q),has _ Y rfl];have z:=B.free _ Y rfl;exact I.ok.has x z
   ·rw[q]at G;simp only[U8,Bj hf]at G;rcases G with z|z
    ·have:=B.cell _ Y (T7 z);exact⟨g,by rw[show x=f from this];exact w⟩
    ·exact absurd (T7 z) hf
 ·rcases a x c e2 with⟨E,d⟩|⟨E,d⟩
  ·rw[d];show s.heap.objs.size<=g;lia
  ·have e1:(x==f)=true:=e1;exact absurd (by simpa using e1) E
 ·exact TV (UR (fo b O) eC)
 ·rcases a x c e with⟨E,d⟩|⟨E,d⟩
  ·rw[d];exact UB (UR (fo b O) Q)
  ·exact(f2 b O).2.2.2.2.1 x c (sub x c d)
 ·rcases(f2 b O).2.2.2.1 with z|z
  ·exact I.ok.ZH b o e z
  ·exact absurd (TR (TJ e) (Ub I.ok.Z9 z)) (Uz _)
 ·intro z;rcases T3.mp (I.YG b z)with e|e
  ·exact(f2 b O).2.1 e
  ·exact(f2 b O).2.2.1 e
 ·
  have ZT:N'[i]?=some x:=e1
  have hi:¬ i<t.length:=λz=>by unfold Zw at e2;rw[Uo (by simpa using z),T4,RL z]at e2;cases e2
  unfold Zw at e2;rw[Uj (by simpa using hi),T8,T4]at e2;rw[B.eN,Uj (by simpa using hi),T4]at ZT
  cases q:fr[i - t.length]? with
  |none=>rw[q]at e2;cases e2
  |some j =>
   rw[q]at e2 ZT;simp only[U8,Option.some.injEq]at e2 ZT;obtain⟨hj,J⟩:=B.fr j (US q)
   have ej:X.N[j]?=some x:=by rw[<- ZT,UJ,RL hj];rfl
   have eσ:σ[j]?=some (some v):=by
    cases z:σ[j]? with
    |none=>rw[z]at e2;cases e2
    |some o=>rw[z]at e2;simp only[V7]at e2;rw[e2]
   rw[ZT]at J;have Y:=UE J;have hok:=B.free _ Y rfl;obtain⟨m0,hn0,hl0⟩:=I.loc
   have hv:Vis X.env.scope x:=by
    rcases hok with z|z
    ·exact .inr (.inl z)
    ·exact .inr (.inr z)
   obtain⟨u,r,l⟩:=hl0 j x v ej eσ hv;refine⟨u,r,?_⟩;rcases l with⟨z,_⟩|⟨_,c,hc,o,ho,hd⟩
   ·have ZK:X.env.kindOf x=some .cell\/X.env.kindOf x=some .free:=hok;rw[z]at ZK;rcases ZK with y|y<;>cases y
   ·refine .inr ⟨?_,c,?_,o,old c o ho,hd⟩
    ·rw[kind x,J];rcases wN (env:=X.env) (x:=x)with y|y
     ·exact .inl (by rw[U8,y])
     ·exact .inr (by rw[U8,y])
    ·show List.lookup x ((f,g)::cl)=some c;rw[look x (λz=>by rw[z,hx0]at J;cases J)];have z:=has _ Y rfl;exact z.trans hc
 ·rcases a x c e with⟨E,d⟩|⟨E,d⟩
  ·rw[d];exact⟨none,hc0⟩
  ·obtain⟨v,o,ho,hd⟩:=I.cell x c (sub x c d);exact⟨v,o,old c o ho,hd⟩
 ·show upd H D _ C=none;rw[ag (by rw[U];exact UB eC)];exact I.hok.fresh (UX eC)
 ·show upd H D _ c=none;rcases a x c e with⟨E,d⟩|⟨E,d⟩
  ·rw[d,ag (by rw[U];exact UB (by lia))];exact I.hok.fresh (by lia)
  ·rw[ag (by rw[U];exact TV (Zk x c d))];exact I.XE x c (sub x c d)
 ·exact absurd (show p∈([]:List (Addr×Obj)) from hp) (by simp)
 ·show(Zw t fr σ).length=N'.length;rw[B.eN];simp[Zw]
theorem y2{X:Cx}{a:List (Addr×Obj)}{g:St}{H:Hp}{s:Shared}{l:Scope}{cl:List (Str×Addr)}{m:List Str}{e:List Addr}{n:Str}{p:Addr}{C:Addr}{f:St}{i:Hp}{j:Shared}(I:Inv X a g H s)(c:∀b∈e,eK X a H b)(J:Inv (X.X8 l cl n p C m s H e) [] f i j):Inv X a g i j :=
 I.YY (ch:=e) J.os J.base J.hok J.bare λb d=>⟨(c b d).2.2.2.1,(c b d).2.1,(c b d).2.2.2.2.1,(c b d).2.2.2.2.2⟩
end
theorem r8{s:Shared}{scope:Scope}{env:Env}(d:∀n c,cellsFrom n scope.names c=(g,n)::c)(e:∀h,pushCells h scope.names=h.push {cls:=.type "cell",data:=.cell none})(hk:scope.kind=.function)
  (i:Q {scope,locals:=s.heap.objs.size,globals,cells:=(g,s.heap.objs.size+1)::a,qual,func:=none,code:=env.code,frame:=env.frame,builtins:=env.builtins} {s with heap:=(s.heap.push {cls:=.type "dict",data:=.dict #[]}).push {cls:=.type "cell",data:=.cell none}}) :
  wpAny M A (newFunctionEnv scope globals a [] qual none .none (some env)) Q E s:=by
 simp only[newFunctionEnv,Option.isSome_some,VU];refine Ar (wpAny_alloc ?_);refine Ar (wpAny_layCells _ (λname kind cells=>by cases f:kind==NameKind.cell<;>simp[f]) _ _ _ _ ?_);rw[d,e];rw[show({s with heap:=s.heap.push {cls:=.type "dict",data:=.dict #[]}}:Shared).heap.objs.size=s.heap.objs.size+1 from Ui ..];exact Ar (RB (RB i))
section
theorem xp{X:Cx}{elt iter tg:Expr}{ifs:List Expr}{j:Scope}{pos:Pos}{own:List Str}{fr:List Nat}{Y:List Str}{g:TG}{tt:TT}{te:TE}{U:Str}{pins:List (Addr×Obj)}{σ:St}{H:Hp}{s:Shared}{cl:List (Str×Addr)}{a:List Addr}{it:Addr}{J:It}{tn:Nat->Heap->Prop}{E:Value->Shared->Prop}{Q:VK}{RR:Value->Addr->Result->Shared->Prop}
  (I:Inv X pins σ H s) (B:yO U X.N X.env.kindOf j.names own fr Y) (hk:j.kind=.function) (hc:X.calm=true) (hx0:j.names.lookup U=some .cell) (hcf:∀n acc,cellsFrom n j.names acc=(U,n)::acc) (hpc:∀h,pushCells h j.names=h.push {cls:=.type "cell",data:=.cell none})
  (sub:∀x c,cl.lookup x=some c->X.env.cells.lookup x=some c) (has:∀p∈j.names,p.2=.free->cl.lookup p.1=X.env.cells.lookup p.1)
  (T:gR X.prog X.w X.K tg J a it tn) (st:tn 0 s.heap) (f2:∀b∈a,eK X pins H b)
  (hg:∀cl c0 C s H a,PG (X.X8 j cl U c0 C Y s H a) tg g) (ht:∀cl c0 C s H a,ke (X.X8 j cl U c0 C Y s H a) ifs tt) (he:∀cl c0 C s H a,PE (X.X8 j cl U c0 C Y s H a) elt te)
  (hw:∀D,H D=none->∃W:Nat->Nat->St->Hp->Prop,(∃m,W 0 m (Zw own fr σ) (upd H D (.lst [])))/\∀i m l q,W i m l q ->
   (J.stop i q/\Q (.ref D) q) \/
   (J.go i q/\∃Nx:St->Hp->Prop,(∀σ'' Xu,Nx σ'' Xu->∃m',m'<m/\W (i+1) m' σ'' Xu)/\∀x Xu,J.yld i q x Xu->g x l Xu λσ2 H2=>tt σ2 H2 λb H3 =>
    if b=true then te σ2 H3 λv H4=>∃ys,H4 D=some (.lst ys)/\ys.length<sizeLine/\Nx σ2 (upd H4 D (.lst (ys++[v])))else Nx σ2 H3))
  (hRR:∀D c0 C l q s',D=s.heap.objs.size->s.heap.objs.size<=C->Inv (X.X8 j cl U c0 C Y s H a) [] l q s'->Q (.ref D) q->RR (.ref D) C (.ok .next) s') :
  wpAny (model X.prog X.w) X.A (newList []) (λacc t=>wpAny (model X.prog X.w) X.A (newFunctionEnv j X.env.globals cl [] X.env.qual none .none (some X.env)) (λcenv s₄ =>
   codeAny (model X.prog X.w) X.A (.compStart (.ListComp elt [⟨tg,iter,ifs,0⟩] j pos) 0 (.ref it) acc {cenv with scope:=relabel j X.env}) (RR acc cenv.locals) s₄) E t) E s:=by
 have fo:∀b∈a,b<s.heap.objs.size:=λb M=>by obtain⟨o,e,_⟩:=T.obj _ _ st b M;exact TJ e
 refine UK (r8 hcf hpc hk ?_);dsimp only;generalize hH2:s.heap.push {cls:=.type "list",dict:=none,data:=.seq ([]:List Value).toArray}=G;have hG:G.objs.size=s.heap.objs.size+1:=by rw[<- hH2,Ui]
 have hlt:s.heap.objs.size<G.objs.size:=by rw[hG];exact Va _
 generalize hh:(G.push {cls:=.type "dict",data:=.dict #[]}).push {cls:=.type "cell",data:=.cell none}=f;have oG:∀b o,G.get? b=some o->f.get? b=some o:=λb o e=>by rw[<- hh];exact LD _ (LD _ e)
 have old:∀b o,s.heap.get? b=some o->f.get? b=some o:=λb o e=>oG b o (hH2▸LD _ e);have hacc:f.get? s.heap.objs.size=some {cls:=.type "list",data:=.seq ([]:List Value).toArray}:=oG _ _ (hH2▸TX _ rfl)
 have hcl:f.IsCell (G.objs.size+1) none:=⟨{cls:=.type "cell",data:=.cell none},by
  rw[<- hh,show G.objs.size+1=(G.push {cls:=.type "dict",data:=.dict #[]}).objs.size from (Ui ..).symm];exact TX _ rfl,rfl⟩
 have hns':f.Ns G.objs.size (λ_=>none):=by rw[<- hh];exact(Heap.Ns.new G (.type "dict")).keeps λb o e=>LD _ e
 obtain⟨W,⟨m0,w0⟩,turn⟩:=hw s.heap.objs.size (I.hok.fresh (TN _));have st₁:tn 0 f:=T.keep _ _ _ st λb _ o e=>old b o e
 have loop:∀t:Shared,t={s with heap:=f,toks:=s.toks} ->
   codeAny (model X.prog X.w) X.A (.compLoop (.ListComp elt [⟨tg,iter,ifs,0⟩] j pos) 0 (.ref it) (.ref s.heap.objs.size) (compEnvC j ((U,G.objs.size+1)::cl) G.objs.size X.env)) (RR (.ref s.heap.objs.size) G.objs.size) t:=by
  rintro t rfl;have I0:=tP (tk:=s.toks) I B hk sub has f2 fo rfl hlt hx0 (V0 hlt) hcl hns' old hacc
  have Yc:∀{XN:List (Addr×Obj)}{q:Hp},XN=[]->(∀b∈a,q b=none)->∀b∈a,eK (X.X8 j cl U (G.objs.size+1) G.objs.size Y s H a) XN q b:=λep hn b M=>by
   subst ep;refine⟨hn b M,TV (UR (fo b M) hlt),λz=>?_,.inl M,λx c e=>?_,λp hp=>absurd (show p∈([]:List (Addr×Obj)) from hp) (by simp)⟩
   ·rcases T3.mp (I.YG b z)with e|e
    ·exact(f2 b M).2.1 e
    ·exact(f2 b M).2.2.1 e
   ·have e:List.lookup x ((U,G.objs.size+1)::cl)=some c:=e;rw[Uh]at e;split at e
    ·rw[<- T7 e];exact UB (V0 (UR (fo b M) hlt))
    ·exact(f2 b M).2.2.2.2.1 x c (sub x c e)
  have fr0:∀b∈a,upd H s.heap.objs.size (.lst []) b=none:=λb M=>by rw[ag (TV (fo b M))];exact(f2 b M).1
  refine hV (λn s'=>∃i l q,Inv (X.X8 j cl U (G.objs.size+1) G.objs.size Y s H a) [] l q s'/\tn i s'.heap/\(∀b∈a,q b=none)/\W i n l q) ?_ m0 ⟨0,_,_,I0,st₁,fr0,w0⟩;rintro n s3 ⟨i,σ3,H3,I3,st3,fr3,w3⟩;rcases turn i n σ3 H3 w3 with⟨stop,qn⟩|⟨go,Nx,hN,step⟩
  ·refine WY (T.done (X.X8 j cl U (G.objs.size+1) G.objs.size Y s H a) rfl rfl rfl hc i [] s3 σ3 H3 _ I3 (Yc rfl fr3) st3 stop) λr s4 ⟨hr,I4⟩=>?_;subst hr;exact hRR _ _ _ _ _ _ rfl (UX hlt) I4 qn
  ·refine WY (T.item (X.X8 j cl U (G.objs.size+1) G.objs.size Y s H a) rfl rfl rfl hc i [] s3 σ3 H3 _ I3 (Yc rfl fr3) st3 go) λr s4 ⟨u,hr,h4⟩=>?_;subst hr;refine WY h4 λ_ s5 ⟨x,H5,I5,r5,y5,ZI,fr5⟩=>?_;have I5':=I5.pinned (Yc rfl fr5) (T.obj _ _ ZI);refine WY (hg cl (G.objs.size+1) G.objs.size s H a _ s5 σ3 H5 x u _ I5' r5 (step x H5 y5)) λ_ s6 ⟨O,H6,I6,q6⟩=>?_;refine WY (ht cl (G.objs.size+1) G.objs.size s H a _ s6 O H6 _ I6 q6) λok s7 ⟨H7,I7,q7⟩=>?_
   have again:∀{s8:Shared}{H8:Hp},Inv (X.X8 j cl U (G.objs.size+1) G.objs.size Y s H a) ([]++gH a s5.heap) O H8 s8->Nx O H8 ->
     ∃m,m<n/\∃i l q,Inv (X.X8 j cl U (G.objs.size+1) G.objs.size Y s H a) [] l q s8/\tn i s8.heap/\(∀b∈a,q b=none)/\W i m l q:=λ{s8 H8} I8 n8=>by
    obtain⟨m',hm,w8⟩:=hN O H8 n8;refine⟨m',hm,i+1,O,H8,I8.XS,T.keep _ _ _ ZI λb M o e=>(I8.pin (b,o) (TZ _ (TZ _ (aX M e)))).1,λb M=>?_,w8⟩;obtain⟨o,e,d⟩:=T.obj _ _ ZI b M;exact(I8.pin (b,o) (TZ _ (TZ _ (aX M e)))).2.1
   cases ok with
   |false =>rw[TQ TU]at q7 ⊢;exact again I7 q7
   |true =>rw[TY rfl]at q7 ⊢;refine WY (he cl (G.objs.size+1) G.objs.size s H a _ s7 O H7 _ I7 q7) λy s8 ⟨v,H8,I8,rv,ys,hD8,hz,nx⟩=>?_;refine WY (fQ (X:=X.X8 j cl U (G.objs.size+1) G.objs.size Y s H a) _ s8 O H8 (.ref s.heap.objs.size) [v] (.ref s.heap.objs.size) [y] (λ_ H9=>Nx O H9) I8 rfl (.cons rv .nil) ⟨_,ys,v,rfl,rfl,hD8,hz,nx⟩) λ_ s9 ⟨_,H9,I9,_,n9⟩=>?_;exact again I9 n9
 exact V5 (loop _ rfl) (T.self _ 0 _ _ _ st₁ (loop _ rfl))
theorem AN{a:Scope}(hi:PI X tg iter wi)(hk:a.kind=.function)(hb:yO j X.N X.env.kindOf a.names l fr r)(t:a.names.lookup j=some .cell)(u:∀n c,cellsFrom n a.names c=(j,n)::c)(y:∀h,pushCells h a.names=h.push {cls:=.type "cell",data:=.cell none})(hc:X.calm=true)
  (hg:∀cl f C s H i,PG (X.X8 a cl j f C r s H i) tg g) (ht:∀cl f C s H i,ke (X.X8 a cl j f C r s H i) z tt) (he:∀cl f C s H i,PE (X.X8 a cl j f C r s H i) E te)
  (hs:∀x,foldedSetIterable iter X.env x=pure x:=by intro _;rfl):PE X (.ListComp E [⟨tg,iter,z,0⟩] a pos) (YK wi (Zw l fr) g tt te):=by
 intro d s σ H Q I h;have B:=hb;obtain⟨cl,G,sub,has⟩:=BZ a X.env λp hp e=>I.ok.has p.1 (B.free p hp e);rw[eval_ListComp];refine Vs (use:=none) rfl hs G hk B.loc (WY (hi d s σ H _ I h) λv s1 h1=>WY h1 λitv s2 h2=>?_);obtain⟨it,i,tn,J,H2,e,M,T,O,f2,body⟩:=h2;subst e;refine xp (RR:=λc C=>compPost (model X.prog X.w) X.A X.xe none (EP X d σ Q) c C) M B hk hc t u y sub has T O f2 hg ht he body ?_;intro D f C σ' H' s' eD hC U q;obtain⟨m,hn,_⟩:=U.loc;refine⟨m,hn,λh' Y=>⟨.ref D,H',?_,rfl,q⟩⟩;exact Inv.young M (y2 M f2 U) hC U.free Y
end
noncomputable def oQ(c:Str)(N:List Str)(ok:Str->Option NameKind)(names:List (Str×NameKind))(a:List Str)(fr:List Nat)(d:List Str):Bool :=
 decide (d=a++fr.map λj=>N.getD j "")&&(fr.all λj=>decide (j<N.length)&&Fo (names.lookup (N.getD j ""))) &&
  names.all λp=>match p.2 with
   | .free=>Fm (ok p.1)
   | .cell=>decide (p.1=c)
   | .local=>Fp (names.lookup p.1)
   |_=>true
theorem BW(h:oQ f N ok names d fr g=true):yO f N ok names d fr g:=by
 unfold oQ at h;rw[Tz,Tz]at h;obtain⟨⟨i,l⟩,m⟩:=h;have a:=U3.mp m;refine⟨Ue i,λj n=>?_,λp c e=>?_,λp c e=>?_,λp c e=>?_⟩
 ·have q:=U3.mp l j n;rw[Tz]at q;exact⟨Ue q.1,wa q.2⟩
 ·have q:=a p c;rw[e]at q;exact v9 q
 ·have q:=a p c;rw[e]at q;exact Ue q
 ·have q:=a p c;rw[e]at q;exact wb q
section
end
end L2
namespace L2
open PySem PySem.Spec PyProof.Rows
section
noncomputable def K5(K:W.Frag)(c:Bool):R2:=λx y H Q=>∃l f a d,y=.ref l/\Xk K H l f/\WW K H a f/\Dat K H d x/\Xp a=true/\XY d=true/\Xj a<=20/\Q (.bl (if c then !(a.any λe=>Xd e d)else a.any λe=>Xd e d)) H
theorem zQ{X:Cx}{k:Nat}(hr:W2 k X.A){B:List (Addr×Obj)}{σ:St}{H:Hp}{s:Shared}{x:V}{u:Value}{l:Addr}{O:List V}{t:List D}{d:D}(I:Inv X B σ H s)(ru:RelV x u)(hq:Xk X.K H l O)(E:WW X.K H t O)(hd:Dat X.K H d x)(n1:Xp t=true)(n2:XY d=true)(dp:Xj t<=20) :
  ∃(a:List Value)(p:Value->Bool),s.heap.IsList l a.toArray/\(∀w∈a.toArray,SeqAt.EqAt X.A.in1 s w u (p w))/\a.toArray.any p=t.any λe=>Xd e d:=by
 obtain⟨a,r,pl,hz⟩:=I.list hq;have hl:=r.length;have ll:=E.length
 have item:∀(m:Nat)(w:Value),a[m]?=some w->∃g,t[m]?=some g/\∃G,RelV G w/\Dat X.K H g G:=λm w c=>by have Y:m<a.length:=(M1.mp c).1;obtain⟨g,j,dg⟩:=E.getV (i:=m) (v:=O[m]'(by lia)) (RL (by lia));obtain⟨w',n,rr⟩:=r.get (i:=m) (x:=O[m]'(by lia)) (RL (by lia));rw[c]at n;cases n;exact⟨g,j,_,rr,dg⟩
 have q:∀{Q T:V}{w:Value},RelV Q w->RelV T w->Q=T:=λ{Q T w} h1 h2=>RelV.inj h1 h2
 classical
 let p:Value->Bool:=λw=>if c:∃m:Nat,a[m]?=some w then (match t[Classical.choose c]? with|some g=>Xd g d|none=>false)else false
 have y:∀(m:Nat)(w:Value)(g:D),a[m]?=some w->t[m]?=some g->p w=Xd g d:=λm w g c j=>by
  have n:∃m:Nat,a[m]?=some w:=⟨m,c⟩
  show(if c:∃m:Nat,a[m]?=some w then _ else false)=_;rw[dif_pos n];have hc:=Classical.choose_spec n;obtain⟨g',J,xv',U,d1⟩:=item _ w hc;obtain⟨g2,M,G,r2,d2⟩:=item m w c;rw[j]at M;cases M;rw[J];have ex:=q U r2;subst ex;have:=kH I g' g (bI n1 J) d1 d2 (bI n1 j);rw[this]
 have hu:X.A.in1.units+20+1<cLine:=by have:=hr.un;show X.A.units+1+20+1<cLine;lia
 refine⟨a,p,pl.isList,λw c=>?_,?_⟩
 ·obtain⟨m,Y,rfl⟩:=Array.getElem_of_mem c;have z:m<a.length:=by simpa using Y
  have N:a[m]?=some (a[m]'z):=RL z;obtain⟨g,j,G,U,d1⟩:=item m _ N;have z1:a.toArray[m]=a[m]'z:=by simp
  rw[z1,y m _ g N j];exact o7 I 20 X.A.in1 g d G x _ u hu (Ub (dJ j) dp) (bI n1 j) n2 d1 hd U ru
 ·rw[show a.toArray.any p=a.any p by simp]
  have em:a.map p=t.map λe=>Xd e d:=by
   apply List.ext_getElem?;intro m;rw[T4,T4]
   cases c:a[m]? with
   |none =>have:a.length<=m:=UP.mp c;rw[List.getElem?_eq_none (by lia)];rfl
   |some w =>obtain⟨g,j,_⟩:=item m w c;rw[j];show some (p w)=some (Xd g d);rw[y m w g c j]
  have e1:∀{α:Type}(f:α->Bool)(l:List α),l.any f=(l.map f).any id:=λf l=>by rw[List.any_map];rfl
  rw[e1 p a,em,<- e1]
theorem Hd{X:Cx}(e:W2 k X.A):XT X (compareOp .In) (K5 X.K false):=by intro c s z H x y v u Q I f g h;obtain⟨l,B,E,d,rfl,i,a,j,n1,n2,m,q⟩:=h;cases g;obtain⟨n,p,r,t,w⟩:=zQ e I f i a j n1 n2 m;exact SeqAt.in_listAt p r t ⟨.bl _,H,I,rfl,by rw[w];exact q⟩
end
end L2
namespace L2
open PySem PySem.Spec PySem.Calls PyProof.Rows
theorem AS(J:PE X o M)(c:ZC X.K C)(y:Meth X.K C m f)(F:WV X.prog X.w X.K X.mg X.base N k f O T U)(Y:W2 k X.A)(hb:Binds X.K O T ds)(hd:Vals XX ds)(hx:aE N X E)(ha:PA X (e::j) t)
  (p:starEach (e::j) X.env=(false,eval e X.env)::starEach j X.env:=by rfl) (v:(backTo d (starEach j X.env)).any (·.1)=false:=by rfl)
  (ht:eval (.Call (.Attribute o m g) (e::j) [] d) X.env=(do
   let z <- eval o X.env
   standAt g.atName
   let(f,first) <- holding [z] (getMethod z m pl)
   callWith d f first (backTo d (starEach (e::j) X.env)) (backToKw d (keywordEach [] X.env))):=by rfl) :
  PE X (.Call (.Attribute o m g) (e::j) [] d) (λn=>EK C m U XX (E n) M t n):=by
 intro i s n H Q I h;refine W.methodCall_KW (pl:=pl) (WY (J i s n H _ I h) λu s1 ⟨x,H1,B,rx,a,dx,fs,ex,ea,l,q⟩=>?_) ht;subst ex;obtain rfl:u=Value.ref a:=rx;refine gC B ea c y l ?_;refine VN (first:=[.ref a]) (h₀:=X.base) I.ok.mod.kin y.kp (WY (ha d i s1 n H1 _ B q) λus s2 ⟨vs,H2,G,r,q2⟩=>⟨G.Xy,?_⟩) p v;exact p6 (us:=.ref a::us) (vs:=.ref a::vs) F Y hb hd hx G (.cons rfl r) q2
theorem A2{X:Cx}{t:(St->XK)->TS}{th g:TS}{C:Value}
  (hb:∀(pn:List (Addr×Obj))(xe:Value->Shared->Prop)(E:St->XK),aE (Xb X.prog X.w) {X with pn:=pn,xe:=xe} E->XH {X with pn:=pn,xe:=xe} body (t E))
  (hg:Gl X x) (hm:X.mg x=some C) (p:X.N.Nodup) (hi:X.N[i]?=some n) (hl:X.env.kindOf n=some .local) (hh:∀e:Value,XH (X.hand e) (l::j) th) (r:Gl X u) (v:X.mg u=some C') (y:X.N[i']?=some n') (B:X.env.kindOf n'=some .local) (G:∀e:Value,XH (X.hand e) (m::ZN) g)
  (I:X.stack=X.env::X.outer:=by rfl) (J:X.env.frame=some X.env.locals:=by rfl) (hd:(x==("__debug__":Str))=false:=by decide) (M:(u==("__debug__":Str))=false:=by decide) :
  PS X (.Try body [.ExceptHandler (some (.Name x np)) (some n) (l::j) hpos,.ExceptHandler (some (.Name u np')) (some n') (m::ZN) O] [] [] pos)
   (λD σ H=>t (λd cls Q f=>(W.exmOne X.K cls C=some true/\∃c,cls=.ref c/\∀a,f a=none->th (D.gone i) (d.set i (some (.ref a))) (upd f a (BO a c Q)))\/(W.exmOne X.K cls C=some false/\W.exmOne X.K cls C'=some true/\∃c,cls=.ref c/\∀a,f a=none->g (D.gone i') (d.set i' (some (.ref a))) (upd f a (gq a c)))) D σ H) :=
 wC (E:=λD d cls Q f=>(W.exmOne X.K cls C=some true/\∃c,cls=.ref c/\∀a,f a=none->th (D.gone i) (d.set i (some (.ref a))) (upd f a (BO a c Q)))\/(W.exmOne X.K cls C=some false/\W.exmOne X.K cls C'=some true/\∃c,cls=.ref c/\∀a,f a=none->g (D.gone i') (d.set i' (some (.ref a))) (upd f a (gq a c)))) hb (λ_ _ _ _ a _ _ _ L q=>by
  rcases q with⟨T,c,U,Y⟩|⟨T,Y,c,U,h3⟩
  ·exact vY L hg hm p hi hl hh T (λ_=>⟨c,U,Y a L.na⟩) (λz=>nomatch z) hd
  ·exact vY L hg hm p hi hl hh T (λz=>nomatch z) (λ_=>rM L r v p y B G Y (λ_=>⟨c,U,h3 a L.na⟩) (λz=>nomatch z) M) hd) I J ⟨_,_,rfl⟩
theorem vD(l:Addr)(v:Value)(n:Nat)(d:Option Addr)(f:Array (Option Value))(x:Int)(u:Tok)(j:2<=x)(m:x<=1000) :
  Meets (Builtin.«tuple.__mul__» ⟨[.ref l,.int x u],[]⟩) (λ_ R s=>s.heap.get? l=some {cls:=.type "tuple",dict:=d,data:=.seq #[v] n,slots:=f}/\R (.ok (.ret (Value.ref s.heap.objs.size))) {s with heap:=s.heap.push {cls:=.type "tuple",data:=.seq ((List.replicate x.toNat #[v]).foldl (λa b=>a++b) #[])}}) :=
 .of_wp λ_ _ _ _ s q=>by
  obtain⟨p,g0,r,t,w⟩:=s;obtain⟨c,q⟩:=q;have c1:¬ (decide (x < -2 ^ 63)||decide (x ≥ 2 ^ 63))=true:=by simp;omega
  have c2:¬ ((#[v]:Array Value).isEmpty||x==1)=true:=by simp;omega
  have c3:¬ (decide (x<=0)||(#[v]:Array Value).isEmpty)=true:=by simp;omega
  have c4:¬ (((#[v]:Array Value).size:Int)*x>(2 ^ 63 - 1) / 8):=by simp;omega
  have c5:¬ Builtin.Tuple.tupleTooMany (((#[v]:Array Value).size:Int)*x)=true:=by unfold Builtin.Tuple.tupleTooMany;rw[Ul];simp;omega
  have c6:((List.replicate x.toNat #[v]).foldl (λa b=>a++b) #[]).size<=sizeLine:=by have e:=cj [v] x.toNat [];have g:(List.replicate x.toNat #[v]).foldl (λa b=>a++b) #[]=([]++(List.replicate x.toNat [v]).flatten).toArray:=e;rw[g,TH,List.nil_append,pw,Ul];simp;omega
  generalize i:(List.replicate x.toNat #[v]).foldl (λa b=>a++b) #[]=W at c6 q
  wp_walk
  rw[TQ c1]
  wp_walk
  rw[TQ c2];rw[TQ c3];rw[TQ c4];rw[TQ c5];rw[i];exact Ar (UK (RB ⟨_,rfl,q⟩) c6)
noncomputable def EC(K:W.Frag):R2:=λx y H Q=>∃a v i,x=.ref a/\y=.int i/\2<=i/\i<=1000/\Xz K H a [v]/\∀p,H p=none->Q (.ref p) (upd H p (.tup (List.replicate i.toNat v)))
theorem DL(v:Value)(n:Nat):(List.replicate n #[v]).foldl (λa b=>a++b) #[]=(List.replicate n v).toArray:=by
 have e:=cj [v] n [];have c:(List.replicate n #[v]).foldl (λa b=>a++b) #[]=([]++(List.replicate n [v]).flatten).toArray:=e;rw[c,List.nil_append];congr 1
 induction n with
 |zero=>rfl
 |succ n d=>rw[UN,Vn,d (cj [v] n []) (cj [v] n []),UN];rfl
theorem tw(r:RelV z a):∀n:Nat,Vals (List.replicate n z) (List.replicate n a)
 |0=>.nil
 |n+1=>.cons r (tw r n)
theorem Da:XT X (binaryOp .Mult) (EC X.K):=by
 intro d s O H x y v u Q I l m h;obtain⟨a,z,i,rfl,rfl,w,B,E,q⟩:=h;cases l;obtain⟨t,rfl⟩:=m;obtain⟨G,r,p,_⟩:=I.tuple E;obtain⟨J,rfl,M⟩:=bq r;obtain⟨⟨cls,e,data,f⟩,c,g,n,j⟩:=id p;simp only at g j;subst g j
 refine wpAny_binaryOp_repeat_ref (T:="tuple") (U:="int") (by decide) ⟨_,c,rfl⟩ (λN=>WO N i t) jg F.fills_int_mul Wi pV F.slot_int_index.lookup
  (Vp Wi (WO s i t) F.entry_int_rmul (F.args_int_rmul_2 _ _) (lH i t a _ n e f)
   ⟨c,rfl,⟨_,c,rfl⟩,Vp F.slot_tuple_mul ⟨_,c,rfl⟩ F.entry_tuple_mul (F.args_tuple_mul_2 _ _) (vD a J n e f i t w B) ⟨c,?_⟩⟩)
 rw[DL];refine⟨.ref s.heap.objs.size,_,I.laid (t':=s.toks) (o:=.tup (List.replicate i.toNat z)) (λb ob q=>LD _ q) (TN _) ?_,rfl,q _ (I.hok.fresh (TN _))⟩;exact⟨by rw[Ul,Vz];omega,_,tw M _,Wz _ _⟩
end L2
namespace EV
open PySem PySem.Spec PyProof.Rows L2
inductive A where
 |WX|bl (b:Bool)|int (i:Int)|str (n:Nat)|tup (xs:List A)
 |ref (i:Nat)|cl (xs:List A)|tab (t:Nat)|YL (n:Nat)|YU (n:Nat)|X5|any
inductive C where
 |lst (xs:List A)|ZF (xs:List A)|dct (ks:List (Nat×A))|Zq|obj (k:Nat) (fs:List (Nat×A))
noncomputable abbrev Env:=List (Option A)
structure WU where
 nx:Nat
 cs:List (Nat×C)
noncomputable def look{α:Type}(n:Nat):List (Nat×α)->Option α
 |[]=>none
 | (k,a)::r=>match Nat.beq k n with
  |true=>some a
  |false=>look n r
noncomputable def put{α:Type}(n:Nat)(x:α):List (Nat×α)->List (Nat×α)
 |[]=>[]
 | (k,a)::r=>match Nat.beq k n with
  |true=>(k,x)::r
  |false=>(k,a)::put n x r
theorem aq{α:Type}{n:Nat}{a:α}{r:List (Nat×α)}:look n ((k,a)::r)=if k=n then some a else look n r:=by
 show(match Nat.beq k n with|true=>some a|false=>look n r)=_;by_cases h:k=n
 ·rw[TY h,h,show Nat.beq n n=true from Wm n]
 ·rw[TQ h]
  cases q:Nat.beq k n with
  |true=>exact absurd (Ug q) h
  |false=>rfl
theorem iE{α:Type}{n:Nat}{a x:α}{r:List (Nat×α)}:put n x ((k,a)::r)=if k=n then (k,x)::r else (k,a)::put n x r:=by
 show(match Nat.beq k n with|true=>(k,x)::r|false=>(k,a)::put n x r)=_;by_cases h:k=n
 ·rw[TY h,h,show Nat.beq n n=true from Wm n]
 ·rw[TQ h]
  cases q:Nat.beq k n with
  |true=>exact absurd (Ug q) h
  |false=>rfl
theorem du:∀{l:List (Nat×α)}{j:Nat}{c:α},look j (put n x l)=some c->(j=n/\c=x/\∃f,look n l=some f)\/(j≠n/\look j l=some c)
 |[],j,c,h=>nomatch h
 | (k,a)::r,j,c,h=>by
  rw[iE]at h;by_cases e:k=n
  ·rw[TY e,aq]at h;by_cases d:k=j
   ·rw[TY d]at h;cases h;exact .inl ⟨by rw[<- d,e],rfl,a,by rw[aq,TY e]⟩
   ·rw[TQ d]at h;exact .inr ⟨λz=>d (by rw[e,z]),by rw[aq,TQ d];exact h⟩
  ·rw[TQ e,aq]at h;by_cases d:k=j
   ·rw[TY d]at h;cases h;exact .inr ⟨λz=>e (by rw[d,z]),by rw[aq,TY d]⟩
   ·rw[TQ d]at h;rcases du h with⟨z,q,f,q0⟩|⟨z,q⟩
    ·exact .inl ⟨z,q,f,by rw[aq,TQ e];exact q0⟩
    ·exact .inr ⟨z,by rw[aq,TQ d];exact q⟩
structure Gx where
 K:W.Frag
 ST:List Str
 nd:ST.Nodup
 cls:Nat->Addr
 tb:Nat->Addr
mutual
noncomputable def R(g:Gx)(H:Hp)(m:List Addr):A->V->Prop
 | .WX,v=>v=.WX
 | .bl b,v=>v=.bl b
 | .int i,v=>v=.int i
 | .str n,v=>∃x,g.ST[n]?=some x/\v=.str x
 | .tup d,v=>∃a c,v=.ref a/\Xz g.K H a c/\Rs g H m d c
 | .ref i,v=>∃a,m[i]?=some a/\v=.ref a
 | .cl d,v=>∃a c,v=.ref a/\BP g.K a c/\Rs g H m d c
 | .tab t,v=>v=.ref (g.tb t)
 | .YL n,v=>∃a,v=.ref a/\H a=some (.ext (qr a n))
 | .YU n,v=>∃a,v=.ref a/\H a=some (.YU 0 n)
 | .X5,v=>∃a e,v=.ref a/\Scr g.K H a e
 | .any,_=>True
noncomputable def Rs(g:Gx)(H:Hp)(m:List Addr):List A->List V->Prop
 |[],a=>a=[]
 |x::c,a=>∃v r,a=v::r/\R g H m x v/\Rs g H m c r
end
noncomputable def Rk(g:Gx)(H:Hp)(m:List Addr):List (Nat×A)->List (Key×V)->Prop :=
 Paired λp q=>(∃x,g.ST[p.1]?=some x/\q.1=.inr x)/\R g H m p.2 q.2
noncomputable def Rf(g:Gx)(H:Hp)(m:List Addr):List (Nat×A)->List (Str×V)->Prop :=
 Paired λp q=>g.ST[p.1]?=some q.1/\R g H m p.2 q.2
noncomputable def COk(g:Gx)(H:Hp)(m:List Addr):C->Addr->Prop
 | .lst e,a=>∃c,H a=some (.lst c)/\Rs g H m e c
 | .ZF e,a=>∃c,H a=some (.lst c)/\Rs g H m e c
 | .dct i,a=>∃d,H a=some (.dK d)/\Rk g H m i d
 | .Zq,a=>∃p q rest,H a=some (.lst (.int p::.int q::rest))/\0<=p
 | .obj k fs,a=>∃j f,H a=some (.ins (g.tb k) j f)/\Rf g H m fs f
structure WZ(g:Gx)(m:List Addr)(S:WU)(H:Hp):Prop where
 len:m.length=S.nx
 nd:m.Nodup
 up:∀a∈m,H a≠none
 cell:∀(i:Nat)(c:C),look i S.cs=some c->∃a,m[i]?=some a/\COk g H m c a
noncomputable def C.opn:C->Bool
 | .ZF _=>false
 |_=>true
noncomputable def Z1(m:List Addr)(S:WU)(a:Addr):Prop:=∃(i:Nat)(c:C),m[i]?=some a/\look i S.cs=some c/\c.opn=true
structure Ext(m:List Addr)(S:WU)(H:Hp)(m':List Addr)(S':WU)(H':Hp):Prop where
 pre:∃k,m'=m++k/\∀a∈k,H a=none
 low:∀a,H' a=none->H a=none
 keep:∀a o,¬ Z1 m S a->H a=some o->H' a=some o
 bk:∀(i:Nat)(c:C),i<m.length->look i S'.cs=some c->c.opn=true->∃c0,look i S.cs=some c0/\c0.opn=true
section
theorem Rs.nil:Rs g H m [] []:=by unfold Rs;rfl
theorem Rs.cons(h:R g H m x v)(r:Rs g H m c a):Rs g H m (x::c) (v::a):=by unfold Rs;exact⟨v,a,rfl,h,r⟩
theorem Rs.XA(h:Rs g H m [] a):a=[]:=by unfold Rs at h;exact h
theorem Rs.W0(h:Rs g H m (x::a) c):∃v r,c=v::r/\R g H m x v/\Rs g H m a r:=by unfold Rs at h;exact h
theorem R.XF(h:R g H m .WX v):v=.WX:=by unfold R at h;exact h
theorem R.X7(h:R g H m (.bl b) v):v=.bl b:=by unfold R at h;exact h
theorem R.W4(h:R g H m (.int i) v):v=.int i:=by unfold R at h;exact h
theorem R.Xi(h:R g H m (.str n) v):∃x,g.ST[n]?=some x/\v=.str x:=by unfold R at h;exact h
theorem R.Xf(h:R g H m (.tup d) v):∃a c,v=.ref a/\Xz g.K H a c/\Rs g H m d c:=by unfold R at h;exact h
theorem R.Yu(h:R g H m (.ref i) v):∃a,m[i]?=some a/\v=.ref a:=by unfold R at h;exact h
theorem R.clE(h:R g H m (.cl d) v):∃a c,v=.ref a/\BP g.K a c/\Rs g H m d c:=by unfold R at h;exact h
theorem R.tabE(h:R g H m (.tab t) v):v=.ref (g.tb t):=by unfold R at h;exact h
theorem R.setE(h:R g H m (.YL n) v):∃a,v=.ref a/\H a=some (.ext (qr a n)):=by unfold R at h;exact h
theorem R.rngE(h:R g H m (.YU n) v):∃a,v=.ref a/\H a=some (.YU 0 n):=by unfold R at h;exact h
theorem R.scrE(h:R g H m .X5 v):∃a c,v=.ref a/\Scr g.K H a c:=by unfold R at h;exact h
theorem R.WX:R g H m .WX .WX:=by unfold R;rfl
theorem R.bl(b:Bool):R g H m (.bl b) (.bl b):=by unfold R;rfl
theorem R.int(i:Int):R g H m (.int i) (.int i):=by unfold R;rfl
theorem R.str{g:Gx}(h:g.ST[n]?=some x):R g H m (.str n) (.str x):=by unfold R;exact⟨x,h,rfl⟩
theorem R.tup{g:Gx}(h:Xz g.K H a c)(r:Rs g H m d c):R g H m (.tup d) (.ref a):=by unfold R;exact⟨a,c,rfl,h,r⟩
theorem R.ref(h:m[i]?=some a):R g H m (.ref i) (.ref a):=by unfold R;exact⟨a,h,rfl⟩
theorem R.any:R g H m .any v:=by unfold R;exact True.intro
theorem Rs.length:∀{a:List A}{c:List V},Rs g H m a c->c.length=a.length
 |[],_,h=>by rw[h.XA];rfl
 |_::a,_,h=>by obtain⟨v,r,e,_,d⟩:=h.W0;subst e;simp[Rs.length d]
theorem Rs.get:∀{xs:List A}{a:List V}{i:Nat}{x:A},Rs g H m xs a->xs[i]?=some x->∃v,a[i]?=some v/\R g H m x v
 |[],_,_,_,_,e=>by simp at e
 |_::xs,_,0,x,h,e=>by obtain⟨v,r,rfl,c,_⟩:=h.W0;simp at e;subst e;exact⟨v,rfl,c⟩
 |_::xs,_,i+1,x,h,e=>by obtain⟨v,r,rfl,_,d⟩:=h.W0;obtain⟨u,e1,e2⟩:=Rs.get (i:=i) (x:=x) d (by simpa using e);exact⟨u,by simpa using e1,e2⟩
theorem Rs.append:∀{a c:List A}{d e:List V},Rs g H m a d->Rs g H m c e->Rs g H m (a++c) (d++e)
 |[],_,_,_,h,k=>by rw[h.XA];exact k
 |x::a,_,_,_,h,k=>by obtain⟨v,r,rfl,f,i⟩:=h.W0;exact .cons f (Rs.append i k)
theorem Rs.take:∀{a:List A}{c:List V}(n:Nat),Rs g H m a c->Rs g H m (a.take n) (c.take n)
 |_,_,0,_=>by simp only[List.take_zero];exact .nil
 |[],_,_+1,h=>by rw[h.XA];exact .nil
 |x::a,_,n+1,h=>by obtain⟨v,r,rfl,d,e⟩:=h.W0;exact .cons d (Rs.take n e)
theorem Rs.drop:∀{a:List A}{c:List V}(n:Nat),Rs g H m a c->Rs g H m (a.drop n) (c.drop n)
 |_,_,0,h=>h
 |[],_,_+1,h=>by rw[h.XA];exact .nil
 |x::a,_,n+1,h=>by obtain⟨v,r,rfl,e,d⟩:=h.W0;exact Rs.drop n d
theorem Rs.rev:∀{a:List A}{c:List V},Rs g H m a c->Rs g H m a.reverse c.reverse
 |[],_,h=>by rw[h.XA];exact .nil
 |x::a,_,h=>by obtain⟨v,r,rfl,d,e⟩:=h.W0;rw[List.reverse_cons,List.reverse_cons];exact(Rs.rev e).append (.cons d .nil)
theorem Rs.rep(h:R g H m x v):∀n,Rs g H m (List.replicate n x) (List.replicate n v)
 |0=>.nil
 |n+1=>.cons h (Rs.rep h n)
theorem Ext.refl:Ext m S H m S H:=⟨⟨[],by simp⟩,λ_ h=>h,λ_ _ _ h=>h,λ_ c _ h o=>⟨c,h,o⟩⟩
theorem bE{α:Type}{l k:List α}{i:Nat}{a:α}(h:l[i]?=some a):(l++k)[i]?=some a:=by rw[Uo (M1.mp h).1];exact h
noncomputable def D9:HO->Bool
 | .lst _=>true
 | .dK _=>true
 | .ins _ _ _=>true
 |_=>false
theorem COk.has(h:COk g H m c a):∃o,H a=some o/\D9 o=true:=by
 cases c with
 |lst f=>obtain⟨d,e,_⟩:=h;exact⟨_,e,rfl⟩
 |ZF f=>obtain⟨d,e,_⟩:=h;exact⟨_,e,rfl⟩
 |dct i=>obtain⟨d,e,_⟩:=h;exact⟨_,e,rfl⟩
 |Zq=>obtain⟨p,q,r,e,_⟩:=h;exact⟨_,e,rfl⟩
 |obj k fs=>obtain⟨p,q,e,_⟩:=h;exact⟨_,e,rfl⟩
theorem WZ.Yv(s:WZ g m S H)(h:H a=some o)(d:D9 o=false):¬ Z1 m S a:=λ⟨i,c,e,e2,_⟩=>by obtain⟨b,q,ok⟩:=s.cell i c e2;rw[e]at q;cases q;obtain⟨f,q,z⟩:=ok.has;rw[h]at q;cases q;rw[d]at z;cases z
theorem Ext.sqT(x:Ext m S H e f c)(s:WZ g m S H)(h:Xz g.K H a d):Xz g.K c a d:=by
 rcases h with(h|⟨o,h⟩)|h
 ·exact .inl (.inl (x.keep _ _ (s.Yv h rfl) h))
 ·exact .inl (.inr ⟨o,x.keep _ _ (s.Yv h rfl) h⟩)
 ·exact .inr h
mutual
theorem R.mono(x:Ext m S H f p j)(s:WZ g m S H):∀(a:A){v:V},R g H m a v->R g j f a v
 | .WX,v,h=>by unfold R at h ⊢;exact h
 | .bl b,v,h=>by unfold R at h ⊢;exact h
 | .int i,v,h=>by unfold R at h ⊢;exact h
 | .str n,v,h=>by unfold R at h ⊢;exact h
 | .tab t,v,h=>by unfold R at h ⊢;exact h
 | .any,v,h=>by unfold R;exact True.intro
 | .X5,v,h=>by
  obtain⟨a,l,e,q⟩:=h.scrE;unfold R;refine⟨a,l,e,?_⟩;rcases q with⟨o,q⟩|q
  ·exact .inl ⟨o,x.keep _ _ (s.Yv q rfl) q⟩
  ·exact .inr q
 | .tup c,v,h=>by obtain⟨a,d,e,q,r⟩:=h.Xf;unfold R;exact⟨a,d,e,x.sqT s q,Rs.mono x s c r⟩
 | .cl c,v,h=>by obtain⟨a,d,e,q,r⟩:=h.clE;unfold R;exact⟨a,d,e,q,Rs.mono x s c r⟩
 | .ref i,v,h=>by obtain⟨a,e,q⟩:=h.Yu;obtain⟨k,rfl,_⟩:=x.pre;unfold R;exact⟨a,bE e,q⟩
 | .YL n,v,h=>by obtain⟨a,e,q⟩:=h.setE;unfold R;exact⟨a,e,x.keep _ _ (s.Yv q rfl) q⟩
 | .YU n,v,h=>by obtain⟨a,e,q⟩:=h.rngE;unfold R;exact⟨a,e,x.keep _ _ (s.Yv q rfl) q⟩
theorem Rs.mono(x:Ext m S H e l f)(s:WZ g m S H):∀(c:List A){d:List V},Rs g H m c d->Rs g f e c d
 |[],d,h=>by unfold Rs at h ⊢;exact h
 |a::c,d,h=>by obtain⟨v,r,rfl,i,j⟩:=h.W0;exact .cons (R.mono x s a i) (Rs.mono x s c j)
end
theorem Rk.mono(x:Ext m S H d f e)(s:WZ g m S H):∀{c:List (Nat×A)}{a:List (Key×V)},Rk g H m c a->Rk g e d c a
 |_,_,.nil=>.nil
 |_,_,.cons h t=>.cons ⟨h.1,R.mono x s _ h.2⟩ (Rk.mono x s t)
theorem Rf.mono(x:Ext m S H d f e)(s:WZ g m S H):∀{c:List (Nat×A)}{a:List (Str×V)},Rf g H m c a->Rf g e d c a
 |_,_,.nil=>.nil
 |_,_,.cons h t=>.cons ⟨h.1,R.mono x s _ h.2⟩ (Rf.mono x s t)
theorem Ext.trans(x:Ext m S H g l n)(y:Ext g l n m2 p r):Ext m S H m2 p r:=by
 obtain⟨k,rfl,hk⟩:=x.pre;obtain⟨j,rfl,t⟩:=y.pre;refine⟨⟨k++j,by simp,λa u=>?_⟩,λa h=>x.low a (y.low a h),λa o f h=>?_,λi c d h o=>?_⟩
 ·rcases UO.mp u with h|h
  ·exact hk a h
  ·exact x.low a (t a h)
 ·refine y.keep a o (λ⟨i,c,e,e2,v⟩=>f ?_) (x.keep a o f h);by_cases d:i<m.length
  ·rw[Uo d]at e;obtain⟨w,q,q0⟩:=x.bk i c d e2 v;exact⟨i,w,e,q,q0⟩
  ·rw[Uj (by omega)]at e;rw[hk a (US e)]at h;cases h
 ·obtain⟨c1,q,z⟩:=y.bk i c (by simp;omega) h o;exact x.bk i c1 d q z
theorem Ext.new(h:H p=none)(o:HO):Ext m S H m S (upd H p o) :=
 ⟨⟨[],by simp⟩,λa e=>by
   by_cases z:a=p
   ·rw[z];exact h
   ·rw[ag z]at e;exact e,λa d _ e=>by rw[ag (aA e h)];exact e,λ_ c _ e o=>⟨c,e,o⟩⟩
theorem COk.mono(x:Ext m S H i t f)(s:WZ g m S H)(h:COk g H m c a)(e:∀o,H a=some o->f a=some o):COk g f i c a:=by
 cases c with
 |lst j=>obtain⟨d,q,r⟩:=h;exact⟨d,e _ q,Rs.mono x s _ r⟩
 |ZF j=>obtain⟨d,q,r⟩:=h;exact⟨d,e _ q,Rs.mono x s _ r⟩
 |dct u=>obtain⟨d,q,r⟩:=h;exact⟨d,e _ q,Rk.mono x s r⟩
 |Zq=>obtain⟨p,q,r,h,z⟩:=h;exact⟨p,q,r,e _ h,z⟩
 |obj k fs=>obtain⟨l,n,q,r⟩:=h;exact⟨l,n,e _ q,Rf.mono x s r⟩
theorem WZ.new(s:WZ g m S H)(h:H p=none)(o:HO):WZ g m S (upd H p o) :=
 ⟨s.len,s.nd,λa d z=>s.up a d ((Ext.new (m:=m) (S:=S) h o).low a z),λi c e=>by
  obtain⟨a,q,ok⟩:=s.cell i c e;exact⟨a,q,ok.mono (Ext.new h o) s λf q=>by rw[ag (aA q h)];exact q⟩⟩
theorem WZ.alloc(s:WZ g m S H)(h:H p=none)(l:Ext m S H (m++[p]) ⟨S.nx+1,(S.nx,c)::S.cs⟩ (upd H p o)->COk g (upd H p o) (m++[p]) c p) :
  WZ g (m++[p]) ⟨S.nx+1,(S.nx,c)::S.cs⟩ (upd H p o)/\Ext m S H (m++[p]) ⟨S.nx+1,(S.nx,c)::S.cs⟩ (upd H p o):=by
 have x:Ext m S H (m++[p]) ⟨S.nx+1,(S.nx,c)::S.cs⟩ (upd H p o) :=
  ⟨⟨[p],rfl,λa f=>by rw[Ur.mp f];exact h⟩,(Ext.new (m:=m) (S:=S) h o).low,(Ext.new h o).keep,λi n j e r=>by
   rw[aq,TQ (by rw[<- s.len];omega)]at e;exact⟨n,e,r⟩⟩
 refine⟨⟨by simp[s.len],?_,λa f z=>?_,λi d e=>?_⟩,x⟩
 ·rw[List.nodup_append];refine⟨s.nd,by simp,λa f b t z=>?_⟩;rw[Ur.mp t]at z;exact s.up p (z▸f) h
 ·rcases UO.mp f with q|q
  ·exact s.up a q (x.low a z)
  ·rw[Ur.mp q,ai]at z;cases z
 ·rw[aq]at e;by_cases j:S.nx=i
  ·rw[TY j]at e;cases e;refine⟨p,?_,l x⟩;rw[<- j,<- s.len];simp
  ·rw[TQ j]at e;obtain⟨a,q,ok⟩:=s.cell i d e;exact⟨a,bE q,ok.mono x s λu q=>by rw[ag (aA q h)];exact q⟩
theorem WZ.uniq{g:Gx}{m:List Addr}{S:WU}(s:WZ g m S H){i j:Nat}(h:m[i]?=some a)(c:m[j]?=some a):i=j:=(V2 (M1.mp h).1 s.nd).mp (by rw[h,c])
theorem WZ.write(s:WZ g m S H)(f:m[i]?=some a)(n:look i S.cs=some l)(p:l.opn=true)
  (t:Ext m S H m ⟨S.nx,put i c S.cs⟩ (upd H a o)->COk g (upd H a o) m c a):WZ g m ⟨S.nx,put i c S.cs⟩ (upd H a o)/\Ext m S H m ⟨S.nx,put i c S.cs⟩ (upd H a o):=by
 have x:Ext m S H m ⟨S.nx,put i c S.cs⟩ (upd H a o):=by
  refine⟨⟨[],by simp⟩,λb e=>?_,λb u v e=>?_,λj y _ e B=>?_⟩
  ·by_cases z:b=a
   ·subst z;rw[ai]at e;cases e
   ·rw[ag z]at e;exact e
  ·have z:b≠a:=λz=>v ⟨i,l,by rw[z];exact f,n,p⟩;rw[ag z];exact e
  ·rcases du e with⟨z,_,_⟩|⟨_,q⟩
   ·rw[z];exact⟨l,n,p⟩
   ·exact⟨y,q,B⟩
 refine⟨⟨s.len,s.nd,λa E z=>s.up a E (x.low a z),λj d e=>?_⟩,x⟩;rcases du e with⟨z,q,_⟩|⟨z,q⟩
 ·rw[z,q];exact⟨a,f,t x⟩
 ·obtain⟨b,r,ok⟩:=s.cell j d q;refine⟨b,r,ok.mono x s λJ G=>?_⟩;have I:b≠a:=λw=>z (s.uniq (w▸r) f);rw[ag I];exact G
theorem WZ.drop(s:WZ g m S H)(h:∀i c,look i a=some c->look i S.cs=some c):WZ g m ⟨S.nx,a⟩ H/\Ext m S H m ⟨S.nx,a⟩ H :=
 ⟨⟨s.len,s.nd,s.up,λi c e=>s.cell i c (h i c e)⟩,⟨⟨[],by simp⟩,λ_ h=>h,λ_ _ _ h=>h,λi c _ e o=>⟨c,h i c e,o⟩⟩⟩
end
inductive Res(α:Type) where
 |ok (a:α) (S:WU)|exc (c:Nat) (S:WU)|bad
noncomputable def Res.b{α β:Type}(r:Res α)(f:α->WU->Res β):Res β:=match r with
 | .ok a S=>f a S
 | .exc c S=>.exc c S
 | .bad=>.bad
inductive Fl where
 |nx (ρ:Env)|bk (ρ:Env)|ct (ρ:Env)|rt (a:A)
inductive XR where
 |ok (f:Fl) (S:WU)|exc (c:Nat) (ρ:Env) (S:WU)|bad
noncomputable def Res.x{α:Type}(r:Res α)(d:Env)(f:α->WU->XR):XR:=match r with
 | .ok a S=>f a S
 | .exc c S=>.exc c d S
 | .bad=>.bad
noncomputable def fl{α:Type}{β:Type}:List α->(List α->β)->β
 |[],k=>k []
 |x::a,k=>fl a λc=>k (x::c)
theorem aY:∀(l:List α)(k:List α->β),fl l k=k l
 |[],k=>rfl
 |x::a,k=>by show fl a (λc=>k (x::c))=_;rw[aY a]
noncomputable def fn{β:Type}:Nat->(Nat->β)->β
 |0,k=>k 0
 |n+1,k=>k (n+1)
theorem vV(n:Nat)(k:Nat->β):fn n k=k n:=by cases n<;>rfl
noncomputable def fi{β:Type}:Int->(Int->β)->β
 | .ofNat n,k=>fn n λn=>k (.ofNat n)
 | .negSucc n,k=>fn n λn=>k (.negSucc n)
theorem Ee(i:Int)(k:Int->β):fi i k=k i:=by cases i<;>exact vV _ _
noncomputable def eqI:Int->Int->Bool
 | .ofNat a,.ofNat b=>Nat.beq a b
 | .negSucc a,.negSucc b=>Nat.beq a b
 |_,_=>false
noncomputable def leI:Int->Int->Bool
 | .ofNat a,.ofNat b=>Nat.ble a b
 | .negSucc a,.negSucc b=>Nat.ble b a
 | .negSucc _,.ofNat _=>true
 | .ofNat _,.negSucc _=>false
noncomputable def b2n:Bool->Int
 |true=>.ofNat 1
 |false=>.ofNat 0
noncomputable def nb:Bool->Bool
 |true=>false
 |false=>true
noncomputable def Ji:Bool->Bool->Bool
 |true,b=>b
 |false,b=>nb b
mutual
noncomputable def Zr:A->A->Bool
 | .WX,.WX=>true
 | .bl a,.bl b=>Ji a b
 | .int a,.int b=>eqI a b
 | .bl a,.int b=>eqI (b2n a) b
 | .int a,.bl b=>eqI a (b2n b)
 | .str a,.str b=>Nat.beq a b
 | .tup a,.tup b=>Z2 a b
 |_,_=>false
noncomputable def Z2:List A->List A->Bool
 |[],[]=>true
 |a::r,b::q=>match Zr a b with
  |true=>Z2 r q
  |false=>false
 |_,_=>false
end
mutual
noncomputable def Zx:Nat->A->Bool
 |_,.WX=>true
 |_,.bl _=>true
 |_,.int _=>true
 |_,.str _=>true
 |n+1,.tup a=>Y9 n a
 |_,_=>false
noncomputable def Y9:Nat->List A->Bool
 |_,[]=>true
 |n,x::a=>match Zx n x with
  |true=>Y9 n a
  |false=>false
end
noncomputable def few{α:Type}:Nat->List α->Bool
 |_,[]=>true
 |0,_::_=>false
 |n+1,_::a=>few n a
noncomputable def Z3(S:WU)(i:Nat):Option (List A):=match look i S.cs with
 |some (.lst a)=>some a
 |some (.ZF a)=>some a
 |_=>none
noncomputable def Yl(S:WU):A->Option (List A)
 | .ref i=>Z3 S i
 | .cl a=>some a
 | .tup a=>some a
 |_=>none
noncomputable def W9(S:WU):A->Option (List A)
 | .ref i=>Z3 S i
 | .cl a=>some a
 |_=>none
noncomputable def neL:List A->Bool
 |[]=>false
 |_::_=>true
noncomputable def truA(S:WU):A->Option Bool
 | .WX=>some false
 | .bl b=>some b
 | .int i=>some (nb (eqI i (.ofNat 0)))
 |a=>match Yl S a with
  |some c=>some (neL c)
  |none=>none
noncomputable def ixA{α:Type}(a:List α):Int->Option α
 | .ofNat n=>a[n]?
 | .negSucc n=>match Nat.ble (n+1) a.length with
  |true=>a[a.length - (n+1)]?
  |false=>none
noncomputable def allB:List A->Option Bool
 |[]=>some true
 | .bl b::r=>match allB r with
  |some c=>some (match b with|true=>c|false=>false)
  |none=>none
 |_=>none
noncomputable def anyB:List A->Option Bool
 |[]=>some false
 | .bl b::r=>match anyB r with
  |some c=>some (match b with|true=>true|false=>c)
  |none=>none
 |_=>none
noncomputable def ZO:List A->Option Int
 |[]=>some (.ofNat 0)
 | .int i::r=>match ZO r with
  |some j=>some (i+j)
  |none=>none
 |_=>none
noncomputable def CV(x:A):List A->Bool
 |[]=>false
 |y::r=>match Zr y x with
  |true=>true
  |false=>CV x r
noncomputable def Z4(x:A):List A->Nat->Option Nat
 |[],_=>none
 |y::r,k=>match Zr y x with
  |true=>some k
  |false=>Z4 x r (k+1)
noncomputable def strsOf:List A->Option (List Nat)
 |[]=>some []
 | .str n::r=>match strsOf r with
  |some l=>some (n::l)
  |none=>none
 |_=>none
noncomputable def bF(n:Nat):List Nat->Bool
 |[]=>false
 |k::r=>match Nat.beq k n with
  |true=>true
  |false=>bF n r
noncomputable def xw:List Nat->List Nat->List Nat
 |acc,[]=>acc
 |acc,n::r=>match bF n acc with
  |true=>xw acc r
  |false=>xw (acc++[n]) r
noncomputable def Yw:Nat->Nat->List A
 |_,0=>[]
 |k,n+1=>.int (.ofNat k)::Yw (k+1) n
noncomputable def ob{α:Type}(o:Option α)(S:WU):Res α:=match o with
 |some a=>.ok a S
 |none=>.bad
noncomputable def bA(o:Option Bool)(S:WU):Res A:=match o with
 |some true=>.ok (.bl true) S
 |some false=>.ok (.bl false) S
 |none=>.bad
noncomputable def mk(c:C)(S:WU):Res A:=match S with
 |⟨n,a⟩=>fn n λn=>.ok (.ref n) ⟨n+1,(n,c)::a⟩
theorem nU(c:C)(S:WU):mk c S=.ok (.ref S.nx) ⟨S.nx+1,(S.nx,c)::S.cs⟩:=by cases S;exact vV _ _
noncomputable def new(a:List A)(S:WU):Res A:=match few 900 a with
 |true=>fl a λa=>mk (.lst a) S
 |false=>.bad
noncomputable def qC(a:List A)(S:WU):Res A:=match few 900 a with
 |true=>fl a λa=>.ok (.tup a) S
 |false=>.bad
noncomputable def je(i:Int)(S:WU):Res A:=fi i λi=>.ok (.int i) S
noncomputable def wr{α:Type}(i:Nat)(c:C)(S:WU)(k:WU->α):α:=match S with
 |⟨n,a⟩=>fl (put i c a) λa=>k ⟨n,a⟩
theorem j9(i:Nat)(c:C)(S:WU)(k:WU->α):wr i c S k=k ⟨S.nx,put i c S.cs⟩:=by cases S;exact aY _ _
noncomputable def yI(a:A)(S:WU):Res A:=match a with
 | .int i=>je (-i) S
 |_=>.bad
noncomputable def bu(a:A)(S:WU):Res A:=match Yl S a with
 |some c=>je (.ofNat c.length) S
 |none=>.bad
noncomputable def wY(a:A)(S:WU):Res A:=match a with
 | .YL n=>match Nat.ble n 900 with
  |true=>je (.ofNat n) S
  |false=>.bad
 |_=>.bad
noncomputable def qD(a:A)(S:WU):Res A:=match W9 S a with
 |some c=>bA (allB c) S
 |none=>.bad
noncomputable def DW(a:A)(S:WU):Res A:=match W9 S a with
 |some c=>bA (anyB c) S
 |none=>.bad
noncomputable def DY(a:A)(S:WU):Res A:=match W9 S a with
 |some c=>match ZO c with
  |some i=>je i S
  |none=>.bad
 |none=>.bad
noncomputable def nr(a:A)(S:WU):Res A:=match Yl S a with
 |some c=>.ok (.tup c) S
 |none=>.bad
noncomputable def qE(a:A)(S:WU):Res A:=match Yl S a with
 |some c=>new c S
 |none=>.bad
noncomputable def oK(a:A)(S:WU):Res A:=match a with
 | .YU n=>new (Yw 0 n) S
 |_=>.bad
noncomputable def DX(a:A)(S:WU):Res A:=match W9 S a with
 |some c=>match few 90 c,strsOf c with
  |true,some l=>fn (xw [] l).length λn=>.ok (.YL n) S
  |_,_=>.bad
 |none=>.bad
noncomputable def vG(a:A)(S:WU):Res A:=match a with
 | .int (.ofNat n)=>match Nat.ble n 900 with
  |true=>.ok (.YU n) S
  |false=>.bad
 |_=>.bad
noncomputable def tyN(S:WU):A->Option Nat
 | .WX=>some 0
 | .bl _=>some 1
 | .int _=>some 2
 | .str _=>some 3
 | .tup _=>some 4
 | .cl _=>some 5
 | .ref i=>match Z3 S i with
  |some _=>some 5
  |none=>none
 |_=>none
noncomputable def isN(t k:Nat):Bool:=match Nat.beq t k with
 |true=>true
 |false=>match k with
  |1=>Nat.beq t 2
  |_=>false
noncomputable def uIs(t:Nat)(a:A)(S:WU):Res A:=match tyN S a with
 |some k=>bA (some (isN t k)) S
 |none=>.bad
noncomputable def xn(f:Int->Int->Bool)(a b:A)(S:WU):Res A:=match a,b with
 | .int i,.int j=>bA (some (f i j)) S
 |_,_=>.bad
noncomputable def eqO(S:WU)(a b:A):Option Bool:=match W9 S a with
 |some c=>match W9 S b with
  |some d=>match Y9 20 c,Y9 20 d with
   |true,true=>some (Z2 c d)
   |_,_=>none
  |none=>none
 |none=>match Zx 20 a,Zx 20 b with
  |true,true=>some (Zr a b)
  |_,_=>none
noncomputable def inT(c:List (Nat×A))(a:A):Option Bool:=match a with
 | .str n=>match look n c with
  |some _=>some true
  |none=>some false
 |_=>none
noncomputable def inS(a b:A):Option Bool:=match a,b with
 | .str n,.tup c=>match strsOf c with
  |some l=>some (bF n l)
  |none=>none
 |_,_=>none
noncomputable def inL(S:WU)(a b:A):Option Bool:=match W9 S b with
 |some c=>match Zx 20 a,Y9 20 c with
  |true,true=>some (CV a c)
  |_,_=>none
 |none=>none
noncomputable def nO:Option Bool->Option Bool
 |some b=>some (nb b)
 |none=>none
noncomputable def ZP{α:Type}(a:List α):Nat->List α
 |0=>[]
 |n+1=>a++ZP a n
noncomputable def bL(a b:A)(S:WU):Res A:=match a with
 | .int i=>match b with
  | .int j=>je (i+j) S
  |_=>.bad
 | .tup c=>match b with
  | .tup d=>qC (c++d) S
  |_=>.bad
 |a=>match W9 S a with
  |some c=>match W9 S b with
   |some d=>new (c++d) S
   |none=>.bad
  |none=>.bad
noncomputable def ye(a b:A)(S:WU):Res A:=match a,b with
 | .int i,.int j=>je (i - j) S
 |_,_=>.bad
noncomputable def wo(a b:A)(S:WU):Res A:=match a with
 | .ref i=>match b with
  | .int (.ofNat n)=>match look i S.cs with
   |some (.lst c)=>match Nat.ble n 900 with
    |true=>new (ZP c n) S
    |false=>.bad
   |_=>.bad
  |_=>.bad
 |_=>.bad
noncomputable def AD(a b:A)(S:WU):Res A:=match a with
 | .tup [x]=>match b with
  | .int (.ofNat (n+2))=>qC (List.replicate (n+2) x) S
  |_=>.bad
 |_=>.bad
noncomputable def mV(a b:A)(S:WU):Res A:=match a with
 | .int i=>match b with
  | .int (.ofNat (n+1))=>je (i%(.ofNat (n+1))) S
  |_=>.bad
 |_=>.bad
noncomputable def yc(a b:A)(S:WU):Res A:=match a with
 | .int i=>match b with
  | .int (.ofNat (n+1))=>match Nat.ble n 100000 with
   |true=>je (i / (.ofNat (n+1))) S
   |false=>.bad
  |_=>.bad
 |_=>.bad
noncomputable def oEq(a b:A)(S:WU):Res A:=bA (eqO S a b) S
noncomputable def Za(a b:A)(S:WU):Res A:=bA (nO (eqO S a b)) S
noncomputable def oLt(a b:A)(S:WU):Res A:=xn (λi j=>nb (leI j i)) a b S
noncomputable def oLe(a b:A)(S:WU):Res A:=xn leI a b S
noncomputable def oGt(a b:A)(S:WU):Res A:=xn (λi j=>nb (leI i j)) a b S
noncomputable def oGe(a b:A)(S:WU):Res A:=xn (λi j=>leI j i) a b S
noncomputable def Ei:A->Option Bool
 | .WX=>some true
 | .any=>none
 |_=>some false
noncomputable def qF(a:A)(S:WU):Res A:=bA (Ei a) S
noncomputable def mG(a:A)(S:WU):Res A:=bA (nO (Ei a)) S
noncomputable def oIn(a b:A)(S:WU):Res A:=bA (inL S a b) S
noncomputable def AA(a b:A)(S:WU):Res A:=bA (inS a b) S
noncomputable def AC(a b:A)(S:WU):Res A:=bA (nO (inS a b)) S
noncomputable def Xe(a b:A)(S:WU):Res A:=match b with
 | .int i=>match Yl S a with
  |some c=>ob (ixA c i) S
  |none=>.bad
 |_=>.bad
noncomputable def pF(a b:A)(S:WU):Res A:=match a with
 | .ref r=>match b with
  | .str n=>match look r S.cs with
   |some (.dct c)=>ob (look n c) S
   |_=>.bad
  |_=>.bad
 |_=>.bad
noncomputable def Ym(n:Nat):A->Option Nat
 | .int (.ofNat i)=>some (match Nat.ble i n with|true=>i|false=>n)
 |_=>none
noncomputable def vw(a lo:A)(S:WU):Res A:=match a with
 | .tup c=>match Ym c.length lo with
  |some l=>qC (c.drop l) S
  |none=>.bad
 |_=>.bad
noncomputable def Lj(a lo d:A)(S:WU):Res A:=match a with
 | .tup c=>match Ym c.length lo,Ym c.length d with
  |some l,some h=>qC ((c.drop l).take (h - l)) S
  |_,_=>.bad
 |_=>.bad
noncomputable def Bt(a d:A)(S:WU):Res A:=match a with
 | .tup c=>match Ym c.length d with
  |some h=>qC (c.take h) S
  |none=>.bad
 |_=>.bad
noncomputable def Li(a lo d:A)(S:WU):Res A:=match W9 S a with
 |some c=>match Ym c.length lo,Ym c.length d with
  |some l,some h=>new ((c.drop l).take (h - l)) S
  |_,_=>.bad
 |none=>.bad
noncomputable def eM(o a:A)(S:WU):Res A:=match o with
 | .ref i=>match look i S.cs with
  |some (.lst c)=>match few 900 c with
   |true=>fl (c++[a]) λd=>wr i (.lst d) S λS=>.ok .WX S
   |false=>.bad
  |_=>.bad
 |_=>.bad
noncomputable def cE(o a:A)(S:WU):Res A:=match o with
 | .ref i=>match a with
  | .ref j=>match look i S.cs with
   |some (.lst c)=>match look j S.cs with
    |some (.lst d)=>match few 900 (c++d)with
     |true=>fl (c++d) λe=>wr i (.lst e) S λS=>.ok .WX S
     |false=>.bad
    |_=>.bad
   |_=>.bad
  |_=>.bad
 |_=>.bad
noncomputable def rR(o:A)(S:WU):Res A:=match o with
 | .ref i=>match look i S.cs with
  |some (.lst a)=>match a[a.length - 1]? with
   |some y=>fl a.dropLast λc=>wr i (.lst c) S λS=>.ok y S
   |none=>.bad
  |_=>.bad
 |_=>.bad
noncomputable def Au(o a:A)(S:WU):Res A:=match W9 S o with
 |some c=>match few 900 c,Zx 20 a,Y9 20 c with
  |true,true,true=>match Z4 a c 0 with
   |some k=>je (.ofNat k) S
   |none=>.bad
  |_,_,_=>.bad
 |none=>.bad
noncomputable def zip2:List A->List A->List A
 |x::a,y::c=>.tup [x,y]::zip2 a c
 |_,_=>[]
noncomputable def Ap{α:Type}(a:A)(S:WU)(k:WU->α):α:=match a with
 | .ref i=>match look i S.cs with
  |some (.lst c)=>wr i (.ZF c) S k
  |_=>k S
 |_=>k S
noncomputable def yU{α:Type}(c:WU)(a:A)(S:WU)(k:WU->α):α:=match a with
 | .ref i=>match look i c.cs with
  |some (.lst d)=>wr i (.lst d) S k
  |_=>k S
 |_=>k S
noncomputable def dP{α:Type}:List A->WU->(WU->α)->α
 |[],S,k=>k S
 |a::r,S,k=>Ap a S λS=>dP r S k
noncomputable def bB{α:Type}(c:WU):List A->WU->(WU->α)->α
 |[],S,k=>k S
 |a::r,S,k=>yU c a S λS=>bB c r S k
noncomputable def XR.back(a:WU)(d:List A):XR->XR
 | .ok f S=>bB a d S λS=>.ok f S
 | .exc c e S=>bB a d S λS=>.exc c e S
 | .bad=>.bad
noncomputable def Res.back{α:Type}(d:WU)(e:List A):Res α->Res α
 | .ok a S=>bB d e S λS=>.ok a S
 | .exc c S=>bB d e S λS=>.exc c S
 | .bad=>.bad
noncomputable abbrev Ce:=Env->WU->Res A
noncomputable abbrev Ct:=Env->WU->Res Bool
noncomputable abbrev Ca:=Env->WU->Res (List A)
noncomputable abbrev Ci:=Env->WU->Res (List A×List A)
noncomputable abbrev Cs:=Env->WU->XR
noncomputable abbrev YS:=A->Env->Option Env
noncomputable def cV(i:Nat):Ce:=λc S=>match c[i]? with
 |some (some a)=>.ok a S
 |_=>.bad
noncomputable def cC(a:A):Ce:=λ_ S=>.ok a S
noncomputable abbrev cI(n:Nat):Ce:=cC (.int (.ofNat n))
noncomputable abbrev cZ(n:Nat):Ce:=cC (.str n)
noncomputable def aN:Ca:=λ_ S=>.ok [] S
noncomputable def aC(e:Ce)(r:Ca):Ca:=λa S=>(e a S).b λx S=>(r a S).b λc S=>.ok (x::c) S
noncomputable def ae(a:Ca):Ce:=λc S=>(a c S).b λd S=>qC d S
noncomputable def aM(a:Ca):Ce:=λc S=>(a c S).b λd S=>new d S
noncomputable def cU(u:A->WU->Res A)(e:Ce):Ce:=λa S=>(e a S).b u
noncomputable def cO(o:A->A->WU->Res A)(a b:Ce):Ce:=λc S=>(a c S).b λx S=>(b c S).b λy S=>o x y S
noncomputable def cNt(a:Ce):Ce:=λc S=>(a c S).b λx S=>match x with
 | .bl k=>bA (some (nb k)) S
 |_=>.bad
noncomputable def cAn(a b:Ce):Ce:=λc S=>(a c S).b λx S=>match x with
 | .bl true=>b c S
 | .bl false=>.ok (.bl false) S
 |_=>.bad
noncomputable def cOr(a b:Ce):Ce:=λc S=>(a c S).b λx S=>match x with
 | .bl true=>.ok (.bl true) S
 | .bl false=>b c S
 |_=>.bad
noncomputable def cIf(c:Ct)(a b:Ce):Ce:=λd S=>(c d S).b λk S=>match k with
 |true=>a d S
 |false=>b d S
noncomputable def cCh(a b c:Ce):Ce:=λd S=>(a d S).b λx S=>(b d S).b λy S=>(oLe x y S).b λz S=>match z with
 | .bl true=>(c d S).b λw S=>oLe y w S
 | .bl false=>.ok (.bl false) S
 |_=>.bad
noncomputable def cSl(e lo c:Ce):Ce:=λa S=>(e a S).b λx S=>(lo a S).b λl S=>match l with
 | .int (.ofNat i)=>(c a S).b λh S=>match x with
  | .tup d=>Lj (.tup d) (.int (.ofNat i)) h S
  |x=>Li x (.int (.ofNat i)) h S
 |_=>.bad
noncomputable def af(f:List A->WU->Res A)(a:Ca):Ce:=λc S=>(a c S).b f
noncomputable def qO(c:List (Nat×A))(a:Ce):Ce:=λd S=>(a d S).b λx S=>bA (inT c x) S
noncomputable def qP(c:List (Nat×A))(a:Ce):Ce:=λd S=>(a d S).b λx S=>bA (nO (inT c x)) S
noncomputable def xb(c:List (Nat×A))(a:Ce):Ce:=λd S=>(a d S).b λx S=>match x with
 | .str n=>ob (look n c) S
 |_=>.bad
noncomputable def D8(c:List (Nat×A))(a:Ce)(i:Int):Ce:=λd S=>(a d S).b λx S=>match x with
 | .str n=>match look n c with
  |some (.int j)=>.ok (.int j) S
  |some _=>.bad
  |none=>.ok (.int i) S
 |_=>.bad
noncomputable def cM(f:A->A->WU->Res A)(o e:Ce):Ce:=λa S=>(o a S).b λx S=>match W9 S x with
 |some _=>(e a S).b λy S=>f x y S
 |none=>.bad
noncomputable def Jk(a:List Nat)(c:Ca):Ce:=λd S=>(c d S).b λe S=>fl (a.zip e) λl=>mk (.dct l) S
noncomputable def Xl(a:Nat)(fr:List Nat)(c:Env):Env:=List.replicate a none++fr.map λj=>(c[j]?).getD none
noncomputable def clp(f:YS)(a:Ct)(c:Ce):List A->Env->List A->WU->Res (List A)
 |[],_,d,S=>.ok d S
 |x::g,e,d,S=>match f x e with
  |none=>.bad
  |some e=>(a e S).b λk S=>match k with
   |true=>(c e S).b λy S=>fl (d++[y]) λd=>clp f a c g e d S
   |false=>clp f a c g e d S
noncomputable def Res.ZW{α:Type}:Res α->Res α
 | .exc _ _=>.bad
 |r=>r
noncomputable def aS(it:Ci)(a:Nat)(fr:List Nat)(f:YS)(c:Ct)(d:Ce):Ce:=λe S=>(it e S).b λp S =>
 match few 900 p.1 with
 |true=>fl (Xl a fr e) λg=>((dP p.2 S λL=>(clp f c d p.1 g [] L).ZW).back S p.2).b λi S=>new i S
 |false=>.bad
noncomputable def tV(e:Ce):Ct:=λa S=>(e a S).b λx S=>ob (truA S x) S
noncomputable def tT:Ct:=λ_ S=>.ok true S
noncomputable def Yo(a:Ct):Ct:=λc S=>(a c S).b λk S=>.ok (nb k) S
noncomputable def Zb(a b:Ct):Ct:=λc S=>(a c S).b λk S=>match k with
 |true=>.ok true S
 |false=>b c S
noncomputable def iL(e:Ce):Ci:=λa S=>(e a S).b λx S=>match W9 S x with
 |some c=>.ok (c,[x]) S
 |none=>.bad
noncomputable def iT(e:Ce):Ci:=λa S=>(e a S).b λx S=>match x with
 | .tup c=>.ok (c,[]) S
 |_=>.bad
noncomputable def zO(e:Ce):Ci:=λa S=>(e a S).b λx S=>match W9 S x with
 |some c=>fl c.reverse λd=>.ok (d,[x]) S
 |none=>.bad
noncomputable def B9(a b:Ce):Ci:=λc S=>(a c S).b λx S=>(b c S).b λy S=>match x,y with
 | .tup d,.tup e=>match Nat.beq d.length e.length with
  |true=>fl (zip2 d e) λf=>.ok (f,[]) S
  |false=>.bad
 |_,_=>.bad
noncomputable def zP(e:Ce):Ci:=λa S=>(e a S).b λx S=>match x with
 | .int (.ofNat n)=>match Nat.ble n 900 with
  |true=>fl (Yw 0 n) λc=>.ok (c,[]) S
  |false=>.bad
 |_=>.bad
noncomputable def iTab(a:List (Nat×A)):Ci:=λ_ S=>.ok (a.map (λp=>.str p.1),[]) S
noncomputable def gN(i:Nat):YS:=λa c=>fl (c.set i (some a)) some
noncomputable def gTs:List YS->List A->Env->Option Env
 |[],[],a=>some a
 |t::d,x::e,a=>match t x a with
  |some c=>gTs d e c
  |none=>none
 |_,_,_=>none
noncomputable def gT(c:List YS):YS:=λa d=>match a with
 | .tup e=>gTs c e d
 |_=>none
noncomputable def aH(i:Nat)(e:Ce):Cs:=λa S=>(e a S).x a λx S=>fl (a.set i (some x)) λa=>.ok (.nx a) S
noncomputable def cX(c:YS)(e:Ce):Cs:=λa S=>(e a S).x a λx S=>match c x a with
 |some a=>.ok (.nx a) S
 |none=>.bad
noncomputable def Lh(c:List YS)(e:Ce):Cs:=λa S=>(e a S).x a λx S=>match W9 S x with
 |some d=>match gTs c d a with
  |some a=>.ok (.nx a) S
  |none=>.bad
 |none=>.bad
noncomputable def yz(i:Nat)(e:Ce):Cs:=λd S=>match d[i]? with
 |some (some (.int a))=>(e d S).x d λx S=>match x with
  | .int b=>fi (a+b) λc=>fl (d.set i (some (.int c))) λd=>.ok (.nx d) S
  |_=>.bad
 |_=>.bad
noncomputable def XC(e:Ce):Cs:=λa S=>(e a S).x a λ_ S=>.ok (.nx a) S
noncomputable def ao(e:Ce):Cs:=λa S=>(e a S).x a λx S=>.ok (.rt x) S
noncomputable def DN:Cs:=λ_ S=>.ok (.rt .WX) S
noncomputable def Xg(c:Ct)(a b:Cs):Cs:=λd S=>(c d S).x d λk S=>match k with
 |true=>a d S
 |false=>b d S
noncomputable def lp(c:YS)(b:Cs):List A->Env->WU->XR
 |[],a,S=>.ok (.nx a) S
 |x::d,a,S=>match c x a with
  |none=>.bad
  |some a=>match b a S with
   | .ok (.nx a) S=>lp c b d a S
   | .ok (.ct a) S=>lp c b d a S
   | .ok (.bk a) S=>.ok (.nx a) S
   |x=>x
noncomputable def dz(it:Ci)(c:YS)(b:Cs):Cs:=λa S=>(it a S).x a λp S=>(dP p.2 S λL=>lp c b p.1 a L).back S p.2
noncomputable def wl(c:Ct)(b:Cs):Nat->Env->WU->XR
 |0,_,_=>.bad
 |n+1,a,S=>(c a S).x a λk S=>match k with
  |false=>.ok (.nx a) S
  |true=>match b a S with
   | .ok (.nx a) S=>wl c b n a S
   | .ok (.ct a) S=>wl c b n a S
   | .ok (.bk a) S=>.ok (.nx a) S
   |x=>x
noncomputable def Bp(c:Ct)(b:Cs):Cs:=wl c b 90
noncomputable def br(c:Nat)(d:Ca):Cs:=λa S=>(d a S).x a λe S=>match few 9 e with
 |true=>.exc c a S
 |false=>.bad
noncomputable def p7(c:Nat)(e:Ce):Cs:=λa S=>(e a S).x a λ_ S=>.exc c a S
noncomputable def XR.ZW:XR->XR
 | .exc _ _ _=>.bad
 |r=>r
noncomputable def yA(b:Cs)(d:List Nat)(h:Cs):Cs:=λa S=>match b a S with
 | .exc c a S=>match bF c d with
  |true=>(h a S).ZW
  |false=>.bad
 |x=>x
noncomputable def sCt:Cs:=λa S=>.ok (.ct a) S
noncomputable def Xh:Cs:=λa S=>.ok (.nx a) S
noncomputable def sq(s l:Cs):Cs:=λa S=>match s a S with
 | .ok (.nx a) S=>l a S
 |x=>x
noncomputable def done:XR->Res A
 | .ok (.nx _) S=>.ok .WX S
 | .ok (.rt a) S=>.ok a S
 | .exc c _ S=>.exc c S
 |_=>.bad
noncomputable def zF{α:Type}(n:Nat)(x:α):List (Nat×α)->List (Nat×α)
 |[]=>[(n,x)]
 | (k,a)::r=>match Nat.beq k n with
  |true=>(k,x)::r
  |false=>(k,a)::zF n x r
noncomputable def Zy(S:WU)(k:Nat):A->Option (Nat×List (Nat×A))
 | .ref i=>match look i S.cs with
  |some (.obj a fs)=>match Nat.beq a k with
   |true=>some (i,fs)
   |false=>none
  |_=>none
 |_=>none
noncomputable def rdD(S:WU):A->Option (Nat×List (Nat×A))
 | .ref i=>match look i S.cs with
  |some (.dct a)=>some (i,a)
  |_=>none
 |_=>none
noncomputable def b7(k n:Nat)(o:Ce):Ce:=λa S=>(o a S).b λx S=>match Zy S k x with
 |some p=>ob (look n p.2) S
 |none=>.bad
noncomputable def gK(k n:Nat)(o e:Ce):Cs:=λa S=>(e a S).x a λy S=>(o a S).x a λx S=>match Zy S k x with
 |some (i,fs)=>match few 90 fs with
  |true=>fl (zF n y fs) λfs=>wr i (.obj k fs) S λS=>.ok (.nx a) S
  |false=>.bad
 |none=>.bad
noncomputable def aR(k c:Nat)(f:List A->WU->Res A)(o:Ce)(d:Ca):Ce:=λa S=>(o a S).b λx S=>match Zy S k x with
 |some p=>match look c p.2 with
  |none=>(d a S).b λas S=>f (x::as) S
  |some _=>.bad
 |none=>.bad
noncomputable def nB(k:Nat)(f:List A->WU->Res A)(a:List A)(c:Ca):Ce:=λd S=>(c d S).b λas S=>(mk (.obj k []) S).b λx S=>(f (x::(as++a)) S).b λr S=>match r with
 | .WX=>.ok x S
 |_=>.bad
noncomputable def zd(f:List A->WU->Res A)(a:List A)(c:Ca):Ce:=λd S=>(c d S).b λas S=>f (as++a) S
noncomputable def tR(f:List A->WU->Res A)(c:List A->List A->List A)(d e:Ca):Ce:=λa S=>(d a S).b λas S=>(e a S).b λbs S=>f (c as bs) S
noncomputable def zj(k c:Nat)(f:List A->WU->Res A)(d:List A->List A->List A)(o:Ce)(e g:Ca):Ce:=λa S=>(o a S).b λx S=>match Zy S k x with
 |some p=>match look c p.2 with
  |none=>(e a S).b λas S=>(g a S).b λbs S=>f (d (x::as) bs) S
  |some _=>.bad
 |none=>.bad
noncomputable def vO:Ce:=λ_ S=>mk (.dct []) S
noncomputable def Z5:A->Option Nat
 | .str n=>some n
 |_=>none
noncomputable def nX(a b:A)(S:WU):Res A:=match Z5 a with
 |some n=>match rdD S b with
  |some p=>bA (match look n p.2 with|some _=>some false|none=>some true) S
  |none=>.bad
 |none=>.bad
noncomputable def wX(a:A)(S:WU):Res A:=match rdD S a with
 |some p=>je (.ofNat p.2.length) S
 |none=>.bad
noncomputable def wQ(d k e:Ce):Cs:=λa S=>(e a S).x a λv S=>(d a S).x a λx S=>(k a S).x a λy S=>match Z5 y with
 |some n=>match rdD S x with
  |some (i,c)=>match few 90 c with
   |true=>match look n c with
    |none=>fl (c++[(n,v)]) λc=>wr i (.dct c) S λS=>.ok (.nx a) S
    |some _=>.bad
   |false=>.bad
  |none=>.bad
 |none=>.bad
noncomputable def BY(e:Ce):Ce:=λa S=>(e a S).b λx S=>match x with
 | .int (.ofNat n)=>match Nat.ble n 99999999 with
  |true=>.ok .any S
  |false=>.bad
 | .int (.negSucc n)=>match Nat.ble n 99999999 with
  |true=>.ok .any S
  |false=>.bad
 |_=>.bad
noncomputable def AB(a b:A)(S:WU):Res A:=match a,b with
 | .int (.ofNat i),.int (.ofNat j)=>match Nat.ble i 99999999,Nat.ble j 99999999 with
  |true,true=>je (.ofNat (i*j)) S
  |_,_=>.bad
 |_,_=>.bad
noncomputable def D7(d:List (Nat×A))(a b:Ce):Ce:=λc S=>(a c S).b λx S=>match x with
 | .str n=>(b c S).b λy S=>match y with
  | .int i=>match look n d with
   |some (.int j)=>.ok (.int j) S
   |some _=>.bad
   |none=>.ok (.int i) S
  |_=>.bad
 |_=>.bad
noncomputable def Fk(e:Ce):Ci:=λa S=>(e a S).b λx S=>match x with
 | .tup c=>fl c.reverse λd=>.ok (d,[]) S
 |_=>.bad
noncomputable def kT(d:Nat)(e:YS)(c:Ce):List A->Env->WU->Res Env
 |[],a,S=>.ok a S
 |x::g,a,S=>match e x a with
  |none=>.bad
  |some a=>(c a S).b λy S=>match look d S.cs with
   |some (.lst f)=>match few 900 f with
    |true=>fl (f++[y]) λi=>wr d (.lst i) S λS=>kT d e c g a S
    |false=>.bad
   |_=>.bad
noncomputable def hU(d:Nat)(f:YS)(c:Ci)(g:YS)(e:Ce):List A->Env->WU->Res Env
 |[],a,S=>.ok a S
 |x::i,a,S=>match f x a with
  |none=>.bad
  |some a=>(c a S).b λp S=>((dP p.2 S λL=>kT d g e p.1 a L).back S p.2).b λa S=>hU d f c g e i a S
noncomputable def oS(it:Ci)(a:Nat)(fr:List Nat)(f:YS)(c:Ci)(g:YS)(d:Ce):Ce:=λe S=>(it e S).b λp S =>
 fl (Xl a fr e) λi=>((dP p.2 S λL=>match L with
  |⟨n,j⟩=>fn n λn=>(hU n f c g d p.1 i ⟨n+1,(n,.lst [])::j⟩).ZW.b λ_ L=>(Res.ok (A.ref n) L:Res A)).back S p.2)
noncomputable def zi(k:Nat)(F:List A->WU->Res A)(o:Ce):Ce:=λa S=>(o a S).b λx S=>match Zy S k x with
 |some _=>(F [x] S).ZW.b λr S=>match r with
  | .int (.ofNat n)=>match Nat.ble n 900 with
   |true=>.ok (.int (.ofNat n)) S
   |false=>.bad
  |_=>.bad
 |none=>.bad
noncomputable def intsOf:List A->Option (List Int)
 |[]=>some []
 | .int n::r=>match intsOf r with
  |some l=>some (n::l)
  |none=>none
 |_=>none
noncomputable def xX(n:Int):List Int->Bool
 |[]=>false
 |k::r=>match eqI k n with
  |true=>true
  |false=>xX n r
noncomputable def inI(a b:A):Option Bool:=match a,b with
 | .int n,.tup c=>match intsOf c with
  |some l=>some (xX n l)
  |none=>none
 |_,_=>none
noncomputable def GP(a b:A)(S:WU):Res A:=bA (inI a b) S
noncomputable def gJ:Cs:=λ_ _=>.bad
noncomputable def JD:A->Bool
 | .ref _=>true
 |_=>false
noncomputable def kO:List A->Bool
 |[]=>false
 |a::r=>match JD a with
  |true=>true
  |false=>kO r
noncomputable def old(n:Nat):List (Nat×C)->List (Nat×C)
 |[]=>[]
 | (i,c)::r=>match Nat.ble n i with
  |true=>old n r
  |false=>(i,c)::old n r
noncomputable def trim{α:Type}(n:Nat)(a:A)(S:WU)(k:WU->α):α:=match a with
 | .ref i=>match Nat.ble n i with
  |true=>match look i S.cs with
   |some (.lst d)=>match kO d with
    |false=>fl (old n S.cs) λc=>k ⟨S.nx,(i,.lst d)::c⟩
    |true=>k S
   |_=>k S
  |false=>fl (old n S.cs) λc=>k ⟨S.nx,c⟩
 | .tup d=>match kO d with
  |false=>fl (old n S.cs) λc=>k ⟨S.nx,c⟩
  |true=>k S
 | .any=>k S
 |_=>fl (old n S.cs) λc=>k ⟨S.nx,c⟩
noncomputable def Ek(n:Nat):Res A->Res A
 | .ok a S=>trim n a S λS=>.ok a S
 | .exc c S=>trim n .WX S λS=>.exc c S
 | .bad=>.bad
noncomputable def aF(c a:Nat)(body:Cs)(as:List A)(S:WU):Res A:=match Nat.beq as.length c with
 |true=>fl (as.map some++List.replicate (a - as.length) none) λd=>Ek S.nx (done (body d S))
 |false=>.bad
noncomputable def pZ(c a:Nat)(body:Cs)(as:List A)(S:WU):Res A:=match Nat.beq as.length c with
 |true=>fl (as.map some++List.replicate (a - as.length) none) λd=>done (body d S)
 |false=>.bad
noncomputable def Out{α:Type}(g:Gx)(m:List Addr)(S:WU)(H:Hp)(r:Res α)(P:α->List Addr->WU->Hp->Prop)(E:XK):Prop:=match r with
 | .ok a e=>∀f d,Ext m S H f e d->WZ g f e d->P a f e d
 | .exc c e=>∀f d i,Ext m S H f e d->WZ g f e d->E (.ref (g.cls c)) i d
 | .bad=>False
section
theorem Out.ext{α:Type}{g:Gx}{m m1:List Addr}{S S1:WU}{r:Res α}{P:α->List Addr->WU->Hp->Prop}{E:XK}(x:Ext m S H m1 S1 f)(h:Out g m S H r P E):Out g m1 S1 f r P E:=by
 cases r with
 |ok a i=>exactλd e y s=>h d e (x.trans y) s
 |exc c i=>exactλd e j y s=>h d e j (x.trans y) s
 |bad=>exact h
theorem Out.bind{α β:Type}{S:WU}{r:Res α}{f:α->WU->Res β}{P:β->List Addr->WU->Hp->Prop}(h:Out g m S H (r.b f) P E):Out g m S H r (λa m1 S1 d=>Out g m1 S1 d (f a S1) P E) E:=by
 cases r with
 |ok a e=>exactλi j y s=>Out.ext y h
 |exc c e=>exact h
 |bad=>exact h
theorem Out.mono{α:Type}{g:Gx}{m:List Addr}{S:WU}{r:Res α}{P i:α->List Addr->WU->Hp->Prop}{E:XK}(h:Out g m S H r P E)(k:∀a d e f,Ext m S H d e f->WZ g d e f->P a d e f->i a d e f):Out g m S H r i E:=by
 cases r with
 |ok a e=>exactλd f y s=>k a d e f y s (h d f y s)
 |exc c e=>exact h
 |bad=>exact h
theorem Out.ret{α:Type}{g:Gx}{m:List Addr}{S:WU}{P:α->List Addr->WU->Hp->Prop}{E:XK}{a:α}(h:Out g m S H (.ok a S) P E)(s:WZ g m S H):P a m S H:=h m H Ext.refl s
end
structure Re(g:Gx)(H:Hp)(m:List Addr)(ρ:Env)(σ:L2.St):Prop where
 len:ρ.length=σ.length
 get:∀(i:Nat)(a:A),ρ[i]?=some (some a)->∃v,σ[i]?=some (some v)/\R g H m a v
section
theorem Re.mono(e:Re g H m c d)(x:Ext m S H f l j)(s:WZ g m S H):Re g j f c d :=
 ⟨e.len,λi a h=>let⟨v,q,r⟩:=e.get i a h;⟨v,q,R.mono x s a r⟩⟩
theorem Re.set(e:Re g H m c f)(h:R g H m a v)(i:Nat):Re g H m (c.set i (some a)) (f.set i (some v)):=by
 refine⟨by simp[e.len],λj b q=>?_⟩;by_cases d:i=j
 ·subst d
  have hl:i<c.length:=by have:=(M1.mp q).1;simpa using this
  rw[UY hl]at q;cases q;exact⟨v,UY (by rw[<- e.len];exact hl),h⟩
 ·rw[Vo d]at q ⊢;exact e.get j b q
end
noncomputable def tE(g:Gx)(E:L2.St->XK)(c:Ce):TE:=λd H Q=>∃m e S,WZ g m S H/\Re g H m e d/\Out g m S H (c e S) (λa i _ f=>∀v,R g f i a v->Q v f) (E d)
noncomputable def tB(g:Gx)(E:L2.St->XK)(c:Ct):TT:=λa H Q=>∃m d S,WZ g m S H/\Re g H m d a/\Out g m S H (c d S) (λb _ _ e=>Q b e) (E a)
noncomputable def Z6(g:Gx)(E:L2.St->XK)(c:Ca):TA:=λa H Q=>∃m d S,WZ g m S H/\Re g H m d a/\Out g m S H (c d S) (λas i _ e=>∀f,Rs g e i as f->Q f e) (E a)
theorem XU(h:PE X e t)(k:∀a H Q,d a H Q->t a H Q):PE X e d:=λc s a H Q I f=>h c s a H Q I (k a H Q f)
theorem imT(h:PT X e t)(k:∀a H Q,d a H Q->t a H Q):PT X e d:=λc s a H Q I f=>h c s a H Q I (k a H Q f)
theorem imW(h:PW X e t)(k:∀a H Q,d a H Q->t a H Q):PW X e d:=λw c s a H Q I f=>h w c s a H Q I (k a H Q f)
theorem imA(h:PA X d t)(k:∀a H Q,e a H Q->t a H Q):PA X d e:=λp c s a H Q I f=>h p c s a H Q I (k a H Q f)
theorem Zz{X:Cx}{st:Stmt}(h:PS X st t)(k:∀D a H,d D a H->t D a H):PS X st d:=λc s a H D I e=>h c s a H D I (k D a H e)
theorem Cb{X:Cx}{st:List Stmt}(h:XH X st t)(k:∀D a H,d D a H->t D a H):XH X st d:=λc s a H D I e=>h c s a H D I (k D a H e)
noncomputable abbrev An(g:Gx)(Q:VK):A->List Addr->WU->Hp->Prop:=λa d _ c=>∀v,R g c d a v->Q v c
noncomputable def Y0(g:Gx)(r:R2)(o:A->A->WU->Res A):Prop:=∀m S H a b v w Q E,WZ g m S H->R g H m a v->R g H m b w->Out g m S H (o a b S) (An g Q) E->r v w H Q
noncomputable def Zs(g:Gx)(r:V->Hp->VK->Prop)(u:A->WU->Res A):Prop:=∀m S H a v Q E,WZ g m S H->R g H m a v->Out g m S H (u a S) (An g Q) E->r v H Q
section
variable{b e:Expr}
theorem q_v{X:Cx}(c:X.N[i]?=some x)(d:Vis X.env.scope x)(f:(x==("__debug__":Str))=false:=by decide)(a:(x==("__classdict__":Str))=false:=by decide):PE X (.Name x j) (tE g E (cV i)) :=
 XU (AU c d f a) λp H Q ⟨m,l,S,s,n,h⟩=>by
  unfold cV at h
  cases q:l[i]? with
  |none=>rw[q]at h;exact h.elim
  |some o =>
   cases o with
   |none=>rw[q]at h;exact h.elim
   |some x =>rw[q]at h;obtain⟨v,e,r⟩:=n.get i x q;exact⟨v,e,h.ret s v r⟩
theorem Bx(a:∀H m,R g H m x v)(h:tE g E (cC x) c H Q):Q v H:=by obtain⟨m,d,S,s,f,h⟩:=h;exact h.ret s v (a H m)
theorem jR:PE X (.Constant (.int i) j a) (tE g E (cC (.int i))):=XU aQ λ_ _ _ h=>Bx (λ_ _=>R.int i) h
theorem KA:PE X (.Constant (.bool i) j a) (tE g E (cC (.bl i))):=XU wy λ_ _ _ h=>Bx (λ_ _=>R.bl i) h
theorem KR:PE X (.Constant .none j a) (tE g E (cC .WX)):=XU Hj λ_ _ _ h=>Bx (λ_ _=>R.WX) h
theorem Ex{g:Gx}(h:g.ST[n]?=some x):PE X (.Constant (.str x) j a) (tE g E (cC (.str n))):=XU gG λ_ _ _ q=>Bx (λ_ _=>R.str h) q
theorem A6(a:Gl X x)(c:X.mg x=some u)(r:RelV v u)(d:∀H m,R g H m y v)(f:(x==("__debug__":Str))=false:=by decide):PE X (.Name x i) (tE g E (cC y)) :=
 XU (aK a c r f) λ_ _ _ h=>Bx d h
theorem bY:PA X [] (Z6 g E aN):=imA aj λ_ _ _ ⟨m,a,S,s,c,h⟩=>h.ret s [] .nil
theorem aT(i:PE X a (tE g E ca))(j:PA X l (Z6 g E n))(hs:b5 a=true:=by rfl):PA X (a::l) (Z6 g E (aC ca n)) :=
 imA (aB i j hs) λz H Q ⟨m,c,S,s,d,h⟩=>⟨m,c,S,s,d,h.bind.mono λx m1 S1 B p f q v r=>⟨m1,c,S1,f,d.mono p s,q.bind.mono λG m2 I J t u w y rs =>
  w.ret u (v::y) (.cons (R.mono t f _ r) rs)⟩⟩
theorem bH:∀{n:Nat}{xs:List α},few n xs=true->xs.length<=n
 |_,[],_=>Uw _
 |0,_::_,h=>nomatch h
 |n+1,_::xs,h=>Nat.succ_le_succ (bH (n:=n) (xs:=xs) h)
theorem dO(h:n<=1000):n<=sizeLine:=Ub h (by rw[Ul];decide)
theorem Out.new(h:Out g m S H (new a S) (An g Q) i)(s:WZ g m S H)(r:Rs g H m a d):d.length<=900/\∀p,H p=none->Q (.ref p) (upd H p (.lst d)):=by
 unfold EV.new at h
 cases q:few 900 a with
 |false=>rw[q]at h;exact h.elim
 |true =>
  rw[q]at h;refine⟨by rw[r.length];exact bH q,λp j=>?_⟩;have f:Out g m S H (fl a λa=>mk (.lst a) S) (An g Q) i:=h;rw[aY]at f;rw[nU]at f;obtain⟨l,n⟩:=s.alloc (c:=.lst a) (o:=.lst d) j λx=>⟨d,ai,Rs.mono x s a r⟩
  exact f _ _ n l _ (R.ref (by rw[<- s.len];simp))
theorem Out.tup(h:Out g m S H (qC a S) (An g Q) i)(s:WZ g m S H)(r:Rs g H m a d):d.length<=900/\(∀p,H p=none->Q (.ref p) (upd H p (.tup d)))/\∀p,Xz g.K H p d->Q (.ref p) H:=by
 unfold qC at h
 cases q:few 900 a with
 |false=>rw[q]at h;exact h.elim
 |true =>rw[q]at h;have f:Out g m S H (fl a λa=>.ok (.tup a) S) (An g Q) i:=h;rw[aY]at f;refine⟨by rw[r.length];exact bH q,λp c=>?_,λp c=>f.ret s _ (R.tup c r)⟩;exact f _ _ (Ext.new c _) (s.new c _) _ (R.tup (Xz.of ai) (Rs.mono (Ext.new c _) s a r))
theorem Out.int(h:Out g m S H (je i S) (An g Q) a)(s:WZ g m S H):Q (.int i) H:=by unfold je at h;rw[Ee]at h;exact h.ret s _ (R.int i)
theorem Out.bA(h:Out g m S H (bA o S) (An g Q) a)(s:WZ g m S H):∃b,o=some b/\Q (.bl b) H:=by
 cases o with
 |none=>exact h.elim
 |some b=>cases b<;>exact⟨_,rfl,h.ret s _ (R.bl _)⟩
theorem Ey{a}(h:PA X c (Z6 g E d)):PE X (.Tuple c a f) (tE g E (ae d)) :=
 XU (uE h) λp H Q ⟨m,i,S,s,j,h⟩=>⟨m,i,S,s,j,h.bind.mono λr m1 S1 t a l n u rs=>let q:=Out.tup n l rs;⟨dO (by have:=q.1;omega),q.2.1⟩⟩
theorem oi(h:PA X a (Z6 g E c)):PE X (.List a d) (tE g E (aM c)) :=
 XU (fA h) λn H Q ⟨m,f,S,s,i,h⟩=>⟨m,f,S,s,i,h.bind.mono λp m1 S1 r t j l u rs=>let q:=Out.new l j rs;⟨dO (by have:=q.1;omega),q.2⟩⟩
theorem tOp.of(ok:Y0 g r o)(h:tE g E (cO o ca f) i H Q):tOp r (tE g E ca) (tE g E f) i H Q:=by obtain⟨m,a,S,s,c,h⟩:=h;exact⟨m,a,S,s,c,h.bind.mono λx m1 S1 B j d l v n=>⟨m1,a,S1,d,c.mono j s,l.bind.mono λy m2 p q t u z w rw=>ok m2 p q x y v w Q _ u (R.mono t d _ n) rw z⟩⟩
theorem HK(c:XT X (binaryOp d) r)(ok:Y0 g r o)(f:PE X a (tE g E ca))(i:PE X b (tE g E j)):PE X (.BinOp a d b l) (tE g E (cO o ca j)) :=
 XU (bw c f i) λm H Q h=>tOp.of ok h
theorem KB(d:XT X (compareOp c) r)(ok:Y0 g r o)(f:PE X a (tE g E ca))(i:PE X b (tE g E j))(l:behindInMarks c b=false):PE X (.Compare a [c] [b] m) (tE g E (cO o ca j)) :=
 XU (pL d f i l) λn H Q h=>tOp.of ok h
theorem uM(c:IxR X r)(ok:Y0 g r o)(d:PE X a (tE g E ca))(f:PE X b (tE g E i))(hs:kE b):PE X (.Subscript a b j) (tE g E (cO o ca i)) :=
 XU (fz c d f hs) λl H Q h=>tOp.of ok h
theorem tUn.of(ok:Zs g r u)(h:tE g E (cU u ca) a H Q):tUn r (tE g E ca) a H Q:=by obtain⟨m,c,S,s,d,h⟩:=h;exact⟨m,c,S,s,d,h.bind.mono λx m1 S1 f n i j v l=>ok m1 S1 f x v Q _ i l j⟩
theorem MQ(c:UnR X (unaryOp d) r)(ok:Zs g r u)(f:PE X a (tE g E ca)):PE X (.UnaryOp d a i) (tE g E (cU u ca)) :=
 XU (Eu c f) λj H Q h=>tUn.of ok h
theorem MG{X:Cx}{id:String}(d:bo X (.builtin id) r)(ok:Zs g (λv H Q=>r [v] H Q) u)(f:Gl X x)(i:X.mg x=none)(j:bootBuiltins x=some (.builtin id))(l:PE X a (tE g E ca))
  (hs:b5 a=true:=by rfl) (m:x≠"__name__":=by decide) (c:(x==("__debug__":Str))=false:=by decide) (n:starEach [a] X.env=(false,eval a X.env)::starEach [] X.env:=by rfl):PE X (.Call (.Name x p) [a] [] q) (tE g E (cU u ca)) :=
 XU (aD d f i j (aB l aj hs) m c n) λt H Q h=>tUn.of ok h
theorem KY(d:bo X (.type T) r)(ok:Zs g (λv H Q=>r [v] H Q) u)(f:Gl X x)(i:X.mg x=none)(j:bootBuiltins x=some (.type T))(l:PE X a (tE g E ca))
  (hs:b5 a=true:=by rfl) (m:x≠"__name__":=by decide) (c:(x==("__debug__":Str))=false:=by decide) (n:starEach [a] X.env=(false,eval a X.env)::starEach [] X.env:=by rfl):PE X (.Call (.Name x p) [a] [] q) (tE g E (cU u ca)) :=
 XU (yi d f i j (aB l aj hs) m c n) λt H Q h=>tUn.of ok h
noncomputable def Xc(e:Ce):Ct:=λa S=>(e a S).b λx S=>match x with
 | .bl k=>.ok k S
 |_=>.bad
theorem Ys.of(k:∀a H Q,tE g E ca a H Q->t a H Q)(h:tB g E (Xc ca) a H Q):Ys t a H Q:=by
 obtain⟨m,d,S,s,f,h⟩:=h;refine k a H _ ⟨m,d,S,s,f,h.bind.mono λx m1 S1 l n i c v j=>?_⟩
 cases x with
 |bl b=>exact⟨b,j.X7,c.ret i⟩
 |_=>exact c.elim
theorem Bc(d:XT X (compareOp c) r)(ok:Y0 g r o)(f:PE X a (tE g E ca))(i:PE X b (tE g E j))(l:behindInMarks c b=false):PT X (.Compare a [c] [b] m) (tB g E (Xc (cO o ca j))) :=
 imT (cg d f i l) λn H Q h=>Ys.of (λ_ _ _ z=>tOp.of ok z) h
theorem Xk.look(s:WZ g m S H)(h:Z3 S i=some f):∃a d,m[i]?=some a/\H a=some (.lst d)/\Rs g H m f d:=by
 unfold Z3 at h
 cases q:EV.look i S.cs with
 |none=>rw[q]at h;cases h
 |some c =>
  obtain⟨a,e,ok⟩:=s.cell i c q
  cases c with
  |lst j=>rw[q]at h;cases h;obtain⟨d,e1,e2⟩:=ok;exact⟨a,d,e,e1,e2⟩
  |ZF j=>rw[q]at h;cases h;obtain⟨d,e1,e2⟩:=ok;exact⟨a,d,e,e1,e2⟩
  |dct l=>rw[q]at h;cases h
  |Zq=>rw[q]at h;cases h
  |obj k fs=>rw[q]at h;cases h
theorem Yl.of(s:WZ g m S H)(r:R g H m x v)(h:Yl S x=some f):∃a c,v=.ref a/\(Xk g.K H a c\/Xz g.K H a c)/\Rs g H m f c:=by
 cases x with
 |ref i =>obtain⟨a,e,rfl⟩:=r.Yu;obtain⟨b,c,e1,e2,e3⟩:=Xk.look s h;rw[e]at e1;cases e1;exact⟨a,c,rfl,.inl (Xk.of e2),e3⟩
 |cl j=>cases h;obtain⟨a,c,e,q,d⟩:=r.clE;exact⟨a,c,e,.inl (Y8.Zf (.inr q)),d⟩
 |tup j=>cases h;obtain⟨a,c,e,q,d⟩:=r.Xf;exact⟨a,c,e,.inr q,d⟩
 |_=>cases h
theorem W9.of(s:WZ g m S H)(r:R g H m x v)(h:W9 S x=some d):∃a c,v=.ref a/\Y8 g.K H a c/\Rs g H m d c:=by
 cases x with
 |ref i =>obtain⟨a,e,rfl⟩:=r.Yu;obtain⟨b,c,e1,e2,e3⟩:=Xk.look s h;rw[e]at e1;cases e1;exact⟨a,c,rfl,.inl e2,e3⟩
 |cl j=>cases h;obtain⟨a,c,e,q,f⟩:=r.clE;exact⟨a,c,e,.inr q,f⟩
 |_=>cases h
theorem zA(i j:Int):eqI i j=decide (i=j):=by
 refine Vj.mpr ?_;rw[decide_eq_true_iff]
 cases i with
 |ofNat a =>
  cases j with
  |ofNat b=>exact⟨λh=>UI _ (Ug h),λh=>by cases h;exact Wm a⟩
  |negSucc b=>exact⟨(λh=>nomatch h),(λh=>nomatch h)⟩
 |negSucc a =>
  cases j with
  |ofNat b=>exact⟨(λh=>nomatch h),(λh=>nomatch h)⟩
  |negSucc b=>exact⟨λh=>UI _ (Ug h),λh=>by cases h;exact Wm a⟩
theorem Az(r:Rs g H m a c):neL a=!c.isEmpty:=by
 cases a with
 |nil=>rw[r.XA];rfl
 |cons x a=>obtain⟨v,t,rfl,_⟩:=r.W0;rfl
theorem qB(s:WZ g m S H)(r:R g H m x v)(h:(match Yl S x with|some c=>some (neL c)|none=>none)=some k):yR g.K v H k:=by
 cases q:Yl S x with
 |none=>rw[q]at h;cases h
 |some c =>
  rw[q]at h;cases h;obtain⟨a,d,rfl,w,r2⟩:=Yl.of s r q;rcases w with w|w
  ·exact .inl ⟨d,w,Az r2⟩
  ·exact .inr (.inl ⟨d,w,Az r2⟩)
theorem truA.of(s:WZ g m S H)(r:R g H m x v)(h:truA S x=some k):yR g.K v H k:=by
 cases x with
 |WX=>cases h;rw[r.XF];exact rfl
 |bl b=>cases h;rw[r.X7];exact rfl
 |int i =>
  have a:some (nb (eqI i (.ofNat 0)))=some k:=h;cases a;rw[r.W4,zA];show _=(i != 0)
  by_cases z:i=0
  ·subst z;rfl
  ·rw[Um (show ¬ i=Int.ofNat 0 from z)];simp[nb,z]
 |tup c=>exact qB s r h
 |ref i=>exact qB s r h
 |cl c=>exact qB s r h
 |_=>cases h
theorem MP{X:Cx}{g:Gx}(i:X.K=g.K)(j:PE X a (tE g E ca))(l:∀c,isTrue a X.env c=(do let v <- c;standAt a.pos;holding [v] (truthy v))):PT X a (tB g E (tV ca)) :=
 imT (lP j l) λt H Q ⟨m,n,S,s,p,h⟩=>⟨m,n,S,s,p,h.bind.mono λx m1 S1 u w f d v r=>by
  cases q:truA S1 x with
  |none=>rw[q]at d;exact d.elim
  |some k=>rw[q]at d;exact⟨k,i▸truA.of f r q,d.ret f⟩⟩
theorem wk(b:Bool):nb b=!b:=by cases b<;>rfl
theorem HW(c:PT X a (tB g E ct)):PT X (.UnaryOp .Not a d) (tB g E (Yo ct)) :=
 imT (pP c) λn H Q ⟨m,f,S,s,i,h⟩=>⟨m,f,S,s,i,h.bind.mono λb m1 S1 p q j l=>by have:=l.ret j;rw[wk]at this;exact this⟩
theorem MN(l:PT X a (tB g E ct))(n:PW X (.BoolOp .Or (b::rest) c) (tB g E p)):PW X (.BoolOp .Or (a::b::rest) c) (tB g E (Zb ct p)) :=
 imW (wD l n) λr H Q ⟨m,d,S,s,f,h⟩=>⟨m,d,S,s,f,h.bind.mono λb m1 S1 t q i j=>by
  cases b with
  |true=>rw[TY rfl];exact j.ret i
  |false=>rw[TQ TU];exact⟨m1,d,S1,i,f.mono q s,j⟩⟩
theorem Ia(d:PE X a (tE g E ca)):PE X (.UnaryOp .Not a f) (tE g E (cNt ca)) :=
 XU (Hk d) λp H Q ⟨m,i,S,s,j,h⟩=>⟨m,i,S,s,j,h.bind.mono λx m1 S1 r t l c v n=>by
  cases x with
  |bl k =>obtain⟨b,e,q⟩:=Out.bA c l;cases e;exact⟨k,n.X7,by rw[wk]at q;exact q⟩
  |_=>exact c.elim⟩
theorem HZ(l:PE X a (tE g E ca))(n:PE X (.BoolOp .And (b::rest) c) (tE g E p)):PE X (.BoolOp .And (a::b::rest) c) (tE g E (cAn ca p)) :=
 XU (Hg l n) λt H Q ⟨m,f,S,s,i,h⟩=>⟨m,f,S,s,i,h.bind.mono λx m1 S1 u q j d v r=>by
  cases x with
  |bl k =>
   refine⟨k,r.X7,?_⟩
   cases k with
   |true=>rw[TY rfl];exact⟨m1,f,S1,j,i.mono q s,d⟩
   |false=>rw[TQ TU];exact d.ret j _ (R.bl _)
  |_=>exact d.elim⟩
theorem K2(l:PE X a (tE g E ca))(n:PE X (.BoolOp .Or (b::rest) c) (tE g E p)):PE X (.BoolOp .Or (a::b::rest) c) (tE g E (cOr ca p)) :=
 XU (Kz l n) λt H Q ⟨m,f,S,s,i,h⟩=>⟨m,f,S,s,i,h.bind.mono λx m1 S1 u q j d v r=>by
  cases x with
  |bl k =>
   refine⟨k,r.X7,?_⟩
   cases k with
   |true=>rw[TY rfl];exact d.ret j _ (R.bl _)
   |false=>rw[TQ TU];exact⟨m1,f,S1,j,i.mono q s,d⟩
  |_=>exact d.elim⟩
theorem MK(n:PT X c (tB g E ct))(p:PE X a (tE g E ca))(q:PE X b (tE g E r)):PE X (.IfExp c a b t) (tE g E (cIf ct ca r)) :=
 XU (AR n p q) λu H Q ⟨m,d,S,s,f,h⟩=>⟨m,d,S,s,f,h.bind.mono λk m1 S1 v i j l=>by
  cases k with
  |true=>rw[TY rfl];exact⟨m1,d,S1,j,f.mono i s,l⟩
  |false=>rw[TQ TU];exact⟨m1,d,S1,j,f.mono i s,l⟩⟩
theorem uv(i j:Int):leI i j=decide (i<=j):=by
 refine Vj.mpr ?_;rw[decide_eq_true_iff]
 cases i with
 |ofNat a =>
  cases j with
  |ofNat b=>exact⟨λh=>Int.ofNat_le.mpr (Uc h),λh=>VA (Int.ofNat_le.mp h)⟩
  |negSucc b=>exact⟨(λh=>nomatch h),λh=>absurd h (by have:Int.negSucc b<0:=Wr b;have:(0:Int)<=Int.ofNat a:=Int.natCast_nonneg a;omega)⟩
 |negSucc a =>
  cases j with
  |ofNat b=>exact⟨λ_=>by have:Int.negSucc a<0:=Wr a;have:(0:Int)<=Int.ofNat b:=Int.natCast_nonneg b;omega,λ_=>rfl⟩
  |negSucc b=>exact⟨λh=>by have:=Uc h;omega,λh=>VA (by omega)⟩
theorem wq:Y0 g (ZJ λi j=>.bl (decide (i<=j))) oLe:=λm S H a b v w Q E s c d h=>by
 unfold oLe xn at h
 cases a with
 |int i =>
  cases b with
  |int j =>obtain⟨k,e,q⟩:=Out.bA h s;cases e;rw[uv]at q;exact⟨i,j,c.W4,d.W4,q⟩
  |_=>exact h.elim
 |_=>exact h.elim
theorem Yt.of(h:tE g E (cCh ca B G) I H Q):Yt (ZJ λi j=>.bl (decide (i<=j))) (ZJ λi j=>.bl (decide (i<=j))) (tE g E ca) (tE g E B) (tE g E G) I H Q:=by
 obtain⟨m,a,S,s,c,h⟩:=h;refine⟨m,a,S,s,c,h.bind.mono λx m1 S1 H1 n d J v M=>⟨m1,a,S1,d,c.mono n s,J.bind.mono λy m2 N O p q T w rw=>?_⟩⟩;refine wq m2 N O x y v w _ _ q (R.mono p d _ M) rw (T.bind.mono λz m3 S3 H3 r t f u U=>?_)
 cases z with
 |bl k =>
  refine⟨k,U.X7,?_⟩
  cases k with
  |true =>rw[TY rfl];exact⟨m3,a,S3,t,(c.mono n s).mono (p.trans r) d,f.bind.mono λY m4 S4 H4 x4 s4 h4 w' l=>wq m4 S4 H4 y Y w w' Q _ s4 (R.mono (r.trans x4) q _ rw) l h4⟩
  |false=>rw[TQ TU];exact f.ret t _ (R.bl _)
 |_=>exact f.elim
end
mutual
noncomputable def toD(g:Gx):A->D
 | .WX=>.WX
 | .bl b=>.bl b
 | .int i=>.int i
 | .str n=>.str (g.ST.getD n "")
 | .tup a=>.tup (XJ g a)
 |_=>.lst
noncomputable def XJ(g:Gx):List A->List D
 |[]=>[]
 |x::a=>toD g x::XJ g a
end
section
theorem pd{g:Gx}(h:g.ST[n]?=some x):g.ST.getD n ""=x:=by rw[UJ,h];rfl
mutual
theorem i7:∀{n:Nat}(a:A){v:V},Zx n a=true->R g H m a v->Dat g.K H (toD g a) v/\XY (toD g a)=true/\cG (toD g a)<=n
 |n,.WX,v,_,r=>by rw[r.XF];unfold toD;exact⟨Dat.nonI,rfl,Uw _⟩
 |n,.bl b,v,_,r=>by rw[r.X7];unfold toD;exact⟨Dat.blI b,rfl,Uw _⟩
 |n,.int i,v,_,r=>by rw[r.W4];unfold toD;exact⟨Dat.intI i,rfl,Uw _⟩
 |n,.str k,v,_,r=>by obtain⟨x,e,rfl⟩:=r.Xi;unfold toD;rw[pd e];exact⟨Dat.strI x,rfl,Uw _⟩
 |0,.tup c,v,h,r=>nomatch h
 |n+1,.tup c,v,h,r=>by obtain⟨a,j,rfl,q,rs⟩:=r.Xf;obtain⟨d,e,f⟩:=YA (n:=n) c h rs;unfold toD;exact⟨Dat.tupI q d,by unfold XY;exact e,by unfold cG;omega⟩
 |_,.ref i,v,h,r=>by unfold Zx at h;cases h
 |_,.cl c,v,h,r=>by unfold Zx at h;cases h
 |_,.tab t,v,h,r=>by unfold Zx at h;cases h
 |_,.YL t,v,h,r=>by unfold Zx at h;cases h
 |_,.YU t,v,h,r=>by unfold Zx at h;cases h
 |_,.any,v,h,r=>by unfold Zx at h;cases h
 |_,.X5,v,h,r=>by unfold Zx at h;cases h
theorem YA:∀{n:Nat}(a:List A){c:List V},Y9 n a=true->Rs g H m a c->WW g.K H (XJ g a) c/\Xp (XJ g a)=true/\Xj (XJ g a)<=n
 |n,[],c,_,r=>by rw[r.XA];unfold XJ;exact⟨WW.nil,by unfold Xp;rfl,by unfold Xj;exact Uw _⟩
 |n,x::a,c,h,r=>by
  obtain⟨v,t,rfl,d,r2⟩:=r.W0;unfold Y9 at h
  cases q:Zx n x with
  |false=>rw[q]at h;cases h
  |true =>rw[q]at h;obtain⟨d1,e1,e⟩:=i7 x q d;obtain⟨d2,e2,f⟩:=YA a h r2;unfold XJ;exact⟨WW.cons d1 d2,by unfold Xp;rw[e1,e2];rfl,by unfold Xj;exact Nat.max_le.mpr ⟨e,f⟩⟩
end
theorem qz{g:Gx}(h:g.ST[n]?=some x)(a:g.ST[k]?=some y):(x==y)=Nat.beq n k:=by
 refine Vj.mpr ⟨λe=>?_,λe=>?_⟩
 ·have e:=eq_of_beq e;subst e;have e2:n=k:=(V2 (M1.mp h).1 g.nd).mp (h.trans a.symm);rw[e2];exact Wm k
 ·have e:=Ug e;subst e;rw[h]at a;cases a;exact V6 x
theorem vN(a b:Bool):Ji a b=(a==b):=by cases a<;>cases b<;>rfl
theorem o8(a b:Int):eqI a b=(a==b):=by rw[zA];rfl
theorem yT(a:Bool):b2n a=if a then 1 else 0:=by cases a<;>rfl
mutual
theorem o6:∀(a b:A){v w:V},R g H m a v->R g H m b w->Xd (toD g a) (toD g b)=Zr a b
 | .WX,b,v,w,_,_=>by cases b<;>simp[toD,Xd,Zr]
 | .bl x,b,v,w,_,_=>by cases b<;>simp[toD,Xd,Zr,vN,o8,yT]
 | .int x,b,v,w,_,_=>by cases b<;>simp[toD,Xd,Zr,vN,o8,yT]
 | .str x,b,v,w,r,c=>by
  cases b with
  |str y =>obtain⟨s,e,_⟩:=r.Xi;obtain⟨t,d,_⟩:=c.Xi;unfold toD Xd Zr;rw[pd e,pd d];exact qz e d
  |_=>simp[toD,Xd,Zr]
 | .tup x,b,v,w,r,c=>by
  cases b with
  |tup y =>obtain⟨_,_,_,_,r⟩:=r.Xf;obtain⟨_,_,_,_,c⟩:=c.Xf;unfold toD Xd Zr;exact ZQ x y r c
  |_=>simp[toD,Xd,Zr]
 | .ref x,b,v,w,_,_=>by cases b<;>simp[toD,Xd,Zr]
 | .cl x,b,v,w,_,_=>by cases b<;>simp[toD,Xd,Zr]
 | .tab x,b,v,w,_,_=>by cases b<;>simp[toD,Xd,Zr]
 | .YL x,b,v,w,_,_=>by cases b<;>simp[toD,Xd,Zr]
 | .YU x,b,v,w,_,_=>by cases b<;>simp[toD,Xd,Zr]
 | .any,b,v,w,_,_=>by cases b<;>simp[toD,Xd,Zr]
 | .X5,b,v,w,_,_=>by cases b<;>simp[toD,Xd,Zr]
theorem ZQ:∀(a b:List A){v w:List V},Rs g H m a v->Rs g H m b w->Xv (XJ g a) (XJ g b)=Z2 a b
 |[],[],_,_,_,_=>by simp[XJ,Xv,Z2]
 |[],_::_,_,_,_,_=>by simp[XJ,Xv,Z2]
 |_::_,[],_,_,_,_=>by simp[XJ,Xv,Z2]
 |x::c,y::d,_,_,r,e=>by obtain⟨_,_,_,f,r2⟩:=r.W0;obtain⟨_,_,_,i,j⟩:=e.W0;unfold XJ Xv Z2;rw[o6 x y f i,ZQ c d r2 j];cases Zr x y<;>rfl
end
theorem uA:Y0 g (λx y H Q=>ZJ (λi j=>.int (i+j)) x y H Q\/wL g.K x y H Q\/EB g.K x y H Q) bL:=λm S H a b v w Q E s G I h=>by
 have d:∀{f l:List A},W9 S a=some f->W9 S b=some l->Out g m S H (new (f++l) S) (An g Q) E->wL g.K v w H Q:=λO T h=>by obtain⟨p,n,rfl,q,r⟩:=W9.of s G O;obtain⟨t,c,rfl,u,J⟩:=W9.of s I T;obtain⟨z,k⟩:=Out.new h s (r.append J);exact⟨p,t,n,c,rfl,rfl,q,u,by rw[Uk]at z;omega,k⟩
 have gen:(match W9 S a with|some f=>(match W9 S b with|some l=>new (f++l) S|none=>Res.bad)|none=>Res.bad)=bL a b S->wL g.K v w H Q:=λe=>by
  rw[<- e]at h
  cases B:W9 S a with
  |none=>rw[B]at h;exact h.elim
  |some f =>
   cases M:W9 S b with
   |none=>rw[B,M]at h;exact h.elim
   |some l=>rw[B,M]at h;exact d B M h
 cases a with
 |int i =>
  cases b with
  |int j=>exact .inl ⟨i,j,G.W4,I.W4,Out.int h s⟩
  |_=>exact h.elim
 |tup f =>
  cases b with
  |tup l =>
   obtain⟨p,n,rfl,q,r⟩:=G.Xf;obtain⟨t,c,rfl,u,J⟩:=I.Xf;obtain⟨z,k,N⟩:=Out.tup h s (r.append J);refine .inr (.inr ?_)
   cases n with
   |nil=>exact .inl ⟨p,t,c,rfl,rfl,q,u,N t u⟩
   |cons U n =>refine .inr ⟨p,t,U::n,c,rfl,rfl,q,u,(λz=>nomatch z),dO (by rw[Uk]at z;omega),λe=>?_,λ_=>k⟩;subst e;exact N p (by rw[Vh];exact q)
  |_=>exact h.elim
 |ref i=>exact .inr (.inl (gen rfl))
 |cl i=>exact .inr (.inl (gen rfl))
 |_=>exact h.elim
theorem G9:Y0 g (ZJ λi j=>.int (i - j)) ye:=λm S H a b v w Q E s c d h=>by
 cases a with
 |int i =>
  cases b with
  |int j=>exact⟨i,j,c.W4,d.W4,Out.int h s⟩
  |_=>exact h.elim
 |_=>exact h.elim
theorem G0:Y0 g (rI (λ_ j=>0<j) λi j=>.int (i%j)) mV:=λm S H a b v w Q E s c d h=>by
 cases a with
 |int i =>
  cases b with
  |int j =>
   cases j with
   |ofNat n =>
    cases n with
    |zero=>exact h.elim
    |succ n=>exact⟨i,_,c.W4,d.W4,Int.natCast_pos.mpr (Nat.succ_pos n),Out.int h s⟩
   |negSucc n=>exact h.elim
  |_=>exact h.elim
 |_=>exact h.elim
theorem GT:Y0 g (rI IZ λi j=>.int (i / j)) yc:=λm S H a b v w Q E s c d h=>by
 cases a with
 |int i =>
  cases b with
  |int j =>
   cases j with
   |ofNat n =>
    cases n with
    |zero=>exact h.elim
    |succ n =>
     unfold yc at h;dsimp only at h
     cases q:Nat.ble n 100000 with
     |false=>rw[q]at h;exact h.elim
     |true =>rw[q]at h;have:=Uc q;exact⟨i,_,c.W4,d.W4,⟨Int.natCast_pos.mpr (Nat.succ_pos n),by show((n+1:Nat):Int)<1073741824;omega⟩,Out.int h s⟩
   |negSucc n=>exact h.elim
  |_=>exact h.elim
 |_=>exact h.elim
theorem wM(a:List α):∀n,ZP a n=(List.replicate n a).flatten
 |0=>rfl
 |n+1=>by show a++ZP a n=_;rw[wM a n,UN,Vn]
theorem Rs.ZP(h:Rs g H m a c):∀n,Rs g H m (EV.ZP a n) (EV.ZP c n)
 |0=>.nil
 |n+1=>h.append (Rs.ZP h n)
theorem C5:Y0 g La wo:=λm S H a b v w Q E s t u h=>by
 cases a with
 |ref i =>
  cases b with
  |int j =>
   cases j with
   |ofNat n =>
    unfold wo at h;dsimp only at h
    cases q:look i S.cs with
    |none=>rw[q]at h;exact h.elim
    |some c =>
     rw[q]at h
     cases c with
     |lst B =>
      dsimp only at h
      cases d:Nat.ble n 900 with
      |false=>rw[d]at h;exact h.elim
      |true =>rw[d]at h;have G:=Uc d;obtain⟨p,e,f,y,r⟩:=s.cell i _ q;obtain⟨I,l,rfl⟩:=t.Yu;rw[e]at l;cases l;obtain⟨z,k⟩:=Out.new h s (r.ZP n);rw[wM]at z k;rw[pw]at z;exact⟨p,_,f,rfl,u.W4,y,by show -(2 ^ 63)<=((n:Nat):Int);omega,by show((n:Nat):Int)<2 ^ 63;omega,dO (by show f.length*n<=1000;rw[Nat.mul_comm];omega),k⟩
     |_=>exact h.elim
   |negSucc n=>exact h.elim
  |_=>exact h.elim
 |_=>exact h.elim
theorem C6:Y0 g (EC g.K) AD:=λm S H a b v w Q E s e f h=>by
 cases a with
 |tup c =>
  cases c with
  |nil=>exact h.elim
  |cons x c =>
   cases c with
   |cons _ _=>exact h.elim
   |nil =>
    cases b with
    |int j =>
     cases j with
     |ofNat n =>
      cases n with
      |zero=>exact h.elim
      |succ n =>
       cases n with
       |zero=>exact h.elim
       |succ n =>obtain⟨p,y,rfl,q,r⟩:=e.Xf;obtain⟨i,t,rfl,l,d⟩:=r.W0;have d:=d.XA;subst d;have u:Out g m S H (qC (List.replicate (n+2) x) S) (An g Q) E:=h;obtain⟨z,k,_⟩:=Out.tup u s (Rs.rep l (n+2));rw[Vz]at z;exact⟨p,i,_,rfl,f.W4,by show(2:Int)<=((n+2:Nat):Int);omega,by show((n+2:Nat):Int)<=1000;omega,q,k⟩
     |negSucc n=>exact h.elim
    |_=>exact h.elim
 |_=>exact h.elim
theorem uB{f:Int->Int->Bool}{p:Int->Int->Bool}(e:∀i j,f i j=p i j):Y0 g (ZJ λi j=>.bl (p i j)) (xn f):=λm S H a b v w Q E s c d h=>by
 cases a with
 |int i =>
  cases b with
  |int j =>obtain⟨k,l,q⟩:=Out.bA h s;cases l;rw[e]at q;exact⟨i,j,c.W4,d.W4,q⟩
  |_=>exact h.elim
 |_=>exact h.elim
theorem nle(i j:Int):nb (leI i j)=decide (j<i):=by
 rw[uv,wk];by_cases h:i<=j
 ·rw[U4 h,Um (by omega)];rfl
 ·rw[Um h,U4 (by omega)];rfl
theorem Kv:Y0 g (ZJ λi j=>.bl (decide (i<j))) oLt:=uB λi j=>nle j i
theorem Kt:Y0 g (ZJ λi j=>.bl (decide (j<i))) oGt:=uB λi j=>nle i j
theorem Ks:Y0 g (ZJ λi j=>.bl (decide (j<=i))) oGe:=uB λi j=>uv j i
theorem eqO.of(s:WZ g m S H)(n:R g H m a v)(t:R g H m b w)(h:eqO S a b=some k) :
  (∃d e,Dat g.K H d v/\Dat g.K H e w/\XY d=true/\XY e=true/\cG d<=20/\Xd d e=k) \/
  ∃p q i j l u,v=.ref p/\w=.ref q/\Xk g.K H p i/\Xk g.K H q j/\WW g.K H l i/\WW g.K H u j/\Xp l=true/\Xp u=true/\Xj l<=20/\Xv l u=k:=by
 unfold eqO at h
 cases y:W9 S a with
 |some i =>
  rw[y]at h;dsimp only at h
  cases z:W9 S b with
  |none=>rw[z]at h;cases h
  |some j =>
   rw[z]at h;dsimp only at h
   cases c:Y9 20 i with
   |false=>rw[c]at h;cases h
   |true =>
    cases ob:Y9 20 j with
    |false=>rw[c,ob]at h;cases h
    |true =>rw[c,ob]at h;cases h;obtain⟨p,J,rfl,q,r⟩:=W9.of s n y;obtain⟨M,B,rfl,N,I⟩:=W9.of s t z;obtain⟨d,e,f⟩:=YA i c r;obtain⟨E,G,O⟩:=YA j ob I;exact .inr ⟨p,M,J,B,_,_,rfl,rfl,q.Zf,N.Zf,d,E,e,G,f,ZQ i j r I⟩
 |none =>
  rw[y]at h;dsimp only at h
  cases c:Zx 20 a with
  |false=>rw[c]at h;cases h
  |true =>
   cases ob:Zx 20 b with
   |false=>rw[c,ob]at h;cases h
   |true =>rw[c,ob]at h;cases h;obtain⟨d,e,f⟩:=i7 a c n;obtain⟨E,G,O⟩:=i7 b ob t;exact .inl ⟨_,_,d,E,e,G,f,o6 a b n t⟩
theorem Kr:Y0 g (λx y H Q=>yq g.K false x y H Q\/yr g.K false x y H Q) oEq:=λm S H a b v w Q E s n r h=>by
 obtain⟨k,e,q⟩:=Out.bA h s;rcases eqO.of s n r e with⟨d,e,c,f,i,j,h5,l⟩|⟨p,t,u,z,B,G,e1,e2,c,f,i,j,h5,l,h7,I⟩
 ·exact .inl ⟨d,e,c,f,i,j,h5,by rw[<- l]at q;exact q⟩
 ·exact .inr ⟨p,t,u,z,B,G,e1,e2,c,f,i,j,h5,l,h7,by rw[<- I]at q;exact q⟩
theorem nO.of(h:nO o=some k):o=some (!k):=by
 cases o with
 |none=>cases h
 |some b=>cases h;rw[wk,VR]
theorem Ep:Y0 g (λx y H Q=>yq g.K true x y H Q\/yr g.K true x y H Q) Za:=λm S H a b v w Q E s n r h=>by
 obtain⟨k,e,q⟩:=Out.bA h s;rcases eqO.of s n r (nO.of e)with⟨d,e,c,f,i,j,h5,l⟩|⟨p,t,u,z,B,G,e1,e2,c,f,i,j,h5,l,h7,I⟩
 ·exact .inl ⟨d,e,c,f,i,j,h5,by rw[<- VR (b:=k),<- l]at q;exact q⟩
 ·exact .inr ⟨p,t,u,z,B,G,e1,e2,c,f,i,j,h5,l,h7,by rw[<- VR (b:=k),<- I]at q;exact q⟩
theorem wg(r:R g H m x v):∀(a:List A){c:List V},Rs g H m a c->((XJ g a).any λe=>Xd e (toD g x))=CV x a
 |[],_,_=>rfl
 |y::d,_,rs=>by obtain⟨_,_,_,f,r2⟩:=rs.W0;unfold XJ CV;rw[U1,o6 y x f r,wg r d r2];cases Zr y x<;>rfl
theorem inL.of(s:WZ g m S H)(t:R g H m a v)(y:R g H m b w)(h:inL S a b=some k) :
  ∃l u c d,w=.ref l/\Xk g.K H l u/\WW g.K H c u/\Dat g.K H d v/\Xp c=true/\XY d=true/\Xj c<=20/\(c.any λe=>Xd e d)=k:=by
 unfold inL at h
 cases j:W9 S b with
 |none=>rw[j]at h;cases h
 |some n =>
  rw[j]at h;dsimp only at h
  cases i:Zx 20 a with
  |false=>rw[i]at h;cases h
  |true =>
   cases ob:Y9 20 n with
   |false=>rw[i,ob]at h;cases h
   |true =>rw[i,ob]at h;cases h;obtain⟨p,z,rfl,q,r⟩:=W9.of s y j;obtain⟨d,e,f⟩:=i7 a i t;obtain⟨B,E,G⟩:=YA n ob r;exact⟨p,z,_,_,rfl,q.Zf,B,d,E,e,G,wg t n r⟩
theorem Ku:Y0 g (K5 g.K false) oIn:=λm S H a b v w Q E s c f h=>by obtain⟨k,e,q⟩:=Out.bA h s;obtain⟨l,i,j,d,n,p,r,t,h5,u,h7,y⟩:=inL.of s c f e;exact⟨l,i,j,d,n,p,r,t,h5,u,h7,by rw[<- y]at q;exact q⟩
theorem strsOf.of:∀{a:List A}{c:List V}{l:List Nat},Rs g H m a c->strsOf a=some l->∃d:List Str,c=d.map V.str/\Paired (λ(n:Nat)(x:Str)=>g.ST[n]?=some x) l d
 |[],c,l,r,h=>by cases h;rw[r.XA];exact⟨[],rfl,.nil⟩
 |x::a,c,l,r,h=>by
  obtain⟨v,t,rfl,f,r2⟩:=r.W0
  cases x with
  |str n =>
   unfold strsOf at h
   cases q:strsOf a with
   |none=>rw[q]at h;cases h
   |some i =>rw[q]at h;cases h;obtain⟨d,rfl,p⟩:=strsOf.of r2 q;obtain⟨x,e,rfl⟩:=f.Xi;exact⟨x::d,rfl,.cons e p⟩
  |_=>cases h
theorem nN:∀a:List Str,(a.map V.str).all dY=true
 |[]=>rfl
 |z::a=>by rw[T9,Ud,nN a];rfl
theorem rN{g:Gx}(h:g.ST[n]?=some x):∀{l:List Nat}{c:List Str},Paired (λ(n:Nat)(x:Str)=>g.ST[n]?=some x) l c->inV (.str x) (c.map V.str)=bF n l
 |_,_,.nil=>rfl
 |_,_,.cons (a:=k) (b:=y) e p=>by
  have d:=rN h p;unfold inV at d ⊢;rw[T9,U1,d];show(y==x||bF n _)=(match Nat.beq k n with|true=>true|false=>bF n _)
  rw[qz e h];cases Nat.beq k n<;>rfl
theorem inS.of(s:WZ g m S H)(d:R g H m a v)(f:R g H m b w)(h:inS a b=some k):∃p c,w=.ref p/\(Xk g.K H p c\/Xz g.K H p c)/\dY v=true/\c.all dY=true/\inV v c=k:=by
 cases a with
 |str n =>
  cases b with
  |tup c =>
   unfold inS at h;dsimp only at h
   cases q:strsOf c with
   |none=>rw[q]at h;cases h
   |some l =>rw[q]at h;cases h;obtain⟨x,e,rfl⟩:=d.Xi;obtain⟨p,u,rfl,i,r⟩:=f.Xf;obtain⟨j,rfl,t⟩:=strsOf.of r q;exact⟨p,_,rfl,.inr i,rfl,nN j,rN e t⟩
  |_=>cases h
 |_=>cases h
theorem GX:Y0 g (rIn g.K false) AA:=λm S H a b v w Q E s c d h=>by obtain⟨k,e,q⟩:=Out.bA h s;obtain⟨p,f,i,j,l,n,h5⟩:=inS.of s c d e;exact⟨p,f,i,j,l,n,by rw[<- h5]at q;exact q⟩
theorem C4:Y0 g (rIn g.K true) AC:=λm S H a b v w Q E s c d h=>by obtain⟨k,e,q⟩:=Out.bA h s;obtain⟨p,f,i,j,l,n,h5⟩:=inS.of s c d (nO.of e);exact⟨p,f,i,j,l,n,by rw[<- VR (b:=k),<- h5]at q;exact q⟩
theorem ixA.of(r:Rs g H m a c)(h:ixA a i=some x):∃v,atI c i=some v/\R g H m x v:=by
 cases i with
 |ofNat n =>obtain⟨v,e,q⟩:=r.get (show a[n]?=some x from h);exact⟨v,gW e,q⟩
 |negSucc n =>
  unfold ixA at h;dsimp only at h
  cases z:Nat.ble (n+1) a.length with
  |false=>rw[z]at h;cases h
  |true =>
   rw[z]at h;dsimp only at h;obtain⟨v,e,q⟩:=r.get h;refine⟨v,?_,q⟩;have hl:=r.length;have j:=Uc z
   have e1:ixN c.length (Int.negSucc n)=some (a.length - (n+1)):=by
    unfold ixN;have d:¬ (0:Int)<=Int.negSucc n:=by have:=Wr n;omega
    have f:-(c.length:Int)<=Int.negSucc n:=by rw[hl,Int.negSucc_eq];omega
    rw[TQ d,TY f];congr 1;rw[hl,Int.negSucc_eq];omega
   unfold atI;rw[e1];exact e
theorem lM:Y0 g (rIx g.K) Xe:=λm S H a b v w Q E s j d h=>by
 cases b with
 |int i =>
  unfold Xe at h;dsimp only at h
  cases q:Yl S a with
  |none=>rw[q]at h;exact h.elim
  |some l =>
   rw[q]at h;dsimp only at h
   cases c:ixA l i with
   |none=>rw[c]at h;exact h.elim
   |some x =>
    rw[c]at h;obtain⟨p,f,rfl,sq,r⟩:=Yl.of s j q;obtain⟨u,e,n⟩:=ixA.of r c;have fin:=h.ret s u n;rcases sq with sq|sq
    ·exact .inl ⟨p,f,i,u,rfl,d.W4,sq,e,fin⟩
    ·exact .inr (.inl ⟨p,f,i,u,rfl,d.W4,sq,e,fin⟩)
 |_=>exact h.elim
theorem G5:Zs g (rU λi=>.int (-i)) yI:=λm S H a v Q E s c h=>by
 cases a with
 |int i=>exact⟨i,c.W4,Out.int h s⟩
 |_=>exact h.elim
theorem AF:Zs g (λx H Q=>Q (.bl (decide (x=.WX))) H) qF:=λm S H a v Q E s c h=>by
 obtain⟨k,e,q⟩:=Out.bA h s
 cases a with
 |WX=>cases e;rw[c.XF];exact q
 |any=>cases e
 |bl b=>cases e;rw[c.X7];exact q
 |int b=>cases e;rw[c.W4];exact q
 |str n=>cases e;obtain⟨x,_,rfl⟩:=c.Xi;exact q
 |tup n=>cases e;obtain⟨x,_,rfl,_⟩:=c.Xf;exact q
 |ref n=>cases e;obtain⟨x,_,rfl⟩:=c.Yu;exact q
 |cl n=>cases e;obtain⟨x,_,rfl,_⟩:=c.clE;exact q
 |tab n=>cases e;rw[c.tabE];exact q
 |YL n=>cases e;obtain⟨x,rfl,_⟩:=c.setE;exact q
 |YU n=>cases e;obtain⟨x,rfl,_⟩:=c.rngE;exact q
 |X5=>cases e;obtain⟨x,_,rfl,_⟩:=c.scrE;exact q
theorem wt:Zs g (λx H Q=>Q (.bl (!decide (x=.WX))) H) mG:=λm S H a v Q E s c h=>by
 obtain⟨k,e,q⟩:=Out.bA h s
 cases a with
 |WX=>cases e;rw[c.XF];exact q
 |any=>cases e
 |bl b=>cases e;rw[c.X7];exact q
 |int b=>cases e;rw[c.W4];exact q
 |str n=>cases e;obtain⟨x,_,rfl⟩:=c.Xi;exact q
 |tup n=>cases e;obtain⟨x,_,rfl,_⟩:=c.Xf;exact q
 |ref n=>cases e;obtain⟨x,_,rfl⟩:=c.Yu;exact q
 |cl n=>cases e;obtain⟨x,_,rfl,_⟩:=c.clE;exact q
 |tab n=>cases e;rw[c.tabE];exact q
 |YL n=>cases e;obtain⟨x,rfl,_⟩:=c.setE;exact q
 |YU n=>cases e;obtain⟨x,rfl,_⟩:=c.rngE;exact q
 |X5=>cases e;obtain⟨x,_,rfl,_⟩:=c.scrE;exact q
theorem GZ:Zs g (λv H Q=>∃p c,[v]=[V.ref p]/\(Xk g.K H p c\/Xz g.K H p c)/\Q (.int c.length) H) bu:=λm S H a v Q E s d h=>by
 unfold bu at h
 cases q:Yl S a with
 |none=>rw[q]at h;exact h.elim
 |some f =>rw[q]at h;obtain⟨p,e,rfl,sq,r⟩:=Yl.of s d q;refine⟨p,e,rfl,sq,?_⟩;rw[r.length];exact Out.int h s
theorem C2:Zs g (λv H Q=>∃(p:Addr)(n:Nat),[v]=[V.ref p]/\H p=some (.ext (qr p n))/\n<=1000/\Q (.int n) H) wY:=λm S H a v Q E s c h=>by
 cases a with
 |YL n =>
  obtain⟨p,rfl,q⟩:=c.setE;unfold wY at h;dsimp only at h
  cases z:Nat.ble n 900 with
  |false=>rw[z]at h;exact h.elim
  |true =>rw[z]at h;exact⟨p,n,rfl,q,by have:=Uc z;omega,Out.int h s⟩
 |_=>exact h.elim
theorem allB.of:∀{a:List A}{d:List V}{k:Bool},Rs g H m a d->allB a=some k->∃bs:List Bool,d=bs.map V.bl/\bs.all id=k
 |[],d,k,r,h=>by cases h;rw[r.XA];exact⟨[],rfl,rfl⟩
 |x::a,d,k,r,h=>by
  obtain⟨v,t,rfl,f,r2⟩:=r.W0
  cases x with
  |bl b =>
   unfold allB at h
   cases q:allB a with
   |none=>rw[q]at h;cases h
   |some c =>rw[q]at h;obtain⟨bs,rfl,e⟩:=allB.of r2 q;rw[f.X7];refine⟨b::bs,rfl,?_⟩;rw[Ud,e];cases b<;>exact T7 h
  |_=>cases h
theorem anyB.of:∀{a:List A}{d:List V}{k:Bool},Rs g H m a d->anyB a=some k->∃bs:List Bool,d=bs.map V.bl/\bs.any id=k
 |[],d,k,r,h=>by cases h;rw[r.XA];exact⟨[],rfl,rfl⟩
 |x::a,d,k,r,h=>by
  obtain⟨v,t,rfl,f,r2⟩:=r.W0
  cases x with
  |bl b =>
   unfold anyB at h
   cases q:anyB a with
   |none=>rw[q]at h;cases h
   |some c =>rw[q]at h;obtain⟨bs,rfl,e⟩:=anyB.of r2 q;rw[f.X7];refine⟨b::bs,rfl,?_⟩;rw[U1,e];cases b<;>exact T7 h
  |_=>cases h
theorem ZO.of:∀{a:List A}{d:List V}{k:Int},Rs g H m a d->ZO a=some k->∃f:List Int,d=f.map V.int/\f.sum=k
 |[],d,k,r,h=>by cases h;rw[r.XA];exact⟨[],rfl,rfl⟩
 |x::a,d,k,r,h=>by
  obtain⟨v,t,rfl,j,r2⟩:=r.W0
  cases x with
  |int i =>
   unfold ZO at h
   cases q:ZO a with
   |none=>rw[q]at h;cases h
   |some c =>rw[q]at h;cases h;obtain⟨f,rfl,e⟩:=ZO.of r2 q;rw[j.W4];exact⟨i::f,rfl,by rw[List.sum_cons,e]⟩
  |_=>cases h
theorem GQ:Zs g (λv H Q=>∃(l:Addr)(bs:List Bool),[v]=[V.ref l]/\Xk g.K H l (bs.map V.bl)/\Q (.bl (bs.all id)) H) qD:=λm S H a v Q E s c h=>by
 unfold qD at h
 cases q:W9 S a with
 |none=>rw[q]at h;exact h.elim
 |some f =>rw[q]at h;obtain⟨p,i,rfl,sq,r⟩:=W9.of s c q;obtain⟨k,e,fin⟩:=Out.bA h s;obtain⟨bs,rfl,d⟩:=allB.of r e;exact⟨p,bs,rfl,sq.Zf,by rw[d];exact fin⟩
theorem GR:Zs g (λv H Q=>∃(l:Addr)(bs:List Bool),[v]=[V.ref l]/\Xk g.K H l (bs.map V.bl)/\Q (.bl (bs.any id)) H) DW:=λm S H a v Q E s c h=>by
 unfold DW at h
 cases q:W9 S a with
 |none=>rw[q]at h;exact h.elim
 |some f =>rw[q]at h;obtain⟨p,i,rfl,sq,r⟩:=W9.of s c q;obtain⟨k,e,fin⟩:=Out.bA h s;obtain⟨bs,rfl,d⟩:=anyB.of r e;exact⟨p,bs,rfl,sq.Zf,by rw[d];exact fin⟩
theorem Ha:Zs g (λv H Q=>∃(l:Addr)(c:List Int),[v]=[V.ref l]/\Xk g.K H l (c.map V.int)/\Q (.int c.sum) H) DY:=λm S H a v Q E s d h=>by
 unfold DY at h
 cases q:W9 S a with
 |none=>rw[q]at h;exact h.elim
 |some f =>
  rw[q]at h;dsimp only at h
  cases e:ZO f with
  |none=>rw[e]at h;exact h.elim
  |some i =>rw[e]at h;obtain⟨p,n,rfl,sq,r⟩:=W9.of s d q;obtain⟨c,rfl,j⟩:=ZO.of r e;exact⟨p,c,rfl,sq.Zf,by rw[j];exact Out.int h s⟩
theorem Hb:Zs g (λv H Q=>∃p c,[v]=[V.ref p]/\((Xk g.K H p c/\∀l,H l=none->Q (.ref l) (upd H l (.tup c)))\/(Xz g.K H p c/\Q (.ref p) H))) nr:=λm S H a v Q E s d h=>by
 unfold nr at h
 cases q:Yl S a with
 |none=>rw[q]at h;exact h.elim
 |some e =>
  rw[q]at h;obtain⟨p,f,rfl,sq,r⟩:=Yl.of s d q;refine⟨p,f,rfl,?_⟩;rcases sq with sq|sq
  ·exact .inl ⟨sq,λl hl=>h _ _ (Ext.new hl _) (s.new hl _) _ (R.tup (Xz.of ai) (Rs.mono (Ext.new hl _) s e r))⟩
  ·exact .inr ⟨sq,h.ret s _ (R.tup sq r)⟩
theorem AE:Zs g (λv H Q=>∃p c,[v]=[V.ref p]/\(Xk g.K H p c\/Xz g.K H p c)/\∀l,H l=none->Q (.ref l) (upd H l (.lst c))) qE:=λm S H a v Q E s d h=>by
 unfold qE at h
 cases q:Yl S a with
 |none=>rw[q]at h;exact h.elim
 |some f =>rw[q]at h;obtain⟨p,e,rfl,sq,r⟩:=Yl.of s d q;exact⟨p,e,rfl,sq,(Out.new h s r).2⟩
theorem Yw.of:∀(n k:Nat),Rs g H m (Yw k n) ((List.range' k n).map λi:Nat=>V.int i)
 |0,k=>.nil
 |n+1,k=>by unfold Yw;rw[List.range'_succ,T9];exact .cons (R.int _) (Yw.of n (k+1))
theorem zR(n:Nat):Rs g H m (Yw 0 n) ((List.range n).map λi:Nat=>V.int i):=by have:=Yw.of (g:=g) (H:=H) (m:=m) n 0;rw[<- List.range_eq_range']at this;exact this
theorem C3:Zs g (λv H Q=>∃(p:Addr)(n:Nat),[v]=[V.ref p]/\H p=some (.YU 0 n)/\n<=1000/\∀l,H l=none->Q (.ref l) (upd H l (.lst ((List.range n).map λi:Nat=>V.int i)))) oK:=λm S H a v Q E s c h=>by
 cases a with
 |YU n =>obtain⟨p,rfl,q⟩:=c.rngE;obtain⟨z,k⟩:=Out.new h s (zR n);rw[T8,WN]at z;exact⟨p,n,rfl,q,by omega,k⟩
 |_=>exact h.elim
theorem G7:Zs g (λv H Q=>∃n:Nat,[v]=[V.int n]/\∀p,H p=none->Q (.ref p) (upd H p (.YU 0 n))) vG:=λm S H a v Q E s d h=>by
 cases a with
 |int i =>
  cases i with
  |ofNat n =>
   unfold vG at h;dsimp only at h
   cases z:Nat.ble n 900 with
   |false=>rw[z]at h;exact h.elim
   |true =>rw[z]at h;refine⟨n,by rw[d.W4];rfl,λp c=>h _ _ (Ext.new c _) (s.new c _) _ ?_⟩;unfold R;exact⟨p,rfl,ai⟩
  |negSucc n=>exact h.elim
 |_=>exact h.elim
end
section
variable{g:Gx}
noncomputable abbrev Sd(g:Gx):List Nat->List Str->Prop:=Paired (λ(n:Nat)(x:Str)=>g.ST[n]?=some x)
theorem rT(h:g.ST[n]?=some x):∀{l:List Nat}{c:List Str},Sd g l c->(c.any λy=>y==x)=bF n l
 |_,_,.nil=>rfl
 |_,_,.cons (a:=k) (b:=y) e p=>by
  rw[U1,rT h p,qz e h];show _=(match Nat.beq k n with|true=>true|false=>bF n _)
  cases Nat.beq k n<;>rfl
theorem lh:∀{l:List Nat}{i:List Str}{c:List Nat}{d:List Str},Sd g l i->Sd g c d->(i.foldl step_dedup d).length=(xw c l).length
 |_,_,c,d,.nil,h=>h.length.symm
 |_,_,c,d,.cons (a:=n) (b:=x) e p,h=>by
  rw[List.foldl_cons];have f:=rT e h;unfold xw
  cases q:bF n c with
  |true =>
   rw[q]at f;have:step_dedup d x=d:=by unfold step_dedup;rw[TY f]
   rw[this];exact lh p h
  |false =>
   rw[q]at f;have:step_dedup d x=d++[x]:=by unfold step_dedup;rw[TQ (by rw[f];exact TU)]
   rw[this];exact lh p (h.snoc e)
theorem Aw(a:List Str):(List.range a.length).map (λi=>a.getD i "")=a:=by refine List.ext_getElem (by simp) λi d c=>?_;rw[List.getElem_map,List.getElem_range,UJ,RL c];rfl
theorem G8:Zs g (λv H Q=>∃(l:Addr)(c:List Str),[v]=[V.ref l]/\Xk g.K H l (c.map V.str)/\c.length<=100/\∀p,H p=none->Q (.ref p) (upd H p (.ext (qr p (tX c))))) DX:=λm S H a v Q E s j h=>by
 unfold DX at h
 cases q:W9 S a with
 |none=>rw[q]at h;exact h.elim
 |some f =>
  rw[q]at h;dsimp only at h
  cases d:few 90 f with
  |false=>rw[d]at h;exact h.elim
  |true =>
   cases e:strsOf f with
   |none=>rw[d,e]at h;exact h.elim
   |some l =>
    rw[d,e]at h;dsimp only at h;rw[vV]at h;obtain⟨p,t,rfl,sq,r⟩:=W9.of s j q;obtain⟨c,rfl,n⟩:=strsOf.of r e;have hl:=r.length;rw[T8]at hl;refine⟨p,c,rfl,sq.Zf,by have:=bH d;omega,λb i=>h _ _ (Ext.new i _) (s.new i _) _ ?_⟩;unfold R;refine⟨b,rfl,?_⟩;rw[ai]
    have:tX c=(xw [] l).length:=by unfold tX met;rw[Aw];exact lh n .nil
    rw[this]
end
noncomputable def TyA(K:W.Frag)(H:Hp)(k:Nat)(v:V):Prop:=match k with
 |0=>v=.WX
 |1=>∃b,v=.bl b
 |2=>∃b,v=.int b
 |3=>∃b,v=.str b
 |4=>∃a c,v=.ref a/\Xz K H a c
 |5=>∃a c,v=.ref a/\Xk K H a c
 |_=>False
noncomputable def tyS:Nat->String
 |0=>"NoneType"
 |1=>"bool"
 |2=>"int"
 |3=>"str"
 |4=>"tuple"
 |_=>"list"
theorem zl{X:Cx}(t:Nat)(hk:∀k,k<=5->W.kitOne X.K (.type (tyS k)) (.type (tyS t))=some (isN t k)) :
  bo X (.builtin "isinstance") (λl H Q=>∃x k,l=[x,.ty (tyS t)]/\TyA X.K H k x/\Q (.bl (isN t k)) H):=by
 intro g s m H l w Q I r h;obtain⟨x,k,e,q,h⟩:=h;subst e;obtain⟨u,c,e,d,n⟩:=EM r;subst e;cases (show c=Value.type (tyS t) from n);have fin:∀tk,EP X g m Q (.bool (isN t k)) {s with toks:=tk}:=λtk=>⟨.bl _,H,I.tok tk,rfl,h⟩
 have p:k<=5:=Nat.le_of_not_lt λz=>by
  obtain⟨j,rfl⟩:∃j,k=j+6:=⟨k - 6,by omega⟩
  exact q
 have f:=hk k p
 match k with
 |0=>subst q;cases d;exact Vf W.kitx_none I.Xy True.intro f (λz=>nomatch z) fin
 |1=>obtain⟨b,rfl⟩:=q;cases d;exact Vf W.kitx_bool I.Xy True.intro f (λz=>nomatch z) fin
 |2=>obtain⟨b,rfl⟩:=q;obtain⟨t,rfl⟩:=d;exact Vf W.kitx_int I.Xy True.intro f (λz=>nomatch z) fin
 |3=>obtain⟨b,rfl⟩:=q;obtain⟨t,rfl⟩:=d;exact Vf W.kitx_str I.Xy True.intro f (λz=>nomatch z) fin
 |4 =>obtain⟨a,v,rfl,sq⟩:=q;cases d;obtain⟨i,_,⟨o,e1,e2,_⟩,_⟩:=I.tuple sq;exact Vf W.kitx_tuple I.Xy ⟨o,e1,e2⟩ f (λz=>nomatch z) fin
 |5 =>obtain⟨a,v,rfl,sq⟩:=q;cases d;obtain⟨i,_,⟨o,_,e1,e2,_⟩,_⟩:=I.list sq;exact Vf W.kitx_list I.Xy ⟨o,e1,e2⟩ f (λz=>nomatch z) fin
 |k+6=>exact q.elim
variable{K:W.Frag}
theorem CS(a:1<=t)(h5:t<=5)(k:Nat)(hk:k<=5):W.kitOne K (.type (tyS k)) (.type (tyS t))=some (isN t k):=by
 match t,a,h5 with
 |1,_,_=>match k,hk with|0,_=>rfl|1,_=>rfl|2,_=>rfl|3,_=>rfl|4,_=>rfl|5,_=>rfl
 |2,_,_=>match k,hk with|0,_=>rfl|1,_=>rfl|2,_=>rfl|3,_=>rfl|4,_=>rfl|5,_=>rfl
 |3,_,_=>match k,hk with|0,_=>rfl|1,_=>rfl|2,_=>rfl|3,_=>rfl|4,_=>rfl|5,_=>rfl
 |4,_,_=>match k,hk with|0,_=>rfl|1,_=>rfl|2,_=>rfl|3,_=>rfl|4,_=>rfl|5,_=>rfl
 |5,_,_=>match k,hk with|0,_=>rfl|1,_=>rfl|2,_=>rfl|3,_=>rfl|4,_=>rfl|5,_=>rfl
section
theorem tyN.of(s:WZ g m S H)(r:R g H m a v)(h:tyN S a=some k):TyA g.K H k v:=by
 cases a with
 |WX=>cases h;exact r.XF
 |bl b=>cases h;exact⟨b,r.X7⟩
 |int b=>cases h;exact⟨b,r.W4⟩
 |str b=>cases h;obtain⟨x,_,e⟩:=r.Xi;exact⟨x,e⟩
 |tup b=>cases h;obtain⟨p,c,e,q,_⟩:=r.Xf;exact⟨p,c,e,q⟩
 |cl b=>cases h;obtain⟨p,c,e,q,_⟩:=r.clE;exact⟨p,c,e,Y8.Zf (.inr q)⟩
 |ref i =>
  unfold tyN at h;dsimp only at h
  cases q:Z3 S i with
  |none=>rw[q]at h;cases h
  |some d =>rw[q]at h;cases h;obtain⟨p,e,rfl⟩:=r.Yu;obtain⟨f,c,e1,e2,_⟩:=Xk.look s q;rw[e]at e1;cases e1;exact⟨p,c,rfl,Xk.of e2⟩
 |_=>cases h
end
section
variable{X:Cx}{g:Gx}{E:L2.St->XK}{c:Expr}{pos:Pos}
theorem KP(d:1<=t)(h5:t<=5)(l:X.K=g.K)(n:X.mg "isinstance"=none)(r:Gl X "isinstance")(w:bootBuiltins "isinstance"=some (.builtin "isinstance"))(y:PE X a (tE g E ca))(B:PE X u (L2.tC (.ty (tyS t))))
  (hs:b5 a=true:=by rfl) (f:b5 u=true:=by rfl) (G:starEach [a,u] X.env=(false,eval a X.env)::starEach [u] X.env:=by rfl) (i:(backTo pos (starEach [u] X.env)).any (·.1)=false:=by rfl) :
  PE X (.Call (.Name "isinstance" p) [a,u] [] pos) (tE g E (cU (uIs t) ca)):=by
 exact XU (aD (zl t λk z=>CS d h5 k z) r n w (aB y (aB B aj f) hs) (by decide) (by decide) G i) λN H Q ⟨m,I,S,s,J,h⟩=>⟨m,I,S,s,J,h.bind.mono λx m1 S1 O T j d v M=>by
  unfold uIs at d
  cases q:tyN S1 x with
  |none=>rw[q]at d;exact d.elim
  |some k =>rw[q]at d;obtain⟨b,e,fin⟩:=Out.bA d j;cases e;exact⟨v,k,rfl,l▸tyN.of j M q,fin⟩⟩
structure fT(g:Gx)(T:List (Str×KTD.Dat))(ks:List (Nat×A)):Prop where
 mem:∀(n:Nat)(x:Str),g.ST[n]?=some x->KTD.inKeys x T=(look n ks).isSome
 plain:(T.all λp=>KTD.plain p.2)=true
 int:∀(n:Nat)(x:Str)(i:Int),g.ST[n]?=some x->look n ks=some (.int i)->KTD.datumAt x T=some (.flat (.int i))
 str:∀(n:Nat)(x:Str)(k:Nat),g.ST[n]?=some x->look n ks=some (.str k)->∃z,g.ST[k]?=some z/\KTD.datumAt x T=some (.flat (.str z))
 flat:∀(n:Nat)(x:A),look n ks=some x->(∃i,x=.int i)\/∃k,x=.str k
theorem inT.of(d:fT g T a)(r:R g H m x v)(h:inT a x=some k):∃y,v=.str y/\KTD.inKeys y T=k:=by
 cases x with
 |str n =>
  obtain⟨y,e,rfl⟩:=r.Xi;refine⟨y,rfl,?_⟩;rw[d.mem n y e];unfold inT at h;dsimp only at h
  cases q:look n a with
  |none=>rw[q]at h;cases h;rfl
  |some z=>rw[q]at h;cases h;rfl
 |_=>cases h
theorem KM(d:fT g T f)(i:X.K=g.K)(tk:dH g.K t T)(j:PE X a (tE g E ca))(l:PE X b (L2.tC (.ref t)))(n:behindInMarks .In b=false):PE X (.Compare a [.In] [b] pos) (tE g E (qO f ca)) :=
 XU (pL sk j l n) λB H Q ⟨m,p,S,s,r,h⟩=>⟨m,p,S,s,r,h.bind.mono λx m1 S1 G I u w v z=>by
  obtain⟨k,e,q⟩:=Out.bA w u;obtain⟨y,rfl,e2⟩:=inT.of d z e;exact⟨y,t,T,rfl,rfl,i▸tk,by rw[e2];exact q⟩⟩
theorem HI(d:fT g T f)(i:X.K=g.K)(tk:dH g.K t T)(j:PE X a (tE g E ca))(l:PE X b (L2.tC (.ref t)))(n:behindInMarks .NotIn b=false):PE X (.Compare a [.NotIn] [b] pos) (tE g E (qP f ca)) :=
 XU (pL jQ j l n) λB H Q ⟨m,p,S,s,r,h⟩=>⟨m,p,S,s,r,h.bind.mono λx m1 S1 G I u w v z=>by
  obtain⟨k,e,q⟩:=Out.bA w u;obtain⟨y,rfl,e2⟩:=inT.of d z (nO.of e);exact⟨y,t,T,rfl,rfl,i▸tk,by rw[e2,VR];exact q⟩⟩
theorem HU(f:fT g T i)(j:X.K=g.K)(tk:dH g.K t T)(l:PE X a (tE g E ca))(n:PE X b (L2.tC (.ref t)))(p:behindInMarks .In b=false):PT X (.Compare a [.In] [b] pos) (tB g E (Xc (qO i ca))) :=
 imT (cg sk l n p) λO H Q ⟨m,r,S,s,w,h⟩=>⟨m,r,S,s,w,h.bind.bind.mono λx m1 S1 U Y B G v I=>by
  obtain⟨k,e,q⟩:=Out.bA (Q:=λu J=>∃k,u=.bl k/\Q k J) (G.mono λz m2 S2 H2 x2 M d u N=>by
   cases z with
   |bl k=>exact⟨k,N.X7,d.ret M⟩
   |_=>exact d.elim) B
  obtain⟨y,rfl,e2⟩:=inT.of f I e;exact⟨y,t,T,rfl,rfl,j▸tk,by rw[e2];exact q⟩⟩
theorem DE(f:fT g T i)(j:X.K=g.K)(tk:dH g.K t T)(l:PE X a (tE g E ca))(n:PE X b (L2.tC (.ref t)))(p:behindInMarks .NotIn b=false):PT X (.Compare a [.NotIn] [b] pos) (tB g E (Xc (qP i ca))) :=
 imT (cg jQ l n p) λO H Q ⟨m,r,S,s,w,h⟩=>⟨m,r,S,s,w,h.bind.bind.mono λx m1 S1 U Y B G v I=>by
  obtain⟨k,e,q⟩:=Out.bA (Q:=λu J=>∃k,u=.bl k/\Q k J) (G.mono λz m2 S2 H2 x2 M d u N=>by
   cases z with
   |bl k=>exact⟨k,N.X7,d.ret M⟩
   |_=>exact d.elim) B
  obtain⟨y,rfl,e2⟩:=inT.of f I (nO.of e);exact⟨y,t,T,rfl,rfl,j▸tk,by rw[e2,VR];exact q⟩⟩
theorem KQ(f:fT g T j)(l:X.K=g.K)(tk:dH g.K t T)(r:PE X b (L2.tC (.ref t)))(u:PE X a (tE g E ca))(hs:kE a):PE X (.Subscript b a pos) (tE g E (xb j ca)) :=
 XU (fz (ix_tab.or Cg) r u hs) λI H Q ⟨m,w,S,s,B,h⟩=>⟨m,w,S,s,B,h.bind.mono λx m1 S1 J M p d v G=>by
  cases x with
  |str n =>
   obtain⟨y,e,rfl⟩:=G.Xi;dsimp only at d
   cases q:look n j with
   |none=>rw[q]at d;exact d.elim
   |some z =>
    rw[q]at d;rcases f.flat n z q with⟨i,rfl⟩|⟨k,rfl⟩
    ·exact .inl ⟨t,y,T,i,rfl,rfl,l▸tk,f.plain,f.int n y i e q,d.ret p _ (R.int i)⟩
    ·obtain⟨z,e1,e2⟩:=f.str n y k e q;exact .inr ⟨t,y,T,z,rfl,rfl,l▸tk,f.plain,e2,d.ret p _ (R.str e1)⟩
  |_=>exact d.elim⟩
theorem HD(r:fT g T w)(I:∀p∈T,∃j,p.2=.flat (.int j))(J:X.K=g.K)(tk:dH g.K t T)(M:PE X b (L2.tC (.ref t)))(N:PE X a (tE g E ca))(m2:M2 X b "get" l a (.Constant (.int i) j O) pos) :
  PE X (.Call (.Attribute b "get" l) [a,.Constant (.int i) j O] [] pos) (tE g E (D8 w ca i)) :=
 XU (oh M N aQ m2) λσ H Q ⟨m,U,S,s,Y,h⟩=>⟨t,T,rfl,J▸tk,m,U,S,s,Y,h.bind.mono λx m1 S1 H1 x1 B f v rv=>by
  cases x with
  |str n =>
   obtain⟨y,e,rfl⟩:=rv.Xi;refine⟨y,i,rfl,rfl,I,?_⟩;dsimp only at f
   cases q:look n w with
   |none =>
    rw[q]at f
    have:KTD.datumAt y T=none:=by
     have u:=r.mem n y e;rw[q]at u
     cases z:KTD.datumAt y T with
     |none=>rfl
     |some d=>rw[<- VO,z]at u;cases u
    rw[this];exact f.ret B _ (R.int i)
   |some z =>
    rw[q]at f;rcases r.flat n z q with⟨G,rfl⟩|⟨k,rfl⟩
    ·rw[r.int n y G e q];exact f.ret B _ (R.int G)
    ·exact f.elim
  |_=>exact f.elim⟩
theorem Out.bind0{α β:Type}{m:List Addr}{S:WU}{r:Res α}{f:α->WU->Res β}{P:β->List Addr->WU->Hp->Prop}{E:XK}(h:Out g m S H (r.b f) P E):Out g m S H r (λa _ S1 _=>Out g m S H (f a S1) P E) E:=by
 cases r with
 |ok a d=>exactλe i y s=>h
 |exc c d=>exact h
 |bad=>exact h
noncomputable def PQ(X:Cx)(g:Gx)(E:L2.St->XK)(pos:Pos)(keys:List (Option Expr))(a:List Expr)(e:List Str)(c:Ca):Prop :=
 ∃d,PPs X pos keys a d/\∀f H Q,Z6 g E c f H (λi j=>i.length=e.length->Q ((e.map V.str).zip i) j)->qA d f H Q
theorem Ht:PQ X g E pos [] [] [] aN:=⟨[],Dp,λa H Q ⟨m,d,S,s,e,h⟩=>h.ret s [] .nil rfl⟩
theorem pN(l:PE X a (tE g E ca))(n:PQ X g E pos q r t u):PQ X g E pos (some (.Constant (.str x) j p)::q) (a::r) (x::t) (aC ca u):=by obtain⟨w,z,k⟩:=n;refine⟨_,A0 gG l z,λB H Q ⟨m,e,S,s,f,h⟩=>⟨m,e,S,s,f,h.bind.mono λy m1 S1 G I i J v M=>k B G _ ⟨m1,e,S1,i,f.mono I s,J.bind.mono λY m2 S2 H2 N O T U d hl=>?_⟩⟩⟩;have:=T.ret O (v::U) (.cons (R.mono N i _ M) d) (by simp[hl]);exact this
theorem jO:∀(d a:List (Key×V)),(d.map (·.1)).Nodup->(∀p∈a,p.1∉d.map (·.1))->fq a d=a++d
 |[],a,_,_=>by show a=a++[];rw[Vh]
 |p::r,a,f,i=>by
  rw[T9,Vk]at f
  have e:dw a p.1 p.2=a++[p]:=by unfold dw;rw[TQ];intro z;obtain⟨q,hq,e⟩:=List.any_eq_true.mp z;exact i q hq (by rw[Ue e];exact Uq)
  show fq (dw a p.1 p.2) r=_;rw[e,jO r (a++[p]) f.2 λq hq=>?_,VZ]
  ·rfl
  ·rcases UO.mp hq with hq|hq
   ·exactλz=>i q hq (Ua _ z)
   ·rw[Ur.mp hq];exact f.1
theorem BM:∀{a:List Str}{d:List V},d.length=a.length->(a.map V.str).zip d=((a.map (Sum.inr:Str->Key)).zip d).map λe=>(kV e.1,e.2)
 |[],_,_=>rfl
 |x::a,[],h=>nomatch h
 |x::a,v::d,h=>by simp only[T9,List.zip_cons_cons];rw[BM (by simpa using h)];rfl
theorem Rk.zip:∀{f:List Nat}{i:List Str}{as:List A}{d:List V},Sd g f i->Rs g H m as d->Rk g H m (f.zip as) ((i.map (Sum.inr:Str->Key)).zip d)
 |_,_,as,d,.nil,_=>by simp;exact .nil
 |_,_,[],d,.cons e p,r=>by rw[r.XA];simp;exact .nil
 |_,_,a::as,d,.cons e p,r=>by obtain⟨v,t,rfl,j,r2⟩:=r.W0;exact .cons ⟨⟨_,e,rfl⟩,j⟩ (Rk.zip p r2)
theorem Sd.keys(h:Sd g l m)(f:l.Nodup):m.Nodup:=by
 induction h with
 |nil=>exact List.nodup_nil
 | @cons a b l1 l2 e p i =>
  rw[Vk]at f ⊢;refine⟨λj=>f.1 ?_,i f.2⟩;clear i f
  induction p with
  |nil=>exact absurd j (by simp)
  | @cons c d l1 l2 n p i =>
   rcases T3.mp j with z|z
   ·rw[z]at e;have:a=c:=(V2 (M1.mp e).1 g.nd).mp (e.trans n.symm);rw[this];exact Uq
   ·exact Ua _ (i z)
mutual
theorem R.more(k:List Addr):∀(a:A){v:V},R g H m a v->R g H (m++k) a v
 | .WX,v,h=>by unfold R at h ⊢;exact h
 | .bl b,v,h=>by unfold R at h ⊢;exact h
 | .int i,v,h=>by unfold R at h ⊢;exact h
 | .str n,v,h=>by unfold R at h ⊢;exact h
 | .tab t,v,h=>by unfold R at h ⊢;exact h
 | .any,v,h=>by unfold R;exact True.intro
 | .tup d,v,h=>by obtain⟨a,f,e,q,r⟩:=h.Xf;unfold R;exact⟨a,f,e,q,Rs.more k d r⟩
 | .cl d,v,h=>by obtain⟨a,f,e,q,r⟩:=h.clE;unfold R;exact⟨a,f,e,q,Rs.more k d r⟩
 | .ref i,v,h=>by obtain⟨a,e,q⟩:=h.Yu;unfold R;exact⟨a,bE e,q⟩
 | .YL n,v,h=>by unfold R at h ⊢;exact h
 | .YU n,v,h=>by unfold R at h ⊢;exact h
 | .X5,v,h=>by unfold R at h ⊢;exact h
theorem Rs.more(k:List Addr):∀(d:List A){e:List V},Rs g H m d e->Rs g H (m++k) d e
 |[],e,h=>by unfold Rs at h ⊢;exact h
 |a::d,e,h=>by obtain⟨v,r,rfl,f,i⟩:=h.W0;exact .cons (R.more k a f) (Rs.more k d i)
end
theorem Rk.more(k:List Addr):∀{d:List (Nat×A)}{a:List (Key×V)},Rk g H m d a->Rk g H (m++k) d a
 |_,_,.nil=>.nil
 |_,_,.cons h t=>.cons ⟨h.1,R.more k _ h.2⟩ (Rk.more k t)
theorem Rf.more(k:List Addr):∀{d:List (Nat×A)}{a:List (Str×V)},Rf g H m d a->Rf g H (m++k) d a
 |_,_,.nil=>.nil
 |_,_,.cons q t=>.cons ⟨q.1,R.more k _ q.2⟩ (Rf.more k t)
theorem WZ.adopt{m:List Addr}{S:WU}{c:C}(s:WZ g m S H)(t:p∉m)(n:COk g H (m++[p]) c p):WZ g (m++[p]) ⟨S.nx+1,(S.nx,c)::S.cs⟩ H:=by
 refine⟨by simp[s.len],?_,λa j=>?_,λi d e=>?_⟩
 ·rw[List.nodup_append];exact⟨s.nd,by simp,λa j b u z=>t (by rw[<- Ur.mp u,<- z];exact j)⟩
 ·rcases UO.mp j with w|w
  ·exact s.up a w
  ·rw[Ur.mp w];obtain⟨o,q,_⟩:=n.has;rw[q];exactλz=>nomatch z
 ·rw[aq]at e;by_cases l:S.nx=i
  ·rw[TY l]at e;cases e;exact⟨p,by rw[<- l,<- s.len];simp,n⟩
  ·rw[TQ l]at e;obtain⟨a,q,ok⟩:=s.cell i d e;refine⟨a,bE q,?_⟩
   cases d with
   |lst v=>obtain⟨f,q,r⟩:=ok;exact⟨f,q,Rs.more _ _ r⟩
   |ZF v=>obtain⟨f,q,r⟩:=ok;exact⟨f,q,Rs.more _ _ r⟩
   |dct B=>obtain⟨f,q,r⟩:=ok;exact⟨f,q,Rk.more _ r⟩
   |Zq=>exact ok
   |obj k fs=>obtain⟨y,f,q,r⟩:=ok;exact⟨y,f,q,Rf.more _ r⟩
theorem KC(hq:PQ X g E pos keys f j cs)(O:Sd g G j)(nd:G.Nodup)(hx:j.length<=15)(n:keys.all (·.isSome)=true)(hl:keys.length=f.length)(h0:keys≠[])
  (I:keys.length<=15):PE X (.Dict keys f pos) (tE g E (Jk G cs)):=by
 obtain⟨trs,hp,k⟩:=hq;refine XU (Dh hp n hl h0 I) λσ H Q ⟨m,ρ,S,s,re,h⟩ p d=>k σ _ _ ⟨m,ρ,S,s.new d _,re.mono (Ext.new d _) s,((Out.bind0 h).ext (Ext.new d (.dK []))).mono λas m2 T H2 l y U q rs r=>?_⟩;have t:p∉m:=λz=>s.up p z d;have u:¬ Z1 m S p:=λ⟨i,c,e,_⟩=>t (US e);refine⟨l.keep p _ u ai,(j.map Sum.inr).zip q,BM r,by rw[List.length_zip,T8];omega,?_⟩;have J:((j.map (Sum.inr:Str->Key)).zip q).map (·.1)=j.map Sum.inr:=List.map_fst_zip (by rw[T8];omega)
 have hm:fq [] ((j.map (Sum.inr:Str->Key)).zip q)=(j.map Sum.inr).zip q:=by rw[jO _ [] (by rw[J];exact List.Pairwise.map _ (λ_ _ z e=>z (Sum.inr.inj e)) (O.keys nd)) (λ_ z=>nomatch z)];rfl
 rw[hm];rw[aY,nU]at U;obtain⟨k2,e2,v⟩:=l.pre
 have M:p∉m2:=by
  rw[e2];intro z;rcases UO.mp z with z|z
  ·exact t z
  ·have:=v p z;rw[ai]at this;cases this
 have N:H2 p=some (.dK []):=l.keep p _ u ai;have Y:=y.adopt (c:=.dct []) M ⟨[],N,.nil⟩;obtain⟨s4,_⟩:=Y.write (a:=p) (i:=T.nx) (c:=.dct (G.zip as)) (o:=.dK ((j.map Sum.inr).zip q)) (by rw[<- y.len];simp) (by rw[aq,TY rfl]) rfl λx=>⟨_,ai,Rk.mono x Y (Rk.zip O (Rs.more _ _ rs))⟩
 rw[iE,TY rfl]at s4;refine U (m2++[p]) _ ⟨⟨k2++[p],by rw[e2,VZ],λa B=>?_⟩,λa z=>?_,λa o hn B=>?_,λi c hi e oo=>?_⟩ s4 _ (R.ref ?_)
 ·rcases UO.mp B with z|z
  ·exact(Ext.new (m:=m) (S:=S) d (.dK [])).low a (v a z)
  ·rw[Ur.mp z];exact d
 ·by_cases w:a=p
  ·rw[w];exact d
  ·rw[ag w]at z;exact(Ext.new (m:=m) (S:=S) d (.dK [])).low a (l.low a z)
 ·have w:a≠p:=aA B d;rw[ag w];exact l.keep a o hn (by rw[ag w];exact B)
 ·rw[aq]at e;by_cases z:T.nx=i
  ·have:=y.len;rw[e2,Uk]at this;omega
  ·rw[TQ z]at e;exact l.bk i c hi e oo
 ·rw[<- y.len];simp
end
noncomputable def MOk(g:Gx)(r:V->List V->Hp->VK->Prop)(f:A->A->WU->Res A):Prop:=∀m S H a b v w Q E,WZ g m S H->R g H m a v->R g H m b w->Out g m S H (f a b S) (An g Q) E->r v [w] H Q
section
theorem pB{g:Gx}(e:g.ST[n]?=some x):∀{f:List (Nat×A)}{c:List (Key×V)}{a:A},Rk g H m f c->look n f=some a->∃v,fN c (.inr x)=some v/\R g H m a v
 |_,_,a,.nil,h=>nomatch h
 |_,_,a,.cons (a:=p) (b:=q) i t,h=>by
  obtain⟨k,b⟩:=p;obtain⟨j,v⟩:=q;obtain⟨⟨y,d,rfl⟩,r⟩:=i;rw[aq]at h;by_cases z:k=n
  ·subst z;rw[TY rfl]at h;cases h;have:y=x:=T7 (d.symm.trans e);subst this;exact⟨v,by unfold fN;rw[UU,U4 rfl];rfl,r⟩
  ·rw[TQ z]at h;obtain⟨u,e1,e2⟩:=pB e t h;refine⟨u,?_,e2⟩;unfold fN at e1 ⊢;rw[UU]
   have:decide ((Sum.inr y:Key)=Sum.inr x)=false:=Um λw=>z (by
    have:y=x:=Sum.inr.inj w;subst this;exact(V2 (M1.mp d).1 g.nd).mp (d.trans e.symm))
   simp only[this];exact e1
theorem vQ(s:WZ g m S H)(r:R g H m (.ref i) v)(h:look i S.cs=some (.lst f)):∃a c,v=.ref a/\m[i]?=some a/\H a=some (.lst c)/\Rs g H m f c:=by obtain⟨a,e,c,q,r2⟩:=s.cell i _ h;obtain⟨j,d,rfl⟩:=r.Yu;rw[e]at d;cases d;exact⟨a,c,rfl,e,q,r2⟩
theorem GS:MOk g wK eM:=λm S H a b v w Q E s l n h=>by
 cases a with
 |ref i =>
  unfold eM at h;dsimp only at h
  cases q:look i S.cs with
  |none=>rw[q]at h;exact h.elim
  |some c =>
   rw[q]at h
   cases c with
   |lst d =>
    dsimp only at h
    cases f:few 900 d with
    |false=>rw[f]at h;exact h.elim
    |true =>
     rw[f]at h;dsimp only at h;rw[aY,j9]at h;obtain⟨p,j,rfl,e,t,r⟩:=vQ s l q;obtain⟨u,y⟩:=s.write (a:=p) (i:=i) (c:=.lst (d++[b])) (o:=.lst (j++[w])) e q rfl λx=>⟨_,ai,(Rs.mono x s d r).append (.cons (R.mono x s b n) .nil)⟩
     have hl:=r.length;have z:=bH f;exact⟨p,j,w,rfl,rfl,t,by rw[Ul];omega,h _ _ y u _ R.WX⟩
   |_=>exact h.elim
 |_=>exact h.elim
theorem GU:MOk g pT cE:=λm S H a b v w Q E s B G h=>by
 cases a with
 |ref i =>
  cases b with
  |ref j =>
   unfold cE at h;dsimp only at h
   cases q:look i S.cs with
   |none=>rw[q]at h;exact h.elim
   |some c =>
    rw[q]at h
    cases c with
    |lst d =>
     dsimp only at h
     cases f:look j S.cs with
     |none=>rw[f]at h;exact h.elim
     |some c =>
      rw[f]at h
      cases c with
      |lst l =>
       dsimp only at h
       cases n:few 900 (d++l)with
       |false=>rw[n]at h;exact h.elim
       |true =>
        rw[n]at h;dsimp only at h;rw[aY,j9]at h;obtain⟨p,u,rfl,e,I,r⟩:=vQ s B q;obtain⟨J,y,rfl,U,t,z⟩:=vQ s G f;obtain⟨M,N⟩:=s.write (a:=p) (i:=i) (c:=.lst (d++l)) (o:=.lst (u++y)) e q rfl λx=>⟨_,ai,(Rs.mono x s d r).append (Rs.mono x s l z)⟩
        have hl:=r.length;have O:=z.length;have T:=bH n;rw[Uk]at T;exact⟨p,J,u,y,rfl,rfl,I,t,by rw[Ul];omega,h _ _ N M _ R.WX⟩
      |_=>exact h.elim
    |_=>exact h.elim
  |_=>exact h.elim
 |_=>exact h.elim
theorem Rs.dropLast(r:Rs g H m a c):Rs g H m a.dropLast c.dropLast:=by rw[List.dropLast_eq_take,List.dropLast_eq_take,r.length];exact r.take _
theorem G6:Zs g (λv H Q=>K9 v [] H Q) rR:=λm S H a v Q E s n h=>by
 cases a with
 |ref i =>
  unfold rR at h;dsimp only at h
  cases q:look i S.cs with
  |none=>rw[q]at h;exact h.elim
  |some c =>
   rw[q]at h
   cases c with
   |lst d =>
    dsimp only at h
    cases f:d[d.length - 1]? with
    |none=>rw[f]at h;exact h.elim
    |some y =>
     rw[f]at h;dsimp only at h;rw[aY,j9]at h;obtain⟨p,j,rfl,e,t,r⟩:=vQ s n q;obtain⟨u,w,z⟩:=r.get f;obtain⟨B,l⟩:=s.write (a:=p) (i:=i) (c:=.lst d.dropLast) (o:=.lst j.dropLast) e q rfl λx=>⟨_,ai,Rs.mono x s _ r.dropLast⟩
     exact⟨p,j,u,rfl,rfl,t,by rw[r.length];exact w,h _ _ l B _ (R.mono l s y z)⟩
   |_=>exact h.elim
 |_=>exact h.elim
theorem Z4.of(r:R g H m x v):∀{a:List A}{l:List V}{k j:Nat},Rs g H m a l->Z4 x a k=some j->∃i,j=k+i/\(∃e,(XJ g a)[i]?=some e/\Xd e (toD g x)=true)/\∀(n:Nat) e,n<i->(XJ g a)[n]?=some e->Xd e (toD g x)=false
 |[],_,k,j,_,h=>nomatch h
 |y::B,_,k,j,rs,h=>by
  obtain⟨u,t,rfl,p,r2⟩:=rs.W0;unfold Z4 at h;have d:=o6 y x p r
  cases q:Zr y x with
  |true =>rw[q]at h;cases h;exact⟨0,rfl,⟨toD g y,by unfold XJ;rfl,by rw[d,q]⟩,λn e z=>absurd z (Nat.not_lt_zero n)⟩
  |false =>
   rw[q]at h;obtain⟨i,e1,⟨e,e2,e3⟩,w⟩:=Z4.of r r2 h;refine⟨i+1,by omega,⟨e,by unfold XJ;exact e2,e3⟩,λn f E c=>?_⟩;unfold XJ at c
   cases n with
   |zero =>
    have:toD g y=f:=by simpa using c
    rw[<- this,d,q]
   |succ n=>exact w n f (by omega) (by simpa using c)
theorem GV:MOk g (pU g.K) Au:=λm S H a b v w Q E s u t h=>by
 unfold Au at h
 cases q:W9 S a with
 |none=>rw[q]at h;exact h.elim
 |some j =>
  rw[q]at h;dsimp only at h
  cases c:few 900 j with
  |false=>rw[c]at h;exact h.elim
  |true =>
   cases l:Zx 20 b with
   |false=>rw[c,l]at h;exact h.elim
   |true =>
    cases qs:Y9 20 j with
    |false=>rw[c,l,qs]at h;exact h.elim
    |true =>
     rw[c,l,qs]at h;dsimp only at h
     cases n:Z4 b j 0 with
     |none=>rw[n]at h;exact h.elim
     |some k =>
      rw[n]at h;obtain⟨p,y,rfl,sq,r⟩:=W9.of s u q;obtain⟨d,e,f⟩:=i7 b l t;obtain⟨z,B,G⟩:=YA j qs r;obtain⟨i,e1,e2,e3⟩:=Z4.of t r n;have hl:=r.length;have I:=bH c;have:k=i:=by omega
      subst this;exact⟨p,y,w,_,_,k,rfl,rfl,sq,z,d,B,e,G,by omega,e2,e3,Out.int h s⟩
theorem Ym.of(r:R g H m x v)(h:Ym n x=some l):∃i:Nat,v=.int i/\l=min i n:=by
 cases x with
 |int i =>
  cases i with
  |ofNat i =>
   refine⟨i,r.W4,?_⟩;have a:some (match Nat.ble i n with|true=>i|false=>n)=some l:=h
   cases q:Nat.ble i n with
   |true=>rw[q]at a;cases a;have:=Uc q;show i=min i n;omega
   |false =>
    rw[q]at a;cases a;have:¬ i<=n:=λz=>by rw[VA z]at q;cases q
    show n=min i n;omega
  |negSucc i=>cases h
 |_=>cases h
end
section
variable{g:Gx}{E:L2.St->XK}
theorem zt{S:WU}(r:Rs g H m a c)(i:Nat):Rs g H m (a.drop (min i a.length)) (eL c (some (i:Int)) none):=by unfold eL;rw[HT.Zj,HT.XZ,r.length];have e:(c.drop (min i a.length)).take (a.length - min i a.length)=c.drop (min i a.length):=UZ (by rw[List.length_drop,r.length];exact TN _);rw[e];exact r.drop _
variable{lo:Expr}
theorem Bb{X:Cx}(t:X.K=g.K)(u:PE X a (tE g E ca))(hl:PE X lo (tE g E cl)):PE X (.Subscript a (.Slice (some lo) none none p2) B) (tE g E (cO vw ca cl)) :=
 XU (lN (t▸qw) u (kL hl) wB) λσ H Q ⟨m,e,S,s,f,h⟩=>⟨m,e,S,s,f,h.bind.mono λx m1 S1 H1 G j I v d=>⟨m1,e,S1,j,f.mono G s,I.bind.mono λy m2 J H2 M N c w rw=>by
  have d:=R.mono M j _ d
  cases x with
  |tup O =>
   unfold vw at c;dsimp only at c
   cases q:Ym O.length y with
   |none=>rw[q]at c;exact c.elim
   |some l =>rw[q]at c;obtain⟨i,rfl,rfl⟩:=Ym.of rw q;obtain⟨p,T,rfl,sq,r⟩:=d.Xf;have U:=zt (S:=J) r i;obtain⟨z,k,Y⟩:=Out.tup c N U;refine⟨_,rfl,p,T,rfl,sq,λ⟨n,z2⟩=>?_,λ_=>k⟩;refine Y p ?_;rw[HT.XZ]at n;unfold eL;rw[HT.XZ,n,HT.Zj,Vc,WS,UZ (TN _)];exact sq
  |_=>exact c.elim⟩⟩
theorem HR{X:Cx}(U:X.K=g.K)(ha:PE X a (tE g E ca))(hl:PE X lo (tE g E cl))(hh:PE X hi (tE g E ch)):PE X (.Subscript a (.Slice (some lo) (some hi) none p2) pos) (tE g E (cSl ca cl ch)) :=
 XU (lN ((U▸qw).or (U▸DQ)) ha (kL hl) (kL hh)) λσ H Q ⟨m,B,S,s,G,h⟩=>⟨m,B,S,s,G,h.bind.mono λx m1 S1 H1 Y I h1 v n=>⟨m1,B,S1,I,G.mono Y s,h1.bind.mono λy m2 S2 H2 x2 s2 J w rw=>by
  cases y with
  |int y =>
   cases y with
   |ofNat i =>
    refine⟨_,rw.W4,m2,B,S2,s2,(G.mono Y s).mono x2 I,J.bind.mono λz m3 S3 t x3 M c u ru=>?_⟩;have n:=R.mono (x2.trans x3) I _ n
    cases x with
    |tup d =>
     unfold Lj at c;dsimp only at c
     cases q:Ym d.length (.int (.ofNat i))with
     |none=>rw[q]at c;exact c.elim
     |some l =>
      cases f:Ym d.length z with
      |none=>rw[q,f]at c;exact c.elim
      |some l' =>
       rw[q,f]at c;dsimp only at c;obtain⟨N,e1,rfl⟩:=Ym.of (R.int (g:=g) (H:=t) (m:=m3) _) q;have e1:i=N:=by have:=V.int.inj e1;exact Int.ofNat.inj this
       subst e1;obtain⟨j,rfl,rfl⟩:=Ym.of ru f;obtain⟨p,e,rfl,sq,r⟩:=n.Xf
       have O:Rs g t m3 ((d.drop (min i d.length)).take (min j d.length - min i d.length)) (eL e (some (i:Int)) (some (j:Int))):=by unfold eL;rw[HT.XZ,HT.XZ,r.length];exact(r.drop _).take _
       obtain⟨z,k,k'⟩:=Out.tup c M O;refine⟨_,rfl,.inl ⟨p,e,rfl,sq,λ⟨T,z2⟩=>k' p ?_,λ_=>k⟩⟩;have T:HT.Xs e.length 0 (some (i:Int))=0:=T;unfold eL;rw[T,z2,Vc,WS,UZ (TN _)];exact sq
    |_ =>
     dsimp only at c;unfold Li at c;split at c
     ·rename_i d qx;split at c
      ·rename_i l l' q f;obtain⟨N,e1,rfl⟩:=Ym.of (R.int (g:=g) (H:=t) (m:=m3) _) q;have e1:i=N:=by have:=V.int.inj e1;exact Int.ofNat.inj this
       subst e1;obtain⟨j,rfl,rfl⟩:=Ym.of ru f;obtain⟨p,e,rfl,sq,r⟩:=W9.of M n qx
       have O:Rs g t m3 ((d.drop (min i d.length)).take (min j d.length - min i d.length)) (eL e (some (i:Int)) (some (j:Int))):=by unfold eL;rw[HT.XZ,HT.XZ,r.length];exact(r.drop _).take _
       exact⟨_,rfl,.inr ⟨p,e,rfl,sq.Zf,(Out.new c M O).2⟩⟩
      ·exact c.elim
     ·exact c.elim
   |negSucc i=>exact J.elim
  |_=>exact J.elim⟩⟩
theorem HQ{X:Cx}(u:X.K=g.K)(B:PE X a (tE g E ca))(hl:PE X G (tE g E cl)):PE X (.Subscript a (.Slice none (some G) none p2) I) (tE g E (cO Bt ca cl)) :=
 XU (lN (u▸qw) B wB (kL hl)) λσ H Q ⟨m,f,S,s,j,h⟩=>⟨m,f,S,s,j,h.bind.mono λx m1 S1 H1 J n M v d=>⟨m1,f,S1,n,j.mono J s,M.bind.mono λy m2 S2 N O T c w rw=>by
  have d:=R.mono O n _ d
  cases x with
  |tup e =>
   unfold Bt at c;dsimp only at c
   cases q:Ym e.length y with
   |none=>rw[q]at c;exact c.elim
   |some l =>
    rw[q]at c;obtain⟨i,rfl,rfl⟩:=Ym.of rw q;obtain⟨p,t,rfl,sq,r⟩:=d.Xf
    have U:Rs g N m2 (e.take (min i e.length)) (eL t none (some (i:Int))):=by unfold eL;rw[HT.Zj,HT.XZ,Vc,WS,r.length];exact r.take _
    obtain⟨z,k,Y⟩:=Out.tup c T U;refine⟨_,rfl,p,t,rfl,sq,λ⟨z1,z2⟩=>Y p ?_,λ_=>k⟩;unfold eL;rw[z1,z2,Vc,WS,UZ (TN _)];exact sq
  |_=>exact c.elim⟩⟩
theorem Hz{X:Cx}(I:W2 k X.A)(J:PE X a (tE g E ca))(M:PE X b (tE g E N))(hs:ER b):PE X (.Subscript a b O) (tE g E (cO pF ca N)) :=
 XU (Dg (zN I) J M hs) λσ H Q ⟨m,j,S,s,l,h⟩=>⟨m,j,S,s,l,h.bind.mono λx m1 S1 H1 T t U v f=>⟨m1,j,S1,t,l.mono T s,U.bind.mono λy m2 Y H2 x2 B d w rw=>by
  have f:=R.mono x2 t _ f
  cases x with
  |ref r =>
   cases y with
   |str n =>
    unfold pF at d;dsimp only at d
    cases q:look r Y.cs with
    |none=>rw[q]at d;exact d.elim
    |some c =>
     rw[q]at d
     cases c with
     |dct ks =>
      dsimp only at d
      cases i:look n ks with
      |none=>rw[i]at d;exact d.elim
      |some z =>rw[i]at d;obtain⟨p,e,kvs,hp,rk⟩:=B.cell r _ q;obtain⟨p',G,rfl⟩:=f.Yu;rw[e]at G;cases G;obtain⟨y,ey,rfl⟩:=rw.Xi;obtain⟨u,e1,e2⟩:=pB ey rk i;exact⟨p,u,rfl,e1▸Zv.k (k:=.inr y) hp,d.ret B _ e2⟩
     |_=>exact d.elim
   |_=>exact d.elim
  |_=>exact d.elim⟩⟩
theorem tm(s:WZ g m S H)(r:R g H m x v)(h:W9 S x=some c):tyV g.K "list" v H:=by obtain⟨p,a,rfl,q,_⟩:=W9.of s r h;exact .inl ⟨rfl,a,q.Zf⟩
variable{id:String}
theorem MM{X:Cx}{c:Pos}(slot:Slot "list" name id)(n:typeOf (.builtin id)=pure (.type "method_descriptor"))(G:MtR X id r)(ok:MOk g r f)(I:X.K=g.K)(J:PE X a (tE g E ca))(M:PE X b (tE g E N))
  (p:b5 b=true:=by rfl) (d:attributeBase a name X.env (eval a X.env)=eval a X.env:=by rfl)
  (j:((backTo e (starEach [b] X.env)).all (λx=>!x.1)&&(backToKw e (keywordEach [] X.env)).all (λx=>x.1.isSome)
   && decide ([b].length+([]:List Keyword).length+(if ([]:List Keyword).isEmpty then 0 else 1)<30))=true:=by rfl)
  (i:(c.endLine==e.line)=true:=by rfl) (hs:starEach [b] X.env=(false,eval b X.env)::starEach [] X.env:=by rfl):PE X (.Call (.Attribute a name c) [b] [] e) (tE g E (cM f ca N)) :=
 XU (og U9 slot n G J (aB M aj p) d j i hs) λσ H Q ⟨m,u,S,s,z,h⟩=>⟨m,u,S,s,z,h.bind.mono λx m1 S1 H1 O t l v B=>by
  cases q:W9 S1 x with
  |none=>rw[q]at l;exact l.elim
  |some xs =>rw[q]at l;exact⟨I▸tm t B q,m1,u,S1,t,z.mono O s,l.bind.mono λy m2 T U Y s2 h2 w rw=>ok m2 T U x y v w Q _ s2 (R.mono Y t _ B) rw h2⟩⟩
theorem ML{X:Cx}{i c:Pos}(slot:Slot "list" name id)(j:typeOf (.builtin id)=pure (.type "method_descriptor"))(w:MtR X id r)(ok:Zs g (λv H Q=>r v [] H Q) f)(hl:∀x S Q E m H,Out g m S H (f x S) (An g Q) E->∃l,W9 S x=some l)(y:X.K=g.K)(z:PE X a (tE g E ca))
  (d:attributeBase a name X.env (eval a X.env)=eval a X.env:=by rfl) (e:(c.endLine==i.line)=true:=by rfl):PE X (.Call (.Attribute a name c) [] [] i) (tE g E (cU f ca)) :=
 XU (Hh U9 slot j w z d e) λB H Q ⟨m,G,S,s,I,h⟩=>⟨m,G,S,s,I,h.bind.mono λx m1 S1 n J p t v u=>by
  obtain⟨l,q⟩:=hl x S1 Q (E B) m1 n t;exact⟨y▸tm p u q,ok m1 S1 n x v Q _ p u t⟩⟩
theorem AZ(x:A)(S:WU)(Q:VK)(E:XK)(m:List Addr)(H:Hp)(h:Out g m S H (rR x S) (An g Q) E):∃a,W9 S x=some a:=by
 cases x with
 |ref i =>
  unfold rR at h;dsimp only at h
  cases q:look i S.cs with
  |none=>rw[q]at h;exact h.elim
  |some c =>
   cases c with
   |lst a=>exact⟨a,by show Z3 S i=_;unfold Z3;rw[q]⟩
   |_=>rw[q]at h;exact h.elim
 |_=>exact h.elim
noncomputable def Xr(g:Gx)(f:List A->WU->Res A):Sp:=λa H Q E=>∃m S as,WZ g m S H/\Rs g H m as a/\Out g m S H (f as S) (An g Q) E
theorem pR{X:Cx}(ok:WV X.prog X.w X.K X.mg X.base j k f l n (Xr g F))(q:W2 k X.A)(r:Gl X x)(t:X.mg x=some (.ref f))(hk:W.keepIn X.K (.ref f)=true)(u:Binds X.K l n [])(v:aE j X E)
  (y:PA X (a::c) (Z6 g E z)) (d:(x==("__debug__":Str))=false:=by decide) (B:starEach (a::c) X.env=(false,eval a X.env)::starEach c X.env:=by rfl) (e:(backTo i (starEach c X.env)).any (·.1)=false:=by rfl) :
  PE X (.Call (.Name x p) (a::c) [] i) (tE g E (af F z)) :=
 XU (bg (XX:=[]) ok q r t hk u .nil v y d B e) λN H Q ⟨m,G,S,s,I,h⟩=>⟨m,G,S,s,I,h.bind.mono λas m1 S1 O T J M U rs=>⟨m1,S1,as,J,by rw[Vh];exact rs,M⟩⟩
end
noncomputable def lkA(a:A)(S:WU):WU:=match a with
 | .ref i=>match look i S.cs with
  |some (.lst c)=>⟨S.nx,put i (.ZF c) S.cs⟩
  |_=>S
 |_=>S
noncomputable def bkA(c:WU)(a:A)(S:WU):WU:=match a with
 | .ref i=>match look i c.cs with
  |some (.lst d)=>⟨S.nx,put i (.lst d) S.cs⟩
  |_=>S
 |_=>S
noncomputable def YT:List A->WU->WU
 |[],S=>S
 |a::r,S=>YT r (lkA a S)
noncomputable def bkS(c:WU):List A->WU->WU
 |[],S=>S
 |a::r,S=>bkS c r (bkA c a S)
theorem Aq(a:A)(S:WU)(k:WU->α):Ap a S k=k (lkA a S):=by
 cases a with
 |ref i =>
  unfold Ap lkA;dsimp only
  cases look i S.cs with
  |none=>rfl
  |some c=>cases c<;>first|exact j9 _ _ _ _|rfl
 |_=>rfl
theorem yV(d:WU)(a:A)(S:WU)(k:WU->α):yU d a S k=k (bkA d a S):=by
 cases a with
 |ref i =>
  unfold yU bkA;dsimp only
  cases look i d.cs with
  |none=>rfl
  |some c=>cases c<;>first|exact j9 _ _ _ _|rfl
 |_=>rfl
theorem cm:∀(c:List A)(S:WU)(k:WU->α),dP c S k=k (YT c S)
 |[],S,k=>rfl
 |a::r,S,k=>by unfold dP YT;rw[Aq,cm r]
theorem bh(c:WU):∀(d:List A)(S:WU)(k:WU->α),bB c d S k=k (bkS c d S)
 |[],S,k=>rfl
 |a::r,S,k=>by unfold bB bkS;rw[yV,bh c r]
theorem cT:∀{l:List (Nat×α)},look n l=some c->look n (put n x l)=some x
 |[],h=>nomatch h
 | (k,a)::r,h=>by
  rw[aq]at h;rw[iE];by_cases z:k=n
  ·rw[TY z,aq,TY z]
  ·rw[TQ z]at h;rw[TQ z,aq,TQ z];exact cT h
theorem fk(c:j≠n):∀{l:List (Nat×α)},look j (put n x l)=look j l
 |[]=>rfl
 | (k,a)::r=>by
  rw[iE];by_cases z:k=n
  ·rw[TY z,aq,aq,TQ (λw=>c (by rw[<- w,z])),TQ (λw=>c (by rw[<- w,z]))]
  ·rw[TQ z,aq,aq,fk c]
theorem GN(a:A)(S:WU):(lkA a S).nx=S.nx:=by
 unfold lkA;split
 ·split<;>rfl
 ·rfl
theorem Am:∀(c:List A)(S:WU),(YT c S).nx=S.nx
 |[],S=>rfl
 |a::r,S=>by unfold YT;rw[Am r,GN]
theorem EZ(c:WU)(a:A)(S:WU):(bkA c a S).nx=S.nx:=by
 unfold bkA;split
 ·split<;>rfl
 ·rfl
theorem y1(c:WU):∀(d:List A)(S:WU),(bkS c d S).nx=S.nx
 |[],S=>rfl
 |a::r,S=>by unfold bkS;rw[y1 c r,EZ]
theorem rP(h:look i (lkA a S).cs=some c):look i S.cs=some c\/∃d,c=.ZF d/\look i S.cs=some (.lst d):=by
 unfold lkA at h;split at h
 ·rename_i j;split at h
  ·rename_i d q;rcases du h with⟨rfl,rfl,_⟩|⟨_,h⟩
   ·exact .inr ⟨d,rfl,q⟩
   ·exact .inl h
  ·exact .inl h
 ·exact .inl h
theorem ix:∀{ls:List A}{S:WU}{i:Nat}{c:C},look i (YT ls S).cs=some c->look i S.cs=some c\/∃d,c=.ZF d/\look i S.cs=some (.lst d)
 |[],S,i,c,h=>.inl h
 |a::r,S,i,c,h=>by
  rcases ix (ls:=r) h with f|⟨d,e,f⟩
  ·exact rP f
  ·rcases rP f with g|⟨l,j,_⟩
   ·exact .inr ⟨d,e,g⟩
   ·cases j
theorem Aj{S:WU}(h:look i S.cs=some (.ZF c)):look i (lkA a S).cs=some (.ZF c):=by
 unfold lkA;split
 ·rename_i j;split
  ·rename_i d q;by_cases z:i=j
   ·subst z;rw[q]at h;cases h
   ·show look i (put j _ S.cs)=_;rw[fk z];exact h
  ·exact h
 ·exact h
theorem iw:∀{ls:List A}{S:WU}{i:Nat}{c:List A},look i S.cs=some (.ZF c)->look i (YT ls S).cs=some (.ZF c)
 |[],S,i,c,h=>h
 |a::r,S,i,c,h=>iw (ls:=r) (Aj h)
theorem Ak{S:WU}(h:look i S.cs=some (.lst a)):look i (lkA (.ref i) S).cs=some (.ZF a):=by unfold lkA;dsimp only;rw[h];exact cT h
theorem rQ:∀{ls:List A}{S:WU}{i:Nat}{c:List A},A.ref i∈ls->look i S.cs=some (.lst c)->look i (YT ls S).cs=some (.ZF c)
 |[],S,i,c,h,_=>nomatch h
 |a::r,S,i,c,h,q=>by
  rcases T3.mp h with h|h
  ·subst h;exact iw (ls:=r) (Ak q)
  ·by_cases z:look i (lkA a S).cs=some (.lst c)
   ·exact rQ (ls:=r) h z
   ·refine iw (ls:=r) ?_;unfold lkA at z ⊢;split
    ·rename_i j;dsimp only at z;split
     ·rename_i g d;rw[d]at z;by_cases e:i=j
      ·subst e;rw[q]at d;cases d;exact cT q
      ·exact absurd (show look i (put j _ S.cs)=_ by rw[fk e];exact q) z
     ·rename_i f;exact absurd (by split at z<;>first|exact q | (rename_i w;exact absurd w (f _))) z
    ·rename_i f;exact absurd (by split at z<;>first|exact q | (rename_i w _;exact absurd rfl (f _))) z
theorem yY(h:look i (bkA e a S).cs=some c):look i S.cs=some c\/∃d,c=.lst d/\look i e.cs=some (.lst d)/\a=.ref i:=by
 unfold bkA at h;split at h
 ·rename_i j;split at h
  ·rename_i d q;rcases du h with⟨rfl,rfl,_⟩|⟨_,h⟩
   ·exact .inr ⟨d,rfl,q,rfl⟩
   ·exact .inl h
  ·exact .inl h
 ·exact .inl h
theorem kR:∀{ls:List A}{S:WU}{i:Nat}{c:C},look i (bkS f ls S).cs=some c->look i S.cs=some c\/∃d,c=.lst d/\look i f.cs=some (.lst d)/\A.ref i∈ls
 |[],S,i,c,h=>.inl h
 |a::r,S,i,c,h=>by
  rcases kR (ls:=r) h with h|⟨d,e,h,g⟩
  ·rcases yY h with h|⟨d,e,h,j⟩
   ·exact .inl h
   ·exact .inr ⟨d,e,h,by rw[j];exact Uq⟩
  ·exact .inr ⟨d,e,h,Ua _ g⟩
section
theorem WZ.lock(s:WZ g m S H):WZ g m (YT ls S) H:=by
 refine⟨by rw[Am];exact s.len,s.nd,s.up,λi c h=>?_⟩;rcases ix h with d|⟨f,e,d⟩
 ·exact s.cell i c d
 ·rw[e];obtain⟨a,q,ok⟩:=s.cell i _ d;exact⟨a,q,ok⟩
theorem Z1.unlock(h:Z1 m (YT d S) a):Z1 m S a:=by
 obtain⟨i,c,e,e2,o⟩:=h;rcases ix e2 with h|⟨f,rfl,h⟩
 ·exact⟨i,c,e,h,o⟩
 ·exact nomatch o
theorem WZ.locked(s:WZ g m S H)(hl:A.ref i∈d)(f:m[i]?=some a)(h:Z3 S i=some n):¬ Z1 m (YT d S) a:=λ⟨j,c,e,e2,o⟩=>by
 have z:=s.uniq f e;subst z;unfold Z3 at h;split at h
 ·rename_i l q;rw[rQ hl q]at e2;cases e2;exact nomatch o
 ·rename_i l q;rw[iw q]at e2;cases e2;exact nomatch o
 ·cases h
theorem Ext.unlock(x:Ext m (YT p S) H f j l)(s:WZ g m S H)(d:WZ g f j l):Ext m S H f (bkS S p j) l/\WZ g f (bkS S p j) l:=by
 refine⟨⟨x.pre,x.low,λa o u h=>x.keep a o (λz=>u z.unlock) h,λi c v h o=>?_⟩,⟨by rw[y1];exact d.len,d.nd,d.up,λi c h=>?_⟩⟩
 ·rcases kR h with h|⟨n,rfl,h,_⟩
  ·obtain⟨w,y,t⟩:=x.bk i c v h o;rcases ix y with h|⟨n,rfl,h⟩
   ·exact⟨w,h,t⟩
   ·exact nomatch t
  ·exact⟨_,h,rfl⟩
 ·rcases kR h with h|⟨n,rfl,h,B⟩
  ·exact d.cell i c h
  ·obtain⟨a,e,E,q,r⟩:=s.cell i _ h;obtain⟨k,rfl,_⟩:=x.pre;refine⟨a,bE e,E,x.keep a _ (s.locked B e (by unfold Z3;rw[h])) q,Rs.mono x s.lock n r⟩
end
noncomputable def tG(g:Gx)(c:YS):TG:=λv i H Q=>∃m f S a d,WZ g m S H/\Re g H m f i/\R g H m a v/\c a f=some d/\∀e,Re g H m d e->Q e H
noncomputable def tGs(g:Gx)(e:List YS):TGs:=λf i H Q=>∃m d S as a,WZ g m S H/\Re g H m d i/\Rs g H m as f/\gTs e as d=some a/\∀c,Re g H m a c->Q c H
noncomputable def XW(g:Gx)(m:List Addr)(S:WU)(H:Hp)(r:XR)(D:Ends)(E:L2.St->XK):Prop:=match r with
 | .ok (.nx j) i=>∀f d e,Ext m S H f i d->WZ g f i d->Re g d f j e->D.nx e d
 | .ok (.bk j) i=>∀f d e,Ext m S H f i d->WZ g f i d->Re g d f j e->D.bk e d
 | .ok (.ct j) i=>∀f d e,Ext m S H f i d->WZ g f i d->Re g d f j e->D.ct e d
 | .ok (.rt a) i=>∀f d v,Ext m S H f i d->WZ g f i d->R g d f a v->D.rt v d
 | .exc c j i=>∀f d e l,Ext m S H f i d->WZ g f i d->Re g d f j e->E e (.ref (g.cls c)) l d
 | .bad=>False
noncomputable def tS(g:Gx)(E:L2.St->XK)(c:Cs):TS:=λD d H=>∃m a S,WZ g m S H/\Re g H m a d/\XW g m S H (c a S) D E
section
theorem XW.ext{m1:List Addr}{S S1:WU}{D:Ends}(x:Ext m S H m1 S1 e)(h:XW g m S H r D E):XW g m1 S1 e r D E:=by
 cases r with
 |ok f i=>cases f<;>exactλa d z y s=>h a d z (x.trans y) s
 |exc c l i=>exactλa d z j y s=>h a d z j (x.trans y) s
 |bad=>exact h
theorem XW.x{S:WU}{D:Ends}{α:Type}{r:Res α}{f:α->WU->XR}(h:XW g m S H (r.x j f) D E)(s:WZ g m S H)(l:Re g H m j d):Out g m S H r (λa m1 S1 n=>XW g m1 S1 n (f a S1) D E) (E d):=by
 cases r with
 |ok a p=>exactλe i y s=>XW.ext y h
 |exc c p=>exactλe i q y t=>h e i d q y t (l.mono y s)
 |bad=>exact h
end
section
variable{Z7:List YS}
theorem mX{X:Cx}(d:X.N.Nodup)(f:X.N[i]?=some x)(j:Loc X.env.scope x)(l:X.fn x=true\/X.env.scope.names.lookup x=some .local:=by first|exact .inl rfl|exact .inr rfl|assumption):PG X (.Name x n) (tG g (gN i)):=by intro c s p H v u Q I r ⟨m,z,S,a,t,sm,w,y,e,q⟩;unfold gN at e;rw[aY]at e;cases e;exact wA d f j l c s p H v u Q I r (q _ (w.set y i))
theorem uL:PGs X [] (tGs g []):=by
 intro a s c H d f Q I r ⟨m,n,S,as,i,sm,j,l,e,q⟩;refine Dj a s c H d f Q I r ?_
 cases as with
 |nil=>cases e;exact⟨l.XA,q c j⟩
 |cons _ _=>cases e
theorem fS(p:PG X a (tG g l))(u:PGs X f (tGs g Z7))(w:(assignEach (a::f) X.env).map (·.2)=assign a X.env::(assignEach f X.env).map (·.2):=by rfl):PGs X (a::f) (tGs g (l::Z7)):=by
 intro c s y H z B Q I r ⟨m,n,S,as,i,sm,E,G,e,q⟩;refine AW p u w c s y H z B Q I r ?_
 cases as with
 |nil=>cases e
 |cons x J =>
  obtain⟨v,t,rfl,M,r2⟩:=G.W0;unfold gTs at e
  cases j:l x n with
  |none=>rw[j]at e;cases e
  |some d =>rw[j]at e;exact⟨v,t,rfl,m,n,S,x,d,sm,E,M,j,λN O=>⟨m,d,S,J,i,sm,O,r2,e,q⟩⟩
theorem pb:∀{Z7:List YS}{c:List A}{d a:Env},gTs Z7 c d=some a->c.length=Z7.length
 |[],[],_,_,_=>rfl
 |[],_::_,_,_,h=>nomatch h
 |_::_,[],_,_,h=>nomatch h
 |t::f,x::c,d,a,h=>by
  unfold gTs at h
  cases q:t x d with
  |none=>rw[q]at h;cases h
  |some e=>rw[q]at h;simp[pb h]
theorem KI{X:Cx}{g:Gx}(j:X.K=g.K)(l:X.calm=true)(h:PGs X d (tGs g Z7))(n:(assignEach d X.env).length=Z7.length:=by rfl)(f:(assignEach d X.env).findIdx? (·.1)=none:=by rfl):PG X (.Tuple d k t) (tG g (gT Z7)):=by
 intro c s w H v u Q I r ⟨m,y,S,a,i,sm,z,B,e,q⟩;refine Hm l h n f c s w H v u Q I r ?_
 cases a with
 |tup E =>obtain⟨p,G,rfl,sq,rs⟩:=B.Xf;exact⟨p,G,rfl,j▸sq,by rw[rs.length];exact pb e,m,y,S,E,i,sm,z,rs,e,q⟩
 |_=>cases e
theorem KS:XH X [] (tS g E Xh):=Cb cJ λD a H ⟨m,d,S,s,c,h⟩=>h m H a Ext.refl s c
theorem wJ{X:Cx}{st:Stmt}(h:PS X st (tS g E a)):XH X [st] (tS g E a):=bc h
theorem MO{X:Cx}{st:Stmt}(h:PS X st (tS g E i))(l:XH X e (tS g E n)):XH X (st::e) (tS g E (sq i n)) :=
 Cb (av h l) λD w H ⟨m,j,S,s,p,h⟩=>⟨m,j,S,s,p,by
  unfold sq at h
  cases q:i j S with
  |ok f S1 =>
   rw[q]at h
   cases f with
   |nx d=>exactλm1 y r t u v=>⟨m1,d,S1,u,v,XW.ext t h⟩
   |bk d=>exact h
   |ct d=>exact h
   |rt a=>exact h
  |exc c d S1=>rw[q]at h;exact h
  |bad=>rw[q]at h;exact h⟩
theorem MI:PS X (.Continue a) (tS g E sCt):=Zz sC λD c H ⟨m,e,S,s,d,h⟩=>h m H c Ext.refl s d
theorem Ew(d:PE X a (tE g E ca)):PS X (.Return (some a) e) (tS g E (ao ca)) :=
 Zz (bJ d) λD p H ⟨m,f,S,s,c,h⟩=>⟨m,f,S,s,c,(h.x s c).mono λx m1 S1 i q j l v n=>l m1 i v Ext.refl j n⟩
theorem HM:PS X (.Return none a) (tS g E DN):=Zz Ds λD c H ⟨m,d,S,s,e,h⟩=>h m H .WX Ext.refl s R.WX
theorem MJ{c:Pos}(e:PE X a (tE g E ca))(hs:swapsWith a none c.line X.env=pure false:=by rfl):PS X (.Expr a c) (tS g E (XC ca)) :=
 Zz (kM e hs) λD f H ⟨m,i,S,s,d,h⟩=>⟨m,i,S,s,d,(h.x s d).mono λx m1 S1 j l n p v q=>p m1 j f Ext.refl n (d.mono l s)⟩
theorem KL(n:PT X c (tB g E ct))(p:XH X d (tS g E q))(r:XH X e (tS g E t)):PS X (.If c d e u) (tS g E (Xg ct q t)) :=
 Zz (lO n p r) λD v H ⟨m,f,S,s,a,h⟩=>⟨m,f,S,s,a,(h.x s a).mono λk m1 S1 w i j l=>by
  cases k with
  |true=>rw[TY rfl];exact⟨m1,f,S1,j,a.mono i s,l⟩
  |false=>rw[TQ TU];exact⟨m1,f,S1,j,a.mono i s,l⟩⟩
theorem Y6.of{D:Ends}(h:tS g E (aH i ca) D d H):Y6 (tE g E ca) (dZ i) D d H:=by
 obtain⟨m,e,S,s,a,h⟩:=h
 exact⟨m,e,S,s,a,(h.x s a).mono λx m1 S1 f j l c v n=>by
  rw[aY]at c;exact c m1 f _ Ext.refl l ((a.mono j s).set n i)⟩
theorem KU{X:Cx}{c:Pos}(e:X.N.Nodup)(f:X.N[i]?=some x)(j:Loc X.env.scope x)(l:PE X a (tE g E ca))(hs:swapsWith a (some (.Name x d)) c.line X.env=pure false:=by rfl)(m:X.fn x=true\/X.env.scope.names.lookup x=some .local:=by first|exact .inl rfl|exact .inr rfl|assumption) :
  PS X (.Assign [.Name x d] a c) (tS g E (aH i ca)):=Zz (gI e f j l hs m) λD n H h=>Y6.of h
theorem K1{d:Pos}(p:PE X a (tE g E ca))(r:PG X b (tG g l))(hs:swapsWithSole [b] a d.line X.env=pure false:=by rfl)(t:swappedStores [b] a X.env=pure none:=by rfl)
  (c:(assignEach [b] X.env).map (·.2)=[assign b X.env]:=by rfl):PS X (.Assign [b] a d) (tS g E (cX l ca)) :=
 Zz (pO p r hs t c) λD B H ⟨m,e,S,s,f,h⟩=>⟨m,e,S,s,f,(h.x s f).mono λx m1 S1 u w n c v y=>by
  cases q:l x e with
  |none=>rw[q]at c;exact c.elim
  |some i=>rw[q]at c;exact⟨m1,e,S1,x,i,n,f.mono w s,y,q,λj z=>c m1 u j Ext.refl n z⟩⟩
theorem K0{X:Cx}{g:Gx}{e:Pos}(w:X.K=g.K)(y:X.calm=true)(z:PE X a (tE g E ca))(B:PGs X d (tGs g Z7))(G:(assignEach d X.env).length=Z7.length:=by rfl)(i:(assignEach d X.env).findIdx? (·.1)=none:=by rfl)
  (hs:swapsWithSole [.Tuple d k pt] a e.line X.env=pure false:=by rfl) (I:swappedStores [.Tuple d k pt] a X.env=pure none:=by rfl)
  (c:(assignEach [.Tuple d k pt] X.env).map (·.2)=[assign (.Tuple d k pt) X.env]:=by rfl):PS X (.Assign [.Tuple d k pt] a e) (tS g E (Lh Z7 ca)) :=
 Zz (pO z (Di y B G i) hs I c) λD T H ⟨m,j,S,s,l,h⟩=>⟨m,j,S,s,l,(h.x s l).mono λx m1 S1 J M n c v N=>by
  cases q:W9 S1 x with
  |none=>rw[q]at c;exact c.elim
  |some u =>
   rw[q]at c;dsimp only at c
   cases f:gTs Z7 u j with
   |none=>rw[f]at c;exact c.elim
   |some r =>rw[f]at c;obtain⟨p,O,rfl,sq,rs⟩:=W9.of n N q;exact⟨p,O,rfl,w▸sq.Zf,by rw[rs.length];exact pb f,m1,j,S1,u,r,n,l.mono M s,rs,f,λt Q=>c m1 J t Ext.refl n Q⟩⟩
theorem KN{X:Cx}(n:X.N.Nodup)(p:X.N[i]?=some x)(t:Loc X.env.scope x)(u:PE X a (tE g E ca))(w:X.fn x=true\/X.env.scope.names.lookup x=some .local:=by first|exact .inl rfl|exact .inr rfl|assumption) :
  PS X (.AugAssign (.Name x f) .Add a B) (tS g E (yz i ca)) :=
 Zz (Hu n p t u zS w) λD O H ⟨m,l,S,s,c,h⟩=>by
  unfold yz at h
  cases q:l[i]? with
  |none=>rw[q]at h;exact h.elim
  |some o =>
   rw[q]at h
   cases o with
   |none=>exact h.elim
   |some y =>
    cases y with
    |int k =>
     obtain⟨v,e,r⟩:=c.get i _ q;have r:=r.W4;subst r
     exact⟨_,e,m,l,S,s,c,(h.x s c).mono λz m1 S1 G I J d v M=>by
      cases z with
      |int j =>dsimp only at d;rw[Ee,aY]at d;exact⟨k,j,rfl,M.W4,d m1 G _ Ext.refl J ((c.mono I s).set (R.int _) i)⟩
      |_=>exact d.elim⟩
    |_=>exact h.elim
end
noncomputable def Mi(g:Gx)(m:List Addr)(S:WU)(H:Hp)(p:List A×List A)(J:It):Prop:=∀m1 S1 a,Ext m (YT p.2 S) H m1 S1 a->WZ g m1 S1 a ->
 (∀(i:Nat)(x:A),p.1[i]?=some x->J.go i a/\∀v c,J.yld i a v c->Ext m1 S1 a m1 S1 c/\WZ g m1 S1 c/\R g c m1 x v)/\J.stop p.1.length a
noncomputable def tI(g:Gx)(E:L2.St->XK)(c:Ci):TI:=λa H f=>∃m d S,WZ g m S H/\Re g H m d a/\Out g m S H (c d S) (λp i j e=>∀J,Mi g i j e p J->f J e) (E a)
theorem imI(h:PI X e iter t)(k:∀a H c,f a H c->t a H c):PI X e iter f:=λd s a H c I g=>h d s a H c I (k a H c g)
section
theorem EI(s:WZ g m S H)(r:R g H m x v)(h:W9 S x=some f)(hl:x∈ls):∃a c,v=.ref a/\Y8 g.K H a c/\Rs g H m f c/\∀m1 S1 d,Ext m (YT ls S) H m1 S1 d->Y8 g.K d a c/\Rs g d m1 f c:=by
 cases x with
 |ref i =>obtain⟨a,e,rfl⟩:=r.Yu;obtain⟨b,c,e1,e2,e3⟩:=Xk.look s h;rw[e]at e1;cases e1;exact⟨a,c,rfl,.inl e2,e3,λm1 S1 d x=>⟨.inl (x.keep a _ (s.locked hl e h) e2),Rs.mono x s.lock f e3⟩⟩
 |cl l=>cases h;obtain⟨a,c,e,q,j⟩:=r.clE;exact⟨a,c,e,.inr q,j,λm1 S1 d x=>⟨.inr q,Rs.mono x s.lock _ j⟩⟩
 |_=>cases h
theorem Rs.at{g:Gx}{m:List Addr}{a:List A}{c:List V}{i:Nat}{x:A}(r:Rs g H m a c)(h:a[i]?=some x)(d:c[i]?=some v):R g H m x v:=by obtain⟨u,e,q⟩:=r.get h;rw[d]at e;cases e;exact q
theorem Dy{X:Cx}{g:Gx}(d:X.K=g.K)(n:PE X a (tE g E ca)):PI X p a (tI g E (iL ca)) :=
 imI (Dk n) λQ H T ⟨m,t,S,s,w,h⟩=>⟨m,t,S,s,w,h.bind.mono λx m1 S1 U Y j e v z=>by
  cases q:W9 S1 x with
  |none=>rw[q]at e;exact e.elim
  |some xs =>rw[q]at e;obtain⟨a,f,rfl,B,r,st⟩:=EI (ls:=[x]) j z q Uq;refine⟨a,rfl,⟨f,d▸B.Zf⟩,e.ret j _ λm2 G I J M=>?_⟩;obtain⟨c,r2⟩:=st m2 G I J;refine⟨λi y N=>?_,⟨f,d▸c.Zf,by rw[r2.length];exact TN _⟩⟩;obtain⟨u,l,O⟩:=r2.get N;refine⟨⟨f,u,d▸c.Zf,l⟩,λv H3 ⟨e3,k⟩=>?_⟩;subst e3;have:=k f (d▸c.Zf);rw[l]at this;cases this;exact⟨Ext.refl,M,O⟩⟩
theorem KJ{X:Cx}{g:Gx}(d:X.K=g.K)(p:PE X a (tE g E ca)):PI X q a (tI g E (iT ca)) :=
 imI (Hr p) λM H N ⟨m,t,S,s,w,h⟩=>⟨m,t,S,s,w,h.bind.mono λx m1 S1 O Q f j v z=>by
  cases x with
  |tup B =>obtain⟨a,e,rfl,sq,r⟩:=z.Xf;refine⟨a,rfl,⟨e,d▸sq⟩,j.ret f _ λm2 T U l G=>?_⟩;have c:=l.sqT f sq;have r2:=Rs.mono l f B r;refine⟨λi y I=>?_,⟨e,d▸c,by rw[r2.length];exact TN _⟩⟩;obtain⟨u,n,J⟩:=r2.get I;refine⟨⟨e,u,d▸c,n⟩,λv Y ⟨e3,k⟩=>?_⟩;subst e3;have:=k e (d▸c);rw[n]at this;cases this;exact⟨Ext.refl,G,J⟩
  |_=>exact j.elim⟩
theorem HF(j:Gl X "range")(l:X.mg "range"=none)(r:PE X a (tE g E ca))(d:b5 a=true:=by rfl)(hs:starEach [a] X.env=[(false,eval a X.env)]:=by rfl):PI X t (.Call (.Name "range" p) [a] [] u) (tI g E (zP ca)) :=
 imI (yk j l (aB r aj d) hs) λN H O ⟨m,w,S,s,z,h⟩=>⟨m,w,S,s,z,h.bind.mono λx m1 S1 Q T B c v G=>by
  cases x with
  |int i =>
   cases i with
   |ofNat n =>
    dsimp only at c
    cases q:Nat.ble n 900 with
    |false=>rw[q]at c;exact c.elim
    |true =>
     rw[q]at c;dsimp only at c;rw[aY]at c;have U:=Uc q;refine⟨_,by rw[G.W4],by show -(2 ^ 62)<=((n:Nat):Int);omega,by show((n:Nat):Int)<2 ^ 62;omega,c.ret B _ λm2 Y I x2 J=>?_⟩;have r2:Rs g I m2 (Yw 0 n) _:=zR n;have hl:=r2.length;rw[T8,WN]at hl;refine⟨λi y e=>?_,?_⟩
     ·have f:i<n:=by rw[hl];exact(M1.mp e).1
      refine⟨f,λv H3 ⟨e3,M⟩=>?_⟩;subst e3;refine⟨Ext.refl,J,r2.at e ?_⟩;rw[T4,List.getElem?_range f,M];show some (V.int (i:Int))=_;rw[Int.zero_add]
     ·show n<=(Yw 0 n).length;omega
   |negSucc n=>exact c.elim
  |_=>exact c.elim⟩
theorem HE{X:Cx}{g:Gx}(f:X.K=g.K)(w:Gl X "reversed")(z:X.mg "reversed"=none)(B:PE X a (tE g E ca))(d:b5 a=true:=by rfl)(hs:starEach [a] X.env=[(false,eval a X.env)]:=by rfl):PI X G (.Call (.Name "reversed" p) [a] [] I) (tI g E (zO ca)) :=
 imI (Hn w z (aB B aj d) hs) λσ H R' ⟨m,J,S,s,M,h⟩=>⟨m,J,S,s,M,h.bind.mono λx m1 S1 H1 x1 j c v N=>by
  cases q:W9 S1 x with
  |none=>rw[q]at c;exact c.elim
  |some l =>
   rw[q]at c;dsimp only at c;rw[aY]at c;obtain⟨a,n,rfl,O,r,st⟩:=EI (ls:=[x]) j N q Uq;refine⟨a,n,rfl,f▸O.Zf,c.ret j _ λm2 Q T U Y=>?_⟩;obtain⟨e,r2⟩:=st m2 Q T U;have hl:=r2.length;refine⟨λi y t=>?_,by show l.reverse.length=n.length;rw[Ws,hl]⟩;have u:i<l.length:=by have:=(M1.mp t).1;rwa [Ws]at this
   refine⟨⟨by rw[hl];exact u,f▸e.Zf⟩,λv H3 ⟨e3,e4⟩=>?_⟩;subst e3;refine⟨Ext.refl,Y,r2.rev.at t ?_⟩;rw[List.getElem?_reverse (by rw[hl];exact u)];exact e4⟩
theorem zip2.get:∀{xs ys:List A}{i:Nat}{z:A},(zip2 xs ys)[i]?=some z->∃x y,xs[i]?=some x/\ys[i]?=some y/\z=.tup [x,y]
 |[],_,i,z,h=>by simp[zip2]at h
 |_::_,[],i,z,h=>by simp[zip2]at h
 |x::xs,y::ys,0,z,h=>by
  have:A.tup [x,y]=z:=by simpa[zip2]using h
  exact⟨x,y,rfl,rfl,this.symm⟩
 |x::xs,y::ys,i+1,z,h=>by obtain⟨u,w,e,f,q⟩:=zip2.get (xs:=xs) (ys:=ys) (i:=i) (z:=z) (by simpa[zip2]using h);exact⟨u,w,by simpa using e,by simpa using f,q⟩
theorem tJ:∀{xs ys:List A},xs.length=ys.length->(zip2 xs ys).length=xs.length
 |[],[],_=>rfl
 |x::xs,y::ys,h=>by unfold zip2;simp[tJ (xs:=xs) (ys:=ys) (by simpa using h)]
theorem A7{X:Cx}{g:Gx}(e:X.K=g.K)(hg:Gl X "zip")(hm:X.mg "zip"=none)(ha:PE X a (tE g E ca))(d:PE X b (tE g E cb))(G:b5 a=true:=by rfl)(I:b5 b=true:=by rfl)(hs:starEach [a,b] X.env=(false,eval a X.env)::starEach [b] X.env:=by rfl)(J:(backTo M (starEach [b] X.env)).any (·.1)=false:=by rfl) :
  PI X (.Tuple U c1 ps) (.Call (.Name "zip" p) [a,b] [] M) (tI g E (B9 ca cb)) :=
 imI (Dm false false hg hm (aB ha (aB d aj I) G) hs J) λσ H R' ⟨m,Y,S,s,re,h⟩=>⟨m,Y,S,s,re,h.bind.mono λx m1 S1 H1 x1 s1 h1 v N=>⟨m1,Y,S1,s1,re.mono x1 s,h1.bind.mono λy m2 S2 H2 x2 f c w rw=>by
  have N:=R.mono x2 s1 _ N
  cases x with
  |tup O =>
   cases y with
   |tup ys =>
    dsimp only at c
    cases q:Nat.beq O.length ys.length with
    |false=>rw[q]at c;exact c.elim
    |true =>rw[q]at c;dsimp only at c;rw[aY]at c;have Q:=Ug q;obtain⟨a,vs,rfl,sq,r⟩:=N.Xf;obtain⟨b,ws,rfl,j,r'⟩:=rw.Xf;refine⟨a,b,vs,ws,rfl,e▸sq,e▸j,c.ret f _ λm3 S3 H3 B T=>?_⟩;have l:=B.sqT f sq;have n:=B.sqT f j;have r3:=Rs.mono B f O r;have t:=Rs.mono B f ys r';have hl:=r3.length;have hl':=t.length;refine⟨λi z hz=>?_,⟨by rw[tJ Q];exact hl.symm,e▸l⟩⟩;obtain⟨x,y,ex,ey,rfl⟩:=zip2.get hz;have hi:i<O.length:=(M1.mp ex).1;refine⟨⟨by omega,by omega,e▸l,e▸n⟩,λv H4 ⟨b,u,w,d,ev,eu,ew,e3⟩=>?_⟩;subst e3 ev;exact⟨Ext.new d _,T.new d _,R.tup (Xz.of ai) (.cons (R.mono (Ext.new d _) T _ (r3.at ex eu)) (.cons (R.mono (Ext.new d _) T _ (t.at ey ew)) .nil))⟩
   |_=>exact c.elim
  |_=>exact c.elim⟩⟩
theorem HH{X:Cx}{c:List (Nat×A)}(f:vL X.prog X.w X.K t a)(j:Sd g (c.map (·.1)) a)(n:PE X b (L2.tC (.ref t))):PI X p b (tI g E (iTab c)) :=
 imI (Hq n) λJ H M ⟨m,N,S,s,O,h⟩=>⟨t,a,rfl,f,h.ret s _ λm2 Q q T u=>by
  have r:∀{l:List Nat}{a:List Str},Sd g l a->Rs g q m2 (l.map A.str) (a.map V.str):=λ{l a} h=>by
   induction h with
   |nil=>exact .nil
   |cons e _ z=>exact .cons (R.str e) z
  have r:=r j;rw[List.map_map]at r;have hl:=r.length;rw[T8]at hl;refine⟨λi y d=>?_,hl.symm⟩;have B:=(M1.mp d).1;refine⟨by show i<a.length;rw[hl];exact B,λv U ⟨e3,k,G,I⟩=>?_⟩;subst e3 I;exact⟨Ext.refl,u,r.at d (by rw[T4,G];rfl)⟩⟩
theorem CU{d:YS}{b:Cs}{c:List A}{x:A}{a:Env}{S:WU}(h:c[i]?=some x):lp d b (c.drop i) a S=match d x a with
  |none=>.bad
  |some a=>match b a S with
   | .ok (.nx a) S=>lp d b (c.drop (i+1)) a S
   | .ok (.ct a) S=>lp d b (c.drop (i+1)) a S
   | .ok (.bk a) S=>.ok (.nx a) S
   |x=>x:=by
 have e:c.drop i=x::c.drop (i+1):=by have f:=(M1.mp h).1;rw[Vq f];congr 1;exact(M1.mp h).2
 rw[e];rfl
theorem KG{X:Cx}(hp:PassesOwn (model X.prog X.w) X.A X.env X.xe)(hc:X.calm=true)(hi:PI X U e (tI g E ci))(hg:PG X U (tG g tg))(hb:XH X sts (tS g E k1))(hs:∀x,foldedSetIterable e X.env x=pure x:=by intro _;rfl):PS X (.For U e sts [] pos) (tS g E (dz ci tg k1)) :=
 Zz (Hw hp hc hi hg hb hs) λD σ H ⟨m,ρ,S,s,re,h⟩=>⟨m,ρ,S,s,re,(h.x s re).mono λp m1 S1 I x1 Y h1 J it=>by
  rw[cm]at h1;have Yn:=re.mono x1 s
  refine⟨λi n z M=>∃m2 j t,n=p.1.length - i/\i<=p.1.length/\Ext m1 (YT p.2 S1) I m2 t M/\WZ g m2 t M/\Re g M m2 j z/\XW g m1 S1 I ((lp tg k1 (p.1.drop i) j t).back S1 p.2) D E,
   ⟨_,m1,ρ,YT p.2 S1,rfl,Uw _,Ext.refl,Y.lock,Yn,by rw[Vc];exact h1⟩,?_⟩
  rintro i n σ2 H2 ⟨m2,j,t,hn,hil,x2,s2,Zl,l⟩;obtain⟨go,stop⟩:=it m2 t H2 x2 s2
  cases q:p.1[i]? with
  |none =>
   have hle:=UP.mp q;have:i=p.1.length:=by omega
   subst this;refine .inl ⟨stop,?_⟩;rw[V9]at l;have d:XW g m1 S1 I (bB S1 p.2 t λS=>.ok (.nx j) S) D E:=l;rw[bh]at d;obtain⟨Q,T⟩:=x2.unlock Y s2;exact d m2 H2 σ2 Q T Zl
  |some x =>
   have hlt:=(M1.mp q).1;obtain⟨g1,yl⟩:=go i x q;rw[CU q]at l
   refine .inr ⟨g1,λz M=>∃m2 j t,Ext m1 (YT p.2 S1) I m2 t M/\WZ g m2 t M/\Re g M m2 j z/\XW g m1 S1 I ((lp tg k1 (p.1.drop (i+1)) j t).back S1 p.2) D E,
    λz M ⟨m3,u,S3,Q,T,ZR,h3⟩=>⟨p.1.length - (i+1),by omega,m3,u,S3,rfl,hlt,Q,T,ZR,h3⟩,λv H3 yd=>?_⟩
   obtain⟨Q,T,rv⟩:=yl v H3 yd;have ZR:=Zl.mono Q s2
   cases qt:tg x j with
   |none=>rw[qt]at l;exact l.elim
   |some u =>
    rw[qt]at l;dsimp only at l;refine⟨m2,j,t,x,u,T,ZR,rv,qt,λσ4 re4=>⟨m2,u,t,T,re4,?_⟩⟩;have xx:=x2.trans Q
    cases qb:k1 u t with
    |bad=>rw[qb]at l;exact l.elim
    |exc c r S5 =>rw[qb]at l;dsimp only at l;have d:XW g m1 S1 I (bB S1 p.2 S5 λS=>.exc c r S) D E:=l;rw[bh]at d;intro m5 N y dx B G O;obtain⟨x6,s6⟩:=(xx.trans B).unlock Y G;exact d m5 N y dx x6 s6 O
    |ok f S5 =>
     rw[qb]at l
     cases f with
     |nx r=>exactλm5 N y B G O=>⟨m5,r,S5,xx.trans B,G,O,l⟩
     |ct r=>exactλm5 N y B G O=>⟨m5,r,S5,xx.trans B,G,O,l⟩
     |bk r =>intro m5 N y B G O;have d:XW g m1 S1 I (bB S1 p.2 S5 λS=>.ok (.nx r) S) D E:=l;rw[bh]at d;obtain⟨x6,s6⟩:=(xx.trans B).unlock Y G;exact d m5 N y x6 s6 O
     |rt a =>intro m5 N v5 B G r5;have d:XW g m1 S1 I (bB S1 p.2 S5 λS=>.ok (.rt a) S) D E:=l;rw[bh]at d;obtain⟨x6,s6⟩:=(xx.trans B).unlock Y G;exact d m5 N v5 x6 s6 r5⟩
theorem K3{X:Cx}(O:PassesOwn (model X.prog X.w) X.A X.env X.xe)(Q:PT X c (tB g E ct))(T:XH X u (tS g E q)):PS X (.While c u [] U) (tS g E (Bp ct q)) :=
 Zz (A4 O Q T) λD σ H ⟨m,Y,S,s,re,h⟩=>by
  refine⟨λn j p=>∃m2 d l,WZ g m2 l p/\Re g p m2 d j/\XW g m2 l p (wl ct q n d l) D E,⟨90,m,Y,S,s,re,h⟩,?_⟩;rintro n v H2 ⟨m2,d,l,r,t,J⟩
  cases n with
  |zero=>exact J.elim
  |succ n =>
   refine⟨m2,d,l,r,t,(XW.x J r t).mono λk m3 S3 H3 M N e=>?_⟩
   cases k with
   |false=>rw[TQ TU];exact e m3 H3 v Ext.refl N (t.mono M r)
   |true =>
    rw[TY rfl];refine⟨λj p=>∃m2 d l,WZ g m2 l p/\Re g p m2 d j/\XW g m2 l p (wl ct q n d l) D E,λj p h=>⟨n,Va n,h⟩,m3,d,S3,N,t.mono M r,?_⟩;dsimp only at e
    cases y:q d S3 with
    |bad=>rw[y]at e;exact e.elim
    |exc c i S5=>rw[y]at e;exact e
    |ok f S5 =>
     rw[y]at e
     cases f with
     |nx i=>exactλm5 H5 z B G I=>⟨m5,i,S5,G,I,XW.ext B e⟩
     |ct i=>exactλm5 H5 z B G I=>⟨m5,i,S5,G,I,XW.ext B e⟩
     |bk i=>exact e
     |rt a=>exact e
mutual
theorem R.XM(h:H p=some (.lst j)):∀(a:A){v:V},R g H m a v->R g (upd H p (.lst l)) m a v
 | .WX,v,q=>by unfold R at q ⊢;exact q
 | .bl b,v,q=>by unfold R at q ⊢;exact q
 | .int i,v,q=>by unfold R at q ⊢;exact q
 | .str n,v,q=>by unfold R at q ⊢;exact q
 | .tab t,v,q=>by unfold R at q ⊢;exact q
 | .any,v,q=>by unfold R;exact True.intro
 | .ref i,v,q=>by unfold R at q ⊢;exact q
 | .cl c,v,q=>by obtain⟨a,d,e,r,t⟩:=q.clE;unfold R;exact⟨a,d,e,r,Rs.XM h c t⟩
 | .tup c,v,q=>by
  obtain⟨a,d,e,r,t⟩:=q.Xf;unfold R;refine⟨a,d,e,?_,Rs.XM h c t⟩;rcases r with(r|⟨o,r⟩)|r
  ·exact .inl (.inl (by rw[ag (nV r h (λz=>nomatch z))];exact r))
  ·exact .inl (.inr ⟨o,by rw[ag (nV r h (λz=>nomatch z))];exact r⟩)
  ·exact .inr r
 | .YL n,v,q=>by obtain⟨a,e,r⟩:=q.setE;unfold R;exact⟨a,e,by rw[ag (nV r h (λz=>nomatch z))];exact r⟩
 | .YU n,v,q=>by obtain⟨a,e,r⟩:=q.rngE;unfold R;exact⟨a,e,by rw[ag (nV r h (λz=>nomatch z))];exact r⟩
 | .X5,v,q=>by
  obtain⟨a,f,e,r⟩:=q.scrE;unfold R;refine⟨a,f,e,?_⟩;rcases r with⟨o,r⟩|r
  ·exact .inl ⟨o,by rw[ag (nV r h (λz=>nomatch z))];exact r⟩
  ·exact .inr r
theorem Rs.XM(h:H p=some (.lst i)):∀(c:List A){d:List V},Rs g H m c d->Rs g (upd H p (.lst j)) m c d
 |[],d,q=>by unfold Rs at q ⊢;exact q
 |a::c,d,q=>by obtain⟨v,r,rfl,e,f⟩:=q.W0;exact .cons (R.XM h a e) (Rs.XM h c f)
end
theorem Rk.XM(h:H p=some (.lst d)):∀{c:List (Nat×A)}{a:List (Key×V)},Rk g H m c a->Rk g (upd H p (.lst e)) m c a
 |_,_,.nil=>.nil
 |_,_,.cons q t=>.cons ⟨q.1,R.XM h _ q.2⟩ (Rk.XM h t)
theorem Rf.XM(h:H p=some (.lst d)):∀{c:List (Nat×A)}{a:List (Str×V)},Rf g H m c a->Rf g (upd H p (.lst e)) m c a
 |_,_,.nil=>.nil
 |_,_,.cons q t=>.cons ⟨q.1,R.XM h _ q.2⟩ (Rf.XM h t)
theorem WZ.XM(s:WZ g m S H)(f:p∉m)(h:H p=some (.lst v)):WZ g m S (upd H p (.lst y)):=by
 refine⟨s.len,s.nd,λa j z=>?_,λi c e=>?_⟩
 ·have ne:a≠p:=λw=>f (w▸j);rw[ag ne]at z;exact s.up a j z
 ·obtain⟨a,q,ok⟩:=s.cell i c e;have ne:a≠p:=λw=>f (w▸US q);refine⟨a,q,?_⟩
  cases c with
  |lst l=>obtain⟨d,q,r⟩:=ok;exact⟨d,by rw[ag ne];exact q,Rs.XM h _ r⟩
  |ZF l=>obtain⟨d,q,r⟩:=ok;exact⟨d,by rw[ag ne];exact q,Rs.XM h _ r⟩
  |dct B=>obtain⟨d,q,r⟩:=ok;exact⟨d,by rw[ag ne];exact q,Rk.XM h r⟩
  |Zq=>obtain⟨n,t,r,q,z⟩:=ok;exact⟨n,t,r,by rw[ag ne];exact q,z⟩
  |obj k fs=>obtain⟨u,d,q,r⟩:=ok;exact⟨u,d,by rw[ag ne];exact q,Rf.XM h r⟩
theorem Re.XM(e:Re g H m c d)(h:H p=some (.lst f)):Re g (upd H p (.lst j)) m c d:=⟨e.len,λi a q=>let⟨v,e1,r⟩:=e.get i a q;⟨v,e1,R.XM h a r⟩⟩
theorem Ext.XM(x:Ext m S H d f g)(c:H p=none):Ext m S H d f (upd g p (.lst j)) :=
 ⟨x.pre,λa z=>by
  by_cases e:a=p
  ·rw[e];exact c
  ·rw[ag e]at z;exact x.low a z,λa o i h=>by rw[ag (aA h c)];exact x.keep a o i h,x.bk⟩
theorem Ext.notin(x:Ext m S H m2 f d)(a:p∉m)(h:H p=some o):p∉m2/\d p=some o:=by
 obtain⟨k,rfl,hk⟩:=x.pre;refine⟨λz=>?_,x.keep p o (λ⟨i,c,e,_⟩=>a (US e)) h⟩;rcases UO.mp z with z|z
 ·exact a z
 ·rw[hk p z]at h;cases h
end
theorem zr{g:YS}{a:Ct}{c:Ce}{f:List A}{x:A}{d:Env}{j:List A}{S:WU}(h:f[i]?=some x):clp g a c (f.drop i) d j S=match g x d with
  |none=>.bad
  |some d=>(a d S).b λk S=>match k with
   |true=>(c d S).b λy S=>clp g a c (f.drop (i+1)) d (j++[y]) S
   |false=>clp g a c (f.drop (i+1)) d j S:=by
 have e:f.drop i=x::f.drop (i+1):=by have l:=(M1.mp h).1;rw[Vq l];congr 1;exact(M1.mp h).2
 rw[e]
 show(match g x d with|none=>Res.bad|some d=>(a d S).b λk S=>match k with
   |true=>(c d S).b λy S=>fl (j++[y]) λj=>clp g a c (f.drop (i+1)) d j S
   |false=>clp g a c (f.drop (i+1)) d j S)=_
 simp only[aY]
section
theorem Bf(p:Re g H m d l)(c:List Str)(fr:List Nat):Re g H m (Xl c.length fr d) (Zw c fr l):=by
 unfold Xl Zw;refine⟨by simp,λi a h=>?_⟩;by_cases n:i<c.length
 ·rw[Uo (by simp;exact n),VY,TY n]at h;cases h
 ·rw[Uj (by simp;omega),Vz,T4]at h;rw[Uj (by simp;omega),T8,T4]
  cases q:fr[i - c.length]? with
  |none=>rw[q]at h;cases h
  |some j =>
   rw[q]at h;have f:(d[j]?).getD none=some a:=T7 h
   have t:d[j]?=some (some a):=by
    cases z:d[j]? with
    |none=>rw[z]at f;cases f
    |some o=>rw[z]at f;cases f;rfl
   obtain⟨v,e,r⟩:=p.get j a t;exact⟨v,by show some ((l[j]?).getD none)=_;rw[e];rfl,r⟩
noncomputable abbrev E0:L2.St->XK:=λ_ _ _ _=>False
theorem CY{α:Type}{S:WU}{r:Res α}{P:α->List Addr->WU->Hp->Prop}(h:Out g m S H r.ZW P E):Out g m S H r P d:=by
 cases r with
 |ok a S=>exact h
 |exc c S=>exact h.elim
 |bad=>exact h
theorem YK.of{U:List Str}(h:tE g E (aS ci U.length fr tg ct O) σ H Q):YK (tI g E ci) (Zw U fr) (tG g tg) (tB g E0 ct) (tE g E0 O) σ H Q:=by
 obtain⟨m,ρ,S,s,re,h⟩:=h;refine⟨m,ρ,S,s,re,h.bind.mono λp m1 S1 Y x1 s1 h1 J it D hD=>?_⟩;have Yn:=re.mono x1 s
 cases q9:few 900 p.1 with
 |false=>rw[q9]at h1;exact h1.elim
 |true =>
 rw[q9]at h1;dsimp only at h1;have h9:=bH q9;rw[aY,cm]at h1;have hDm:D∉m1:=λz=>s1.up D z hD
 refine⟨λi n σ' d=>∃m2 t B f G,n=p.1.length - i/\i<=p.1.length/\Ext m1 (YT p.2 S1) Y m2 B d/\WZ g m2 B d/\Re g d m2 t σ'/\D∉m2/\d D=some (.lst G)/\Rs g d m2 f G/\G.length<=i /\
   Out g m1 S1 Y (((clp tg ct O (p.1.drop i) t f B).ZW.back S1 p.2).b λf S=>new f S) (λa I _ d=>∀v,R g d I a v->Q v d) (E σ),
  ⟨_,m1,Xl U.length fr ρ,YT p.2 S1,[],[],rfl,Uw _,Ext.refl.XM hD,s1.lock.new hD _,(Bf Yn U fr).mono (Ext.new (S:=S1) hD _) s1,hDm,ai,.nil,Uw _,by rw[Vc];exact h1⟩,?_⟩
 rintro i n σ2 H2 ⟨m2,t,B,f,G,hn,hil,x2,s2,Zl,hD2,h2D,rs2,hvl,w⟩;obtain⟨go,stop⟩:=it m2 B H2 x2 s2
 cases q:p.1[i]? with
 |none =>
  have hle:=UP.mp q;have:i=p.1.length:=by omega
  subst this;refine .inl ⟨stop,?_⟩;rw[V9]at w;have r:Out g m1 S1 Y ((bB S1 p.2 B λS=>Res.ok f S).b λf S=>new f S) (λa I _ d=>∀v,R g d I a v->Q v d) (E σ):=w;rw[bh]at r;obtain⟨M,T⟩:=x2.unlock s1 s2;have h3:Out g m1 S1 Y (new f (bkS S1 p.2 B)) (λa I _ d=>∀v,R g d I a v->Q v d) (E σ):=r;unfold new at h3
  cases q9:few 900 f with
  |false=>rw[q9]at h3;exact h3.elim
  |true =>
   rw[q9]at h3;dsimp only at h3;rw[aY,nU]at h3;have s4:=T.adopt (c:=.lst f) hD2 ⟨G,h2D,Rs.more _ _ rs2⟩;obtain⟨k,ek,hk⟩:=M.pre;refine h3 (m2++[D]) H2 ⟨⟨k++[D],by rw[ek,VZ],λa ha=>?_⟩,M.low,M.keep,λj c hj e o=>?_⟩ s4 _ (R.ref (by rw[<- T.len];simp))
   ·rcases UO.mp ha with z|z
    ·exact hk a z
    ·rw[Ur.mp z];exact hD
   ·rw[aq]at e;by_cases z:(bkS S1 p.2 B).nx=j
    ·have:=T.len;rw[ek,Uk]at this;omega
    ·rw[TQ z]at e;exact M.bk j c hj e o
 |some x =>
  have hlt:=(M1.mp q).1;obtain⟨g1,yl⟩:=go i x q;rw[zr q]at w
  refine .inr ⟨g1,λσ' d=>∃m2 t B f G,Ext m1 (YT p.2 S1) Y m2 B d/\WZ g m2 B d/\Re g d m2 t σ'/\D∉m2/\d D=some (.lst G)/\Rs g d m2 f G/\G.length<=i+1 /\
   Out g m1 S1 Y (((clp tg ct O (p.1.drop (i+1)) t f B).ZW.back S1 p.2).b λf S=>new f S) (λa I _ d=>∀v,R g d I a v->Q v d) (E σ),
   λσ' d ⟨m3,l,S3,f,G,M,T,ZR,d1,d2,d3,d4,h3⟩=>⟨p.1.length - (i+1),by omega,m3,l,S3,f,G,rfl,hlt,M,T,ZR,d1,d2,d3,d4,h3⟩,λv H3 yd=>?_⟩
  obtain⟨M,T,rv⟩:=yl v H3 yd;have ZR:=Zl.mono M s2;have rs3:=Rs.mono M s2 f rs2;have h3D:=(M.notin hD2 h2D).2
  cases qt:tg x t with
  |none=>rw[qt]at w;exact w.elim
  |some l =>
   rw[qt]at w;dsimp only at w;refine⟨m2,t,B,x,l,T,ZR,rv,qt,λσ4 re4=>⟨m2,l,B,T,re4,?_⟩⟩
   cases qc:ct l B with
   |bad=>rw[qc]at w;exact w.elim
   |exc c S5=>rw[qc]at w;exact w.elim
   |ok b S5 =>
    rw[qc]at w;intro m5 H5 x5 s5;obtain⟨hD5,h5D⟩:=x5.notin hD2 h3D;have Zm:=re4.mono x5 T;have rs5:=Rs.mono x5 T f rs3;have xx:=(x2.trans M).trans x5
    cases b with
    |false =>rw[TQ TU];exact⟨m5,l,S5,f,G,xx,s5,Zm,hD5,h5D,rs5,by omega,w⟩
    |true =>
     rw[TY rfl];refine⟨m5,l,S5,s5,Zm,?_⟩
     cases qe:O l S5 with
     |bad =>have r:Out g m1 S1 Y ((((O l S5).b λy S=>clp tg ct O (p.1.drop (i+1)) l (f++[y]) S).ZW.back S1 p.2).b λf S=>new f S) (λa I _ d=>∀v,R g d I a v->Q v d) (E σ):=w;rw[qe]at r;exact r.elim
     |exc c S6 =>have r:Out g m1 S1 Y ((((O l S5).b λy S=>clp tg ct O (p.1.drop (i+1)) l (f++[y]) S).ZW.back S1 p.2).b λf S=>new f S) (λa I _ d=>∀v,R g d I a v->Q v d) (E σ):=w;rw[qe]at r;exact r.elim
     |ok y S6 =>have r:Out g m1 S1 Y ((((O l S5).b λy S=>clp tg ct O (p.1.drop (i+1)) l (f++[y]) S).ZW.back S1 p.2).b λf S=>new f S) (λa I _ d=>∀v,R g d I a v->Q v d) (E σ):=w;rw[qe]at r;intro m6 H6 x6 s6 u ru;obtain⟨hD6,N⟩:=x6.notin hD5 h5D;refine⟨G,N,?_,m6,l,S6,f++[y],G++[u],(xx.trans x6).XM hD,s6.XM hD6 N,(Zm.mono x6 s5).XM N,hD6,ai,(Rs.XM N _ (Rs.mono x6 s5 f rs5)).append (.cons (R.XM N _ ru) .nil),by rw[Uk];show G.length+1<=i+1;omega,r⟩;rw[Ul];omega
theorem uK{a:Scope}(i:PI X c iter (tI g E ci))(hk:a.kind=.function)(j:bO X.N X.env.kindOf a.names own fr N'=true)(l:X.calm=true)
  (m:∀cl C s H d,PG (X.Xl a cl C N' s H d) c (tG g n)) (p:∀cl C s H d,ke (X.Xl a cl C N' s H d) e (tB g E0 ct)) (q:∀cl C s H d,PE (X.Xl a cl C N' s H d) f (tE g E0 r))
  (hs:∀x,foldedSetIterable iter X.env x=pure x:=by intro _;rfl):PE X (.ListComp f [⟨c,iter,e,0⟩] a t) (tE g E (aS ci own.length fr n ct r)) :=
 XU (wz i hk j l m p q hs) λu H Q h=>YK.of h
theorem yp{c:Scope}{a:Pos}(t:PI X d iter (tI g E ci))(hk:c.kind=.function)(u:bO X.N X.env.kindOf c.names e fr m=true)(v:X.calm=true)
  (w:∀cl C s H f,PG (X.Xl c cl C m s H f) d (tG g q)) (z:∀cl C s H f,ke (X.Xl c cl C m s H f) j (tB g E0 ct)) (B:∀cl C s H f,PE (X.Xl c cl C m s H f) l (tE g E0 r))
  (G:X.N.Nodup) (I:X.N[i]?=some y) (J:X.env.scope.names.lookup y=some .local)
  (n:swapsWith (.ListComp l [⟨d,iter,j,0⟩] c p) (some (.Name y M)) a.line X.env=pure true)
  (hs:∀x,foldedSetIterable iter X.env x=pure x:=by intro _;rfl):PS X (.Assign [.Name y M] (.ListComp l [⟨d,iter,j,0⟩] c p) a) (tS g E (aH i (aS ci e.length fr q ct r))) :=
 Zz (uI t hk u v w z B G I J n hs) λD O H h=>YK.of (E:=E) (show tE g E (aS ci e.length fr q ct r) O H _ from Y6.of h)
theorem HS:ke X [] (tB g E tT):=λa s c H Q I ⟨m,d,S,sm,e,h⟩=>sy a s c H Q I (h.ret sm)
theorem DC{X:Cx}{g:Gx}{C:Addr}{rest:List Expr}{c:List Value}
  (j:ExcBaseFacts t d u v) (y:c.contains (.type t)=true) (z:ExcBaseFacts B G f c) (l:cq X.K C c d none=true) (I:Passes (tK X.prog X.w) X E) (J:Gl X x) (M:X.mg x=some (.ref C)) (N:g.cls n=C)
  (O:PA X (a::rest) (Z6 g (λ_=>E) Q)) (T:X.calm=true:=by rfl) (U:starEach (a::rest) X.env=(false,eval a X.env)::starEach rest X.env:=by rfl) (p:((backTo e (starEach rest X.env)).any λx=>x.fst)=false:=by rfl) (Y:(x==("__debug__":Str))=false:=by decide) :
  PS X (.Raise (some (.Call (.Name x np) (a::rest) [] e)) none pos) (tS g (λ_=>E) (br n Q)) :=
 Zz (yn j y z l I J M O T U p Y) λD σ H ⟨m,ρ,S,s,r,h⟩=>⟨m,ρ,S,s,r,(h.x s r).mono λxs m1 S1 H1 x1 s1 i vs rs=>by
  cases q:few 9 xs with
  |false=>rw[q]at i;exact i.elim
  |true =>rw[q]at i;refine⟨dO (by rw[rs.length];have:=bH q;omega),?_⟩;have:=i m1 H1 σ none Ext.refl s1 (r.mono x1 s);rw[N]at this;exact this⟩
theorem sG{X:Cx}{g:Gx}{C:Addr}(q:IniK X.K C r)(t:WV X.prog X.w X.K X.mg X.base CX0 k r u z (iW C f))(B:Binds X.K u z [])(G:W2 (k+1) X.A)(I:Passes (tK X.prog X.w) X E)(J:Gl X x)(M:X.mg x=some (.ref C))(N:g.cls n=C)
  (O:PE X a (tE g (λ_=>E) ca)) (e:b5 a=true:=by rfl) (Q:X.calm=true:=by rfl) (T:starEach [a] X.env=(false,eval a X.env)::starEach [] X.env:=by rfl) (i:((backTo d (starEach [] X.env)).any λx=>x.fst)=false:=by rfl) (U:(x==("__debug__":Str))=false:=by decide) :
  PS X (.Raise (some (.Call (.Name x np) [a] [] d)) none Y) (tS g (λ_=>E) (p7 n ca)) :=
 Zz (uH q t B G I J M (aB O aj e) Q T i U) λD σ H ⟨m,ρ,S,s,j,h⟩=>⟨m,ρ,S,s,j,(h.x s j).mono λy m1 S1 H1 x1 l h1 v rv=>⟨v,rfl,λp c=>by
  have:=h1 m1 (upd H1 p (.xd [(f,v)])) σ (some p) (Ext.new c _) (l.new c _) ((j.mono x1 s).mono (Ext.new c _) l);rw[N]at this;exact this⟩⟩
theorem wu:aE (Xb P w) X E0:=λc d H s e f I x=>by obtain⟨a,T,cls,g,i,j,_,_,_,_,_,_,_,_,z⟩:=x;exact z.elim
end
theorem iB:∀{cs:List (Nat×C)}{i:Nat}{c:C},look i (old n cs)=some c->look i cs=some c/\i<n
 |[],i,c,h=>nomatch h
 | (k,d)::r,i,c,h=>by
  unfold old at h
  cases q:Nat.ble n k with
  |true =>rw[q]at h;obtain⟨a,e⟩:=iB (cs:=r) h;refine⟨?_,e⟩;have:=Uc q;rw[aq,TQ (by omega)];exact a
  |false =>
   rw[q]at h;dsimp only at h;rw[aq]at h;by_cases z:k=i
   ·rw[TY z]at h;have:¬ n<=k:=λw=>by rw[VA w]at q;cases q
    exact⟨by rw[aq,TY z];exact h,by omega⟩
   ·rw[TQ z]at h;obtain⟨a,e⟩:=iB (cs:=r) h;exact⟨by rw[aq,TQ z];exact a,e⟩
theorem wV(n:Nat)(a:A)(S:WU):∃d,(∀i c,look i d=some c->look i S.cs=some c)/\∀{α:Type}(k:WU->α),trim n a S k=k ⟨S.nx,d⟩:=by
 have d1:∀i c,look i (old n S.cs)=some c->look i S.cs=some c:=λi c h=>(iB h).1;have keep:∃d,(∀i c,look i d=some c->look i S.cs=some c)/\∀{α:Type}(k:WU->α),k S=k ⟨S.nx,d⟩:=⟨S.cs,λ_ _ h=>h,λk=>rfl⟩
 have drop:∃d,(∀i c,look i d=some c->look i S.cs=some c)/\∀{α:Type}(k:WU->α),(fl (old n S.cs) λd=>k ⟨S.nx,d⟩)=k ⟨S.nx,d⟩:=⟨old n S.cs,d1,λk=>aY _ _⟩
 cases a with
 |ref i =>
  unfold trim;dsimp only
  cases q:Nat.ble n i with
  |false=>exact drop
  |true =>
   cases f:look i S.cs with
   |none=>exact keep
   |some c =>
    cases c with
    |lst e =>
     dsimp only
     cases kO e with
     |true=>exact keep
     |false =>
      refine⟨(i,.lst e)::old n S.cs,λj c h=>?_,λk=>aY _ _⟩;rw[aq]at h;by_cases z:i=j
      ·rw[TY z]at h;cases h;rw[<- z];exact f
      ·rw[TQ z]at h;exact d1 j c h
    |_=>exact keep
 |tup e =>
  unfold trim;dsimp only
  cases kO e with
  |true=>exact keep
  |false=>exact drop
 |any=>exact keep
 |_=>exact drop
section
theorem lR{N:List Str}(r:Rs g H m as d)(j:d.length<=N.length):Re g H m (as.map some++List.replicate (N.length - as.length) none) (L2.start N d):=by
 unfold L2.start;refine⟨by simp[r.length],λi a h=>?_⟩;by_cases c:i<as.length
 ·rw[Uo (by simpa using c),T4]at h;rw[Uo (by rw[T8,r.length];exact c),T4]
  cases q:as[i]? with
  |none=>rw[q]at h;cases h
  |some b =>rw[q]at h;cases h;obtain⟨v,e,f⟩:=r.get q;exact⟨v,by rw[e];rfl,f⟩
 ·rw[Uj (by simpa using c),VY]at h;split at h<;>cases h
end
noncomputable def kitB(K:W.Frag)(L:List (Addr×Nat))(C:List Addr):Bool:=L.all λp=>(W.kitOne K (.ref p.1) (.type "ValueError")==some true)&&(List.range C.length).all λi=>match C[i]? with
 |some c=>W.kitOne K (.ref p.1) (.ref c)==some (Nat.beq i p.2)
 |none=>true
theorem kitB_of{L:List (Addr×Nat)}{C:List Addr}(h:kitB K L C=true)(a:p∈L):W.kitOne K (.ref p.1) (.type "ValueError")=some true/\∀i c,C[i]?=some c->W.kitOne K (.ref p.1) (.ref c)=some (Nat.beq i p.2):=by have h:=U3.mp h p a;rw[Tz]at h;refine⟨eq_of_beq h.1,λi c e=>?_⟩;have:=U3.mp h.2 i (Wt.mpr (M1.mp e).1);rw[e]at this;exact eq_of_beq this
end EV
namespace My
open PySem L2 PyProof.Rows
noncomputable abbrev TL:List (Str×KTD.Dat):=[("num",.flat (.int 9999)),("arg",.flat (.int 3))]
noncomputable abbrev TB:List (Str×KTD.Dat):=[("add",.flat (.int 2)),("sub",.flat (.int 2)),("mul",.flat (.int 2)),("less",.flat (.int 2)),("pick",.flat (.int 3))]
noncomputable abbrev TM:List (Str×KTD.Dat):=[("hole",.flat (.int 2)),("gap",.flat (.int 3)),("slot",.flat (.int 2))]
noncomputable abbrev TTO:List (Str×KTD.Dat):=[("load",.flat (.int 3)),("skip",.flat (.int 9)),("zero",.flat (.int 9))]
noncomputable abbrev TF:List (Str×KTD.Dat):=[("low",.flat (.str "gap")),("high",.flat (.str "gap")),("arg",.flat (.str "slot"))]
noncomputable abbrev AHE:List D:=[.int 10,.int 11]
noncomputable abbrev BAS:List D:=[.tup [.str "one",.tup [.str "gap",.int 0,.int 99],.tup [.int 1,.tup [.str "low",.int 0]]],.tup [.str "two",.tup [.str "gap",.int 0,.int 9999],.tup [.int 2,.tup [.str "low",.int 0],.tup [.str "high",.int 0]]],.tup [.str "slot",.tup [.str "slot",.int 0],.tup [.int 3,.tup [.str "arg",.int 0]]],.tup [.str "add",.tup [.str "add",.tup [.str "hole",.int 0],.tup [.str "hole",.int 1]],.tup [.int 4]],.tup [.str "sub",.tup [.str "sub",.tup [.str "hole",.int 0],.tup [.str "hole",.int 1]],.tup [.int 5]],.tup [.str "mul",.tup [.str "mul",.tup [.str "hole",.int 0],.tup [.str "hole",.int 1]],.tup [.int 6]],.tup [.str "less",.tup [.str "less",.tup [.str "hole",.int 0],.tup [.str "hole",.int 1]],.tup [.int 7]],.tup [.str "more",.tup [.str "add",.tup [.str "hole",.int 0],.tup [.str "gap",.int 0,.int 99]],.tup [.int 12,.tup [.str "low",.int 0]]]]
noncomputable abbrev BEH:List D:=[.int 8,.int 9]
noncomputable abbrev INS:List D:=[.tup [.str "end",.int 0],.tup [.str "put",.int 1],.tup [.str "far",.int 2],.tup [.str "load",.int 1],.tup [.str "add",.int 0],.tup [.str "sub",.int 0],.tup [.str "mul",.int 0],.tup [.str "less",.int 0],.tup [.str "skip",.int 1],.tup [.str "jump",.int 2],.tup [.str "zero",.int 1],.tup [.str "none",.int 2],.tup [.str "more",.int 1],.tup [.str "twice",.int 0],.tup [.str "about",.int 0],.tup [.str "call",.int 2],.tup [.str "back",.int 0]]
noncomputable abbrev STR:List D:=[.str "put",.str "far",.str "load",.str "add",.str "sub",.str "mul",.str "less",.str "more",.str "twice",.str "about"]
noncomputable abbrev TRN:List D:=[.int 0,.int 1,.int 2,.int 99,.int 100,.int 9999]
noncomputable abbrev WAY:List D:=[.str "skip",.str "jump",.str "zero",.str "none",.str "call",.str "back"]
noncomputable def b0(s:Stmt)(j:Nat):Stmt:=match s with
 | .ClassDef _ _ _ b _ _ _ _ _ _ _=>b.getD j (.Pass ⟨0,0,0,0⟩)
 |_=>.Pass ⟨0,0,0,0⟩
noncomputable abbrev l8:Stmt:=top 21
theorem sS:WT ["thing","low","high"] ["thing","low","high"] (aa l8):=.Xn
noncomputable abbrev jY:Stmt:=top 22
theorem qf:WT ["thing"] ["thing"] (aa jY):=.Xn
noncomputable abbrev j3:Stmt:=top 24
theorem iV:WT ["size","most"] ["size","most"] (aa j3):=.Xn
noncomputable abbrev j1:Stmt:=top 25
theorem qm:WT ["args","size"] ["args","size"] (aa j1):=.Xn
noncomputable abbrev oy:Stmt:=top 31
theorem vi:WT ["thing","kind"] ["thing"] (aa oy):=.Xn
noncomputable abbrev fK:Stmt:=top 32
theorem kA:WT ["tree"] ["tree"] (aa fK):=.Xn
noncomputable abbrev oz:Stmt:=top 33
theorem vj:WT ["thing","waiting","parts","part","deep"] ["thing"] (aa oz):=.Xn
noncomputable abbrev j4:Stmt:=top 34
theorem qp:WT ["tree"] ["tree"] (aa j4):=.Xn
noncomputable abbrev eB:Stmt:=top 35
theorem jr:WT ["kind","first","second","size"] ["kind","first","second","size"] (aa eB):=.Xn
noncomputable abbrev mf:Stmt:=top 36
theorem sW:WT ["tree","args","size","kind","first"] ["tree","args","size"] (aa mf):=.Xn
noncomputable abbrev sM:Stmt:=top 37
theorem yD:WT ["tree","parts","within"] ["tree"] (aa sM):=.Xn
noncomputable abbrev ou:Stmt:=top 47
theorem vg:WT ["thing"] ["thing"] (aa ou):=.Xn
noncomputable abbrev j2:Stmt:=top 48
theorem qo:WT ["code"] ["code"] (aa j2):=.Xn
noncomputable abbrev dD:Stmt:=top 49
theorem iU:WT ["cells","place","name","many","behind"] ["cells","place"] (aa dD):=.Xn
noncomputable abbrev gk:Stmt:=top 50
theorem mw:WT ["behind","number","cell"] ["behind"] (aa gk):=.Xn
noncomputable abbrev cv:Stmt:=b0 (top 51) 0
theorem b6:WT ["self","cells","given","size","pile"] ["self","cells","given","size","pile"] (aa cv):=.Xn
noncomputable abbrev fE:Stmt:=b0 (top 51) 1
theorem eG:WT ["self"] ["self"] (aa fE):=.Xn
noncomputable abbrev fC:Stmt:=b0 (top 51) 2
theorem eE:WT ["self","number"] ["self","number"] (aa fC):=.Xn
noncomputable abbrev fD:Stmt:=b0 (top 51) 3
theorem eF:WT ["self","name","behind","number","onward"] ["self"] (aa fD):=.Xn
noncomputable abbrev dA:Stmt:=b0 (top 51) 6
theorem cP:WT ["self","name","number","upper","lower"] ["self","name","number"] (aa dA):=.Xn
noncomputable abbrev oE:Stmt:=top 52
theorem vo:WT ["code","args","size","steps"] ["code","args","size","steps"] (aa oE):=.Xn
noncomputable abbrev EH:Stmt:=top 53
theorem Bs:WT ["code","args","size","steps","machine","done"] ["code","args","size","steps"] (aa EH):=.Xn
noncomputable abbrev ow:Stmt:=top 67
theorem vh:WT ["thing"] ["thing"] (aa ow):=.Xn
noncomputable abbrev cK:Stmt:=top 68
theorem gM:WT ["thing","deep"] ["thing","deep"] (aa cK):=.Xn
noncomputable abbrev ma:Stmt:=top 69
theorem sU:WT ["pattern","kind","marks","within"] ["pattern","kind"] (aa ma):=.Xn
noncomputable abbrev gj:Stmt:=top 70
theorem mr:WT ["pattern","kind","numbers"] ["pattern","kind"] (aa gj):=.Xn
noncomputable abbrev iJ:Stmt:=top 71
theorem ng:WT ["thing"] ["thing"] (aa iJ):=.Xn
noncomputable abbrev iI:Stmt:=top 72
theorem mZ:WT ["thing","pattern"] ["thing","pattern"] (aa iI):=.Xn
noncomputable abbrev ot:Stmt:=top 73
theorem vf:WT ["thing","pattern"] ["thing","pattern"] (aa ot):=.Xn
noncomputable abbrev cy:Stmt:=top 74
theorem fU:WT ["cells","pattern","place","name","behind"] ["cells","pattern"] (aa cy):=.Xn
noncomputable abbrev l7:Stmt:=top 75
theorem sR:WT ["thing","name","pattern","cells"] ["thing"] (aa l7):=.Xn
noncomputable abbrev iN:Stmt:=top 76
theorem nj:WT ["piece"] ["piece"] (aa iN):=.Xn
noncomputable abbrev sL:Stmt:=top 77
theorem yC:WT ["thing"] ["thing"] (aa sL):=.Xn
noncomputable abbrev me:Stmt:=top 78
theorem sV:WT ["some"] ["some"] (aa me):=.Xn
noncomputable abbrev eA:Stmt:=top 79
theorem jq:WT ["mark","tree"] ["mark","tree"] (aa eA):=.Xn
noncomputable abbrev oC:Stmt:=top 80
theorem vk:WT ["pattern","tree","found","kind"] ["pattern","tree","found"] (aa oC):=.Xn
noncomputable abbrev l6:Stmt:=top 81
theorem sQ:WT ["piece","tree","found"] ["piece","tree"] (aa l6):=.Xn
noncomputable abbrev gi:Stmt:=top 82
theorem mq:WT ["cell","nums","ks"] ["cell","nums","ks"] (aa gi):=.Xn
noncomputable abbrev dC:Stmt:=top 83
theorem iS:WT ["pattern","trial","kind","holes","nums","ks","args"] ["pattern","trial"] (aa dC):=.Xn
noncomputable abbrev wR:Stmt:=top 84
theorem Br:WT ["piece","trial","size","name","pattern","cells","holes","nums","ks","args","laid_cells","machine"] ["piece","trial","size"] (aa wR):=.Xn
noncomputable abbrev jm:Stmt:=top 85
theorem vm:WT ["choices","rows","some"] ["choices"] (aa jm):=.Xn
noncomputable abbrev lZ:Stmt:=top 86
theorem sP:WT ["ks","size"] ["ks","size"] (aa lZ):=.Xn
noncomputable abbrev jk:Stmt:=top 87
theorem mm:WT ["piece","size","pattern","all_holes","all_nums","all_ks","holes","nums","ks","args","trial"] ["piece","size"] (aa jk):=.Xn
noncomputable abbrev jZ:Stmt:=top 93
theorem qg:WT ["many","kinds","near","far"] ["many","kinds"] (aa jZ):=.Xn
noncomputable abbrev eh:Stmt:=top 94
theorem jo:WT ["second","third","behind","ahead"] ["second","third"] (aa eh):=.Xn
noncomputable abbrev oF:Stmt:=top 95
theorem vp:WT ["tree","some","ways","piece","found"] ["tree","some"] (aa oF):=.Xn
noncomputable abbrev j0:Stmt:=top 96
theorem qk:WT ["name","cells","lengths","own","ahead","behind"] ["name","cells","lengths"] (aa j0):=.Xn
noncomputable abbrev fH:Stmt:=top 97
theorem kz:WT ["tree","some","done","bests","best","name","cells","trees","within","length"] ["tree","some","done","bests"] (aa fH):=.Xn
noncomputable abbrev eg:Stmt:=top 98
theorem jn:WT ["tree","some","done","bests","part"] ["tree","some"] (aa eg):=.Xn
noncomputable abbrev fJ:Stmt:=top 102
theorem qh:WT ["tree","some","cover","places","first","second","third","ahead","behind"] ["tree","some","cover","places"] (aa fJ):=.Xn
noncomputable abbrev iM:Stmt:=top 103
theorem ni:WT ["tree","some","cover","places","name","within","piece","holes","nums","ks","cells","hole","inner"] ["tree","some","cover","places"] (aa iM):=.Xn
noncomputable abbrev iK:Stmt:=top 104
theorem nh:WT ["tree","some","cover","places","place"] ["tree","some","cover","places"] (aa iK):=.Xn
noncomputable abbrev oq:Stmt:=top 105
theorem ve:WT ["tree","some","length","cover"] ["tree","some"] (aa oq):=.Xn
noncomputable abbrev EG:Stmt:=top 106
theorem Im:WT ["tree","some"] ["tree","some"] (aa EG):=.Xn
noncomputable abbrev ef:Stmt:=b0 (top 110) 0
theorem dF:WT ["self","some"] ["self","some"] (aa ef):=.Xn
noncomputable abbrev dB:Stmt:=b0 (top 110) 1
theorem cR:WT ["self","name"] ["self","name"] (aa dB):=.Xn
noncomputable abbrev iG:Stmt:=b0 (top 110) 2
theorem gm:WT ["self","name"] ["self","name"] (aa iG):=.Xn
noncomputable abbrev lX:Stmt:=b0 (top 110) 3
theorem j6:WT ["self","piece","trial"] ["self","piece"] (aa lX):=.Xn
noncomputable abbrev jU:Stmt:=b0 (top 110) 4
theorem iQ:WT ["self","name"] ["self","name"] (aa jU):=.Xn
noncomputable abbrev gg:Stmt:=b0 (top 110) 5
theorem fM:WT ["self"] ["self"] (aa gg):=.Xn
noncomputable abbrev lW:Stmt:=b0 (top 110) 6
theorem j5:WT ["self","name","tree","cells"] ["self","name","tree"] (aa lW):=.Xn
noncomputable abbrev jT:Stmt:=b0 (top 110) 7
theorem iP:WT ["self","name"] ["self","name"] (aa jT):=.Xn
noncomputable abbrev jV:Stmt:=b0 (top 110) 8
theorem iR:WT ["self","name"] ["self","name"] (aa jV):=.Xn
noncomputable abbrev lY:Stmt:=b0 (top 110) 9
theorem j7:WT ["self","name","args","size"] ["self","name","args","size"] (aa lY):=.Xn
noncomputable abbrev fF:Stmt:=b0 (top 110) 14
theorem eI:WT ["self"] ["self"] (aa fF):=.Xn
noncomputable abbrev gh:Stmt:=top 119
theorem mj:WT ["_law_hole","_law_other","_law_gap","_law_made_here"] [] (aa gh):=.Xn
noncomputable abbrev jl:Stmt:=top 23
theorem Zn:WT ["thing"] ["thing"] (aa jl):=.Xn
noncomputable abbrev jW:Stmt:=top 112
theorem YN:WT ["_law_script","_law_town","_law_many","_law_one","_law_at","_law_mixed"] ["_law_script","_law_town","_law_many"] (aa jW):=.Xn
noncomputable abbrev jX:Stmt:=top 113
theorem YO:WT ["_law_script","_law_town","_law_some"] ["_law_script","_law_town","_law_some"] (aa jX):=.Xn
noncomputable abbrev cw:Stmt:=top 117
theorem Yg:WT ["_law_script","_law_town","_law_num","_law_arg","_law_low","_law_k","_law_wide","_law_bad"] ["_law_script","_law_town"] (aa cw):=.Xn
noncomputable abbrev bZ:Stmt:=top 118
theorem Yb:WT ["_law_script","_law_town","_law_hole","_law_gap","_law_slot","_law_two","_law_bad"] ["_law_script","_law_town"] (aa bZ):=.Xn
noncomputable abbrev iH:Stmt:=top 121
theorem YD:WT ["_law_e","_law_own"] ["_law_e"] (aa iH):=.Xn
noncomputable abbrev gL:Stmt:=top 122
theorem sO:WT ["_law_shop","_law_what","_law_one","_law_other","_law_e"] ["_law_shop","_law_what","_law_one","_law_other"] (aa gL):=.Xn
noncomputable abbrev fG:Stmt:=top 123
theorem p8:WT ["_law_some","_law_e"] ["_law_some"] (aa fG):=.Xn
noncomputable abbrev oB:Stmt:=top 124
theorem sc_law:WT ["_law_script","_law_town","_law_odd","_law_shop","_law_tree_here","_law_bad","_law_name","_law_wrong","_law_args_here","_law_base","_law_piece","_law_extra","_law_single"] ["_law_script"] (aa oB):=.Xn
noncomputable def E9(s:Stmt):Stmt:=match s with
 | .ClassDef _ _ _ (d::_) _ _ _ _ _ _ _=>d
 |_=>.Pass ⟨0,0,0,0⟩
noncomputable abbrev gf:Stmt:=E9 (top 15)
theorem Yx:WT ["self","place"] ["self","place"] (aa gf):=.Xn
structure Df(K:W.Frag)(mg:Str->Option Value)(n:Str)(st:Stmt)(ps:List Str) where
 a:Addr
 d:FuncData
 f:YH K n n st a d
 m:mg n=some (.ref a)
 b:Binds K d ps []
noncomputable abbrev Ok(P:Program)(w:World)(base:Heap)(k:Nat){K:W.Frag}{mg:Str->Option Value}{n:Str}{st:Stmt}{c:List Str}(D:Df K mg n st c)(e:Sp):Prop:=WV P w K mg base CX0 k D.a D.d c e
theorem pc{X:Cx}{st:Stmt}{D:Df X.K X.mg n st l}(F:WV X.prog X.w X.K X.mg X.base CX0 k D.a D.d l q)(r:W2 k X.A)(u:PA X (e::c) t)(v:Gl X n:=by rfl)(g:(n==("__debug__":Str))=false:=by decide)(y:starEach (e::c) X.env=(false,eval e X.env)::starEach c X.env:=by rfl)(i:(backTo j (starEach c X.env)).any (·.1)=false:=by rfl):PE X (.Call (.Name n p) (e::c) [] j) (cS q [] E0 t):=De F r v D.m D.f.kp D.b .nil Ky u g y i
set_option genInjectivity false in
set_option genSizeOfSpec false in
structure Dfs(K:W.Frag)(mg:Str->Option Value) where
 P8:Df K mg "is_whole" l8 ["thing","low","high"]
 Pu:Df K mg "is_tagged" jY ["thing"]
 Pz:Df K mg "need_args" j1 ["args","size"]
 Qv:Df K mg "is_node" oy ["thing"]
 OR:Df K mg "trees_within" fK ["tree"]
 Qw:Df K mg "is_tree" oz ["thing"]
 PD:Df K mg "need_tree" j4 ["tree"]
 OH:Df K mg "worth_of_both" eB ["kind","first","second","size"]
 Qa:Df K mg "reckoned" mf ["tree","args","size"]
 Rl:Df K mg "walked" sM ["tree"]
 Qt:Df K mg "is_code" ou ["thing"]
 PB:Df K mg "need_code" j2 ["code"]
 OC:Df K mg "instruction_at" dD ["cells","place"]
 OZ:Df K mg "number_told" gk ["behind"]
 Qz:Df K mg "started" oE ["code","args","size","steps"]
 Qu:Df K mg "is_mark" ow ["thing"]
 Ov:Df K mg "is_pattern_part" cK ["thing","deep"]
 Of:Df K mg "marks_in" ma ["pattern","kind"]
 OY:Df K mg "is_numbered" gj ["pattern","kind"]
 O8:Df K mg "is_pattern" iJ ["thing"]
 O7:Df K mg "is_filling" iI ["thing","pattern"]
 Qs:Df K mg "is_cell" ot ["thing","pattern"]
 On:Df K mg "are_instructions" cy ["cells","pattern"]
 P7:Df K mg "is_piece" l7 ["thing"]
 Pa:Df K mg "need_piece" iN ["piece"]
 Rj:Df K mg "is_set" sL ["thing"]
 P9:Df K mg "need_set" me ["some"]
 OG:Df K mg "may_stand_for" eA ["mark","tree"]
 Qx:Df K mg "matches" oC ["pattern","tree","found"]
 P6:Df K mg "found_in" l6 ["piece","tree"]
 OX:Df K mg "filled_cell" gi ["cell","nums","ks"]
 OB:Df K mg "filled_pattern" dC ["pattern","trial"]
 RJ:Df K mg "keeps" wR ["piece","trial","size"]
 Qy:Df K mg "rows_of" jm ["choices"]
 P5:Df K mg "args_for" lZ ["ks","size"]
 Pw:Df K mg "jump_over" jZ ["many","kinds"]
 OF:Df K mg "jumps_of_pick" eh ["second","third"]
 QB:Df K mg "ways_of" oF ["tree","some"]
 Py:Df K mg "length_by" j0 ["name","cells","lengths"]
 OQ:Df K mg "best_by_ways" fH ["tree","some","done","bests"]
 OE:Df K mg "best_covering" eg ["tree","some"]
 Px:Df K mg "laid_pick" fJ ["tree","some","cover","places"]
 O9:Df K mg "laid_piece" iM ["tree","some","cover","places"]
 NV:Df K mg "laid_cells" iK ["tree","some","cover","places"]
 Qr:Df K mg "code_of" oq ["tree","some"]
 QR:Df K mg "lay" EG ["tree","some"]
 NG:Df K mg "_law_pieces" gh []
 OJ:Df K mg "is_name" jl ["thing"]
 OV:Df K mg "_law_draw" jW ["_law_script","_law_town","_law_many"]
 NA:Df K mg "_law_pick" jX ["_law_script","_law_town","_law_some"]
 ND:Df K mg "_law_no_tree" cw ["_law_script","_law_town"]
 NB:Df K mg "_law_no_piece" bZ ["_law_script","_law_town"]
 NI:Df K mg "_law_which" iH ["_law_e"]
 N5:Df K mg "_law_ask" gL ["_law_shop","_law_what","_law_one","_law_other"]
 QQ:Df K mg "_law_made" fG ["_law_some"]
 Qm:Df K mg "law" oB ["_law_script"]
set_option genInjectivity false in
set_option genSizeOfSpec false in
structure Txt(P:Program)(w:World)(K:W.Frag)(mg:Str->Option Value) extends Dfs K mg where
 OU:Addr
 N2:FuncData
 Pt:Addr
 Pq:Tok
 N3:FunD K "need_size" "need_size" j3 OU N2 Pt [.int 10000 Pq]
 Pp:mg "need_size"=some (.ref OU)
 RO:Addr
 QD:FuncData
 SC:YH K "run" "run" EH RO QD
 Tw:mg "run"=some (.ref RO)
 Te:Tok
 w_run:∀(z:Setting)(x_code x_args x_size:Value),W.peek K z (bindArgs QD ⟨[x_code,x_args],[("size",x_size)]⟩)=some ([("code",x_code),("args",x_args),("size",x_size),("steps",.int 1000 Te)]:List (Str×Value))
 PF:Addr
 OA:FuncData
 Qp:YH K "failing" "failing" jk PF OA
 Sx:mg "failing"=some (.ref PF)
 NO:Addr
 Su:mg "Machine"=some (.ref NO)
 W5:ZC K NO
 N4:Addr
 NK:FuncData
 OO:YH K "__init__" "Machine.__init__" cv N4 NK
 mk_Machine:Mk K NO N4
 ON:Addr
 N1:FuncData
 Pl:YH K "take" "Machine.take" fE ON N1
 Yh:Meth K NO "take" ON
 OL:Addr
 NZ:FuncData
 Pj:YH K "push" "Machine.push" fC OL NZ
 Yi:Meth K NO "push" OL
 OM:Addr
 N0:FuncData
 Pk:YH K "step" "Machine.step" fD OM N0
 Yj:Meth K NO "step" OM
 Ow:Addr
 NS:FuncData
 O2:YH K "change" "Machine.change" dA Ow NS
 X0:Meth K NO "change" Ow
 na_cells:Xm K NO "cells"
 na_given:Xm K NO "given"
 na_size:Xm K NO "size"
 na_pile:Xm K NO "pile"
 na_place:Xm K NO "place"
 na_kept:Xm K NO "kept"
 na_ended:Xm K NO "ended"
 Oi:Addr
 Sk:mg "Shop"=some (.ref Oi)
 Xa:ZC K Oi
 NU:Addr
 NF:FuncData
 OD:Addr
 NJ:FunD K "__init__" "Shop.__init__" ef NU NF OD [.none]
 Zg:Mk K Oi NU
 Ox:Addr
 NT:FuncData
 O3:YH K "has_piece" "Shop.has_piece" dB Ox NT
 X3:Meth K Oi "has_piece" Ox
 O4:Addr
 Oh:FuncData
 Qd:YH K "order" "Shop.order" iG O4 Oh
 YE:Meth K Oi "order" O4
 P0:Addr
 Oz:FuncData
 Q9:YH K "put" "Shop.put" lX P0 Oz
 Y3:Meth K Oi "put" P0
 Pf:Addr
 Oo:FuncData
 QK:YH K "drop" "Shop.drop" jU Pf Oo
 YQ:Meth K Oi "drop" Pf
 OW:Addr
 N6:FuncData
 PU:YH K "pieces" "Shop.pieces" gg OW N6
 Yy:Meth K Oi "pieces" OW
 PZ:Addr
 Oy:FuncData
 Q8:YH K "lay" "Shop.lay" lW PZ Oy
 Y4:Meth K Oi "lay" PZ
 OS:Addr
 Od:FuncData
 QJ:YH K "code" "Shop.code" jT OS Od
 Ye:Meth K Oi "code" OS
 Pg:Addr
 Oq:FuncData
 QN:YH K "tree" "Shop.tree" jV Pg Oq
 YR:Meth K Oi "tree" Pg
 O5:Addr
 Om:FuncData
 Ra:YH K "run" "Shop.run" lY O5 Om
 Z8:Meth K Oi "run" O5
 NY:Addr
 NM:FuncData
 Oe:YH K "__len__" "Shop.__len__" fF NY NM
 Yk:Meth K Oi "__len__" NY
 na_ready:Xm K Oi "ready"
 na_orders:Xm K Oi "orders"
 Zo:mg "run_machine"=some (.ref RO)
 YF:mg "lay_laying"=some (.ref QR.a)
 Sb:Tok
 RY:mg "MOST_SIZE"=some (.int 10000 Sb)
 R5:Tok
 RS:mg "MANY_ARGS"=some (.int 4 R5)
 Rh:Tok
 Pm:mg "LONGEST_NAME"=some (.int 8 Rh)
 RH:Tok
 Rz:mg "MOST_PARTS"=some (.int 40 RH)
 R7:Tok
 RV:mg "MOST_DEEP"=some (.int 8 R7)
 RG:Tok
 Ry:mg "MOST_CELLS"=some (.int 1000 RG)
 R6:Tok
 RU:mg "MOST_CELL"=some (.int 99 R6)
 R9:Tok
 RX:mg "MOST_PILE"=some (.int 64 R9)
 PP:Tok
 PN:mg "MOST_PATTERN_DEEP"=some (.int 3 PP)
 Sn:Tok
 Si:mg "MOST_GAP"=some (.int 9999 Sn)
 P4:Tok
 P3:mg "MOST_PIECE_CELLS"=some (.int 12 P4)
 Rq:Tok
 Ro:mg "MOST_PIECES"=some (.int 16 Rq)
 Qk:Tok
 Qe:mg "MOST_TRIED_SIZE"=some (.int 5 Qk)
 QZ:Tok
 Pb:mg "BENEATH_HOLES"=some (.int 1 QZ)
 R8:Tok
 RW:mg "MOST_NEAR"=some (.int 9 R8)
 RF:Tok
 Rx:mg "CALL_CELLS"=some (.int 3 RF)
 Tu:Tok
 To:mg "END"=some (.int 0 Tu)
 Tj:Tok
 Tf:mg "CALL"=some (.int 15 Tj)
 RI:Tok
 Qi:mg "TRIED_SIZE"=some (.int 3 RI)
 Pc:Addr
 Rc:mg "MOST_IN_LEAF"=some (.ref Pc)
 Ri:dH K Pc TL
 OT:Addr
 Qg:mg "TREES_IN_BRANCH"=some (.ref OT)
 Ql:dH K OT TB
 N7:Addr
 OP:mg "MARK_LENGTHS"=some (.ref N7)
 Pr:dH K N7 TM
 PR:Addr
 Rn:mg "FILLED_FROM"=some (.ref PR)
 Rp:dH K PR TF
 Pd:Addr
 QO:mg "MOST_TOLD"=some (.ref Pd)
 QP:dH K Pd TTO
 OK:Addr
 Rb:mg "INSTRUCTIONS"=some (.ref OK)
 Oc:b4 K (.tup INS) (.ref OK)=true
 PY:Addr
 Sj:mg "STRAIGHT"=some (.ref PY)
 O6:b4 K (.tup STR) (.ref PY)=true
 Ru:Addr
 SU:mg "AHEAD"=some (.ref Ru)
 Q1:b4 K (.tup AHE) (.ref Ru)=true
 Q3:Addr
 SD:mg "BEHIND"=some (.ref Q3)
 Qb:b4 K (.tup BEH) (.ref Q3)=true
 Sh:Addr
 Th:mg "WAYS"=some (.ref Sh)
 Rw:b4 K (.tup WAY) (.ref Sh)=true
 OI:Addr
 Qh:mg "TRIED_NUMS"=some (.ref OI)
 Ou:b4 K (.tup TRN) (.ref OI)=true
 Q0:Addr
 So:mg "BASIC"=some (.ref Q0)
 Og:pD K BAS Q0=true
 Po:vL P w K N7 ["hole","gap","slot"]
 NH:Addr
 Qf:mg "PieceError"=some (.ref NH)
 Oa:Addr
 R1:mg "NoSize"=some (.ref Oa)
 Ob:Addr
 R3:mg "NoTree"=some (.ref Ob)
 N8:Addr
 RZ:mg "NoArgs"=some (.ref N8)
 Pe:Addr
 SE:mg "NoCode"=some (.ref Pe)
 O1:Addr
 Sw:mg "NoSteps"=some (.ref O1)
 Q4:Addr
 Tg:mg "Late"=some (.ref Q4)
 NX:Addr
 Rr:mg "NoPiece"=some (.ref NX)
 Os:Addr
 Sq:mg "NoSet"=some (.ref Os)
 NP:Addr
 Qq:mg "NoCover"=some (.ref NP)
 O0:Addr
 Sv:mg "NoParts"=some (.ref O0)
 N9:Addr
 R0:mg "NoName"=some (.ref N9)
 Ot:Addr
 Sr:mg "Taken"=some (.ref Ot)
 Ol:Addr
 Q2:mg "Fault"=some (.ref Ol)
 NR:Addr
 RQ:mg "Broken"=some (.ref NR)
 RD:Addr
 Q5:FuncData
 RP:YH K "__init__" "Fault.__init__" gf RD Q5
 Rv:IniK K Ol RD
 SL:BR K Ol "place"
 Tv:eO K Ol
 SJ:cq K Oa [.type "ValueError",.type "Exception",.type "BaseException",.type "object"] "ValueError.__new__" none=true
 SR:eO K Oa
 SK:cq K Ob [.type "ValueError",.type "Exception",.type "BaseException",.type "object"] "ValueError.__new__" none=true
 SS:eO K Ob
 SH:cq K N8 [.type "ValueError",.type "Exception",.type "BaseException",.type "object"] "ValueError.__new__" none=true
 SM:eO K N8
 Sz:cq K NX [.type "ValueError",.type "Exception",.type "BaseException",.type "object"] "ValueError.__new__" none=true
 SB:eO K NX
 SX:cq K Os [.type "ValueError",.type "Exception",.type "BaseException",.type "object"] "ValueError.__new__" none=true
 SZ:eO K Os
 Sy:cq K NP [.type "ValueError",.type "Exception",.type "BaseException",.type "object"] "ValueError.__new__" none=true
 SA:eO K NP
 SI:cq K N9 [.type "ValueError",.type "Exception",.type "BaseException",.type "object"] "ValueError.__new__" none=true
 SN:eO K N9
 SY:cq K Ot [.type "ValueError",.type "Exception",.type "BaseException",.type "object"] "ValueError.__new__" none=true
 Ta:eO K Ot
 PL:W.exmOne K (.ref Oa) (.ref NH)=some true
 PM:W.exmOne K (.ref Ob) (.ref NH)=some true
 PH:W.exmOne K (.ref N8) (.ref NH)=some true
 Pi:W.exmOne K (.ref NX) (.ref NH)=some true
 P1:W.exmOne K (.ref Os) (.ref NH)=some true
 Ph:W.exmOne K (.ref NP) (.ref NH)=some true
 PJ:W.exmOne K (.ref N9) (.ref NH)=some true
 P2:W.exmOne K (.ref Ot) (.ref NH)=some true
 Rm:W.exmOne K (.ref Ol) (.ref Ol)=some true
 Qc:W.exmOne K (.ref NP) (.ref NP)=some true
 QX:W.exmOne K (.ref Oa) (.ref NR)=some false
 QY:W.exmOne K (.ref Ob) (.ref NR)=some false
 QU:W.exmOne K (.ref N8) (.ref NR)=some false
 Qo:W.exmOne K (.ref NX) (.ref NR)=some false
 Q6:W.exmOne K (.ref Os) (.ref NR)=some false
 Qn:W.exmOne K (.ref NP) (.ref NR)=some false
 QV:W.exmOne K (.ref N9) (.ref NR)=some false
 Q7:W.exmOne K (.ref Ot) (.ref NR)=some false
 kits:EV.kitB K [(Oa,0),(Ob,1),(N8,2),(NX,6),(Os,7),(NP,8),(N9,10),(Ot,11)] [Oa,Ob,N8,Pe,O1,Q4,NX,Os,NP,O0,N9,Ot,Ol,NR]=true
 Rg:mg "len"=none
 NC:mg "isinstance"=none
 Tq:mg "int"=none
 Ti:mg "bool"=none
 Tc:mg "str"=none
 SW:mg "tuple"=none
 SG:mg "list"=none
 SV:mg "range"=none
 Tb:mg "all"=none
 Tp:mg "any"=none
 Tr:mg "set"=none
 Tt:mg "sum"=none
 Sl:mg "reversed"=none
 Td:mg "zip"=none
 R4:mg "enumerate"=none
 Qj:mg "ValueError"=none
section
theorem pq{α:Type}{a:List α}(h:a.length=1):∃c,a=[c]:=match a,h with |[c],_=>⟨c,rfl⟩
theorem mU{α:Type}{a:List α}(h:a.length=2):∃c d,a=[c,d]:=match a,h with |[c,d],_=>⟨c,d,rfl⟩
theorem GM{α:Type}{a:List α}(h:a.length=3):∃c d e,a=[c,d,e]:=match a,h with |[c,d,e],_=>⟨c,d,e,rfl⟩
theorem MA{α:Type}{a:List α}(h:a.length=5):∃c d e f a4,a=[c,d,e,f,a4]:=match a,h with |[c,d,e,f,a4],_=>⟨c,d,e,f,a4,rfl⟩
variable{K:W.Frag}
theorem qL(T:Txt P w K mg):Binds K T.Q5 ["self","place"] []:=T.RP.binds λ_ _ _ _ _ _ a hl=>match a,hl with |[_,_],_=>rfl
theorem ft(T:Txt P w K mg):WV P w K mg base CX0 (k+1) T.RD T.Q5 ["self","place"] (iW T.Ol "place"):=by refine T.RP.ok Yx (λc H Q E ⟨e,a,v,h,_⟩=>by rw[h];rfl) (λd A outer s H c Q E g ⟨e,a,v,h,f,q⟩=>?_);have i:=Yx.nd;refine⟨_,(bc (uG T.SL (pv 0) (pv 1))),?_⟩;subst h;exact⟨_,rfl,_,rfl,e,a,rfl,f,q⟩
theorem qK(T:Txt P w K mg):Binds K T.N2 ["size","most"] [.int 10000 T.Pq]:=by
 obtain⟨oc,j,kV,doc,m,p,d,ct,f,e,lk,g⟩:=T.N3.ex;obtain⟨o,n,l,h⟩:=T.N3.df;intro s c i hl;have a:c.length=1:=by simpa using hl
 match c,a with
 |[q],_=>rw[e];exact .of_defaults (T:=T.Pt) rfl (i _ _ l) h rfl rfl
theorem tq(T:Txt P w K mg):Vals [V.int 10000] [Value.int 10000 T.Pq]:=.cons ⟨_,rfl⟩ .nil
theorem gX(T:Txt P w K mg):Binds K T.N2 ["size","most"] []:=by obtain⟨oc,i,kV,doc,j,m,a,ct,c,e,lk,d⟩:=T.N3.ex;obtain⟨o,n,l,h⟩:=T.N3.df;intro s f g hl;obtain⟨p,q,rfl⟩:=mU (show f.length=2 by simpa using hl);rw[e];exact .of_defaults (T:=T.Pt) rfl (g _ _ l) h rfl rfl
theorem gr(T:Txt P w K mg):Binds K T.NK ["self","cells","given","size","pile"] []:=T.OO.binds λ_ _ _ _ _ _ a hl=>by obtain⟨_,_,_,_,_,rfl⟩:=MA hl;rfl
theorem eR(T:Txt P w K mg):Binds K T.N1 ["self"] []:=T.Pl.binds λ_ _ _ _ _ _ a hl=>by obtain⟨_,rfl⟩:=pq hl;rfl
theorem eP(T:Txt P w K mg):Binds K T.NZ ["self","number"] []:=T.Pj.binds λ_ _ _ _ _ _ a hl=>by obtain⟨_,_,rfl⟩:=mU hl;rfl
theorem eQ(T:Txt P w K mg):Binds K T.N0 ["self"] []:=T.Pk.binds λ_ _ _ _ _ _ a hl=>by obtain⟨_,rfl⟩:=pq hl;rfl
theorem dj(T:Txt P w K mg):Binds K T.NS ["self","name","number"] []:=T.O2.binds λ_ _ _ _ _ _ a hl=>by obtain⟨_,_,_,rfl⟩:=GM hl;rfl
noncomputable def jc{α:Type}(z:α):List α->List α->List α
 |[a,c],[d]=>[a,c,d,z]
 |_,_=>[]
noncomputable abbrev vW:List V->List V->List V:=jc (.int 1000)
theorem Jh(T:Txt P w K mg):i5 K T.QD ["code","args","size","steps"] ["size"] (jc (.int 1000 T.Te)) vW:=by
 refine⟨λs a c d hl=>?_,λ{n a p c} e f=>?_⟩
 ·unfold jc at hl ⊢;split at hl
  ·exactλM A E Q g=>(W.Looks.of_peek d (T.w_run _ _ _ _)).here g
  ·cases hl
 ·unfold vW
  cases e with
  |nil=>exact .nil
  |cons i t1 =>
   cases t1 with
   |nil=>exact .nil
   |cons r2 j =>
    cases j with
    |cons _ _=>exact .nil
    |nil =>
     cases f with
     |nil=>exact .nil
     |cons l m =>
      cases m with
      |cons _ _=>exact .nil
      |nil=>exact(.cons i (.cons r2 (.cons l (.cons ⟨_,rfl⟩ .nil))))
noncomputable def bP{α:Type}:List α->List α->List α
 |[a],[c]=>[a,c]
 |_,_=>[]
theorem xa(T:Txt P w K mg):i5 K T.OA ["piece","size"] ["size"] bP bP:=by
 obtain⟨oc,p,kV,doc,q,r,a,ct,c,e,lk,d⟩:=T.Qp.ex;refine⟨λs f g t hl=>?_,λ{u f v g} i j=>?_⟩
 ·unfold bP at hl ⊢;split at hl
  ·rw[e];exact .of_eq rfl
  ·cases hl
 ·cases i with
  |nil=>exact .nil
  |cons l t1 =>
   cases t1 with
   |cons _ _=>exact .nil
   |nil =>
    cases j with
    |nil=>exact .nil
    |cons m n =>
     cases n with
     |cons _ _=>exact .nil
     |nil=>exact(.cons l (.cons m .nil))
theorem kg(T:Txt P w K mg):Binds K T.NF ["self","some"] [.none]:=by obtain⟨oc,i,kV,doc,j,m,a,ct,c,e,lk,d⟩:=T.NJ.ex;obtain⟨o,n,l,h⟩:=T.NJ.df;intro s f g hl;obtain⟨p,rfl⟩:=pq (show f.length=1 by simpa using hl);rw[e];exact .of_defaults (T:=T.OD) rfl (g _ _ l) h rfl rfl
theorem kD(T:Txt P w K mg):Vals [V.WX] [Value.none]:=.cons rfl .nil
theorem dh(T:Txt P w K mg):Binds K T.NF ["self","some"] []:=by obtain⟨oc,i,kV,doc,j,m,a,ct,c,e,lk,d⟩:=T.NJ.ex;obtain⟨o,n,l,h⟩:=T.NJ.df;intro s f g hl;obtain⟨p,q,rfl⟩:=mU (show f.length=2 by simpa using hl);rw[e];exact .of_defaults (T:=T.OD) rfl (g _ _ l) h rfl rfl
theorem dk(T:Txt P w K mg):Binds K T.NT ["self","name"] []:=T.O3.binds λ_ _ _ _ _ _ a hl=>by obtain⟨_,_,rfl⟩:=mU hl;rfl
theorem gY(T:Txt P w K mg):Binds K T.Oh ["self","name"] []:=T.Qd.binds λ_ _ _ _ _ _ a hl=>by obtain⟨_,_,rfl⟩:=mU hl;rfl
theorem kQ(T:Txt P w K mg):Binds K T.Oz ["self","piece"] []:=T.Q9.binds λ_ _ _ _ _ _ a hl=>by obtain⟨_,_,rfl⟩:=mU hl;rfl
theorem jv(T:Txt P w K mg):Binds K T.Oo ["self","name"] []:=T.QK.binds λ_ _ _ _ _ _ a hl=>by obtain⟨_,_,rfl⟩:=mU hl;rfl
theorem fW(T:Txt P w K mg):Binds K T.N6 ["self"] []:=T.PU.binds λ_ _ _ _ _ _ a hl=>by obtain⟨_,rfl⟩:=pq hl;rfl
theorem kP(T:Txt P w K mg):Binds K T.Oy ["self","name","tree"] []:=T.Q8.binds λ_ _ _ _ _ _ a hl=>by obtain⟨_,_,_,rfl⟩:=GM hl;rfl
theorem eT(T:Txt P w K mg):Binds K T.Od ["self","name"] []:=T.QJ.binds λ_ _ _ _ _ _ a hl=>by obtain⟨_,_,rfl⟩:=mU hl;rfl
theorem jw(T:Txt P w K mg):Binds K T.Oq ["self","name"] []:=T.QN.binds λ_ _ _ _ _ _ a hl=>by obtain⟨_,_,rfl⟩:=mU hl;rfl
noncomputable def bD{α:Type}:List α->List α->List α
 |[a,c,d],[e]=>[a,c,d,e]
 |_,_=>[]
theorem tO(T:Txt P w K mg):i5 K T.Om ["self","name","args","size"] ["size"] bD bD:=by
 obtain⟨oc,t,kV,doc,u,v,a,ct,c,e,lk,d⟩:=T.Ra.ex;refine⟨λs f g y hl=>?_,λ{z f B g} i j=>?_⟩
 ·unfold bD at hl ⊢;split at hl
  ·rw[e];exact .of_eq rfl
  ·cases hl
 ·cases i with
  |nil=>exact .nil
  |cons l t1 =>
   cases t1 with
   |nil=>exact .nil
   |cons r2 m =>
    cases m with
    |nil=>exact .nil
    |cons n p =>
     cases p with
     |cons _ _=>exact .nil
     |nil =>
      cases j with
      |nil=>exact .nil
      |cons q r =>
       cases r with
       |cons _ _=>exact .nil
       |nil=>exact(.cons l (.cons r2 (.cons n (.cons q .nil))))
theorem eS(T:Txt P w K mg):Binds K T.NM ["self"] []:=T.Oe.binds λ_ _ _ _ _ _ a hl=>by obtain⟨_,rfl⟩:=pq hl;rfl
end
section
variable{K:W.Frag}
theorem AX{ns:List Int}(a:0<=k)(c:k<(ns.length:Int)):∃z,atI (ns.map V.int) k=some (.int z):=by
 have hk:k.toNat<ns.length:=by lia
 refine⟨ns[k.toNat],?_⟩;have e:k=((k.toNat:Nat):Int):=by lia
 have q:atI (ns.map V.int) ((k.toNat:Nat):Int)=some (.int ns[k.toNat]):=gW (by rw[T4,RL hk]<;>rfl);rw[<- e]at q;exact q
theorem iz(T:Txt P w K mg)  : Ok P w base (k+1) T.OV (Bv K):=by
 refine T.OV.f.ok YN (λvs H Q E h=>?_) (λcdv A outer s H vs Q E hr h=>?_)
 ·obtain⟨a,t,e,m,p,q,rest,rfl,_⟩:=h;rfl
 have I:=YN.nd;obtain⟨a,t,e,m,p,q,rest,rfl,U,u,Y,r,hm2,post⟩:=h;refine⟨_,(av (lO (cg Es (fz XD (pv 1) aQ) aQ (gF _)) (av (gI (i:=3) I rfl (Or.inl rfl) (bw cW (fz XD (pv 1) aQ) (pv 2)))
 (av (pO (bw pH (fz XD (pv 1) aQ) (pv 2)) (AV (pv 1) aQ mz))
 (bc (bJ (pv 3))))) cJ)
 (av (gI (i:=4) I rfl (Or.inl rfl) (fz XD (pv 1) aQ))
 (av (Dq (pv 1) aQ zH aQ zS mz)
 (av (lO (cg (AG hr) (pv 0) (fA aj) (gF _)) (bc (bJ (bw cW (pv 4) (pv 2)))) cJ)
 (av (lO (PW.pt (Hy (cg Et (pv 4) (aD b8 rfl T.Rg dI (aB (pv 0) aj)) (gF _)) (Dt (cg Er (fz XD (pv 0) (pv 4)) (bw pJ aQ aQ) (gF _))))) (av (pO (bw cW (bw pH (fz XD (pv 0) (pv 4)) (pv 2)) (bw C9 (bw pJ aQ aQ) (bw pJ aQ aQ))) (AV (pv 1) aQ mz))
 (bc (bJ (bw cW (fz XD (pv 0) (pv 4)) (pv 2))))) cJ)
 (av (gI (i:=5) I rfl (Or.inl rfl) (bw cW (bw Zi (bw Zi (bw uD (fz XD (pv 0) (bw cW (pv 4) (aD b8 rfl T.Rg dI (aB (pv 0) aj)))) aQ) (bw uD aQ (pv 4))) aQ) aQ))
 (bc (bJ (bw cW (bw cW (bw cW (bw pJ (pv 5) aQ) aQ) aQ) (pv 2)))))))))),?_⟩
 refine⟨_,rfl,t,_,1,_,rfl,rfl,Xk.of u,at1,q,0,rfl,rfl,_,rfl,?_⟩;refine Cd (λc=>?_) (λc=>?_)
 ·refine⟨_,rfl,t,_,1,_,rfl,rfl,Xk.of u,at1,_,rfl,q,m,rfl,rfl,r,?_⟩;refine⟨_,rfl,t,_,1,_,rfl,rfl,Xk.of u,at1,_,rfl,q,m,rfl,rfl,⟨r,by lia⟩,?_⟩;refine⟨_,rfl,t,_,1,1,rfl,rfl,u,ix1,?_⟩;refine⟨_,rfl,?_⟩;exact post (q%m) _ p (q / m) (YZ.upd (W3.refl H).but) ai Y (UW _ (by lia)) (UH _ r)
 refine⟨_,rfl,t,_,0,_,rfl,rfl,Xk.of u,at0,?_⟩;refine⟨_,rfl,t,_,0,_,rfl,rfl,Int.le_refl 0,Xk.of u,rfl,p,1,rfl,rfl,t,_,0,0,rfl,rfl,u,ix0,?_⟩;refine⟨_,rfl,(by show 0<=sizeLine;decide),λl hl=>?_⟩;have J:YZ t H (upd H t (.lst ((V.int p::.int q::rest).set 0 (.int (p+1))))):=YZ.upd (W3.refl H).but;have M:l≠t:=λz=>by rw[z,ai]at hl;cases hl
 have j:=J.trans (bx hl (.lst [])).but
 have v:upd (upd H t (.lst ((V.int p::.int q::rest).set 0 (.int (p+1))))) l (.lst []) t=some (.lst (.int (p+1)::.int q::rest)):=by rw[ag (Ut M)];exact ai
 have d:=(U.but j u).Zf;have g:((e.map V.int).length:Int)=(e.length:Int):=by rw[T8]
 refine⟨a,l,_,[],e.map D.int,[],rfl,rfl,d,Xk.of ai,nM e,WW.nil,nW e,(by unfold Xp;rfl),(by rw[jH];decide),_,rfl,?_⟩;show(if Xv (e.map D.int) []=true then _ else _);rw[zz];refine Cd (λc0=>?_) (λc0=>?_)
 ·refine⟨_,rfl,_,rfl,p,m,rfl,rfl,r,?_⟩;exact post _ _ (p+1) q j v (by lia) (UW _ (by lia)) (UH _ r)
 have y:(0:Int)<((e.map V.int).length:Int):=by
  rw[g]
  cases e with
  |nil=>exact absurd rfl c0
  |cons n e=>rw[Us];lia
 refine⟨_,rfl,_,rfl,a,_,rfl,.inl d,p,_,rfl,rfl,_,rfl,?_⟩;refine Cd (λc1=>?_) (λc1=>?_)
 ·have N:p<((e.map V.int).length:Int):=Ue c1;obtain⟨z,O⟩:=AX (ns:=e) Y (by rw[<- g];exact N);refine⟨_,rfl,_,rfl,a,_,p,_,rfl,rfl,d,O,10,18,rfl,rfl,⟨by decide,by decide,by decide⟩,z,_,rfl,rfl,_,rfl,?_⟩;refine Cd (λc2=>?_) (λc2=>?_)
  ·refine⟨_,rfl,_,rfl,a,_,p,_,rfl,rfl,d,O,_,rfl,z,m,rfl,rfl,⟨r,by lia⟩,10,60,rfl,rfl,⟨by decide,by decide,by decide⟩,10,60,rfl,rfl,⟨by decide,by decide,by decide⟩,_,_,rfl,rfl,IntMulOk.of_bits (by decide +kernel) (by decide +kernel),_,_,rfl,rfl,(by show(0:Int)<10 ^ (60:Int).toNat*10 ^ (60:Int).toNat;decide +kernel),?_⟩;refine⟨_,rfl,t,_,1,1,rfl,rfl,v,ix1,?_⟩;refine⟨_,rfl,_,rfl,a,_,p,_,rfl,rfl,(U.but j.upd u).Zf,O,_,rfl,z,m,rfl,rfl,r,?_⟩;exact post _ _ (p+1) _ j.upd ai (by lia) (UW _ (by lia)) (UH _ r)
  ·refine⟨_,rfl,_,rfl,_,rfl,a,_,rfl,.inl d,p,_,rfl,rfl,y,?_⟩;obtain⟨B,G⟩:=AX (ns:=e) (UW p (by lia:((e.map V.int).length:Int)≠0)) (by rw[<- g];exact UH p y);refine⟨a,_,_,_,rfl,rfl,d,G,B,1103515245,rfl,rfl,.inr ⟨by decide,by decide⟩,_,rfl,7919,p,rfl,rfl,.inl ⟨by decide,by decide⟩,_,_,rfl,rfl,_,_,rfl,rfl,_,_,rfl,rfl,(by show(0:Int)<2147483647;decide),?_⟩;have m1:=UW (B*1103515245+7919*p+12345) (by decide:(2147483647:Int)≠0);have m2:=UH (B*1103515245+7919*p+12345) (by decide:(0:Int)<2147483647);refine⟨_,rfl,_,5,rfl,rfl,⟨by decide,by decide,by lia⟩,_,_,rfl,rfl,(by show(0:Int)<2147483647;decide),_,_,rfl,rfl,(by show(0:Int)<999983;decide),_,rfl,_,m,rfl,rfl,r,?_⟩;exact post _ _ (p+1) q j v (by lia) (UW _ (by lia)) (UH _ r)
 ·refine⟨_,rfl,_,rfl,_,rfl,a,_,rfl,.inl d,p,_,rfl,rfl,y,?_⟩;obtain⟨B,G⟩:=AX (ns:=e) (UW p (by lia:((e.map V.int).length:Int)≠0)) (by rw[<- g];exact UH p y);refine⟨a,_,_,_,rfl,rfl,d,G,B,1103515245,rfl,rfl,.inr ⟨by decide,by decide⟩,_,rfl,7919,p,rfl,rfl,.inl ⟨by decide,by decide⟩,_,_,rfl,rfl,_,_,rfl,rfl,_,_,rfl,rfl,(by show(0:Int)<2147483647;decide),?_⟩;have m1:=UW (B*1103515245+7919*p+12345) (by decide:(2147483647:Int)≠0);have m2:=UH (B*1103515245+7919*p+12345) (by decide:(0:Int)<2147483647);refine⟨_,rfl,_,5,rfl,rfl,⟨by decide,by decide,by lia⟩,_,_,rfl,rfl,(by show(0:Int)<2147483647;decide),_,_,rfl,rfl,(by show(0:Int)<999983;decide),_,rfl,_,m,rfl,rfl,r,?_⟩;exact post _ _ (p+1) q j v (by lia) (UW _ (by lia)) (UH _ r)
noncomputable def bK(K:W.Frag):Sp:=λf H Q _=>∃(a t l:Addr)(g:List Int)(c:List V)(p q:Int)(rest:List V),f=[.ref a,.ref t,.ref l]/\Scr K H a g/\Xk K H l c/\l≠t/\0<c.length/\c.length<=1000000 /\
 H t=some (.lst (.int p::.int q::rest))/\0<=p/\∀(i:Nat)(x:V)(d:Hp)(e j:Int),YZ t H d->d t=some (.lst (.int e::.int j::rest))->0<=e->c[i]?=some x->Q x d
theorem iA(T:Txt P w K mg)(m:Ok P w base k T.OV (Bv K)):Ok P w base (k+1) T.NA (bK K):=by
 refine T.NA.f.ok YO (λn H Q E h=>?_) (λu A outer s H n Q E v h=>?_)
 ·obtain⟨a,t,l,g,c,p,q,rest,rfl,_⟩:=h;rfl
 have Y:=YO.nd;obtain⟨a,t,l,g,c,p,q,rest,rfl,y,i,e,B,G,I,J,post⟩:=h;refine⟨_,(bc (bJ (fz XD (pv 2) (pc (D:=T.OV) m v (aB (pv 0) (aB (pv 1) (aB (aD b8 rfl T.Rg dI (aB (pv 2) aj)) aj))))))),?_⟩;refine⟨_,rfl,_,rfl,_,rfl,_,rfl,l,c,rfl,.inl i,a,t,g,(c.length:Int),p,q,rest,rfl,y,I,J,by lia,by lia,λr M N O j t1 g1 r0 r1=>?_⟩;have d:r.toNat<c.length:=by lia
 have U:r=((r.toNat:Nat):Int):=by lia
 have z:atI c ((r.toNat:Nat):Int)=some c[r.toNat]:=gW (RL d);rw[<- U]at z;exact⟨l,c,r,c[r.toNat],rfl,rfl,j.Zf e i,z,post r.toNat _ M N O j t1 g1 (RL d)⟩
end
section
theorem E3(h:(!b)=true):b=false:=by cases b with|true=>cases h|false=>rfl
theorem E1(h:(!b)=false):b=true:=by cases b with|true=>rfl|false=>cases h
noncomputable def sgn(c:Nat):Bool:=(!decide (([c]:List Nat)<("a":Str).cps.toList))&&!decide (("z":Str).cps.toList<([c]:List Nat))
noncomputable def gd:D->Bool
 | .str x=>(decide (1<=(x.length:Int))&&decide ((x.length:Int)<=8))&&(x.cps.toList.map sgn).all id
 |_=>false
noncomputable def Eo:D->Prop
 | .str x=>x.length<=sizeLine
 |_=>True
noncomputable def yQ(a:List D)(d:D):Prop:=∃x,a=[x]/\Eo x/\d=.bl (gd x)
theorem uq(h:∀y,x≠.str y):uo x "str"=false:=by
 cases x with
 |str y=>exact absurd rfl (h y)
 |_=>rfl
theorem rZ(h:∀y,x≠.str y):gd x=false:=by
 cases x with
 |str y=>exact absurd rfl (h y)
 |_=>rfl
theorem uC{K:W.Frag}(T:Txt P w K mg)  : Ok P w base (k+1) T.OJ (spD K yQ):=by
 refine T.OJ.f.ok Zn (λI H Q E h=>?_) (λJ A outer s H I Q E O h=>?_)
 ·obtain⟨M,d,u,⟨x,rfl,_⟩,_⟩:=h;exact u.length.symm
 have U:=Zn.nd;obtain⟨M,d,u,⟨x,rfl,z,rfl⟩,post⟩:=h;obtain⟨Y,rfl,t⟩:=Jn u;refine⟨_,(av (lO (PW.pt (wD (pP (lP (aD (zm Fj) rfl T.NC au (aw (pv 0) (aw (pK (v:=.ty "str") rfl T.Tc y6 rfl) aj))) (λ_=>rfl))) (pQ (pP (sF jP jP aQ (aD oU rfl T.Rg dI (aB (pv 0) aj)) (aK (v:=.int 8) rfl T.Pm ⟨_,rfl⟩)))))) (bc (bJ wy)) cJ)
 (bc (bJ (aD (qQ rfl) rfl T.Tb y3 (aB (wz (own:=["sign"]) (fr:=[]) (N':=["sign"]) (Ho (pv 0)) rfl (by show bO ["thing"] (λx=>(aa jl).names.lookup x) _ _ _ _=true;decide +kernel) rfl (λ_ _ _ _ _=>(wA (i:=0) (by show List.Nodup [("sign":Str)];decide +kernel) rfl (Or.inl rfl))) (λ_ _ _ _ _=>sy) (λ_ _ _ _ _=>(sv AH AH gG (pv 0) gG))) aj))))),?_⟩
 by_cases hs:∃y,x=.str y
 ·obtain⟨y,rfl⟩:=hs;have z:y.length<=sizeLine:=z;refine uV (K:=K) (b:=!(decide (1<=(y.length:Int))&&decide ((y.length:Int)<=8))) ?_ (λc G g=>?_) (λc G g=>?_)
  ·exact RT.as (Bl (pY (lV (Bh (lS t)))) λ_=>pY (wO (Bg (p:=λi j=>decide (i<=j)) (r:=λi j=>decide (i<=j)) uQ (DK (lS t) z) λ_=>uQ))) rfl
  ·refine pX (K:=K) (d:=.bl (gd (.str y))) ?_ λv l s q=>post v l (g.trans s) q
   have e:gd (.str y)=false:=by show(_&&_)=false;have m:=E3 c;rw[m,Wu]
   rw[e];exact EF
  ·have m:=E1 c
   have hy:y.cps.size<=8:=by rw[Tz]at m;have:=Ue m.2;have e:y.length=y.cps.size:=rfl;lia
   refine pX (K:=K) (d:=.bl (gd (.str y))) ?_ λv l s q=>post v l (g.trans s) q
   have e:gd (.str y)=(y.cps.toList.map sgn).all id:=by show(_&&_)=_;rw[m,WJ]
   rw[e];refine DJ (bs:=y.cps.toList.map sgn) (Ie (lS (g.dat t)) (by lia) _ (by simp) rfl (λH2 i c d s2 N a=>?_));rw[T4,T4]at a;have B:y.cps.toList[i]?=some c:=by simpa using N
   rw[B]at a;cases a;refine RE.as (yu (p:=λi j=>!decide (j.cps.toList<i.cps.toList)) (q':=λi j=>!decide (j.cps.toList<i.cps.toList)) uR (lS (Dat.strI _)) λ_=>uR) rfl
 ·have n:∀y,x≠.str y:=λy e=>hs ⟨y,e⟩;refine uV (K:=K) (b:=true) ?_ (λc G g=>?_) (λc=>nomatch c)
  ·exact RT.as (Bl (b:=true) (c:=true) (RT.as (pY (lV (Bh (lS t)))) (by rw[uq n];rfl)) λc=>nomatch c) rfl
  ·refine pX (K:=K) (d:=.bl (gd x)) ?_ λv l s q=>post v l (g.trans s) q;rw[rZ n];exact EF
theorem ET:∀p∈TM,∃i,p.2=.flat (.int i):=by intro p a;simp only[TM,T3,Uu,Vu]at a;rcases a with rfl|rfl|rfl<;>exact⟨_,rfl⟩
end
section
variable{P:Program}{w:World}{K:W.Frag}{mg:Str->Option Value}
noncomputable def gS(T:Txt P w K mg)(D:Addr)(j:Nat):Prop:=(D,j)∈[(T.Oa,0),(T.Ob,1),(T.N8,2),(T.NX,6),(T.Os,7),(T.NP,8),(T.N9,10),(T.Ot,11)]
noncomputable abbrev Le(j:Nat):D:=.tup [.str "refused",.int j]
noncomputable def iX(T:Txt P w K mg):Sp:=λc H Q _=>∃(x D:Addr)(j:Nat),c=[.ref x]/\H x=some (gq x D)/\gS T D j/\∀v a,W3 H a->Dat K a (Le j) v->Q v a
theorem Nz{T:Txt P w K mg}{D:Addr}(h:gS T D j):eO K D:=by unfold gS at h;simp only[T3,Uu,Vu,Prod.mk.injEq]at h;rcases h with⟨rfl,rfl⟩|⟨rfl,rfl⟩|⟨rfl,rfl⟩|⟨rfl,rfl⟩|⟨rfl,rfl⟩|⟨rfl,rfl⟩|⟨rfl,rfl⟩|⟨rfl,rfl⟩<;>first|exact T.SR|exact T.SS|exact T.SM|exact T.SB|exact T.SZ|exact T.SA|exact T.SN|exact T.Ta
theorem Nw{D:Addr}(h:gS T D j):([Nat.beq 0 j,Nat.beq 1 j,Nat.beq 2 j,Nat.beq 3 j,Nat.beq 4 j,Nat.beq 5 j,Nat.beq 6 j,Nat.beq 7 j,Nat.beq 8 j,Nat.beq 9 j,Nat.beq 10 j,Nat.beq 11 j,Nat.beq 12 j,Nat.beq 13 j]).count true=1/\([Nat.beq 0 j,Nat.beq 1 j,Nat.beq 2 j,Nat.beq 3 j,Nat.beq 4 j,Nat.beq 5 j,Nat.beq 6 j,Nat.beq 7 j,Nat.beq 8 j,Nat.beq 9 j,Nat.beq 10 j,Nat.beq 11 j,Nat.beq 12 j,Nat.beq 13 j])[j]?=some true/\∀m,m<j->([Nat.beq 0 j,Nat.beq 1 j,Nat.beq 2 j,Nat.beq 3 j,Nat.beq 4 j,Nat.beq 5 j,Nat.beq 6 j,Nat.beq 7 j,Nat.beq 8 j,Nat.beq 9 j,Nat.beq 10 j,Nat.beq 11 j,Nat.beq 12 j,Nat.beq 13 j])[m]?=some false:=by unfold gS at h;simp only[T3,Uu,Vu,Prod.mk.injEq]at h;rcases h with⟨_,rfl⟩|⟨_,rfl⟩|⟨_,rfl⟩|⟨_,rfl⟩|⟨_,rfl⟩|⟨_,rfl⟩|⟨_,rfl⟩|⟨_,rfl⟩<;>decide
theorem mW(T:Txt P w K mg)  : qI P w K mg base (k+1) T.NI.a T.NI.d ["_law_e"] (iX T):=by
 refine T.NI.f.okH YD (λvs H Q E h=>?_) (λcdv A outer s H vs Q E hr h=>?_)
 ·obtain⟨x,D,j,rfl,_⟩:=h;rfl
 have nd:=YD.nd;obtain⟨x,D,j,rfl,y,M,post⟩:=h;refine⟨_,(av (gI (i:=1) nd rfl (Or.inl rfl) (fA (aB (aD aJ rfl T.NC au (aw (pv 0) (aw (aK (v:=.ref T.Oa) rfl T.R1 rfl) aj))) (aB (aD aJ rfl T.NC au (aw (pv 0) (aw (aK (v:=.ref T.Ob) rfl T.R3 rfl) aj))) (aB (aD aJ rfl T.NC au (aw (pv 0) (aw (aK (v:=.ref T.N8) rfl T.RZ rfl) aj))) (aB (aD aJ rfl T.NC au (aw (pv 0) (aw (aK (v:=.ref T.Pe) rfl T.SE rfl) aj))) aj))))))
 (av (kM (og U9 Vw VS fR (pv 1) (aB (fA (aB (aD aJ rfl T.NC au (aw (pv 0) (aw (aK (v:=.ref T.O1) rfl T.Sw rfl) aj))) (aB (aD aJ rfl T.NC au (aw (pv 0) (aw (aK (v:=.ref T.Q4) rfl T.Tg rfl) aj))) (aB (aD aJ rfl T.NC au (aw (pv 0) (aw (aK (v:=.ref T.NX) rfl T.Rr rfl) aj))) (aB (aD aJ rfl T.NC au (aw (pv 0) (aw (aK (v:=.ref T.Os) rfl T.Sq rfl) aj))) aj))))) aj)))
 (av (kM (og U9 Vw VS fR (pv 1) (aB (fA (aB (aD aJ rfl T.NC au (aw (pv 0) (aw (aK (v:=.ref T.NP) rfl T.Qq rfl) aj))) (aB (aD aJ rfl T.NC au (aw (pv 0) (aw (aK (v:=.ref T.O0) rfl T.Sv rfl) aj))) (aB (aD aJ rfl T.NC au (aw (pv 0) (aw (aK (v:=.ref T.N9) rfl T.R0 rfl) aj))) (aB (aD aJ rfl T.NC au (aw (pv 0) (aw (aK (v:=.ref T.Ot) rfl T.Sr rfl) aj))) aj))))) aj)))
 (av (kM (og U9 Vw VS fR (pv 1) (aB (fA (aB (aD aJ rfl T.NC au (aw (pv 0) (aw (aK (v:=.ref T.Ol) rfl T.Q2 rfl) aj))) (aB (aD aJ rfl T.NC au (aw (pv 0) (aw (aK (v:=.ref T.NR) rfl T.RQ rfl) aj))) aj))) aj)))
 (av (lO (PW.pt (wD (cg Kx (og U9 F.slot_list_count F.type_list_count xY (pv 1) (aB wy aj)) aQ (gF _)) (pQ (pP (lP (aD aJ rfl T.NC au (aw (pv 0) (aw (pK (v:=.ty "ValueError") rfl T.Qj mM rfl) aj))) (λ_=>rfl)))))) (bc (bJ (uE (aB gG (aB (Eu BE aQ) aj))))) cJ)
 (bc (bJ (uE (aB gG (aB (og U9 V1 F.type_list_index xZ (pv 1) (aB wy aj)) aj)))))))))),?_⟩
 have e:=Nz M;obtain⟨kv,g⟩:=EV.kitB_of T.kits M;obtain⟨hc,N,O⟩:=Nw M;refine Ij (Bk (K:=K) (a6 (aU (c:=.ref T.Oa) y e (g 0 _ rfl) (.inl ⟨_,rfl⟩)) (a6 (aU (c:=.ref T.Ob) y e (g 1 _ rfl) (.inl ⟨_,rfl⟩)) (a6 (aU (c:=.ref T.N8) y e (g 2 _ rfl) (.inl ⟨_,rfl⟩)) (a6 (aU (c:=.ref T.Pe) y e (g 3 _ rfl) (.inl ⟨_,rfl⟩)) lQ)))) λp n U I r J=>?_);have l:upd U p (.lst n) x=some (gq x D):=(I.trans (bx r _)) _ _ y;have t:p≠x:=λz=>by rw[z]at r;rw[I _ _ y]at r;cases r
 have Y:H p=none:=I.free r;have J:=(bx r (.lst n)).dats J;have h0:upd U p (.lst n) p=some (.lst n):=ai;have l0:n.length=4:=J.length.symm;have bb0:YZ p H (upd U p (.lst n)):=(I.trans (bx r _)).but;refine pW (K:=K) (a6 (aU (c:=.ref T.O1) l e (g 4 _ rfl) (.inl ⟨_,rfl⟩)) (a6 (aU (c:=.ref T.Q4) l e (g 5 _ rfl) (.inl ⟨_,rfl⟩)) (a6 (aU (c:=.ref T.NX) l e (g 6 _ rfl) (.inl ⟨_,rfl⟩)) (a6 (aU (c:=.ref T.Os) l e (g 7 _ rfl) (.inl ⟨_,rfl⟩)) lQ)))) h0 (by lia) λx1 G1 b1 h1 f1=>?_;have m:=b1 _ _ (Ut t) l;have e1:=WW.append (WW.mono (b1.grow h0 h1) _ J) f1;have l1:(n++x1).length=8:=e1.length.symm;have bb1:=bb0.trans b1;refine pW (K:=K) (a6 (aU (c:=.ref T.NP) m e (g 8 _ rfl) (.inl ⟨_,rfl⟩)) (a6 (aU (c:=.ref T.O0) m e (g 9 _ rfl) (.inl ⟨_,rfl⟩)) (a6 (aU (c:=.ref T.N9) m e (g 10 _ rfl) (.inl ⟨_,rfl⟩)) (a6 (aU (c:=.ref T.Ot) m e (g 11 _ rfl) (.inl ⟨_,rfl⟩)) lQ)))) h1 (by lia) λx2 G2 b2 h2 f2=>?_;have u:=b2 _ _ (Ut t) m;have e2:=WW.append (WW.mono (b2.grow h1 h2) _ e1) f2;have l2:(n++x1++x2).length=12:=e2.length.symm;have bb2:=bb1.trans b2;refine pW (K:=K) (a6 (aU (c:=.ref T.Ol) u e (g 12 _ rfl) (.inl ⟨_,rfl⟩)) (a6 (aU (c:=.ref T.NR) u e (g 13 _ rfl) (.inl ⟨_,rfl⟩)) lQ)) h2 (by lia) λx3 G3 b3 h3 f3=>?_;have hx4:=b3 _ _ (Ut t) u;have e3:=WW.append (WW.mono (b3.grow h2 h3) _ e2) f3;have l3:(n++x1++x2++x3).length=14:=e3.length.symm;have bb3:=bb2.trans b3;have sm:W3 H G3:=λb o B=>bb3 b o (aA B Y) B;have ev:=zu (bs:=[Nat.beq 0 j,Nat.beq 1 j,Nat.beq 2 j,Nat.beq 3 j,Nat.beq 4 j,Nat.beq 5 j,Nat.beq 6 j,Nat.beq 7 j,Nat.beq 8 j,Nat.beq 9 j,Nat.beq 10 j,Nat.beq 11 j,Nat.beq 12 j,Nat.beq 13 j]) e3;have G:G3 p=some (.lst (blV [Nat.beq 0 j,Nat.beq 1 j,Nat.beq 2 j,Nat.beq 3 j,Nat.beq 4 j,Nat.beq 5 j,Nat.beq 6 j,Nat.beq 7 j,Nat.beq 8 j,Nat.beq 9 j,Nat.beq 10 j,Nat.beq 11 j,Nat.beq 12 j,Nat.beq 13 j])):=by rw[<- show _=blV [Nat.beq 0 j,Nat.beq 1 j,Nat.beq 2 j,Nat.beq 3 j,Nat.beq 4 j,Nat.beq 5 j,Nat.beq 6 j,Nat.beq 7 j,Nat.beq 8 j,Nat.beq 9 j,Nat.beq 10 j,Nat.beq 11 j,Nat.beq 12 j,Nat.beq 13 j] from ev];exact h3
 refine uV (K:=K) (b:=false) ?_ (λc=>nomatch c) (λ_ H5 s5=>?_)
 ·exact RT.as (Bl (wO (Ig (yv G) uQ)) λ_=>pY (lV (aU (c:=.ty "ValueError") hx4 e kv (.inr ⟨_,rfl⟩)))) (by rw[hc];rfl)
 ·exact pX (K:=K) (d:=Le j) (Ih (a6 uR (a6 (yw (s5 _ _ G) (by show 14<=1000;decide) N O) lQ))) λv H' s q=>post v H' (sm.trans (s5.trans s)) q
end
end My
namespace EV
open PySem PySem.Spec PyProof.Rows L2
section
theorem qv{X:Cx}(i:Nat)(c:X.N[i]?=some x:=by rfl)(d:Vis X.env.scope x:=by first|exact Or.inl rfl|exact Or.inr (Or.inl rfl)|exact Or.inr (Or.inr rfl))(e:(x==("__debug__":Str))=false:=by decide)
  (a:(x==("__classdict__":Str))=false:=by decide):PE X (.Name x f) (tE g E (cV i)):=q_v c d e a
theorem qs{g:Gx}(h:g.ST[n]?=some x:=by rfl):PE X (.Constant (.str x) j a) (tE g E (cC (.str n))):=Ex h
theorem KO(c:PE X a (tE g E ca)):PE X (.Compare a [.Is] [.Constant .none j p] d) (tE g E (cU qF ca)):=XU (AM (AK c)) λe H Q h=>tUn.of AF h
theorem HJ(c:PE X a (tE g E ca)):PE X (.Compare a [.IsNot] [.Constant .none j p] d) (tE g E (cU mG ca)):=XU (AM (wx c)) λe H Q h=>tUn.of wt h
theorem HV(c:PE X a (tE g E ca)):PT X (.Compare a [.Is] [.Constant .none j p] d) (tB g E (Xc (cU qF ca))):=imT (uJ (AK c)) λe H Q h=>Ys.of (λ_ _ _ z=>tUn.of AF z) h
theorem DF(c:PE X a (tE g E ca)):PT X (.Compare a [.IsNot] [.Constant .none j p] d) (tB g E (Xc (cU mG ca))):=imT (uJ (wx c)) λe H Q h=>Ys.of (λ_ _ _ z=>tUn.of wt z) h
theorem MH(d:PE X a (tE g E ca))(e:PE X b (tE g E f))(i:PE X c (tE g E j))(l:lastMarks [CmpOp.LtE,CmpOp.LtE] [b,c]=false:=by with_unfolding_all rfl):PE X (.Compare a [.LtE,.LtE] [b,c] m) (tE g E (cCh ca f j)):=XU (sv jP jP d e i l) λn H Q h=>Yt.of h
theorem KZ(d:PE X a (tE g E ca))(e:PE X b (tE g E f))(i:PE X c (tE g E j))(l:lastMarks [CmpOp.LtE,CmpOp.LtE] [b,c]=false:=by with_unfolding_all rfl):PT X (.Compare a [.LtE,.LtE] [b,c] m) (tB g E (Xc (cCh ca f j))):=imT (sF jP jP d e i l) λn H Q h=>Ys.of (λ_ _ _ z=>Yt.of z) h
end
mutual
noncomputable def knA(g:Gx):A->Bool
 | .WX=>true
 | .bl _=>true
 | .int _=>true
 | .str n=>decide (n<g.ST.length)
 | .tup a=>knAs g a
 |_=>false
noncomputable def knAs(g:Gx):List A->Bool
 |[]=>true
 |x::a=>knA g x&&knAs g a
end
section
mutual
theorem R.ofDat:∀(a:A){v:V},knA g a=true->Dat g.K H (toD g a) v->R g H m a v
 | .WX,v,_,h=>by unfold toD at h;rw[h.XF];exact R.WX
 | .bl b,v,_,h=>by unfold toD at h;rw[h.X7];exact R.bl b
 | .int i,v,_,h=>by unfold toD at h;rw[h.W4];exact R.int i
 | .str n,v,k,h=>by unfold knA at k;have c:=Ue k;unfold toD at h;rw[h.Xi,UJ,RL c];exact R.str (RL c)
 | .tup d,v,k,h=>by unfold knA at k;unfold toD at h;obtain⟨a,e,rfl,q,r⟩:=h.Xf;exact R.tup q (Rs.ofDats d k r)
 | .ref i,v,k,h=>by unfold knA at k;cases k
 | .cl i,v,k,h=>by unfold knA at k;cases k
 | .tab i,v,k,h=>by unfold knA at k;cases k
 | .YL i,v,k,h=>by unfold knA at k;cases k
 | .YU i,v,k,h=>by unfold knA at k;cases k
 | .any,v,k,h=>by unfold knA at k;cases k
 | .X5,v,k,h=>by unfold knA at k;cases k
theorem Rs.ofDats:∀(a:List A){c:List V},knAs g a=true->WW g.K H (XJ g a) c->Rs g H m a c
 |[],c,_,h=>by unfold XJ at h;rw[h.XA];exact .nil
 |x::a,c,k,h=>by unfold knAs at k;rw[Tz]at k;unfold XJ at h;obtain⟨v,r,rfl,d,e⟩:=h.W0;exact .cons (R.ofDat x k.1 d) (Rs.ofDats a k.2 e)
end
theorem kU{g:Gx}(h:b4 g.K (.tup d) (.ref a)=true)(k:knAs g c=true)(e:XJ g c=d)(H:Hp)(m:List Addr):R g H m (.tup c) (.ref a):=by refine R.ofDat (.tup c) (by unfold knA;exact k) ?_;unfold toD;rw[e];exact Mo h H
theorem Ea{g:Gx}(h:pD g.K d a=true)(k:knAs g c=true)(e:XJ g c=d)(H:Hp)(m:List Addr):R g H m (.cl c) (.ref a):=by obtain⟨f,q,r⟩:=pE h H;unfold R;exact⟨a,f,rfl,q,Rs.ofDats c k (e▸r)⟩
end
noncomputable def mE(ST:List Str)(T:List (Str×KTD.Dat))(a:List (Nat×A)):Bool:=(T.all λp=>KTD.plain p.2)&&(List.range ST.length).all λn=>match ST[n]? with
 |none=>true
 |some x=>(KTD.inKeys x T==(look n a).isSome)&&match look n a with
  |none=>true
  |some (.int i)=>(match KTD.datumAt x T with|some (.flat (.int j))=>decide (i=j)|_=>false)
  |some (.str k)=>(match KTD.datumAt x T,ST[k]? with|some (.flat (.str z)),some y=>decide (y=z)|_,_=>false)
  |some _=>false
noncomputable def jK(a:List (Nat×A))(n:Nat):Bool:=a.all λp=>decide (p.1<n)
theorem we:∀{ks:List (Nat×A)}{n i:Nat}{a:A},jK ks n=true->look i ks=some a->i<n
 |[],_,_,_,_,h=>nomatch h
 | (k,b)::r,n,i,a,c,h=>by
  unfold jK at c;rw[Ud,Tz]at c;rw[aq]at h;by_cases z:k=i
  ·rw[<- z];exact Ue c.1
  ·rw[TQ z]at h;exact we (ks:=r) c.2 h
theorem tj{g:Gx}(h:mE g.ST T d=true)(hk:jK d g.ST.length=true):fT g T d:=by
 unfold mE at h;rw[Tz]at h;obtain⟨f,l⟩:=h
 have c:∀(n:Nat)(x:Str),g.ST[n]?=some x->((KTD.inKeys x T==(look n d).isSome)&&match look n d with
  |none=>true
  |some (.int i)=>(match KTD.datumAt x T with|some (.flat (.int j))=>decide (i=j)|_=>false)
  |some (.str k)=>(match KTD.datumAt x T,g.ST[k]? with|some (.flat (.str z)),some y=>decide (y=z)|_,_=>false)
  |some _=>false)=true:=λn x e=>by
  have:=U3.mp l n (Wt.mpr (M1.mp e).1);rw[e]at this;exact this
 refine⟨λn x e=>?_,f,λn x i e q=>?_,λn x k e q=>?_,λn x q=>?_⟩
 ·have:=c n x e;rw[Tz]at this;exact eq_of_beq this.1
 ·have:=c n x e;rw[Tz,q]at this;have a:=this.2;dsimp only at a;split at a
  ·rename_i j w;rw[w,Ue a]
  ·cases a
 ·have:=c n x e;rw[Tz,q]at this;have a:=this.2;dsimp only at a;split at a
  ·rename_i z y m p;exact⟨y,p,by rw[m,Ue a]⟩
  ·cases a
 ·have r:=we hk q;have:=c n _ (RL r);rw[Tz,q]at this;have a:=this.2
  cases x with
  |int i=>exact .inl ⟨i,rfl⟩
  |str k=>exact .inr ⟨k,rfl⟩
  |_=>cases a
theorem WZ.same(s:WZ g m S H)(e:W3 H d):WZ g m S d/\Ext m S H m S d:=by
 have x:Ext m S H m S d:=⟨⟨[],by simp⟩,λa z=>e.free z,λa o _ h=>e a o h,λ_ c _ h o=>⟨c,h,o⟩⟩
 refine⟨⟨s.len,s.nd,λa f z=>s.up a f (e.free z),λi c h=>?_⟩,x⟩;obtain⟨a,q,ok⟩:=s.cell i c h;exact⟨a,q,ok.mono x s λo q=>e a o q⟩
theorem ah{K:W.Frag}:WV P w K mg base c k f d e (Xr g λ_ _=>.bad) :=
 ⟨λa H Q E ⟨m,S,as,s,r,h⟩=>h.elim,λA outer s H args i a Q E j l n p ⟨m,S,as,sm,r,h⟩=>h.elim⟩
section
variable{g:Gx}{E:L2.St->XK}{tl:TS}
noncomputable def tSq(g:Gx)(E:L2.St->XK)(c:Cs)(tl:TS):TS:=λD d H=>∃m a S,WZ g m S H/\Re g H m a d/\XW g m S H (c a S) {D with nx:=tl D} E
theorem A8{X:Cx}{st:Stmt}(h:PS X st tl):XH X [st] (tSq g E Xh tl):=Cb (bc h) λD a H ⟨m,d,S,s,c,h⟩=>h m H a Ext.refl s c
theorem KW{X:Cx}{st:Stmt}(h:PS X st (tS g E i))(l:XH X e (tSq g E n tl)):XH X (st::e) (tSq g E (sq i n) tl) :=
 Cb (av h l) λD w H ⟨m,j,S,s,p,h⟩=>⟨m,j,S,s,p,by
  unfold sq at h
  cases q:i j S with
  |ok f S1 =>
   rw[q]at h
   cases f with
   |nx d=>exactλm1 y r t u v=>⟨m1,d,S1,u,v,XW.ext t h⟩
   |bk d=>exact h
   |ct d=>exact h
   |rt a=>exact h
  |exc c d S1=>rw[q]at h;exact h
  |bad=>rw[q]at h;exact h⟩
end
noncomputable def om(b:Cs)(i r:Nat)(d:List Nat):Cs:=λa S=>match b a S with
 | .exc c a S=>match bF c d with
  |true=>match a[i]? with
   |some _=>.ok (.rt (.tup [.str r,.int (.ofNat (c - 1))])) S
   |none=>.bad
  |false=>.bad
 |x=>x
noncomputable def spP(g:Gx)(F:List A->WU->Option (List A×WU)):Sp:=λf H Q _=>∃m S as e c,WZ g m S H/\Rs g H m as f/\F as S=some (e,c)/\∀(k:Nat) x,e[k]?=some x->∀d a v,Ext m S H d c a->WZ g d c a->R g a d x v->Q v a
noncomputable def Zt(c:Cs)(a b:Nat)(as:List A)(S:WU):Option (List A×WU):=match as with
 |[.X5,.ref t]=>fl (as.map some++List.replicate (a - 2) none) λd=>match c d S with
  | .ok (.nx d) S=>match (d[0]?:Option (Option A)),(d[1]?:Option (Option A)),(d[b]?:Option (Option A))with
   |some (some .X5),some (some (.ref f)),some (some (.ref j))=>match look f S.cs,Z3 S j with
    |some .Zq,some (x::e)=>match few 900 (x::e)with
     |true=>some (x::e,S)
     |false=>none
    |_,_=>none
   |_,_,_=>none
  |_=>none
 |_=>none
theorem yJ(s:WZ g m S H)(j:Re g H m f l)(e:c f S=.ok x i)(q:∀d a v,Ext m S H d i a->WZ g d i a->R g a d x v->Q v a):tE g E c l H Q :=
 ⟨m,f,S,s,j,by rw[e];exactλd a y n v p=>q d a v y n p⟩
theorem Iy{D:Ends}(s:WZ g m S H)(n:Re g H m j p)(e:c j S=.ok (.nx f) l)(q:∀i d a,Ext m S H i l d->WZ g i l d->Re g d i f a->D.nx a d):tS g E c D p H :=
 ⟨m,j,S,s,n,by rw[e];exact q⟩
theorem Re.any(c:Re g H m d l)(i:Nat)(h:d[i]?=some (some a)):Re g H m (d.set i (some .any)) l:=by
 refine⟨by simp[c.len],λj b q=>?_⟩;by_cases f:i=j
 ·subst f;obtain⟨v,e,_⟩:=c.get i a h;rw[UY (M1.mp h).1]at q;cases q;exact⟨v,e,R.any⟩
 ·rw[Vo f]at q;exact c.get j b q
end EV
namespace L2
open PySem PySem.Spec PySem.Calls PyProof.Rows PySem.W PySem.Builtin PySem.Builtin.ObjectAttr
section
end
end L2
namespace L2
open PySem PySem.Spec PyProof.Rows
section
end
end L2
namespace EV
open PySem PySem.Spec PyProof.Rows L2
section
end
section
variable{S S':WU}
theorem vX{α:Type}{l k:List α}{i:Nat}{a b:α}(h:l[i]?=some a)(q:(l++k)[i]?=some b):l[i]?=some b:=by rw[Uo (M1.mp h).1]at q;exact q
mutual
theorem R.cut:∀(a:A){u v:V},R g H m a u->R g w (m++k) a v->R g w m a v
 | .WX,_,v,_,h=>by unfold R at h ⊢;exact h
 | .bl b,_,v,_,h=>by unfold R at h ⊢;exact h
 | .int i,_,v,_,h=>by unfold R at h ⊢;exact h
 | .str n,_,v,_,h=>by unfold R at h ⊢;exact h
 | .tab t,_,v,_,h=>by unfold R at h ⊢;exact h
 | .any,_,v,_,h=>R.any
 | .X5,_,v,_,h=>by unfold R at h ⊢;exact h
 | .tup d,_,v,c,h=>by obtain⟨l,f,_,_,j⟩:=c.Xf;obtain⟨a,p,rfl,q,r⟩:=h.Xf;exact R.tup q (Rs.cut d j r)
 | .cl d,_,v,c,h=>by obtain⟨l,f,_,_,j⟩:=c.clE;obtain⟨a,p,e,q,r⟩:=h.clE;unfold R;exact⟨a,p,e,q,Rs.cut d j r⟩
 | .ref i,_,v,c,h=>by obtain⟨l,y,_⟩:=c.Yu;obtain⟨a,e,rfl⟩:=h.Yu;exact R.ref (vX y e)
 | .YL n,_,v,_,h=>by unfold R at h ⊢;exact h
 | .YU n,_,v,_,h=>by unfold R at h ⊢;exact h
theorem Rs.cut:∀(c:List A){e d:List V},Rs g H m c e->Rs g f (m++k) c d->Rs g f m c d
 |[],_,d,_,h=>by unfold Rs at h ⊢;exact h
 |a::c,_,d,i,h=>by obtain⟨l,n,rfl,q0,j⟩:=i.W0;obtain⟨v,r,rfl,q,z⟩:=h.W0;exact .cons (R.cut a q0 q) (Rs.cut c j z)
end
theorem Rk.cut:∀{c:List (Nat×A)}{d a:List (Key×V)},Rk g H m c d->Rk g e (m++k) c a->Rk g e m c a
 |_,_,_,.nil,.nil=>.nil
 |_,_,_,.cons f i,.cons h t=>.cons ⟨h.1,R.cut _ f.2 h.2⟩ (Rk.cut i t)
theorem Rf.cut:∀{c:List (Nat×A)}{d a:List (Str×V)},Rf g H m c d->Rf g e (m++k) c a->Rf g e m c a
 |_,_,_,.nil,.nil=>.nil
 |_,_,_,.cons f i,.cons h t=>.cons ⟨h.1,R.cut _ f.2 h.2⟩ (Rf.cut i t)
theorem COk.cut(i:COk g H m c a)(h:COk g l (m++k) c b):COk g l m c b:=by
 cases c with
 |lst j=>obtain⟨_,_,d⟩:=i;obtain⟨f,e,r⟩:=h;exact⟨f,e,d.cut j r⟩
 |ZF j=>obtain⟨_,_,d⟩:=i;obtain⟨f,e,r⟩:=h;exact⟨f,e,d.cut j r⟩
 |dct p=>obtain⟨_,_,d⟩:=i;obtain⟨f,e,r⟩:=h;exact⟨f,e,Rk.cut d r⟩
 |Zq=>exact h
 |obj k fs=>obtain⟨_,_,_,d⟩:=i;obtain⟨n,f,e,r⟩:=h;exact⟨n,f,e,Rf.cut d r⟩
theorem WZ.cut(s:WZ g m S H)(f:WZ g (m++k) S' j)(e:old S.nx S'.cs=S.cs):WZ g m S j :=
 ⟨s.len,s.nd,λa l=>f.up a (VD _ l),λi c q=>by
  obtain⟨a,n,ok⟩:=s.cell i c q;rw[<- e]at q;obtain⟨b,p,d⟩:=f.cell i c (iB q).1;exact⟨b,vX n p,ok.cut d⟩⟩
theorem Re.cut(f:Re g H m d l)(r:Re g j (m++k) d c):Re g j m d c :=
 ⟨r.len,λi a h=>let⟨_,_,q0⟩:=f.get i a h;let⟨v,e,q⟩:=r.get i a h;⟨v,e,R.cut a q0 q⟩⟩
noncomputable def fr(S:WU):XR->XR
 | .ok f S'=>.ok f ⟨S.nx,old S.nx S'.cs⟩
 |r=>r
theorem Js(h:fr S r=.ok (.nx a) S):∃S',r=.ok (.nx a) S'/\old S.nx S'.cs=S.cs:=by
 cases r with
 |ok f S' =>unfold fr at h;injection h with d e;subst d;exact⟨S',rfl,by have:=UI WU.cs e;exact this⟩
 |exc c a S=>cases h
 |bad=>cases h
theorem vH{D:Ends}(s:WZ g m S H)(j:Re g H m f l)(e:fr S (c f S)=.ok (.nx f) S)(q:∀d a,WZ g m S d->Re g d m f a->D.nx a d):tS g E c D l H:=by obtain⟨S',h,o⟩:=Js e;refine Iy s j h λp d a x n i=>?_;obtain⟨k,rfl,_⟩:=x.pre;exact q d a (s.cut n o) (j.cut i)
theorem M4{D:Ends}(s:WZ g m S H)(j:Re g H m i l)(e:∃S',c i S=.ok (.rt a) S')(q:∀f d v,R g d f a v->D.rt v d):tS g E c D l H:=by obtain⟨S',h⟩:=e;exact⟨m,i,S,s,j,by rw[h];exactλf d v _ _ r=>q f d v r⟩
theorem MB{H:Hp}{Q:VK}(s:WZ g m S H)(r:Rs g H m a f)(i:few 900 a=true)
  (q:∀d c v,Ext m S H d ⟨S.nx+1,(S.nx,.lst a)::S.cs⟩ c->WZ g d ⟨S.nx+1,(S.nx,.lst a)::S.cs⟩ c->R g c d (.ref S.nx) v->Q v c):f.length<=sizeLine/\∀p,H p=none->Q (.ref p) (upd H p (.lst f)):=by
 have h:Out g m S H (new a S) (An g Q) (λ_ _ _=>False):=by
  have e:new a S=.ok (.ref S.nx) ⟨S.nx+1,(S.nx,.lst a)::S.cs⟩:=by unfold EV.new;rw[i];dsimp only;rw[aY,nU]
  rw[e];exactλd c x j v l=>q d c v x j l
 obtain⟨t,n⟩:=Out.new h s r;exact⟨dO (by omega),n⟩
theorem El(s:WZ g m S H)(r:Rs g H m xs c)(e:few 900 xs=true) :
  c.length<=sizeLine/\∀p,H p=none->∃a,Ext m S H a ⟨S.nx+1,(S.nx,.lst xs)::S.cs⟩ (upd H p (.lst c))/\WZ g a ⟨S.nx+1,(S.nx,.lst xs)::S.cs⟩ (upd H p (.lst c))/\R g (upd H p (.lst c)) a (.ref S.nx) (.ref p) :=
 MB (Q:=λv d=>∃a,Ext m S H a ⟨S.nx+1,(S.nx,.lst xs)::S.cs⟩ d/\WZ g a ⟨S.nx+1,(S.nx,.lst xs)::S.cs⟩ d/\R g d a (.ref S.nx) v) s r e λa _ _ x f q=>⟨a,x,f,q⟩
noncomputable def sub:List (Nat×C)->List Nat->List (Nat×C)
 |l,[]=>[]
 |l,i::r=>match look i l with
  |some c=>(i,c)::sub l r
  |none=>sub l r
theorem mD:∀{l:List (Nat×C)}{a:List Nat}{i:Nat}{c:C},look i (sub l a)=some c->look i l=some c
 |l,[],_,_,h=>nomatch h
 |l,j::a,i,c,h=>by
  unfold sub at h
  cases q:look j l with
  |none=>rw[q]at h;exact mD h
  |some d =>
   rw[q]at h;dsimp only at h;rw[aq]at h;by_cases z:j=i
   ·rw[TY z]at h;cases h;rw[<- z];exact q
   ·rw[TQ z]at h;exact mD h
theorem WZ.keep(a:List Nat)(s:WZ g m S H)(e:(⟨S.nx,sub S.cs a⟩:WU)=c):WZ g m c H:=e▸(s.drop λ_ _ h=>mD h).1
end
section
theorem ph{g:Gx}(h:g.ST[n]?=some x)(a:g.ST[k]?=some y):(Nat.beq k n=true↔y=x):=by rw[<- qz a h];exact U0
theorem pA{α:Type}{a:α}{r:List (Nat×α)}:look n ((k,a)::r)=match Nat.beq k n with|true=>some a|false=>look n r:=rfl
theorem Rf.look{g:Gx}(e:g.ST[n]?=some x):∀{fs:List (Nat×A)}{c:List (Str×V)}{a:A},Rf g H m fs c->EV.look n fs=some a->∃v,c.lookup x=some v/\R g H m a v
 |_,_,a,.nil,h=>nomatch h
 |_,_,a,.cons (a:=p) (b:=q) f t,h=>by
  obtain⟨k,b⟩:=p;obtain⟨y,v⟩:=q;obtain⟨i,r⟩:=f;have d:=ph e i;rw[pA]at h;rw[Uh]
  cases z:Nat.beq k n with
  |true =>rw[z]at h;cases h;have:=d.mp z;subst this;exact⟨v,by rw[V6],r⟩
  |false =>
   rw[z]at h;have ne:(x==y)=false:=UM.mpr λw=>by rw[d.mpr w.symm]at z;cases z
   rw[ne];exact Rf.look e t h
theorem Rf.no{g:Gx}(e:g.ST[n]?=some x):∀{fs:List (Nat×A)}{c:List (Str×V)},Rf g H m fs c->EV.look n fs=none->c.lookup x=none
 |_,_,.nil,h=>rfl
 |_,_,.cons (a:=p) (b:=q) d t,h=>by
  obtain⟨k,b⟩:=p;obtain⟨y,v⟩:=q;obtain⟨f,r⟩:=d;have i:=ph e f;rw[pA]at h;rw[Uh]
  cases z:Nat.beq k n with
  |true=>rw[z]at h;cases h
  |false =>
   rw[z]at h;have ne:(x==y)=false:=UM.mpr λw=>by rw[i.mpr w.symm]at z;cases z
   rw[ne];exact Rf.no e t h
theorem Rf.put{g:Gx}(e:g.ST[n]?=some x)(c:R g H m a u):∀{fs:List (Nat×A)}{f:List (Str×V)},Rf g H m fs f->Rf g H m (zF n a fs) (dQ x u f)
 |_,_,.nil=>.cons ⟨e,c⟩ .nil
 |_,_,.cons (a:=p) (b:=q) j t=>by
  obtain⟨k,b⟩:=p;obtain⟨y,v⟩:=q;obtain⟨d,r⟩:=j;have i:=ph e d;unfold zF dQ
  cases z:Nat.beq k n with
  |true=>rw[TY (i.mp z)];exact .cons ⟨d,c⟩ t
  |false=>rw[TQ λw=>by rw[i.mpr w]at z;cases z];exact .cons ⟨d,r⟩ (Rf.put e c t)
theorem Rf.length:∀{fs:List (Nat×A)}{a:List (Str×V)},Rf g H m fs a->a.length=fs.length
 |_,_,.nil=>rfl
 |_,_,.cons _ t=>by simp[Rf.length t]
theorem Rk.length:∀{fs:List (Nat×A)}{a:List (Key×V)},Rk g H m fs a->a.length=fs.length
 |_,_,.nil=>rfl
 |_,_,.cons _ t=>by simp[Rk.length t]
theorem Rk.no{g:Gx}(e:g.ST[n]?=some x):∀{f:List (Nat×A)}{c:List (Key×V)},Rk g H m f c->EV.look n f=none->fN c (.inr x)=none
 |_,_,.nil,h=>rfl
 |_,_,.cons (a:=p) (b:=q) j t,h=>by
  obtain⟨k,b⟩:=p;obtain⟨l,v⟩:=q;obtain⟨⟨y,u,d⟩,r⟩:=j;have d:l=.inr y:=d;subst d;have B:=ph e u;rw[pA]at h
  cases z:Nat.beq k n with
  |true=>rw[z]at h;cases h
  |false =>
   rw[z]at h;have i:=Rk.no e t h;unfold fN at i ⊢;rw[UU];have:decide ((Sum.inr y:Key)=Sum.inr x)=false:=Um λw=>by rw[B.mpr (Sum.inr.inj w)]at z;cases z
   simp only[this];exact i
theorem Rk.append:∀{a c:List (Nat×A)}{d e:List (Key×V)},Rk g H m a d->Rk g H m c e->Rk g H m (a++c) (d++e)
 |_,_,_,_,.nil,r=>r
 |_,_,_,_,.cons h t,r=>.cons h (Rk.append t r)
theorem Zy.of(s:WZ g m S H)(r:R g H m x v)(h:Zy S k x=some (i,fs)):∃a f d,x=.ref i/\v=.ref a/\m[i]?=some a/\EV.look i S.cs=some (.obj k fs)/\H a=some (.ins (g.tb k) f d)/\Rf g H m fs d:=by
 cases x with
 |ref j =>
  unfold Zy at h;dsimp only at h
  cases q:EV.look j S.cs with
  |none=>rw[q]at h;cases h
  |some c =>
   rw[q]at h
   cases c with
   |obj n p =>
    dsimp only at h
    cases z:Nat.beq n k with
    |false=>rw[z]at h;cases h
    |true =>rw[z]at h;cases h;have:=Ug z;subst this;obtain⟨a,e,f,d,t,u⟩:=s.cell _ _ q;obtain⟨w,l,rfl⟩:=r.Yu;rw[e]at l;cases l;exact⟨a,f,d,rfl,rfl,e,q,t,u⟩
   |_=>cases h
 |_=>cases h
theorem rdD.of(s:WZ g m S H)(r:R g H m x v)(h:rdD S x=some (i,f)):∃a d,x=.ref i/\v=.ref a/\m[i]?=some a/\EV.look i S.cs=some (.dct f)/\H a=some (.dK d)/\Rk g H m f d:=by
 cases x with
 |ref j =>
  unfold rdD at h;dsimp only at h
  cases q:EV.look j S.cs with
  |none=>rw[q]at h;cases h
  |some c =>
   rw[q]at h
   cases c with
   |dct n =>cases h;obtain⟨a,e,p,t,u⟩:=s.cell _ _ q;obtain⟨w,l,rfl⟩:=r.Yu;rw[e]at l;cases l;exact⟨a,p,rfl,rfl,e,q,t,u⟩
   |_=>cases h
 |_=>cases h
end
section
variable{X:Cx}{g:Gx}{E:L2.St->XK}{c:Expr}
theorem HN{st:Stmt}:PS X st (tS g E gJ):=λ_ _ _ _ _ _ ⟨_,_,_,_,_,h⟩=>h.elim
theorem KD(d:X.K=g.K)(c:ZC g.K (g.tb k))(j:Xm g.K (g.tb k) f)(l:g.ST[n]?=some f)(r:PE X o (tE g E co))(t:attributeBase o f X.env (eval o X.env)=eval o X.env:=by rfl):PE X (.Attribute o f w) (tE g E (b7 k n co)) :=
 XU (Hi r t) λU H Q ⟨m,B,S,s,G,h⟩=>⟨m,B,S,s,G,h.bind.mono λx m1 S1 Y x1 e a v I=>by
  cases q:Zy S1 k x with
  |none=>rw[q]at a;exact a.elim
  |some p =>
   rw[q]at a;obtain⟨i,fs⟩:=p;dsimp only at a;obtain⟨p,J,M,_,rfl,e1,e2,e3,N⟩:=Zy.of e I q
   cases z:look n fs with
   |none=>rw[z]at a;exact a.elim
   |some y =>rw[z]at a;obtain⟨u,O,T⟩:=Rf.look l N z;exact⟨p,_,J,M,u,rfl,e3,d▸c,d▸j,O,a.ret e _ T⟩⟩
theorem HP{j:Pos}(J:X.K=g.K)(c:ZC g.K (g.tb k))(U:Xm g.K (g.tb k) f)(Y:g.ST[n]?=some f)(ha:PE X o (tE g E co))(hv:PE X e (tE g E ce))(hs:swapsWith e (some (.Attribute o f l)) j.line X.env=pure false:=by rfl):PS X (.Assign [.Attribute o f l] e j) (tS g E (gK k n co ce)) :=
 Zz (Hv ha hv hs) λD σ H ⟨m,M,S,s,r,h⟩=>⟨m,M,S,s,r,(h.x s r).mono λy m1 S1 H1 z u h1 v rv=>⟨m1,M,S1,u,r.mono z s,(h1.x u (r.mono z s)).mono λx m2 S2 H2 N t d w rw=>by
  cases q:Zy S2 k x with
  |none=>rw[q]at d;exact d.elim
  |some p =>
   rw[q]at d;obtain⟨i,fs⟩:=p;dsimp only at d
   cases B:few 90 fs with
   |false=>rw[B]at d;exact d.elim
   |true =>
    rw[B]at d;dsimp only at d;rw[aY,j9]at d;obtain⟨p,G,O,_,rfl,e1,e2,e3,Q⟩:=Zy.of t rw q;have I:=R.mono N u _ rv;obtain⟨s3,T⟩:=t.write (a:=p) (i:=i) (c:=.obj k (zF n y fs)) (o:=.ins (g.tb k) G (dQ f v O)) e1 e2 rfl λx=>⟨G,_,ai,Rf.put Y (R.mono x t y I) (Rf.mono x t Q)⟩
    have h9:=bH B;refine⟨p,_,G,O,rfl,e3,J▸c,J▸U,by rw[Q.length];omega,?_⟩;exact d m2 _ σ T s3 (((r.mono z s).mono N u).mono T t)⟩⟩
theorem Ba(I:X.K=g.K)(c:ZC g.K (g.tb k))(T:Meth g.K (g.tb k) t f)(U:g.ST[n]?=some t)(ok:WV X.prog X.w X.K X.mg X.base Y j f fd ps (Xr g F))(hr:W2 j X.A)(hb:Binds X.K fd ps [])(hx:aE Y X E)
  (ho:PE X o (tE g E co)) (ha:PA X (a::r) (Z6 g E cs)) (u:starEach (a::r) X.env=(false,eval a X.env)::starEach r X.env:=by rfl) (B:(backTo d (starEach r X.env)).any (·.1)=false:=by rfl)
  (ht:eval (.Call (.Attribute o t e) (a::r) [] d) X.env=(do
   let J <- eval o X.env
   standAt e.atName
   let(f,first) <- holding [J] (getMethod J t pl)
   callWith d f first (backTo d (starEach (a::r) X.env)) (backToKw d (keywordEach [] X.env))):=by rfl):PE X (.Call (.Attribute o t e) (a::r) [] d) (tE g E (aR k n F co cs)) :=
 XU (AS (XX:=[]) ho (I▸c) (I▸T) ok hr hb .nil hx ha u B ht) λσ H Q ⟨m,M,S,s,N,h⟩=>⟨m,M,S,s,N,h.bind.mono λx m1 S1 H1 x1 G l v O=>by
  cases q:Zy S1 k x with
  |none=>rw[q]at l;exact l.elim
  |some p =>
   rw[q]at l;obtain⟨i,fs⟩:=p;dsimp only at l
   cases z:look n fs with
   |some y=>rw[z]at l;exact l.elim
   |none =>rw[z]at l;obtain⟨p,dx,gs,_,rfl,e1,e2,e3,rf⟩:=Zy.of G O q;exact⟨p,dx,gs,rfl,e3,Rf.no U rf z,m1,M,S1,G,N.mono x1 s,l.bind.mono λas m2 S2 H2 x2 s2 h2 vs rs=>⟨m2,S2,x::as,s2,by rw[Vh];exact .cons (R.mono x2 G _ O) rs,h2⟩⟩⟩
theorem DA(r:X.K=g.K)(c:ZC g.K (g.tb k))(G:Meth g.K (g.tb k) l f)(I:g.ST[n]?=some l)(ok:WV X.prog X.w X.K X.mg X.base J j f M N (Xr g F))(O:W2 j X.A)(T:Binds X.K M N [])(U:aE J X E)
  (Y:PE X o (tE g E co))
  (ht:eval (.Call (.Attribute o l d) [] [] a) X.env=(do
   let t <- eval o X.env
   standAt d.atName
   let(f,first) <- holding [t] (getMethod t l pl)
   callWith a f first (backTo a (starEach [] X.env)) (backToKw a (keywordEach [] X.env))):=by rfl):PE X (.Call (.Attribute o l d) [] [] a) (tE g E (aR k n F co aN)) :=
 XU (yj (XX:=[]) Y (r▸c) (r▸G) ok O T .nil U ht) λσ H Q ⟨m,ρ,S,s,re,h⟩=>⟨m,ρ,S,s,re,h.bind.mono λx m1 S1 H1 x1 u e v B=>by
  cases q:Zy S1 k x with
  |none=>rw[q]at e;exact e.elim
  |some p =>
   rw[q]at e;obtain⟨i,fs⟩:=p;dsimp only at e
   cases z:look n fs with
   |some y=>rw[z]at e;exact e.elim
   |none =>rw[z]at e;obtain⟨p,dx,gs,_,rfl,e1,e2,e3,rf⟩:=Zy.of u B q;exact⟨p,dx,gs,rfl,e3,Rf.no I rf z,m1,S1,[x],u,.cons B .nil,e⟩⟩
theorem oj{q:CXT}{C:Addr}{t:FuncData}{n:List Str}{y:Sp}{p:List V}{i:List Value}{a:List (Addr×Obj)}{l:L2.St}{H:Hp}{Q:VK}{us:List Value}{vs:List V}
  (M:Mk X.K C f) (F:WV X.prog X.w X.K X.mg X.base q j f t n y) (G:W2 (j+1) X.A) (O:Binds X.K t n i) (T:Vals p i) (U:aE q X E) (I:Inv X a l H s) (r:Vals vs us)
  (h:∀x m,H x=none->H m=none->m≠x->y (.ref x::(vs++p)) (upd (upd H m (.own x)) x (.ins C m [])) (λv Y=>v=.WX/\Q (.ref x) Y) (E l)):wpAny (model X.prog X.w) X.A (call (.ref C) us) (EP X a l Q) X.xe s:=by
 let N:=s.heap.objs.size;have B:=h (N+1) N (I.hok.fresh (Nat.le_succ _)) (I.hok.fresh (TN _)) (TV (Va _));have J:=I.made (C:=C);have r2:Vals (V.ref (N+1)::(vs++p)) (Value.ref (N+1)::(us++i)):=.cons rfl (r.append T);have hl:(Value.ref (N+1)::us++i).length=n.length:=(r2.length.symm.trans (F.len _ _ _ _ B))
 have run:=F.run _ X.stack _ _ ⟨Value.ref (N+1)::us,[]⟩ (Value.ref (N+1)::(us++i)) _ _ (E l) (G.make C us []) (J.ZY.make C us []) (O _ (Value.ref (N+1)::us) J.Xy hl) r2 B;refine U7 (Av (f:=f) I.Xy M.makes M.init (U0.mp M.fn) (UC run λz s' d=>?_))
 match z,d with
 | .error e,d=>exact U a l _ _ e s' J d
 | .ok (.ret u),d =>obtain⟨v,H',I3,rv,ev,q3⟩:=J.after d;subst ev;exact⟨rv,V.ref (N+1),H',I3,rfl,q3⟩
 | .ok .next,d=>exact d.elim
 | .ok .brk,d=>exact d.elim
 | .ok .cont,d=>exact d.elim
theorem wI{j:Nat}(s:WZ g m S H)(r:Rs g H m as B)(G:∀m H,Rs g H m e I)
  (h:Out g m S H ((mk (.obj k []) S).b λx S=>(F (x::(as++e)) S).b λr S=>match r with | .WX=>.ok x S|_=>.bad) (An g Q) l) :
  ∀x d,H x=none->H d=none->d≠x->Xr g F (.ref x::(B++I)) (upd (upd H d (.own x)) x (.ins (g.tb k) d [])) (λv n=>v=.WX/\Q (.ref x) n) l:=λx d J p f=>by
 rw[nU]at h;have M:Out g m S H ((F (.ref S.nx::(as++e)) ⟨S.nx+1,(S.nx,.obj k [])::S.cs⟩).b λr N=>match r with | .WX=>.ok (.ref S.nx) N|_=>.bad) (An g Q) l:=h;have q:Ext m S H m S (upd H d (.own x)):=Ext.new p _;have t:=s.new p (.own x);have i:upd H d (.own x) x=none:=by rw[ag (Ut f)];exact J
 obtain⟨u,w⟩:=t.alloc (c:=.obj k []) (o:=.ins (g.tb k) d []) i λ_=>⟨d,[],ai,.nil⟩
 have y:(m++[x])[S.nx]?=some x:=by rw[<- s.len];simp
 refine⟨m++[x],_,.ref S.nx::(as++e),u,.cons (R.ref y) ((Rs.mono w t _ (Rs.mono q s _ r)).append (G _ _)),(Out.ext (q.trans w) M).bind.mono λa m2 Y n O T z v U=>?_⟩
 cases a with
 |WX=>exact⟨U.XF,z.ret T _ (R.mono O u (.ref S.nx) (R.ref y))⟩
 |_=>exact z.elim
theorem uO(M:Mk X.K (g.tb k) f)(ok:WV X.prog X.w X.K X.mg X.base y j f z B (Xr g F))(G:W2 (j+1) X.A)(J:Gl X x)(N:X.mg x=some (.ref (g.tb k)))(O:Binds X.K z B l)(T:Vals U l)(Y:∀m H,Rs g H m ds U)(hx:aE y X E)
  (ha:PA X (a::i) (Z6 g E cs)) (n:(x==("__debug__":Str))=false:=by decide) (he:starEach (a::i) X.env=(false,eval a X.env)::starEach i X.env:=by rfl) (t:(backTo d (starEach i X.env)).any (·.1)=false:=by rfl) :
  PE X (.Call (.Name x p) (a::i) [] d) (tE g E (nB k F ds cs)):=λe s σ H Q I ⟨m,ρ,S,sm,re,h⟩=>by
 refine UD (bj I J N ?_ n);refine VN (h₀:=X.base) I.ok.mod.kin M.kp (WY (ha d e s σ H _ I ⟨m,ρ,S,sm,re,h.bind.mono λas m1 S1 H1 x1 u h1 vs rs=>(wI (j:=j) u rs Y h1)⟩) λus u ⟨vs,H1,v,r,q⟩=>⟨v.Xy,?_⟩) he t;exact oj M ok G O T hx v r q
theorem Dz(M:Mk X.K (g.tb k) f)(ok:WV X.prog X.w X.K X.mg X.base i j f l n (Xr g F))(q:W2 (j+1) X.A)(r:Gl X x)(t:X.mg x=some (.ref (g.tb k)))(u:Binds X.K l n a)(v:Vals y a)(z:∀m H,Rs g H m B y)(G:aE i X E)
  (d:(x==("__debug__":Str))=false:=by decide):PE X (.Call (.Name x p) [] [] J) (tE g E (nB k F B aN)):=λe s N H Q I ⟨m,O,S,sm,T,h⟩=>by
 refine UD (bj I r t ?_ d);exact W.callWith_K0 I.Xy M.kp (oj (us:=[]) (vs:=[]) M ok q u v G I .nil (wI (j:=j) (as:=[]) sm .nil z h))
theorem Dv(ok:WV X.prog X.w X.K X.mg X.base t j f u v (Xr g F))(y:W2 j X.A)(z:Gl X x)(B:X.mg x=some (.ref f))(hk:W.keepIn X.K (.ref f)=true)(G:Binds X.K u v e)(I:Vals q e)(J:∀m H,Rs g H m r q)(M:aE t X E)
  (N:PA X (a::d) (Z6 g E O)) (i:(x==("__debug__":Str))=false:=by decide) (T:starEach (a::d) X.env=(false,eval a X.env)::starEach d X.env:=by rfl) (l:(backTo n (starEach d X.env)).any (·.1)=false:=by rfl) :
  PE X (.Call (.Name x p) (a::d) [] n) (tE g E (zd F r O)) :=
 XU (bg (XX:=q) ok y z B hk G I M N i T l) λσ H Q ⟨m,U,S,s,Y,h⟩=>⟨m,U,S,s,Y,h.bind.mono λas m1 S1 H1 x1 s1 h1 vs rs=>⟨m1,S1,as++r,s1,rs.append (J _ _),h1⟩⟩
noncomputable def PKe(X:Cx)(g:Gx)(E:L2.St->XK)(a:List Keyword)(c:Ca):Prop:=PK X a (Z6 g E c)
theorem uN:PKe X g E [] aN:=λd a s e H Q I ⟨m,f,S,sm,i,h⟩=>Hs d a s e H Q I (h.ret sm [] .nil)
theorem pS(p:PE X a (tE g E ca))(q:PKe X g E e r):PKe X g E (⟨M,a,i⟩::e) (aC ca r):=λf d s t H Q I ⟨m,j,S,sm,l,h⟩ =>
 Do p q f d s t H Q I ⟨m,j,S,sm,l,h.bind.mono λx m1 S1 N u n w v y=>⟨m1,j,S1,n,l.mono u sm,w.bind.mono λO m2 T U z B G J rs=>G.ret B (v::J) (.cons (R.mono z n _ y) rs)⟩⟩
theorem wG(ok:WV X.prog X.w X.K X.mg X.base J j f M N (Xr g F))(O:W2 j X.A)(T:Gl X x)(U:X.mg x=some (.ref f))(hk:W.keepIn X.K (.ref f)=true)(Y:i5 X.K M N ks gw gV)
  (n:∀{m:List Addr}{H:Hp}{as bs:List A}{q r:List V},Rs g H m as q->Rs g H m bs r->Rs g H m (z as bs) (gV q r)) (hx:aE J X E) (ha:PA X (a::l) (Z6 g E cs)) (t:PKe X g E d ck)
  (i:(backToKw e (keywordEach d X.env)).all (·.1.isSome)=true:=by rfl) (u:(backToKw e (keywordEach d X.env)).filterMap (·.1)=ks:=by rfl)
  (v:(x==("__debug__":Str))=false:=by decide) (he:starEach (a::l) X.env=(false,eval a X.env)::starEach l X.env:=by rfl)
  (y:((backTo e (starEach (a::l) X.env)).any (·.1)||(backToKw e (keywordEach d X.env)).any (·.1.isNone))=false:=by rfl):PE X (.Call (.Name x p) (a::l) d e) (tE g E (tR F z cs ck)) :=
 XU (yh ok O T U hk Y hx ha t i u v he y) λσ H Q ⟨m,B,S,s,G,h⟩=>⟨m,B,S,s,G,h.bind.mono λas m1 S1 H1 x1 I h1 q rs=>⟨m1,B,S1,I,G.mono x1 s,h1.bind.mono λbs m2 S2 H2 x2 s2 h2 r rz=>⟨m2,S2,z as bs,s2,n (Rs.mono x2 I _ rs) rz,h2⟩⟩⟩
end
section
theorem intsOf.of:∀{a:List A}{c:List V}{l:List Int},Rs g H m a c->intsOf a=some l->c=l.map V.int
 |[],c,l,r,h=>by cases h;exact r.XA
 |x::a,c,l,r,h=>by
  obtain⟨v,t,rfl,d,r2⟩:=r.W0
  cases x with
  |int n =>
   unfold intsOf at h
   cases q:intsOf a with
   |none=>rw[q]at h;cases h
   |some e=>rw[q]at h;cases h;rw[intsOf.of r2 q,d.W4];rfl
  |_=>cases h
theorem lG:∀l:List Int,inV (.int n) (l.map V.int)=xX n l/\(l.map V.int).all dY=true
 |[]=>⟨rfl,rfl⟩
 |k::l=>by
  obtain⟨a,b⟩:=lG (n:=n) l;unfold inV at a ⊢;rw[T9,U1,a,Ud,b];refine⟨?_,rfl⟩;show(eqV (V.int k) (V.int n)||xX n l)=match eqI k n with|true=>true|false=>xX n l
  rw[o8];show((k==n)||xX n l)=_;cases k==n<;>rfl
theorem GW:Y0 g (rIn g.K false) GP:=λm S H a b v w Q E s c d h=>by
 obtain⟨k,e,q⟩:=Out.bA h s;unfold inI at e
 cases a with
 |int n =>
  cases b with
  |tup f =>
   dsimp only at e
   cases z:intsOf f with
   |none=>rw[z]at e;cases e
   |some l =>rw[z]at e;cases e;obtain⟨p,i,rfl,sq,r⟩:=d.Xf;rw[intsOf.of r z]at sq;rw[c.W4];exact⟨p,_,rfl,   .inr sq,rfl,(lG (n:=n) l).2,by rw[<- (lG (n:=n) l).1]at q;exact q⟩
  |_=>cases e
 |_=>cases e
theorem G4:Y0 g (rI CMul λi j=>.int (i*j)) AB:=λm S H a b v w Q E s c d h=>by
 unfold AB at h;split at h
 ·rename_i i j;split at h
  ·rename_i e f;have l1:=Uc e;refine⟨_,_,c.W4,d.W4,.inl ⟨?_,?_⟩,Out.int (i:=.ofNat (i*j)) h s⟩
   ·show(-(2 ^ 64:Int))<((i:Nat):Int);omega
   ·show((i:Nat):Int)<2 ^ 64;omega
  ·exact h.elim
 ·exact h.elim
theorem Z5.of(r:R g H m x v)(h:Z5 x=some n):∃y,g.ST[n]?=some y/\v=.str y:=by
 cases x with
 |str k=>cases h;exact r.Xi
 |_=>cases h
theorem B5{w:V}(s:WZ g m S H)(r:R g H m x v)(h:rdD S x=some (i,c))(e:g.ST[n]?=some y):∃a o,v=.ref a/\Zv H a (.str y) o/\o.isSome=(EV.look n c).isSome:=by
 obtain⟨a,d,_,rfl,e1,e2,e3,rk⟩:=rdD.of s r h;refine⟨a,_,rfl,Zv.k (k:=.inr y) e3,?_⟩
 cases z:EV.look n c with
 |none=>rw[Rk.no e rk z];rfl
 |some b=>obtain⟨u,q,_⟩:=pB e rk z;rw[q];rfl
theorem DB{X:Cx}{g:Gx}(hK:X.K=g.K)(c:ZC g.K (g.tb k))(hm:Meth g.K (g.tb k) mn f)(he:g.ST[n]?=some mn)(ok:WV X.prog X.w X.K X.mg X.base CX j f fd ps (Xr g F))(hr:W2 j X.A)(hb:i5 X.K fd ps ks gw gV)
  (hgv:∀{m:List Addr}{H:Hp}{as bs:List A}{N zs:List V},Rs g H m as N->Rs g H m bs zs->Rs g H m (gv as bs) (gV N zs)) (hx:aE CX X E) (ho:PE X o (tE g E co)) (ha:PA X (a::es) (Z6 g E cs)) (hkw:PKe X g E t ck)
  (hall:(backToKw d (keywordEach t X.env)).all (·.1.isSome)=true:=by rfl) (hks:(backToKw d (keywordEach t X.env)).filterMap (·.1)=ks:=by rfl) (hst:starEach (a::es) X.env=(false,eval a X.env)::starEach es X.env:=by rfl)
  (hpl:((backTo d (starEach (a::es) X.env)).any (·.1)||(backToKw d (keywordEach t X.env)).any (·.1.isNone))=false:=by rfl)
  (ht:eval (.Call (.Attribute o mn O) (a::es) t d) X.env=(do
   let ov <- eval o X.env
   standAt O.atName
   let(f,first) <- holding [ov] (getMethod ov mn pl)
   callWith d f first (backTo d (starEach (a::es) X.env)) (backToKw d (keywordEach t X.env))):=by rfl):PE X (.Call (.Attribute o mn O) (a::es) t d) (tE g E (zj k n F gv co cs ck)):=λl s G H Q I ⟨m,T,S,sm,re,h⟩=>by
 refine W.methodCall_KW (pl:=pl) (WY (ho l s G H (λv Y=>∃m1 S1 x p as,WZ g m1 S1 Y/\Re g Y m1 T G/\R g Y m1 x v/\Zy S1 k x=some p/\look n p.2=none/\as=x/\Out g m1 S1 Y ((cs T S1).b λas S=>(ck T S).b λbs S=>F (gv (x::as) bs) S) (An g Q) (E G)) I ⟨m,T,S,sm,re,h.bind.mono λx m1 S1 Y x1 s1 J v rv=>?_⟩) λu s1 hu=>?_) ht
 ·cases q:Zy S1 k x with
  |none=>rw[q]at J;exact J.elim
  |some p =>
   rw[q]at J;dsimp only at J
   cases z:look n p.2 with
   |some y=>rw[z]at J;exact J.elim
   |none=>rw[z]at J;exact⟨m1,S1,x,p,x,s1,re.mono x1 sm,rv,q,z,rfl,J⟩
 ·obtain⟨v,Y,I1,ru,m1,S1,x,p,_,M,Yn,rv,q,z,_,J⟩:=hu;obtain⟨i,fs⟩:=p;obtain⟨ad,dx,gs,_,rfl,e1,e2,e3,rf⟩:=Zy.of M rv q;obtain rfl:u=Value.ref ad:=ru;refine gC I1 e3 (hK▸c) (hK▸hm) (Rf.no he rf z) ?_;refine W.callWith_KW (first:=[.ref ad]) (h₀:=X.base) I.ok.mod.kin (hK▸hm.kp) hall (WY (ha d l s1 G Y (λN U=>∃m2 S2 as,WZ g m2 S2 U/\Re g U m2 T G/\R g U m2 x (.ref ad)/\Rs g U m2 as N/\Out g m2 S2 U ((ck T S2).b λbs S=>F (gv (x::as) bs) S) (An g Q) (E G)) I1 ⟨m1,T,S1,M,Yn,J.bind.mono λas m2 S2 U x2 s2 h2 N rs=>⟨m2,S2,as,s2,Yn.mono x2 M,R.mono x2 M _ rv,rs,h2⟩⟩) λus s2 hus=>?_) hpl hst;obtain⟨N,U,I2,r,m2,S2,as,s2',Zl,rv2,rs,h2⟩:=hus;refine WY (hkw d l s2 G U (λzs H3=>Xr g F (gV (.ref ad::N) zs) H3 Q (E G)) I2 ⟨m2,T,S2,s2',Zl,h2.bind.mono λbs m3 S3 H3 x3 s3 h3 zs rz=>⟨m3,S3,gv (x::as) bs,s3,hgv (.cons (R.mono x3 s2' _ rv2) (Rs.mono x3 s2' _ rs)) rz,h3⟩⟩) λws s3 ⟨zs,H3,I3,rz,q3⟩=>⟨I3.Xy,?_⟩
  rw[hks];have rr:Vals (V.ref ad::N) (Value.ref ad::us):=.cons rfl r;have r2:=hb.rel rr rz;have hl:(gw (Value.ref ad::us) ws).length=ps.length:=by rw[<- r2.length];exact ok.len _ _ _ _ q3
  refine U7 (UC (ok.run X.A X.stack s3 H3 ⟨Value.ref ad::us,ks.zip ws⟩ (gw (Value.ref ad::us) ws) _ Q (E G) hr I3.ZY (hb.to s3 (Value.ref ad::us) ws I3.Xy hl) r2 q3) λr s' B=>?_)
  match r,B with
  | .error e,B=>exact hx l G H3 s3 e s' I3 B
  | .ok (.ret u),B=>exact I3.after B
  | .ok .next,B=>exact B.elim
  | .ok .brk,B=>exact B.elim
  | .ok .cont,B=>exact B.elim
theorem xf{X:Cx}{C:Addr}{F:List A->WU->Res A}(M:Meth X.K C "__len__" f)(ok:WV X.prog X.w X.K X.mg X.base (Xb X.prog X.w) j f B d (Xr g F))(E:W2 (j+1) X.A)(G:Binds X.K B d []) :
  bo X (.builtin "len") (λi H Q=>∃x l p,i=[.ref x]/\H x=some (.ins C l p)/\Xr g F [.ref x] H (λv c=>∃n:Nat,v=.int n/\n<=900/\Q (.int n) c) λ_ _ _=>False):=by
 intro y s σ H i us Q I r h;obtain⟨x,l,p,rfl,J,h⟩:=h;obtain⟨u,rfl,N⟩:=bq r;obtain rfl:u=Value.ref x:=N;obtain⟨mA,O,_⟩:=kI I.hok J;obtain⟨od,T,_⟩:=O.look;have hl:([Value.ref x]++[]).length=d.length:=by have:=ok.len _ _ _ _ h;simpa using this
 refine Calls.call_function_entry kind_len plain_len entry_len (args_len1 _) ?_;unfold Builtin.«len»;refine Ar (m:=oneArg "len" _) (RB (Ar (m:=callSpecial? (.ref x) (Str.ofString "__len__")) (W.special_fn I.Xy T M.at_ (U0.mp M.fn) ?_)));refine U7 (UC (ok.run X.A.in1 X.stack s H ⟨[.ref x],[]⟩ [.ref x] [.ref x] _ _ E.in1 I.ZY.in1 (G s [.ref x] I.Xy hl) (.cons rfl .nil) h) λz s' a=>?_)
 match z,a with
 | .error e,a=>obtain⟨_,_,_,_,_,_,_,_,_,_,_,_,_,_,q⟩:=a;exact q.elim
 | .ok .next,a=>exact a.elim
 | .ok .brk,a=>exact a.elim
 | .ok .cont,a=>exact a.elim
 | .ok (.ret u),a =>
  obtain⟨v,c,U,Y,n,rfl,n9,q⟩:=I.after a;obtain⟨t,rfl⟩:=(show ∃t,u=Value.int n t from Y)
  refine Ar (UA (RB (Ar (wpAny_letGo ?_))));show wpAny _ _ (if (n:Int)<0 then _ else _) _ _ _;rw[TQ (by omega)];show wpAny _ _ (if (n:Int) ≥ 2 ^ 63 then _ else _) _ _ _;rw[TQ (by omega)];exact Ar (wpAny_mkInt (RB ⟨_,rfl,.int n,c,U.tok _,⟨_,rfl⟩,q⟩))
theorem A9{X:Cx}{g:Gx}(l:X.K=g.K)(M:Meth g.K (g.tb k) "__len__" f)(ok:WV X.prog X.w X.K X.mg X.base (Xb X.prog X.w) j f t u (Xr g F))(y:W2 (j+1) X.A)(B:Binds X.K t u [])(G:Gl X "len")(I:X.mg "len"=none)(J:bootBuiltins "len"=some (.builtin "len"))(N:PE X o (tE g E co))
  (hs:b5 o=true:=by rfl) (O:starEach [o] X.env=(false,eval o X.env)::starEach [] X.env:=by rfl):PE X (.Call (.Name "len" p) [o] [] T) (tE g E (zi k F co)) :=
 XU (aD (xf (l▸M) ok y B) G I J (aB N aj hs) (by decide) (by decide) O) λU H Q ⟨m,Y,S,s,re,h⟩=>⟨m,Y,S,s,re,h.bind.mono λx m1 S1 H1 x1 e c v d=>by
  cases q:Zy S1 k x with
  |none=>rw[q]at c;exact c.elim
  |some p =>
   rw[q]at c;obtain⟨i,fs⟩:=p;dsimp only at c;obtain⟨ad,dx,gs,_,rfl,e1,e2,e3,rf⟩:=Zy.of e d q;refine⟨ad,dx,gs,rfl,e3,m1,S1,[x],e,.cons d .nil,CY (E:=E U) (c.bind.mono λr m2 S2 H2 x2 s2 a v d=>?_)⟩
   cases r with
   |int i =>
    cases i with
    |ofNat n =>
     dsimp only at a
     cases z:Nat.ble n 900 with
     |false=>rw[z]at a;exact a.elim
     |true=>rw[z]at a;exact⟨n,d.W4,Uc z,a.ret s2 _ (R.int _)⟩
    |negSucc n=>exact a.elim
   |_=>exact a.elim⟩
theorem HA:PE X (.Dict [] [] a) (tE g E vO):=XU AO λd H Q ⟨m,j,S,s,l,h⟩ p e=>by
 have h:Out g m S H (mk (.dct []) S) (An g Q) (E d):=h;rw[nU]at h;obtain⟨f,i⟩:=s.alloc (c:=.dct []) (o:=.dK []) e λ_=>⟨[],ai,.nil⟩
 exact h _ _ i f _ (R.ref (by rw[<- s.len];simp))
theorem Ze.of(h:tE g E (cO nX ca r) u H Q):Ze (tE g E ca) (tE g E r) u H Q:=by
 obtain⟨m,d,S,s,e,h⟩:=h;refine⟨m,d,S,s,e,h.bind.mono λx m1 S1 Y B G I v J=>⟨m1,d,S1,G,e.mono B s,I.bind.mono λy m2 M H2 x2 f a w rw=>?_⟩⟩;unfold nX at a
 cases q:Z5 x with
 |none=>rw[q]at a;exact a.elim
 |some n =>
  rw[q]at a;dsimp only at a
  cases z:rdD M y with
  |none=>rw[z]at a;exact a.elim
  |some p =>
   rw[z]at a;obtain⟨i,N⟩:=p;obtain⟨t,O,rfl⟩:=Z5.of J q;obtain⟨ad,o,rfl,T,U⟩:=B5 (w:=.WX) f rw z O;refine⟨ad,o,rfl,T,?_⟩;obtain⟨b,c,j⟩:=Out.bA a f;rw[U];dsimp only at c
   cases l:look n N with
   |none=>rw[l]at c;cases c;exact j
   |some _=>rw[l]at c;cases c;exact j
theorem DD{X:Cx}(c:W2 j X.A)(d:PE X a (tE g E ca))(e:PE X b (tE g E f))(i:behindInMarks .NotIn b=false:=by with_unfolding_all rfl):PT X (.Compare a [.NotIn] [b] l) (tB g E (Xc (cO nX ca f))):=imT (uJ (yg (zN c) d e) i) λm H Q h=>Ys.of (λ_ _ _ z=>Ze.of z) h
theorem C1:Zs g (λv H Q=>∃p c,[v]=[V.ref p]/\H p=some (.dK c)/\Q (.int c.length) H) wX:=λm S H a v Q E s d h=>by
 unfold wX at h
 cases q:rdD S a with
 |none=>rw[q]at h;exact h.elim
 |some p =>rw[q]at h;obtain⟨i,e⟩:=p;obtain⟨ad,c,_,rfl,e1,e2,e3,rk⟩:=rdD.of s d q;refine⟨ad,c,rfl,e3,?_⟩;rw[rk.length];exact Out.int h s
theorem HB{X:Cx}{r:Pos}(hr:W2 j X.A)(ho:PE X o (tE g E co))(hi:PE X a (tE g E ca))(hv:PE X e (tE g E ce))(hs:swapsWith e (some (.Subscript o a B)) r.line X.env=pure false:=by rfl):PS X (.Assign [.Subscript o a B] e r) (tS g E (wQ co ca ce)) :=
 Zz (Dr (zN hr) ho hi hv hs) λD σ H ⟨m,N,S,s,f,h⟩=>⟨m,N,S,s,f,(h.x s f).mono λv m1 S1 H1 G l h1 vv rv=>⟨m1,N,S1,l,f.mono G s,(h1.x l (f.mono G s)).mono λx m2 S2 H2 J M h2 w rw=>⟨m2,N,S2,M,(f.mono G s).mono J l,(h2.x M ((f.mono G s).mono J l)).mono λy m3 S3 H3 O I d u ru=>by
  cases q:Z5 y with
  |none=>rw[q]at d;exact d.elim
  |some n =>
   rw[q]at d;dsimp only at d
   cases z:rdD S3 x with
   |none=>rw[z]at d;exact d.elim
   |some p =>
    rw[z]at d;obtain⟨i,Q⟩:=p;dsimp only at d
    cases T:few 90 Q with
    |false=>rw[T]at d;exact d.elim
    |true =>
     rw[T]at d;dsimp only at d
     cases U:look n Q with
     |some _=>rw[U]at d;exact d.elim
     |none =>
      rw[U]at d;dsimp only at d;rw[aY,j9]at d;obtain⟨t,et,rfl⟩:=Z5.of ru q;obtain⟨ad,Y,_,rfl,e1,e2,e3,rk⟩:=rdD.of I (R.mono O M _ rw) z;have rv3:=R.mono (J.trans O) l _ rv;have hn:=Rk.no et rk U;obtain⟨s4,x4⟩:=I.write (a:=ad) (i:=i) (c:=.dct (Q++[(n,v)])) (o:=.dK (Y++[(.inr t,vv)])) e1 e2 rfl λx=>⟨_,ai,(Rk.mono x I rk).append (.cons ⟨⟨t,et,rfl⟩,R.mono x I v rv3⟩ .nil)⟩
      have h9:=bH T;refine⟨ad,_,rfl,DPut.k (k:=.inr t) e3 (by rw[rk.length,Ul];omega),?_⟩;rw[A5 vv hn];exact d m3 _ σ x4 s4 ((((f.mono G s).mono J l).mono O M).mono x4 I)⟩⟩⟩
theorem KH{x:Str}(f:PE X a (tE g E ca))(l:x.length<=1000):PE X (.JoinedStr [.Constant (.str x) j u,.FormattedValue a (-1) none w] p) (tE g E (BY ca)) :=
 XU (AQ f l) λB H Q ⟨m,q,S,s,r,h⟩=>⟨m,q,S,s,r,h.bind.mono λy m1 S1 G I d c v t=>by
  have e:∀n:Nat,n<=100000000->n.log2<1920:=λn J=>WD (Nat.log2_le_self n |> λ_=>by
   by_cases z:n=0
   ·subst z;decide
   ·have:=(Nat.log2_lt z (k:=30)).mpr (by omega);omega) (show 30<1920 by decide)
  cases y with
  |int i =>
   refine⟨i,t.W4,?_⟩
   cases i with
   |ofNat n =>
    dsimp only at c
    cases z:Nat.ble n 99999999 with
    |false=>rw[z]at c;exact c.elim
    |true=>rw[z]at c;exact⟨e n (by have:=Uc z;omega),λy=>c.ret d _ R.any⟩
   |negSucc n =>
    dsimp only at c
    cases z:Nat.ble n 99999999 with
    |false=>rw[z]at c;exact c.elim
    |true=>rw[z]at c;exact⟨e (n+1) (by have:=Uc z;omega),λy=>c.ret d _ R.any⟩
  |_=>exact c.elim⟩
theorem HC{X:Cx}(r:fT g T G)(U:∀p∈T,∃j,p.2=.flat (.int j))(Y:X.K=g.K)(tk:dH g.K t T)(hb:PE X b (L2.tC (.ref t)))(ha:PE X a (tE g E ca))(hc:PE X c (tE g E cc))(m2:M2 X b "get" l a c u) :
  PE X (.Call (.Attribute b "get" l) [a,c] [] u) (tE g E (D7 G ca cc)) :=
 XU (oh hb ha hc m2) λσ H Q ⟨m,I,S,s,J,h⟩=>⟨t,T,rfl,Y▸tk,m,I,S,s,J,h.bind.mono λx m1 S1 H1 x1 s1 M v rv=>by
  cases x with
  |str n =>
   obtain⟨y,e,rfl⟩:=rv.Xi;refine⟨m1,I,S1,s1,J.mono x1 s,M.bind.mono λz m2 S2 H2 x2 N f w rw=>?_⟩
   cases z with
   |int i =>
    refine⟨y,i,rfl,rw.W4,U,?_⟩;dsimp only at f
    cases q:look n G with
    |none =>
     rw[q]at f
     have:KTD.datumAt y T=none:=by
      have B:=r.mem n y e;rw[q]at B
      cases z:KTD.datumAt y T with
      |none=>rfl
      |some d=>rw[<- VO,z]at B;cases B
     rw[this];exact f.ret N _ (R.int i)
    |some z =>
     rw[q]at f;rcases r.flat n z q with⟨O,rfl⟩|⟨k,rfl⟩
     ·rw[r.int n y O e q];exact f.ret N _ (R.int O)
     ·exact f.elim
   |_=>exact f.elim
  |_=>exact M.elim⟩
theorem HG{X:Cx}{g:Gx}(l:X.K=g.K)(B:Gl X "reversed")(G:X.mg "reversed"=none)(I:PE X a (tE g E ca))(d:b5 a=true:=by rfl)(hs:starEach [a] X.env=[(false,eval a X.env)]:=by rfl):PI X J (.Call (.Name "reversed" p) [a] [] M) (tI g E (Fk ca)) :=
 imI (Dl B G (aB I aj d) hs) λσ H R' ⟨m,N,S,s,O,h⟩=>⟨m,N,S,s,O,h.bind.mono λx m1 S1 H1 x1 e c v Q=>by
  cases x with
  |tup n =>dsimp only at c;rw[aY]at c;obtain⟨ad,f,rfl,sq,r⟩:=Q.Xf;refine⟨ad,f,rfl,l▸sq,c.ret e _ λm2 S2 T q U=>?_⟩;have j:Xz X.K T ad f:=l▸q.sqT e.lock sq;have r2:=(Rs.mono q e.lock n r).rev;have hl:=r2.length;rw[Ws]at hl;refine⟨λi y t=>?_,by show _=f.length;exact hl.symm⟩;have hi:i<n.reverse.length:=(M1.mp t).1;refine⟨⟨by omega,j⟩,λv H3 ⟨e3,w⟩=>?_⟩;subst e3;obtain⟨u,z,Y⟩:=r2.get t;rw[List.getElem?_reverse (by omega)]at z;rw[z]at w;cases w;exact⟨Ext.refl,U,Y⟩
  |_=>exact c.elim⟩
theorem HX{X:Cx}{C:Value}
  (G:∀(pn:List (Addr×Obj))(xe:Value->Shared->Prop)(E:L2.St->XK),aE (Xb X.prog X.w) {X with pn:=pn,xe:=xe} E->PassesOwn (model X.prog X.w) X.A X.env xe->XH {X with pn:=pn,xe:=xe} body (tS g E l))
  (I:Gl X x) (J:X.mg x=some C) (M:∀c,bF c v=true->W.exmOne X.K (.ref (g.cls c)) C=some true) (N:∀e:Value,XH (X.hand e) (i::a) (tS g E0 y))
  (n:X.stack=X.env::X.outer:=by rfl) (p:X.env.frame=some X.env.locals:=by rfl) (O:(x==("__debug__":Str))=false:=by decide) :
  PS X (.Try body [.ExceptHandler (some (.Name x np)) none (i::a) z] [] [] Q) (tS g E (yA l v y)) :=
 Zz (A1 (t:=λE=>tS g E l) G I J N n p O) λD σ H ⟨m,B,S,s,T,h⟩=>⟨m,B,S,s,T,by
  unfold yA at h
  cases q:l B S with
  |bad=>rw[q]at h;exact h
  |ok f S1=>rw[q]at h;cases f<;>exact h
  |exc c j S1 =>
   rw[q]at h;dsimp only at h
   cases r:bF c v with
   |false=>rw[r]at h;exact h.elim
   |true =>
    rw[r]at h;dsimp only at h;refineλm1 H1 U dx Y s1 Yn=>⟨M c r,m1,j,S1,s1,Yn,?_⟩
    have d:=XW.ext Y h
    cases u:y j S1 with
    |bad=>rw[u]at d;exact d
    |exc c ρ2 S2=>rw[u]at d;exact d.elim
    |ok f S2=>rw[u]at d;cases f<;>exact d⟩
end
theorem xm{g:YS}{a:Ce}{f:List A}{x:A}{c:Env}{S:WU}(h:f[i]?=some x):kT d g a (f.drop i) c S=match g x c with
  |none=>.bad
  |some c=>(a c S).b λy S=>match look d S.cs with
   |some (.lst j)=>match few 900 j with
    |true=>kT d g a (f.drop (i+1)) c ⟨S.nx,put d (.lst (j++[y])) S.cs⟩
    |false=>.bad
   |_=>.bad:=by
 have e:f.drop i=x::f.drop (i+1):=by rw[Vq (M1.mp h).1];congr 1;exact(M1.mp h).2
 rw[e]
 show(match g x c with|none=>Res.bad|some c=>(a c S).b λy S=>match look d S.cs with
   |some (.lst j)=>match few 900 j with
    |true=>fl (j++[y]) λl=>wr d (.lst l) S λS=>kT d g a (f.drop (i+1)) c S
    |false=>.bad
   |_=>.bad)=_
 simp only[aY,j9]
theorem xk{j l:YS}{c:Ci}{f:Ce}{g:List A}{x:A}{a:Env}{S:WU}(h:g[i]?=some x):hU d j c l f (g.drop i) a S=match j x a with
  |none=>.bad
  |some a=>(c a S).b λp S=>((kT d l f p.1 a (YT p.2 S)).back S p.2).b λa S=>hU d j c l f (g.drop (i+1)) a S:=by
 have e:g.drop i=x::g.drop (i+1):=by rw[Vq (M1.mp h).1];congr 1;exact(M1.mp h).2
 rw[e];show(match j x a with|none=>Res.bad|some a=>(c a S).b λp S=>((dP p.2 S λL=>kT d l f p.1 a L).back S p.2).b λa S=>hU d j c l f (g.drop (i+1)) a S)=_;simp only[cm]
theorem Ext.at{m c:List Addr}{S d:WU}{i:Nat}(x:Ext m S H c d e)(h:m[i]?=some a):c[i]?=some a:=by obtain⟨k,rfl,_⟩:=x.pre;exact bE h
section
theorem ZM.of{own:List Str}{fr:List Nat}{ci:Ci}(h:tE g E (oS ci own.length fr tg e I M) σ H Q):ZM (tI g E ci) (Zw own fr) (tG g tg) (tI g E0 e) (tG g I) (tE g E0 M) σ H Q:=by
 obtain⟨m,N,S,s,re,h⟩:=h;refine⟨m,N,S,s,re,h.bind.mono λp m1 S1 O x1 s1 h1 J it D hD=>?_⟩;have Yn:=re.mono x1 s;rw[aY,cm]at h1;have s1l:=s1.lock (ls:=p.2);generalize hL:YT p.2 S1=L at h1 s1l;obtain⟨n0,c0⟩:=L;dsimp only at h1;rw[vV]at h1;obtain⟨sD,xD⟩:=s1l.alloc (c:=.lst []) (o:=.lst []) hD λ_=>⟨[],ai,.nil⟩
 have hn0:m1.length=n0:=s1l.len;have atD:(m1++[D])[n0]?=some D:=by rw[<- hn0];simp
 let fin:Res Env->Res A:=λr=>(r.ZW.b λ_ L=>(Res.ok (A.ref n0) L:Res A)).back S1 p.2;have h1:Out g m1 S1 O (fin (hU n0 tg e I M p.1 (Xl own.length fr N) ⟨n0+1,(n0,.lst [])::c0⟩)) (An g Q) (E σ):=h1;have bad:∀{P:Prop},Out g m1 S1 O (fin .bad) (An g Q) (E σ)->P:=λh=>h.elim;have exc:∀{c S'} {P:Prop},Out g m1 S1 O (fin (.exc c S')) (An g Q) (E σ)->P:=λh=>h.elim
 refine⟨λi n l B=>∃m2 G S2,n=p.1.length - i/\i<=p.1.length/\Ext (m1++[D]) ⟨n0+1,(n0,.lst [])::c0⟩ (upd O D (.lst [])) m2 S2 B/\WZ g m2 S2 B/\Re g B m2 G l/\Out g m1 S1 O (fin (hU n0 tg e I M (p.1.drop i) G S2)) (An g Q) (E σ),
  ⟨_,m1++[D],Xl own.length fr N,_,rfl,Uw _,Ext.refl,sD,(Bf Yn own fr).mono xD s1l,by rw[Vc];exact h1⟩,?_⟩
 rintro i n σ2 H2 ⟨m2,G,S2,hn,hil,x2,s2,Zl,T⟩;have xx:Ext m1 (YT p.2 S1) O m2 S2 H2:=by rw[hL];exact xD.trans x2
 have atD2:m2[n0]?=some D:=by obtain⟨k,rfl,_⟩:=x2.pre;exact bE atD
 obtain⟨go,stop⟩:=it m2 S2 H2 xx s2
 cases q:p.1[i]? with
 |none =>
  have hle:=UP.mp q;have:i=p.1.length:=by omega
  subst this;refine .inl ⟨stop,?_⟩;rw[V9]at T;have h2':Out g m1 S1 O (bB S1 p.2 S2 λS=>(Res.ok (A.ref n0) S:Res A)) (An g Q) (E σ):=T;rw[bh]at h2';obtain⟨x3,s3⟩:=xx.unlock s1 s2;exact h2' m2 H2 x3 s3 _ (R.ref atD2)
 |some x =>
  have hlt:=(M1.mp q).1;obtain⟨g1,yl⟩:=go i x q;rw[xk q]at T
  refine .inr ⟨g1,λl B=>∃m2 G S2,Ext (m1++[D]) ⟨n0+1,(n0,.lst [])::c0⟩ (upd O D (.lst [])) m2 S2 B/\WZ g m2 S2 B/\Re g B m2 G l/\Out g m1 S1 O (fin (hU n0 tg e I M (p.1.drop (i+1)) G S2)) (An g Q) (E σ),
   λl B ⟨m3,U,S3,x3,s3,ZR,h3⟩=>⟨p.1.length - (i+1),by omega,m3,U,S3,rfl,hlt,x3,s3,ZR,h3⟩,λv H3 yd=>?_⟩
  obtain⟨x3,s3,rv⟩:=yl v H3 yd;have ZR:=Zl.mono x3 s2
  cases qt:tg x G with
  |none=>rw[qt]at T;exact bad T
  |some U =>
   rw[qt]at T;dsimp only at T;refine⟨m2,G,S2,x,U,s3,ZR,rv,qt,λσ4 re4=>⟨m2,U,S2,s3,re4,?_⟩⟩
   cases qi:e U S2 with
   |bad=>rw[qi]at T;exact bad T
   |exc c S5=>rw[qi]at T;exact exc T
   |ok t S5 =>
    rw[qi]at T;intro m5 H5 x5 s5 J1 it1;have T:Out g m1 S1 O (fin (((kT n0 I M t.1 U (YT t.2 S5)).back S5 t.2).b λN S=>hU n0 tg e I M (p.1.drop (i+1)) N S)) (An g Q) (E σ):=T;have x25:=(x2.trans x3).trans x5
    refine⟨λj n l B=>∃m6 f S6,n=t.1.length - j/\j<=t.1.length/\Ext m5 (YT t.2 S5) H5 m6 S6 B/\WZ g m6 S6 B/\Re g B m6 f l/\Out g m1 S1 O (fin (((kT n0 I M (t.1.drop j) f S6).back S5 t.2).b λN S=>hU n0 tg e I M (p.1.drop (i+1)) N S)) (An g Q) (E σ),
     ⟨_,m5,U,_,rfl,Uw _,Ext.refl,s5.lock,re4.mono x5 s3,by rw[Vc];exact T⟩,?_⟩
    rintro j n σ6 H6 ⟨m6,f,S6,hn6,hj6,x6,s6,re6,d⟩;obtain⟨go1,stop1⟩:=it1 m6 S6 H6 x6 s6
    cases qj:t.1[j]? with
    |none =>
     have hle:=UP.mp qj;have:j=t.1.length:=by omega
     subst this;refine .inl ⟨stop1,?_⟩;rw[V9]at d;have h6':Out g m1 S1 O (fin ((bB S5 t.2 S6 λS=>(Res.ok f S:Res Env)).b λN S=>hU n0 tg e I M (p.1.drop (i+1)) N S)) (An g Q) (E σ):=d;rw[bh]at h6';obtain⟨x7,s7⟩:=x6.unlock s5 s6;exact⟨m6,f,_,x25.trans x7,s7,re6,h6'⟩
    |some y =>
     have hlt1:=(M1.mp qj).1;obtain⟨g2,yl1⟩:=go1 j y qj;rw[xm qj]at d
     refine .inr ⟨g2,λl B=>∃m6 f S6,Ext m5 (YT t.2 S5) H5 m6 S6 B/\WZ g m6 S6 B/\Re g B m6 f l/\Out g m1 S1 O (fin (((kT n0 I M (t.1.drop (j+1)) f S6).back S5 t.2).b λN S=>hU n0 tg e I M (p.1.drop (i+1)) N S)) (An g Q) (E σ),
      λl B ⟨m7,Y,S7,x7,s7,re7,h7⟩=>⟨t.1.length - (j+1),by omega,m7,Y,S7,rfl,hlt1,x7,s7,re7,h7⟩,λw H7 yd1=>?_⟩
     obtain⟨x7,s7,rw7⟩:=yl1 w H7 yd1
     cases qt1:I y f with
     |none=>rw[qt1]at d;exact bad d
     |some Y =>
      rw[qt1]at d;dsimp only at d;refine⟨m6,f,S6,y,Y,s7,re6.mono x7 s6,rw7,qt1,λσ8 re8=>⟨m6,Y,S6,s7,re8,?_⟩⟩
      cases qe:M Y S6 with
      |bad=>rw[qe]at d;exact bad d
      |exc c S9 =>rw[qe]at d;have d:Out g m1 S1 O (fin ((bB S5 t.2 S9 λS=>(Res.exc c S:Res Env)).b λN S=>hU n0 tg e I M (p.1.drop (i+1)) N S)) (An g Q) (E σ):=d;rw[bh]at d;exact exc d
      |ok z S9 =>
       rw[qe]at d;intro m9 H9 x9 s9 u ru
       have d:Out g m1 S1 O (fin (((match look n0 S9.cs with
        |some (.lst ys)=>match few 900 ys with
         |true=>kT n0 I M (t.1.drop (j+1)) Y ⟨S9.nx,put n0 (.lst (ys++[z])) S9.cs⟩
         |false=>Res.bad
        |_=>Res.bad).back S5 t.2).b λN S=>hU n0 tg e I M (p.1.drop (i+1)) N S)) (An g Q) (E σ):=d
       cases qd:look n0 S9.cs with
       |none=>rw[qd]at d;exact bad d
       |some cd =>
        cases cd with
        |lst ys =>
         rw[qd]at d;dsimp only at d
         cases q9:few 900 ys with
         |false=>rw[q9]at d;exact bad d
         |true =>
          rw[q9]at d;dsimp only at d;have at9:m9[n0]?=some D:=x9.at (x6.at (x5.at atD2));obtain⟨D',e',vs,hD9,r9⟩:=s9.cell n0 _ qd;rw[at9]at e';cases e';obtain⟨s10,x10⟩:=s9.write (a:=D) (i:=n0) (c:=.lst (ys++[z])) (o:=.lst (vs++[u])) at9 qd rfl λx=>⟨_,ai,(Rs.mono x s9 ys r9).append (.cons (R.mono x s9 z ru) .nil)⟩
          have hl:=r9.length;have h9:=bH q9;exact⟨vs,hD9,by rw[Ul];omega,m9,Y,_,((x6.trans x7).trans x9).trans x10,s10,(re8.mono x9 s7).mono x10 s9,d⟩
        |_=>rw[qd]at d;exact bad d
theorem uP{X:Cx}{iter t1:Expr}{a:Scope}{fr:List Nat}{ci:Ci}{c:Pos}(w:PI X d iter (tI g E ci))(hk:a.kind=.function)(z:bO X.N X.env.kindOf a.names own fr N'=true)(B:X.calm=true)(G:∀cl C s H e,PG (X.Xl a cl C N' s H e) d (tG g t))(l:∀cl C s H e,PI (X.Xl a cl C N' s H e) t1 m (tI g E0 f))(n:∀cl C s H e,PG (X.Xl a cl C N' s H e) t1 (tG g u))(I:∀cl C s H e,PE (X.Xl a cl C N' s H e) j (tE g E0 v))
  (J:X.N.Nodup) (M:X.N[i]?=some y) (O:X.env.scope.names.lookup y=some .local) (p:swapsWith (.ListComp j [⟨d,iter,[],0⟩,⟨t1,m,[],0⟩] a q) (some (.Name y Q)) c.line X.env=pure true)
  (hs:∀x,foldedSetIterable iter X.env x=pure x:=by intro _;rfl) (r:∀(cl:List (Str×Addr))(C:Addr)(x:Value),foldedSetIterable m (compEnvC a cl C X.env) x=pure x:=by intro _ _ _;rfl):PS X (.Assign [.Name y Q] (.ListComp j [⟨d,iter,[],0⟩,⟨t1,m,[],0⟩] a q) c) (tS g E (aH i (oS ci own.length fr t f u v))) :=
 Zz (sE w hk z B G l n I J M O p hs r) λD T H h=>ZM.of (E:=E) (show tE g E (oS ci own.length fr t f u v) T H _ from Y6.of h)
theorem Dw{X:Cx}{iter:Expr}{a:Scope}{fr:List Nat}{ci:Ci}(q:PI X c iter (tI g E ci))(hk:a.kind=.function)(r:yO x0 X.N X.env.kindOf a.names own fr N')(i:a.names.lookup x0=some .cell)(j:∀n d,cellsFrom n a.names d=(x0,n)::d)(l:∀h,pushCells h a.names=h.push {cls:=.type "cell",data:=.cell none})(t:X.calm=true)
  (u:∀cl e C s H f,PG (X.X8 a cl x0 e C N' s H f) c (tG g v)) (w:∀cl e C s H f,ke (X.X8 a cl x0 e C N' s H f) m (tB g E0 ct)) (y:∀cl e C s H f,PE (X.X8 a cl x0 e C N' s H f) p (tE g E0 z))
  (hs:∀x,foldedSetIterable iter X.env x=pure x:=by intro _;rfl):PE X (.ListComp p [⟨c,iter,m,0⟩] a B) (tE g E (aS ci own.length fr v ct z)) :=
 XU (AN q hk r i j l t u w y hs) λG H Q h=>YK.of h
end
section
variable{P:Program}{w:World}{g:Gx}{mg:Str->Option Value}{base:Heap}
theorem qN{N:List Str}(sm:WZ g m S H)(r:Rs g H m as j)(l:j.length<=N.length)(h:Out g m S H (done (body (as.map some++List.replicate (N.length - as.length) none) S)) (An g Q) E) :
  tS g (λ_=>E) body {nx:=λ_ n=>Q .WX n,rt:=Q} (L2.start N j) H:=by
 refine⟨m,_,S,sm,lR r l,?_⟩;generalize body (as.map some++List.replicate (N.length - as.length) none) S=o at h
 cases o with
 |bad=>exact h
 |ok fl S1 =>
  cases fl with
  |nx f=>exactλm1 a i d e p=>h m1 a d e .WX R.WX
  |rt b=>exactλm1 a v d e q=>h m1 a d e v q
  |bk f=>exact h.elim
  |ct f=>exact h.elim
 |exc c f S1=>exactλm1 a i t d e p=>h m1 a t d e
theorem xU(h:Out g m S H (Ek n r) (An g Q) E):Out g m S H r (An g Q) E:=by
 cases r with
 |bad=>exact h
 |ok b S1 =>intro m1 d f i v q;have a:Out g m S H (trim n b S1 λS=>.ok b S) (An g Q) E:=h;obtain⟨t,j,e⟩:=wV n b S1;rw[e]at a;obtain⟨l,p⟩:=i.drop j;exact a m1 d (f.trans p) l v q
 |exc c S1 =>intro m1 d u f i;have a:Out g m S H (trim n .WX S1 λS=>.exc c S) (An g Q) E:=h;obtain⟨t,j,e⟩:=wV n .WX S1;rw[e]at a;obtain⟨l,p⟩:=i.drop j;exact a m1 d u (f.trans p) l
theorem dy(h:Out g m S H (pZ a n body as S) (An g Q) E):as.length=a/\Out g m S H (done (body (as.map some++List.replicate (n - as.length) none) S)) (An g Q) E:=by
 unfold pZ at h
 cases q:Nat.beq as.length a with
 |false=>rw[q]at h;exact h.elim
 |true=>rw[q]at h;dsimp only at h;rw[aY]at h;exact⟨Ug q,h⟩
theorem Bm(h:Out g m S H (aF a n body as S) (An g Q) E):Out g m S H (pZ a n body as S) (An g Q) E:=by
 unfold aF at h;unfold pZ
 cases q:Nat.beq as.length a with
 |false=>rw[q]at h;exact h
 |true=>rw[q]at h;dsimp only at h ⊢;rw[aY]at h ⊢;exact xU h
noncomputable abbrev EO(P:Program)(w:World)(g:Gx)(mg:Str->Option Value)(base:Heap)(N:List Str)(a:Str)(st:Stmt)(f:Addr)(k:Nat)(body:Cs):Prop:=∀(c:Value)(A:Around)(outer:List PySem.Env)(s:Shared)(H:Hp)(E:XK),W2 k (A.deeper (envOfC a (aa st) s.heap.objs.size f c))->XH (bG (Xb P w) P w g.K mg base N a (aa st) f c A outer s H E) (aV st) (tS g (λ_=>E) body)
theorem a9{st:Stmt}(F:YH g.K x a st f i)(S:WT N c (aa st))(j:EO P w g mg base N a st f k body):WV P w g.K mg base (Xb P w) (k+1) f i c (Xr g (pZ c.length N.length body)):=by
 have d:c.length<=N.length:=by have:=UI List.length S.pre;rw[Vb]at this;omega
 exact F.ok2 S (λl H Q E ⟨m,S,as,s,r,h⟩=>by rw[r.length];exact(dy h).1) λe A outer s H l Q E n ⟨m,p,as,sm,r,h⟩=>⟨_,j e A outer s H E n,qN sm r (by rw[r.length,(dy h).1];exact d) (dy h).2⟩
theorem wH{st:Stmt}(F:FunD g.K x a st f i T p)(S:WT N c (aa st))(j:EO P w g mg base N a st f k body):WV P w g.K mg base (Xb P w) (k+1) f i c (Xr g (pZ c.length N.length body)):=by
 have d:c.length<=N.length:=by have:=UI List.length S.pre;rw[Vb]at this;omega
 exact F.ok2 S (λl H Q E ⟨m,S,as,s,r,h⟩=>by rw[r.length];exact(dy h).1) λe A outer s H l Q E n ⟨m,q,as,sm,r,h⟩=>⟨_,j e A outer s H E n,qN sm r (by rw[r.length,(dy h).1];exact d) (dy h).2⟩
theorem WV.trim(F:WV P w g.K mg base c k f d e (Xr g (pZ a n body))):WV P w g.K mg base c k f d e (Xr g (aF a n body)) :=
 F.imp λi H Q E ⟨m,S,as,s,r,h⟩=>⟨m,S,as,s,r,Bm h⟩
end
noncomputable def plE:Expr->Bool
 | .Starred ..=>false
 | .Set ..=>false
 |_=>true
noncomputable def ncE:Expr->Bool
 | .ListComp ..=>false
 | .SetComp ..=>false
 | .DictComp ..=>false
 |_=>true
noncomputable def ivE:Expr->Bool
 | .UnaryOp ..=>false
 | .BoolOp ..=>false
 | .IfExp ..=>false
 | .Compare ..=>false
 |_=>true
noncomputable def abE:Expr->Bool
 | .Call ..=>false
 |_=>true
noncomputable def slE:Expr->Bool
 | .Slice ..=>false
 |_=>true
section
theorem aI(h:plE e=true):b5 e=true:=by cases e<;>first|rfl|cases h
theorem pM(h:plE e=true)(x:Value):foldedSetIterable e env x=pure x:=by cases e<;>first|rfl|cases h
theorem iD(h:plE e=true):behindInMarks a e=false:=by cases e<;>first|rfl|cases h
theorem iy(h:ncE e=true):swapsWith e t l env=pure false:=by cases e<;>first|rfl|cases h
theorem JE(h:ivE e=true)(a:Sem Value):isTrue e env a=(do let v <- a;standAt e.pos;holding [v] (truthy v)):=by cases e<;>first|rfl|cases h
theorem kF(h:abE e=true):attributeBase e a env (eval e env)=eval e env:=by cases e<;>first|rfl|cases h
theorem mB(h:slE e=true):kE e:=by intro o i;cases e<;>first|rfl|cases h
theorem dG:∀{es:List Expr},es.all plE=true->(backTo a (starEach es env)).any (·.1)=false
 |[],_=>rfl
 |e::es,h=>by rw[Ud,Tz]at h;rw[aP (aI h.1)];exact dG (es:=es) h.2
end
structure Ctx(X:Cx)(g:Gx)(E:L2.St->XK)(j:Nat):Prop where
 K:X.K=g.K
 hr:W2 (j+1) X.A
 ps:aE (Xb X.prog X.w) X E
 nd:X.N.Nodup
 calm:X.calm=true
theorem Ctx.hs(c:Ctx X g E j):W2 j X.A:=c.hr.mono (Nat.le_succ j)
structure Ts where
 fl:List (Str×Nat)
 cl:List (Str×A)
 tl:List (Str×List (Nat×A))
 bl:List Str
 xl:List (Str×Nat)
 ml:List (Nat×Str×Nat)
 dl:List (Nat×Str)
 hl:List (Str×List Nat)
noncomputable abbrev FnE(P:Program)(w:World)(K:W.Frag)(mg:Str->Option Value)(base:Heap)(g:Gx)(j:Nat)(f:Addr)(F:List A->WU->Res A):Prop:=∃a c,Binds K a c []/\WV P w K mg base (Xb P w) j f a c (Xr g F)
structure Fx(P:Program)(w:World)(K:W.Frag)(mg:Str->Option Value)(base:Heap)(g:Gx)(j:Nat)(call:Nat->List A->WU->Res A)(t:Ts):Prop where
 fn:∀x i,t.fl.lookup x=some i->∃f,mg x=some (.ref f)/\W.keepIn K (.ref f)=true/\FnE P w K mg base g j f (call i)
 con:∀x y,t.cl.lookup x=some y->∃v u,mg x=some u/\RelV v u/\∀H m,R g H m y v
 tab:∀x ks,t.tl.lookup x=some ks->∃a T,mg x=some (.ref a)/\fT g T ks/\dH g.K a T
 bi:∀x,t.bl.contains x=true->mg x=none
 exc:∀x n,t.xl.lookup x=some n->cq K (g.cls n) [.type "ValueError",.type "Exception",.type "BaseException",.type "object"] "ValueError.__new__" none=true/\mg x=some (.ref (g.cls n))
 met:∀k m i,t.ml.contains (k,m,i)=true->ZC g.K (g.tb k)/\∃f,Meth g.K (g.tb k) m f/\FnE P w K mg base g j f (call i)
 han:∀x cs,t.hl.lookup x=some cs->∃C,mg x=some C/\∀c,bF c cs=true->W.exmOne K (.ref (g.cls c)) C=some true
 fld:∀k f,t.dl.contains (k,f)=true->ZC g.K (g.tb k)/\Xm g.K (g.tb k) f
noncomputable abbrev FX(X:Cx)(g:Gx)(j:Nat)(call:Nat->List A->WU->Res A)(t:Ts):Prop:=Fx X.prog X.w X.K X.mg X.base g j call t
noncomputable def ZU(X:Cx)(x:Str):Bool:=match X.env.kindOf x with
 |some .globalImplicit=>!(x==("__debug__":Str))&&!(x==("__name__":Str))
 |_=>false
theorem aG(h:ZU X x=true):Gl X x/\(x==("__debug__":Str))=false/\x≠"__name__":=by
 unfold ZU at h;split at h
 ·rename_i q;rw[Tz,V3,V3]at h;exact⟨q,h.1,λz=>by rw[z,V6]at h;cases h.2⟩
 ·cases h
noncomputable def Iz(X:Cx)(i:Nat)(x:Str):Bool:=(match X.N[i]? with|some y=>y==x|none=>false)&&(match X.env.scope.names.lookup x with|some .local=>true|some .cell=>true|some .free=>true|_=>false)&&!(x==("__debug__":Str))&&!(x==("__classdict__":Str))
noncomputable def Ao(X:Cx)(i:Nat)(x:Str):Bool:=(match X.N[i]? with|some y=>y==x|none=>false)&&(match X.env.scope.names.lookup x with|some .local=>true|some .cell=>X.fn x|_=>false)
theorem D2(h:Iz X i x=true):X.N[i]?=some x/\Vis X.env.scope x/\(x==("__debug__":Str))=false/\(x==("__classdict__":Str))=false:=by
 unfold Iz at h;simp only[Tz,V3]at h;obtain⟨⟨⟨a,c⟩,d⟩,e⟩:=h;refine⟨?_,?_,d,e⟩
 ·split at a
  ·rename_i y q;rw[q,eq_of_beq a]
  ·cases a
 ·unfold Vis;split at c<;>first | (rename_i q;simp[q];done)|cases c
theorem cf(h:Ao X i x=true):X.N[i]?=some x/\L2.Loc X.env.scope x/\(X.fn x=true\/X.env.scope.names.lookup x=some .local):=by
 unfold Ao at h;rw[Tz]at h;obtain⟨a,c⟩:=h;refine⟨?_,?_⟩
 ·split at a
  ·rename_i y q;rw[q,eq_of_beq a]
  ·cases a
 ·unfold L2.Loc;split at c
  ·rename_i q;exact⟨.inl q,.inr q⟩
  ·rename_i q;exact⟨.inr q,.inl c⟩
  ·cases c
structure QE(X:Cx)(g:Gx)(E:L2.St->XK)(e:Expr)(c:Ce):Prop where
 h:PE X e (tE g E c)
 pl:plE e=true
structure QT(X:Cx)(g:Gx)(E:L2.St->XK)(e:Expr)(c:Ct):Prop where
 h:PT X e (tB g E c)
structure QW(X:Cx)(g:Gx)(E:L2.St->XK)(e:Expr)(c:Ct):Prop where
 h:PW X e (tB g E c)
structure QC(X:Cx)(g:Gx)(E:L2.St->XK)(e:Expr)(c:Ce):Prop where
 h:PE X e (tE g E c)
 t:PT X e (tB g E (Xc c))
 pl:plE e=true
structure QA(X:Cx)(g:Gx)(E:L2.St->XK)(es:List Expr)(c:Ca):Prop where
 h:PA X es (Z6 g E c)
 pl:es.all plE=true
structure QS(X:Cx)(g:Gx)(E:L2.St->XK)(e:Stmt)(c:Cs):Prop where
 h:PS X e (tS g E c)
structure QL(X:Cx)(g:Gx)(E:L2.St->XK)(e:List Stmt)(c:Cs):Prop where
 h:XH X e (tS g E c)
structure QG(X:Cx)(g:Gx)(e:Expr)(c:YS):Prop where
 h:PG X e (tG g c)
 pl:plE e=true
structure QH(X:Cx)(g:Gx)(es:List Expr)(cs:List YS):Prop where
 h:PGs X es (tGs g cs)
 n:es.length=cs.length
 pl:es.all plE=true
structure QI(X:Cx)(g:Gx)(E:L2.St->XK)(tg e:Expr)(c:Ci):Prop where
 h:PI X tg e (tI g E c)
 pl:plE e=true
structure QF(X:Cx)(g:Gx)(E:L2.St->XK)(es:List Expr)(c:Ct):Prop where
 h:ke X es (tB g E c)
section
variable{X:Cx}{g:Gx}{E:L2.St->XK}{j:Nat}{call:Nat->List A->WU->Res A}{t:Ts}{a b tgt:Expr}{es:List Expr}{ca cb:Ce}{cs:Ca}{Z7:List YS}{p pos:Pos}{x y:Str}{i n k:Nat}
theorem w_v(h:Iz X i x=true:=by kernel_rfl):QE X g E (.Name x pos) (cV i):=let⟨c,d,e,f⟩:=D2 h;⟨q_v c d e f,rfl⟩
theorem LJ{i:Int}{j:Nat}:QE X g E (.Constant (.int i) j pos) (cC (.int i)):=⟨jR,rfl⟩
theorem M8{i:Bool}{j:Nat}:QE X g E (.Constant (.bool i) j pos) (cC (.bl i)):=⟨KA,rfl⟩
theorem LR:QE X g E (.Constant .none j pos) (cC .WX):=⟨KR,rfl⟩
theorem Ma(h:g.ST[n]?=some x:=by kernel_rfl):QE X g E (.Constant (.str x) j pos) (cC (.str n)):=⟨Ex h,rfl⟩
theorem Ly{y:A}(F:FX X g j call t:=by assumption)(h:t.cl.lookup x=some y:=by kernel_rfl)(c:ZU X x=true:=by kernel_rfl):QE X g E (.Name x pos) (cC y) :=
 let⟨_,_,d,e,f⟩:=F.con x y h;⟨A6 (aG c).1 d e f (aG c).2.1,rfl⟩
theorem LQ:QA X g E [] aN:=⟨bY,rfl⟩
theorem ID(c:QE X g E a ca)(d:QA X g E es cs):QA X g E (a::es) (aC ca cs):=⟨aT c.h d.h (aI c.pl),by rw[Ud,c.pl,d.pl];rfl⟩
theorem Md{k}(h:QA X g E es cs):QE X g E (.Tuple es k pos) (ae cs):=⟨Ey h.h,rfl⟩
theorem LN(h:QA X g E es cs):QE X g E (.List es pos) (aM cs):=⟨oi h.h,rfl⟩
theorem vJ(c:XT X (binaryOp d) r)(ok:Y0 g r f)(e:QE X g E a ca)(l:QE X g E b cb):QE X g E (.BinOp a d b pos) (cO f ca cb):=⟨HK c ok e.h l.h,rfl⟩
theorem LP(c:QE X g E a ca):QE X g E (.UnaryOp .USub a pos) (cU yI ca):=⟨MQ BE G5 c.h,rfl⟩
theorem IY(c:QE X g E a ca):QE X g E (.UnaryOp .Not a pos) (cNt ca):=⟨Ia c.h,rfl⟩
theorem IX(c:QE X g E a ca)(d:QE X g E (.BoolOp .And (b::rest) pos) cb):QE X g E (.BoolOp .And (a::b::rest) pos) (cAn ca cb):=⟨HZ c.h d.h,rfl⟩
theorem Mf(c:QE X g E a ca)(d:QE X g E (.BoolOp .Or (b::rest) pos) cb):QE X g E (.BoolOp .Or (a::b::rest) pos) (cOr ca cb):=⟨K2 c.h d.h,rfl⟩
theorem Nv(c:QE X g E a ca):QE X g E (.BoolOp d [a] pos) ca:=⟨Hl c.h,rfl⟩
theorem Nj(d:QT X g E c ct)(e:QE X g E a ca)(f:QE X g E b cb):QE X g E (.IfExp c a b pos) (cIf ct ca cb):=⟨MK d.h e.h f.h,rfl⟩
theorem M9(h:QC X g E (.Compare a c es pos) d):QE X g E (.Compare a c es pos) d:=⟨h.h,h.pl⟩
theorem Nb(h:QC X g E e c):QT X g E e (Xc c):=⟨h.t⟩
theorem Nt(c:QE X g E a ca)(h:ivE a=true:=by rfl)(d:Ctx X g E j:=by assumption):QT X g E a (tV ca):=⟨MP d.K c.h (JE h)⟩
theorem IW(c:QT X g E a ct):QT X g E (.UnaryOp .Not a pos) (Yo ct):=⟨HW c.h⟩
theorem Nu(h:QW X g E (.BoolOp c es pos) ct):QT X g E (.BoolOp c es pos) ct:=⟨PW.pt h.h⟩
theorem Np(c:QT X g E a ct)(d:QW X g E (.BoolOp .Or (b::rest) pos) e):QW X g E (.BoolOp .Or (a::b::rest) pos) (Zb ct e):=⟨MN c.h d.h⟩
theorem LU(c:QT X g E a ct):QW X g E (.BoolOp .Or [a] pos) ct:=⟨pQ c.h⟩
theorem gp(d:XT X (compareOp l) r)(ok:Y0 g r f)(e:QE X g E a ca)(c:QE X g E b cb):QC X g E (.Compare a [l] [b] pos) (cO f ca cb):=⟨KB d ok e.h c.h (iD c.pl),Bc d ok e.h c.h (iD c.pl),rfl⟩
theorem Nc(d:QE X g E a ca)(e:QE X g E b cb)(c:Ctx X g E j:=by assumption):QC X g E (.Compare a [.Eq] [b] pos) (cO oEq ca cb):=gp (c.K▸(Hc c.hr).or (AG c.hr)) Kr d e
theorem Nm(d:QE X g E a ca)(e:QE X g E b cb)(c:Ctx X g E j:=by assumption):QC X g E (.Compare a [.NotEq] [b] pos) (cO Za ca cb):=gp (c.K▸(AI c.hr).or (AJ c.hr)) Ep d e
theorem Nk(d:QE X g E a ca)(e:QE X g E b cb)(c:Ctx X g E j:=by assumption):QC X g E (.Compare a [.In] [b] pos) (cO oIn ca cb):=gp (c.K▸Hd c.hr) Ku d e
theorem LK(c:QE X g E a ca):QC X g E (.Compare a [.Is] [.Constant .none j p] pos) (cU qF ca):=⟨KO c.h,HV c.h,rfl⟩
theorem IS(c:QE X g E a ca):QC X g E (.Compare a [.IsNot] [.Constant .none j p] pos) (cU mG ca):=⟨HJ c.h,DF c.h,rfl⟩
theorem Na(e:QE X g E a ca)(f:QE X g E b cb)(d:QE X g E c l):QC X g E (.Compare a [.LtE,.LtE] [b,c] pos) (cCh ca cb l):=⟨MH e.h f.h d.h (iD d.pl),KZ e.h f.h d.h (iD d.pl),rfl⟩
theorem LH(d:QE X g E a ca)(F:FX X g j call t:=by assumption)(e:Ctx X g E j:=by assumption)(h:t.tl.lookup x=some f:=by kernel_rfl)(c:ZU X x=true:=by kernel_rfl):QC X g E (.Compare a [.In] [.Name x p] pos) (qO f ca) :=
 let⟨_,_,l,m,q⟩:=F.tab x f h;⟨KM m e.K q d.h (aK (aG c).1 l rfl (aG c).2.1) rfl,HU m e.K q d.h (aK (aG c).1 l rfl (aG c).2.1) rfl,rfl⟩
theorem IR(d:QE X g E a ca)(F:FX X g j call t:=by assumption)(e:Ctx X g E j:=by assumption)(h:t.tl.lookup x=some f:=by kernel_rfl)(c:ZU X x=true:=by kernel_rfl):QC X g E (.Compare a [.NotIn] [.Name x p] pos) (qP f ca) :=
 let⟨_,_,l,m,q⟩:=F.tab x f h;⟨HI m e.K q d.h (aK (aG c).1 l rfl (aG c).2.1) rfl,DE m e.K q d.h (aK (aG c).1 l rfl (aG c).2.1) rfl,rfl⟩
theorem LL(e:QE X g E a ca)(hs:slE a=true:=by rfl)(F:FX X g j call t:=by assumption)(f:Ctx X g E j:=by assumption)(h:t.tl.lookup x=some c:=by kernel_rfl)(d:ZU X x=true:=by kernel_rfl):QE X g E (.Subscript (.Name x p) a pos) (xb c ca) :=
 let⟨_,_,l,m,q⟩:=F.tab x c h;⟨KQ m f.K q (aK (aG d).1 l rfl (aG d).2.1) e.h (mB hs),rfl⟩
theorem IG(d:QE X g E a ca)(c:QE X g E b cb)(e:Ctx X g E j:=by assumption):QT X g E (.Compare a [.NotIn] [b] pos) (Xc (cO nX ca cb)):=⟨DD e.hr d.h c.h (iD c.pl)⟩
theorem Nl(c:QE X g E a ca)(d:QE X g E b cb)(hs:slE b=true:=by rfl)(e:Ctx X g E j:=by assumption):QE X g E (.Subscript a b pos) (cO Xe ca cb):=⟨uM (e.K▸gD) lM c.h d.h (mB hs),rfl⟩
theorem IE(c:QE X g E a ca)(d:QE X g E b cb)(hs:slE b=true:=by rfl)(e:Ctx X g E j:=by assumption):QE X g E (.Subscript a b pos) (cO pF ca cb):=⟨Hz e.hr c.h d.h (mB hs),rfl⟩
theorem LY(c:QE X g E a ca)(d:QE X g E b cb)(e:Ctx X g E j:=by assumption):QE X g E (.Subscript a (.Slice none (some b) none p) pos) (cO Bt ca cb):=⟨HQ e.K c.h d.h,rfl⟩
theorem LZ(c:QE X g E a ca)(d:QE X g E b cb)(e:Ctx X g E j:=by assumption):QE X g E (.Subscript a (.Slice (some b) none none p) pos) (cO vw ca cb):=⟨Bb e.K c.h d.h,rfl⟩
theorem L6(d:QE X g E a ca)(e:QE X g E b cb)(f:QE X g E c l)(m:Ctx X g E j:=by assumption):QE X g E (.Subscript a (.Slice (some b) (some c) none p) pos) (cSl ca cb l):=⟨HR m.K d.h e.h f.h,rfl⟩
theorem IB(c:QA X g E (a::es) cs)(F:FX X g j call t:=by assumption)(d:Ctx X g E j:=by assumption)(h:t.fl.lookup x=some i:=by kernel_rfl)(e:ZU X x=true:=by kernel_rfl):QE X g E (.Call (.Name x p) (a::es) [] pos) (af (call i) cs) :=
 have f:=(Tz _ _).mp (Ud▸c.pl);let⟨_,l,m,_,_,q,r⟩:=F.fn x i h;⟨pR r d.hs (aG e).1 l m q d.ps c.h (aG e).2.1 (aP (aI f.1)) (dG f.2),rfl⟩
variable{id:String}
theorem yK(e:bo X (.builtin id) r)(ok:Zs g (λv H Q=>r [v] H Q) u)(f:bootBuiltins x=some (.builtin id))(c:QE X g E a ca)(F:FX X g j call t:=by assumption)(h:t.bl.contains x=true:=by kernel_rfl)(d:ZU X x=true:=by kernel_rfl):QE X g E (.Call (.Name x p) [a] [] pos) (cU u ca) :=
 ⟨MG e ok (aG d).1 (F.bi x h) f c.h (aI c.pl) (aG d).2.2 (aG d).2.1 (aP (aI c.pl)),rfl⟩
theorem BI(e:bo X (.type T) r)(ok:Zs g (λv H Q=>r [v] H Q) u)(f:bootBuiltins x=some (.type T))(c:QE X g E a ca)(F:FX X g j call t:=by assumption)(h:t.bl.contains x=true:=by kernel_rfl)(d:ZU X x=true:=by kernel_rfl):QE X g E (.Call (.Name x p) [a] [] pos) (cU u ca) :=
 ⟨KY e ok (aG d).1 (F.bi x h) f c.h (aI c.pl) (aG d).2.2 (aG d).2.1 (aP (aI c.pl)),rfl⟩
theorem tD(f:bootBuiltins x=some (.type u))(e:tyS k=u)(l:1<=k)(h5:k<=5)(c:QE X g E a ca)(F:FX X g j call t:=by assumption)(m:Ctx X g E j:=by assumption)(h:(t.bl.contains x&&t.bl.contains "isinstance")=true:=by kernel_rfl)(d:ZU X x=true:=by kernel_rfl)(q:ZU X "isinstance"=true:=by kernel_rfl):QE X g E (.Call (.Name "isinstance" p) [a,.Name x r] [] pos) (cU (uIs k) ca):=by rw[Tz]at h;subst e;exact⟨KP l h5 m.K (F.bi _ h.2) (aG q).1 au c.h (pK (aG d).1 (F.bi _ h.1) f rfl (aG d).2.2 (aG d).2.1) (aI c.pl) rfl (aP (aI c.pl)) rfl,rfl⟩
theorem IP{c:Pos}(slot:Slot "list" name id)(e:typeOf (.builtin id)=pure (.type "method_descriptor"))(l:MtR X id r)(ok:MOk g r f)(m:QE X g E a ca)(d:QE X g E b cb)(q:abE a=true:=by rfl)(hl:(c.endLine==pos.line)=true:=by rfl)(u:Ctx X g E j:=by assumption):QE X g E (.Call (.Attribute a name c) [b] [] pos) (cM f ca cb) :=
 ⟨MM slot e l ok u.K m.h d.h (aI d.pl) (kF q) (by rw[aP (aI d.pl)];rfl) hl (aP (aI d.pl)),rfl⟩
theorem LF{c:Pos}(e:QE X g E a ca)(f:QE X g E b cb)(l:abE a=true:=by rfl)(hl:(c.endLine==pos.line)=true:=by rfl)(d:Ctx X g E j:=by assumption):QE X g E (.Call (.Attribute a "index" c) [b] [] pos) (cM Au ca cb):=IP V1 F.type_list_index (d.K▸yb d.hr) GV e f l hl
theorem LV{c:Pos}(d:QE X g E a ca)(e:abE a=true:=by rfl)(hl:(c.endLine==pos.line)=true:=by rfl)(f:Ctx X g E j:=by assumption):QE X g E (.Call (.Attribute a "pop" c) [] [] pos) (cU rR ca):=⟨ML F.slot_list_pop F.type_list_pop GO G6 AZ f.K d.h (kF e) hl,rfl⟩
theorem LA(c:QE X g E o co)(d:abE o=true:=by rfl)(F:FX X g j call t:=by assumption)(e:Ctx X g E j:=by assumption)(h:t.dl.contains (k,f)=true:=by kernel_rfl)(l:g.ST[n]?=some f:=by kernel_rfl):QE X g E (.Attribute o f pos) (b7 k n co) :=
 ⟨KD e.K (F.fld k f h).1 (F.fld k f h).2 l c.h (kF d),rfl⟩
theorem rW:∀{es:List Expr},es.all plE=true->(backTo pos (starEach es env)).all (λx=>!x.1)=true
 |[],_=>rfl
 |e::es,h=>by rw[Ud,Tz]at h;rw[aP (aI h.1)];exact rW (es:=es) h.2
theorem wj{c:Pos}(e:abE o=true)(l:es.all plE=true)(h:es.length<30)(hl:(c.endLine==pos.line)=true):eval (.Call (.Attribute o m c) es [] pos) env=(do
   let d <- eval o env
   standAt c.atName
   let(f,first) <- holding [d] (getMethod d m (do return (<- importBound o env).getD true))
   callWith pos f first (backTo pos (starEach es env)) (backToKw pos (keywordEach [] env))):=by
 show(do let d <- attributeBase o m env (eval o env);standAt c.atName;methodCall o m c pos env d (es.length+0) (backTo pos (starEach es env)) (backToKw pos (keywordEach [] env)))=_
 have few:methodCallForm (es.length+0) (backTo pos (starEach es env)) (backToKw pos (keywordEach [] env))=true:=by unfold methodCallForm;rw[rW l];simp only[WJ];exact U4 h
 rw[kF e];unfold methodCall;rw[few];unfold calleeOf methodCallPos;rw[hl];rfl
theorem IQ{c:Pos}(r:QE X g E o co)(d:QA X g E (a::es) cs)(u:abE o=true:=by rfl)(e:(a::es).length<30:=by decide)(hl:(c.endLine==pos.line)=true:=by rfl)(F:FX X g j call t:=by assumption)(l:Ctx X g E j:=by assumption)(h:t.ml.contains (k,m,i)=true:=by kernel_rfl)(v:g.ST[n]?=some m:=by kernel_rfl):QE X g E (.Call (.Attribute o m c) (a::es) [] pos) (aR k n (call i) co cs):=by have q:=(Tz _ _).mp (Ud▸d.pl);obtain⟨w,f,z,H,I,B,G⟩:=F.met k m i h;exact⟨Ba l.K w z v G l.hs B l.ps r.h d.h (aP (aI q.1)) (dG q.2) (wj u d.pl e hl),rfl⟩
theorem D4{c:Pos}(e:QE X g E o co)(l:abE o=true:=by rfl)(hl:(c.endLine==pos.line)=true:=by rfl)(F:FX X g j call t:=by assumption)(d:Ctx X g E j:=by assumption)(h:t.ml.contains (k,m,i)=true:=by kernel_rfl)(q:g.ST[n]?=some m:=by kernel_rfl):QE X g E (.Call (.Attribute o m c) [] [] pos) (aR k n (call i) co aN):=by obtain⟨r,f,u,z,B,v,w⟩:=F.met k m i h;exact⟨DA d.K r u q w d.hs v d.ps e.h (wj l rfl (by decide) hl),rfl⟩
theorem IF:QE X g E (.Dict [] [] pos) vO:=⟨HA,rfl⟩
theorem LC(c:QE X g E a ca)(d:x.length<=1000:=by decide):QE X g E (.JoinedStr [.Constant (.str x) j p,.FormattedValue a (-1) none e] pos) (BY ca):=⟨KH c.h d,rfl⟩
theorem Nh(c:QE X g E a ca)(d:Ctx X g E j:=by assumption):QI X g E tgt a (iL ca):=⟨Dy d.K c.h,c.pl⟩
theorem Ni(c:QE X g E a ca)(d:Ctx X g E j:=by assumption):QI X g E tgt a (iT ca):=⟨KJ d.K c.h,c.pl⟩
theorem IK(c:QE X g E a ca)(F:FX X g j call t:=by assumption)(h:t.bl.contains "range"=true:=by kernel_rfl)(d:ZU X "range"=true:=by kernel_rfl):QI X g E tgt (.Call (.Name "range" p) [a] [] pos) (zP ca):=⟨HF (aG d).1 (F.bi _ h) c.h (aI c.pl) (aP (aI c.pl)),rfl⟩
theorem IJ(c:QE X g E a ca)(F:FX X g j call t:=by assumption)(d:Ctx X g E j:=by assumption)(h:t.bl.contains "reversed"=true:=by kernel_rfl)(e:ZU X "reversed"=true:=by kernel_rfl):QI X g E tgt (.Call (.Name "reversed" p) [a] [] pos) (zO ca):=⟨HE d.K (aG e).1 (F.bi _ h) c.h (aI c.pl) (aP (aI c.pl)),rfl⟩
theorem IL(c:QE X g E a ca)(F:FX X g j call t:=by assumption)(d:Ctx X g E j:=by assumption)(h:t.bl.contains "reversed"=true:=by kernel_rfl)(e:ZU X "reversed"=true:=by kernel_rfl):QI X g E tgt (.Call (.Name "reversed" p) [a] [] pos) (Fk ca):=⟨HG d.K (aG e).1 (F.bi _ h) c.h (aI c.pl) (aP (aI c.pl)),rfl⟩
theorem IM{k}(c:QE X g E a ca)(d:QE X g E b cb)(F:FX X g j call t:=by assumption)(e:Ctx X g E j:=by assumption)(h:t.bl.contains "zip"=true:=by kernel_rfl)(f:ZU X "zip"=true:=by kernel_rfl):QI X g E (.Tuple es k l) (.Call (.Name "zip" p) [a,b] [] pos) (B9 ca cb):=⟨A7 e.K (aG f).1 (F.bi _ h) c.h d.h (aI c.pl) (aI d.pl) (aP (aI c.pl)) (dG (es:=[b]) (by rw[Ud,d.pl];rfl)),rfl⟩
theorem dc:∀{es:List Expr},es.all plE=true->assignEach es env=es.map λe=>(false,assign e env)
 |[],_=>rfl
 |e::es,h=>by
  rw[Ud,Tz]at h;have:assignEach (e::es) env=(false,assign e env)::assignEach es env:=by have c:=h.1;cases e<;>first|rfl|cases c
  rw[this,dc (es:=es) h.2];rfl
theorem wm:∀{es:List Expr},(es.map λe=>(false,assign e env)).findIdx? (·.1)=none
 |[]=>rfl
 |e::es=>by rw[T9,List.findIdx?_cons];simp[wm (es:=es)]
theorem Nf(h:Ao X i x=true:=by kernel_rfl)(c:X.N.Nodup:=by first|assumption|exact Ctx.nd (by assumption)):QG X g (.Name x pos) (gN i):=⟨mX c (cf h).1 (cf h).2.1 (cf h).2.2,rfl⟩
theorem II:QH X g [] []:=⟨uL,rfl,rfl⟩
theorem D3(d:QG X g a e)(c:QH X g es Z7):QH X g (a::es) (e::Z7):=⟨fS d.h c.h (by rw[dc (by rw[Ud,d.pl,c.pl];rfl),dc c.pl];rfl),by simp[c.n],by rw[Ud,d.pl,c.pl];rfl⟩
theorem Ng{k}(h:QH X g es Z7)(c:Ctx X g E j:=by assumption):QG X g (.Tuple es k pos) (gT Z7):=⟨KI c.K c.calm h.h (by rw[dc h.pl];simp[h.n]) (by rw[dc h.pl];exact wm),rfl⟩
theorem Nn:QL X g E [] Xh:=⟨KS⟩
theorem LS{st:Stmt}(h:QS X g E st c):QL X g E [st] c:=⟨wJ h.h⟩
theorem Nq{st:Stmt}(h:QS X g E st e)(f:QL X g E (c::d) l):QL X g E (st::c::d) (sq e l):=⟨MO h.h f.h⟩
theorem Lz:QS X g E (.Continue pos) sCt:=⟨MI⟩
theorem LW(h:QE X g E a ca):QS X g E (.Return (some a) pos) (ao ca):=⟨Ew h.h⟩
theorem IT:QS X g E (.Return none pos) DN:=⟨HM⟩
theorem Nd(h:QE X g E a ca)(c:ncE a=true:=by rfl):QS X g E (.Expr a pos) (XC ca):=⟨MJ h.h (iy c)⟩
theorem LG(f:QT X g E c ct)(l:QL X g E d m)(q:QL X g E e r):QS X g E (.If c d e pos) (Xg ct m r):=⟨KL f.h l.h q.h⟩
theorem LX(c:QE X g E a ca)(h:Ao X i x=true:=by kernel_rfl)(hs:swapsWith a (some (.Name x p)) pos.line X.env=pure false:=by first|exact iy rfl|rfl)(d:Ctx X g E j:=by assumption):QS X g E (.Assign [.Name x p] a pos) (aH i ca):=⟨KU d.nd (cf h).1 (cf h).2.1 c.h hs (cf h).2.2⟩
theorem LI(c:QE X g E a ca)(h:Ao X i x=true:=by kernel_rfl)(d:Ctx X g E j:=by assumption):QS X g E (.AugAssign (.Name x p) .Add a pos) (yz i ca):=⟨KN d.nd (cf h).1 (cf h).2.1 c.h (cf h).2.2⟩
theorem Me(d:QE X g E a ca)(c:QG X g b e)(f:ncE a=true:=by rfl)(l:swappedStores [b] a X.env=pure none:=by first|rfl|kernel_rfl):QS X g E (.Assign [b] a pos) (cX e ca):=⟨K1 d.h c.h (iy f) l (by rw[dc (es:=[b]) (by rw[Ud,c.pl];rfl)];rfl)⟩
theorem LB(d:QI X g E tgt a ci)(e:QG X g tgt f)(l:QL X g E c m)(q:PassesOwn (model X.prog X.w) X.A X.env X.xe:=by first|exact sr|assumption)(r:Ctx X g E j:=by assumption):QS X g E (.For tgt a c [] pos) (dz ci f m):=⟨KG q r.calm d.h e.h l.h (pM d.pl)⟩
theorem Mg(e:QT X g E c ct)(f:QL X g E d l)(m:PassesOwn (model X.prog X.w) X.A X.env X.xe:=by first|exact sr|assumption):QS X g E (.While c d [] pos) (Bp ct l):=⟨K3 m e.h f.h⟩
theorem IV(c:QE X g E o co)(d:QE X g E e l)(m:ncE e=true:=by rfl)(F:FX X g j call t:=by assumption)(q:Ctx X g E j:=by assumption)(h:t.dl.contains (k,f)=true:=by kernel_rfl)(r:g.ST[n]?=some f:=by kernel_rfl):QS X g E (.Assign [.Attribute o f p] e pos) (gK k n co l):=⟨HP q.K (F.fld k f h).1 (F.fld k f h).2 r c.h d.h (iy m)⟩
theorem IH(c:QE X g E o co)(d:QE X g E a ca)(f:QE X g E e l)(m:ncE e=true:=by rfl)(q:Ctx X g E j:=by assumption):QS X g E (.Assign [.Subscript o a p] e pos) (wQ co ca l):=⟨HB q.hr c.h d.h f.h (iy m)⟩
theorem IU{st:Stmt}:QS X g E st gJ:=⟨HN⟩
theorem D5{E:XK}(c:QA X g (λ_=>E) (a::es) cs)(F:FX X g j call t:=by assumption)(f:Ctx X g (λ_=>E) j:=by assumption)(h:t.xl.lookup x=some n:=by kernel_rfl)(d:ZU X x=true:=by kernel_rfl)(l:Passes (tK X.prog X.w) X E:=by exact vz):QS X g (λ_=>E) (.Raise (some (.Call (.Name x p) (a::es) [] m)) none pos) (br n cs) :=
 have e:=(Tz _ _).mp (Ud▸c.pl)
 ⟨DC PySem.F.excBase_ValueError rfl PySem.F.excBase_ValueError (F.exc x n h).1 l (aG d).1 (F.exc x n h).2 rfl c.h f.calm (aP (aI e.1)) (dG e.2) (aG d).2.1⟩
theorem Mc{r u:Cs}{body c:List Stmt}{cs:List Nat}(z:∀pn xe f,Ctx {X with pn:=pn,xe:=xe} g f j->PassesOwn (model X.prog X.w) X.A X.env xe->QL {X with pn:=pn,xe:=xe} g f body r)(B:∀e,QL (X.hand e) g E0 (d::c) u)(F:FX X g j call t:=by assumption)(l:Ctx X g E j:=by assumption)(h:t.hl.lookup x=some cs:=by kernel_rfl)(v:ZU X x=true:=by kernel_rfl)(m:X.stack=X.env::X.outer:=by rfl)(q:X.env.frame=some X.env.locals:=by rfl):QS X g E (.Try body [.ExceptHandler (some (.Name x p)) none (d::c) M] [] [] pos) (yA r cs u) :=
 let⟨_,G,H⟩:=F.han x cs h;⟨HX (λpn xe f I J=>(z pn xe f ⟨l.K,l.hr,I,l.nd,l.calm⟩ J).h) (aG v).1 G H (λe=>(B e).h) m q (aG v).2.1⟩
noncomputable def tgN:Nat->Expr->List Str
 |_,.Name x _=>[x]
 |n+1,.Tuple es _ _=>es.flatMap (tgN n)
 |_,_=>[]
noncomputable def bN(X:Cx)(tgt:Expr)(fr:List Nat):List Str:=tgN 3 tgt++fr.map λi=>X.N.getD i ""
noncomputable def ndB:List Str->Bool
 |[]=>true
 |x::r=>!r.contains x&&ndB r
theorem Ay:∀{l:List Str},ndB l=true->l.Nodup
 |[],_=>.nil
 |x::r,h=>by unfold ndB at h;rw[Tz,V3]at h;exact Vk.mpr ⟨(λz=>by have c:=h.1;rw[List.contains_iff_mem.mpr z]at c;cases c),Ay h.2⟩
noncomputable def bkB(X:Cx)(d:Scope)(c:List Str)(fr:List Nat)(e:List Str):Bool:=(match d.kind with | .function=>true|_=>false)&&bO X.N X.env.kindOf d.names c fr e&&ndB e
theorem yZ{fr:List Nat}(h:bkB X d c fr e=true):d.kind=.function/\bO X.N X.env.kindOf d.names c fr e=true/\e.Nodup:=by unfold bkB at h;rw[Tz,Tz]at h;refine⟨?_,h.1.2,Ay h.2⟩;have f:=h.1.1;split at f<;>first|assumption|cases f
theorem Ctx.tr(c:Ctx X g E j)(d:aE (Xb X.prog X.w) {X with pn:=pn,xe:=xe} e):Ctx {X with pn:=pn,xe:=xe} g e j:=⟨c.K,c.hr,d,c.nd,c.calm⟩
theorem Ctx.Xl(c:Ctx X g E j){C:Addr}{d:List Str}(h:d.Nodup):Ctx (X.Xl e cl C d s H f) g E0 j:=⟨c.K,c.hr,wu,h,c.calm⟩
noncomputable def Kn(l:List (Str×NameKind)):Bool:=l.all λp=>match p.2 with | .cell=>false|_=>true
theorem Nr:QF X g E [] tT:=⟨HS⟩
theorem Mb(h:QT X g E c ct):QF X g E [c] ct:=⟨sA h.h⟩
theorem IC{ci:Ci}{fr:List Nat}(r:QI X g E tgt a ci)(l:∀cl C s H d,Ctx (X.Xl c cl C (bN X tgt fr) s H d) g E0 j->QG (X.Xl c cl C (bN X tgt fr) s H d) g tgt u/\QF (X.Xl c cl C (bN X tgt fr) s H d) g E0 m ct/\QE (X.Xl c cl C (bN X tgt fr) s H d) g E0 e v)
  (w:(tgN 3 tgt).length=n:=by rfl) (z:Kn c.names=true:=by rfl) (h:bkB X c (tgN 3 tgt) fr (bN X tgt fr)=true:=by kernel_rfl) (f:Ctx X g E j:=by assumption):QE X g E (.ListComp e [⟨tgt,a,m,0⟩] c pos) (aS ci n fr u ct v):=by
 subst w;obtain⟨B,G,q⟩:=yZ h;exact⟨uK r.h B G f.calm (λ_ _ _ _ _=>(l _ _ _ _ _ (f.Xl q)).1.h) (λ_ _ _ _ _=>(l _ _ _ _ _ (f.Xl q)).2.1.h) (λ_ _ _ _ _=>(l _ _ _ _ _ (f.Xl q)).2.2.h) (pM r.pl),rfl⟩
noncomputable def GL(X:Cx)(i:Nat)(x:Str):Bool:=(match X.N[i]? with|some y=>y==x|none=>false)&&(match X.env.scope.names.lookup x with|some .local=>true|_=>false)
theorem wd(h:GL X i x=true):X.N[i]?=some x/\X.env.scope.names.lookup x=some .local:=by
 unfold GL at h;rw[Tz]at h;obtain⟨c,d⟩:=h;refine⟨?_,?_⟩
 ·split at c
  ·rename_i y q;rw[q,eq_of_beq c]
  ·cases c
 ·split at d<;>first|assumption|cases d
theorem yL{ci:Ci}{fr:List Nat}{u:Pos}(v:QI X g E tgt a ci)(m:∀cl C s H l,Ctx (X.Xl c cl C (bN X tgt fr) s H l) g E0 j->QG (X.Xl c cl C (bN X tgt fr) s H l) g tgt w/\QF (X.Xl c cl C (bN X tgt fr) s H l) g E0 d ct/\QE (X.Xl c cl C (bN X tgt fr) s H l) g E0 e z)
  (hl:GL X i x=true:=by kernel_rfl) (q:swapsWith (.ListComp e [⟨tgt,a,d,0⟩] c pos) (some (.Name x p)) u.line X.env=pure true:=by rfl) (B:(tgN 3 tgt).length=n:=by rfl) (G:Kn c.names=true:=by rfl) (h:bkB X c (tgN 3 tgt) fr (bN X tgt fr)=true:=by kernel_rfl) (f:Ctx X g E j:=by assumption):QS X g E (.Assign [.Name x p] (.ListComp e [⟨tgt,a,d,0⟩] c pos) u) (aH i (aS ci n fr w ct z)):=by
 subst B;obtain⟨I,J,r⟩:=yZ h;exact⟨yp v.h I J f.calm (λ_ _ _ _ _=>(m _ _ _ _ _ (f.Xl r)).1.h) (λ_ _ _ _ _=>(m _ _ _ _ _ (f.Xl r)).2.1.h) (λ_ _ _ _ _=>(m _ _ _ _ _ (f.Xl r)).2.2.h) f.nd (wd hl).1 (wd hl).2 q (pM v.pl)⟩
end
section
variable{P:Program}{w:World}{g:Gx}{mg:Str->Option Value}{base:Heap}{k:Nat}
noncomputable abbrev Xo(P:Program)(w:World)(g:Gx)(mg:Str->Option Value)(base:Heap)(N:List Str)(a:Str)(st:Stmt)(f:Addr)(k:Nat)(c:Cs):Prop:=∀d A outer s H E,W2 (k+1) (A.deeper (envOfC a (aa st) s.heap.objs.size f d))->Ctx (bG (Xb P w) P w g.K mg base N a (aa st) f d A outer s H E) g (λ_=>E) k->QL (bG (Xb P w) P w g.K mg base N a (aa st) f d A outer s H E) g (λ_=>E) (aV st) c
theorem Xo.of{st:Stmt}(S:WT N i (aa st))(h:Xo P w g mg base N a st f k c):EO P w g mg base N a st f (k+1) c:=λd A outer s H E e=>(h d A outer s H E e ⟨rfl,e,Passes.s bb,S.nd,rfl⟩).h
end
noncomputable def Yz{α:Type}(Φ:α->Prop):List α->Prop
 |[]=>True
 |p::r=>Φ p/\Yz Φ r
theorem Yz.look:∀{l:List (Str×β)},Yz Φ l->l.lookup x=some y->Φ (x,y)
 |[],_,e=>nomatch e
 | (k,b)::r,h,e=>by
  rw[Uh]at e
  cases q:x==k with
  |true=>rw[q]at e;cases e;rw[eq_of_beq q];exact h.1
  |false=>rw[q]at e;exact Yz.look h.2 e
theorem Yz.has [BEq α][LawfulBEq α]:∀{l:List α},Yz Φ l->l.contains x=true->Φ x
 |[],_,e=>nomatch e
 |k::r,h,e=>by
  rw[List.contains_cons,Bool.or_eq_true]at e;rcases e with e|e
  ·rw[eq_of_beq e];exact h.1
  ·exact Yz.has h.2 e
end EV
namespace My
open PySem L2 EV PyProof.Rows
noncomputable def a7:List (Nat×EV.A):=[(5,.int (.ofNat 9999)),(6,.int (.ofNat 3))]
noncomputable def aL:List (Nat×EV.A):=[(3,.int (.ofNat 2)),(4,.int (.ofNat 2)),(49,.int (.ofNat 2)),(2,.int (.ofNat 2)),(7,.int (.ofNat 3))]
noncomputable def W8:List (Nat×EV.A):=[(26,.int (.ofNat 2)),(25,.int (.ofNat 3)),(29,.int (.ofNat 2))]
noncomputable def a8:List (Nat×EV.A):=[(30,.str 25),(31,.str 25),(6,.str 29)]
noncomputable def bV:List (Nat×EV.A):=[(20,.int (.ofNat 3)),(75,.int (.ofNat 9)),(76,.int (.ofNat 9))]
noncomputable abbrev Oc:EV.A:=.tup [.tup [.str 15,.int (.ofNat 0)],.tup [.str 17,.int (.ofNat 1)],.tup [.str 18,.int (.ofNat 2)],.tup [.str 20,.int (.ofNat 1)],.tup [.str 3,.int (.ofNat 0)],.tup [.str 4,.int (.ofNat 0)],.tup [.str 49,.int (.ofNat 0)],.tup [.str 2,.int (.ofNat 0)],.tup [.str 75,.int (.ofNat 1)],.tup [.str 77,.int (.ofNat 2)],.tup [.str 76,.int (.ofNat 1)],.tup [.str 78,.int (.ofNat 2)],.tup [.str 22,.int (.ofNat 1)],.tup [.str 23,.int (.ofNat 0)],.tup [.str 24,.int (.ofNat 0)],.tup [.str 33,.int (.ofNat 2)],.tup [.str 79,.int (.ofNat 0)]]
noncomputable abbrev O6:EV.A:=.tup [.str 17,.str 18,.str 20,.str 3,.str 4,.str 49,.str 2,.str 22,.str 23,.str 24]
noncomputable abbrev Q1:EV.A:=.tup [.int (.ofNat 10),.int (.ofNat 11)]
noncomputable abbrev Qb:EV.A:=.tup [.int (.ofNat 8),.int (.ofNat 9)]
noncomputable abbrev Rw:EV.A:=.tup [.str 75,.str 77,.str 76,.str 78,.str 33,.str 79]
noncomputable abbrev Ou:EV.A:=.tup [.int (.ofNat 0),.int (.ofNat 1),.int (.ofNat 2),.int (.ofNat 99),.int (.ofNat 100),.int (.ofNat 9999)]
noncomputable abbrev Og:EV.A:=.cl [.tup [.str 80,.tup [.str 25,.int (.ofNat 0),.int (.ofNat 99)],.tup [.int (.ofNat 1),.tup [.str 30,.int (.ofNat 0)]]],.tup [.str 81,.tup [.str 25,.int (.ofNat 0),.int (.ofNat 9999)],.tup [.int (.ofNat 2),.tup [.str 30,.int (.ofNat 0)],.tup [.str 31,.int (.ofNat 0)]]],.tup [.str 29,.tup [.str 29,.int (.ofNat 0)],.tup [.int (.ofNat 3),.tup [.str 6,.int (.ofNat 0)]]],.tup [.str 3,.tup [.str 3,.tup [.str 26,.int (.ofNat 0)],.tup [.str 26,.int (.ofNat 1)]],.tup [.int (.ofNat 4)]],.tup [.str 4,.tup [.str 4,.tup [.str 26,.int (.ofNat 0)],.tup [.str 26,.int (.ofNat 1)]],.tup [.int (.ofNat 5)]],.tup [.str 49,.tup [.str 49,.tup [.str 26,.int (.ofNat 0)],.tup [.str 26,.int (.ofNat 1)]],.tup [.int (.ofNat 6)]],.tup [.str 2,.tup [.str 2,.tup [.str 26,.int (.ofNat 0)],.tup [.str 26,.int (.ofNat 1)]],.tup [.int (.ofNat 7)]],.tup [.str 22,.tup [.str 3,.tup [.str 26,.int (.ofNat 0)],.tup [.str 25,.int (.ofNat 0),.int (.ofNat 99)]],.tup [.int (.ofNat 12),.tup [.str 30,.int (.ofNat 0)]]]]
noncomputable abbrev ST:List Str:=[("args are a tuple of four numbers":Str),("this is no tree":Str),("less":Str),("add":Str),("sub":Str),("num":Str),("arg":Str),("pick":Str),("cells":Str),("given":Str),("size":Str),("pile":Str),("place":Str),("kept":Str),("ended":Str),("end":Str),("change":Str),("put":Str),("far":Str),("push":Str),("load":Str),("take":Str),("more":Str),("twice":Str),("about":Str),("gap":Str),("hole":Str),("this is no piece":Str),("a set is a list of 1 to 16 pieces with unlike names":Str),("slot":Str),("low":Str),("high":Str),("step":Str),("call":Str),("the pieces do not cover this tree":Str),("ready":Str),("orders":Str),("nothing was laid by this name":Str),("has_piece":Str),("a piece has this name already":Str),("a set has no more than 16 pieces":Str),("no piece has this name":Str),("a set has at least one piece":Str),("a name is a text of 1 to 8 letters a to z":Str),("order":Str),("code":Str),("inc":Str),("both":Str),("twofold":Str),("mul":Str),("fewer":Str),("addmul":Str),("turned":Str),("pair":Str),("extend":Str),("div":Str),("append":Str),("a":Str),("":Str),("A":Str),("abcdefghi":Str),("mid":Str),("drop":Str),("lay":Str),("tree":Str),("run":Str),("broken":Str),("trial":Str),("extra":Str),("set":Str),("refused":Str),("g":Str),("f1":Str),("f":Str),("pieces":Str),("skip":Str),("zero":Str),("jump":Str),("none":Str),("back":Str),("one":Str),("two":Str)]
theorem Jf:ST.Nodup:=by decide +kernel
noncomputable def gA:List EV.A->List EV.A->List EV.A:=bP
noncomputable def uj:List EV.A->List EV.A->List EV.A:=jc (.int (.ofNat 1000))
noncomputable def eY:List EV.A->List EV.A->List EV.A:=bD
noncomputable def kZ(P:Nat->List EV.A->WU->Res EV.A):List EV.A->WU->Res EV.A:=aF 3 3 (ao (cAn (cU (uIs 2) (cV 0)) (cAn (cNt (cU (uIs 1) (cV 0))) (cCh (cV 1) (cV 0) (cV 2)))))
noncomputable def jz(P:Nat->List EV.A->WU->Res EV.A):List EV.A->WU->Res EV.A:=aF 1 1 (ao (cAn (cU (uIs 4) (cV 0)) (cAn (cO oGt (cU bu (cV 0)) (cI 0)) (cU (uIs 3) (cO Xe (cV 0) (cI 0))))))
noncomputable def N2(P:Nat->List EV.A->WU->Res EV.A):List EV.A->WU->Res EV.A:=aF 2 2 (Xg (Yo (tV (af (P 0) (aC (cV 0) (aC (cI 2) (aC (cV 1) aN)))))) (br 1 (aC (BY (cV 1)) aN)) Xh)
noncomputable def jD(P:Nat->List EV.A->WU->Res EV.A):List EV.A->WU->Res EV.A:=aF 2 2 (sq (Xg (Zb (Yo (tV (cU (uIs 4) (cV 0)))) (Xc (cO Za (cU bu (cV 0)) (cI 4)))) (br 3 (aC (cZ 0) aN)) Xh) (Xg (Yo (tV (cU qD (aS (iT (cV 0)) 1 [1] (gN 0) tT (af (P 0) (aC (cV 0) (aC (cI 0) (aC (cO ye (cV 1) (cI 1)) aN)))))))) (br 3 (aC (BY (cO ye (cV 1) (cI 1))) aN)) Xh))
noncomputable def nG(P:Nat->List EV.A->WU->Res EV.A):List EV.A->WU->Res EV.A:=aF 1 2 (sq (Xg (Yo (tV (af (P 1) (aC (cV 0) aN)))) (ao (cC (.bl false))) Xh) (sq (aH 1 (cO Xe (cV 0) (cI 0))) (sq (Xg (Xc (qO a7 (cV 1))) (ao (cAn (cO oEq (cU bu (cV 0)) (cI 2)) (af (P 0) (aC (cO Xe (cV 0) (cI 1)) (aC (cI 0) (aC (xb a7 (cV 1)) aN)))))) Xh) (ao (cAn (qO aL (cV 1)) (cO oEq (cU bu (cV 0)) (cO bL (cI 1) (xb aL (cV 1)))))))))
noncomputable def eW(P:Nat->List EV.A->WU->Res EV.A):List EV.A->WU->Res EV.A:=aF 1 1 (sq (Xg (Xc (qO aL (cO Xe (cV 0) (cI 0)))) (ao (cO vw (cV 0) (cI 1))) Xh) (ao (ae aN)))
noncomputable def nH(P:Nat->List EV.A->WU->Res EV.A):List EV.A->WU->Res EV.A:=aF 1 5 (sq (aH 1 (aM (aC (ae (aC (cV 0) (aC (cI 1) aN))) aN))) (sq (aH 2 (cI 0)) (sq (Bp (tV (cV 1)) (sq (cX (gT [(gN 3),(gN 4)]) (cU rR (cV 1))) (sq (yz 2 (cI 1)) (sq (Xg (Zb (Xc (cO oGt (cV 2) (cI 40))) (Zb (Xc (cO oGt (cV 4) (cI 8))) (Yo (tV (af (P 4) (aC (cV 3) aN)))))) (ao (cC (.bl false))) Xh) (XC (cM cE (cV 1) (aS (iT (af (P 5) (aC (cV 3) aN))) 1 [4] (gN 0) tT (ae (aC (cV 0) (aC (cO bL (cV 1) (cI 1)) aN)))))))))) (ao (cC (.bl true))))))
noncomputable def jF(P:Nat->List EV.A->WU->Res EV.A):List EV.A->WU->Res EV.A:=aF 1 1 (Xg (Yo (tV (af (P 6) (aC (cV 0) aN)))) (br 2 (aC (cZ 1) aN)) Xh)
noncomputable def dX(P:Nat->List EV.A->WU->Res EV.A):List EV.A->WU->Res EV.A:=aF 4 4 (sq (Xg (Xc (cO oEq (cV 0) (cZ 2))) (ao (cIf (Xc (cO oLt (cV 1) (cV 2))) (cI 1) (cI 0))) Xh) (sq (Xg (Xc (cO oEq (cV 0) (cZ 3))) (ao (cO mV (cO bL (cV 1) (cV 2)) (cV 3))) Xh) (sq (Xg (Xc (cO oEq (cV 0) (cZ 4))) (ao (cO mV (cO ye (cV 1) (cV 2)) (cV 3))) Xh) (ao (cO mV (cO AB (cV 1) (cV 2)) (cV 3))))))
noncomputable def la(P:Nat->List EV.A->WU->Res EV.A):List EV.A->WU->Res EV.A:=aF 3 5 (sq (aH 3 (cO Xe (cV 0) (cI 0))) (sq (Xg (Xc (cO oEq (cV 3) (cZ 5))) (ao (cO mV (cO Xe (cV 0) (cI 1)) (cV 2))) Xh) (sq (Xg (Xc (cO oEq (cV 3) (cZ 6))) (ao (cO Xe (cV 1) (cO Xe (cV 0) (cI 1)))) Xh) (sq (aH 4 (af (P 9) (aC (cO Xe (cV 0) (cI 1)) (aC (cV 1) (aC (cV 2) aN))))) (sq (Xg (Xc (cO oEq (cV 3) (cZ 7))) (ao (af (P 9) (aC (cIf (Xc (cO oEq (cV 4) (cI 0))) (cO Xe (cV 0) (cI 3)) (cO Xe (cV 0) (cI 2))) (aC (cV 1) (aC (cV 2) aN))))) Xh) (ao (af (P 8) (aC (cV 3) (aC (cV 4) (aC (af (P 9) (aC (cO Xe (cV 0) (cI 2)) (aC (cV 1) (aC (cV 2) aN)))) (aC (cV 2) aN)))))))))))
noncomputable def qW(P:Nat->List EV.A->WU->Res EV.A):List EV.A->WU->Res EV.A:=aF 1 3 (sq (aH 1 (aM (aC (cV 0) aN))) (sq (dz (iT (af (P 5) (aC (cV 0) aN))) (gN 2) (XC (cM cE (cV 1) (af (P 10) (aC (cV 2) aN))))) (ao (cV 1))))
noncomputable def nE(P:Nat->List EV.A->WU->Res EV.A):List EV.A->WU->Res EV.A:=aF 1 1 (sq (Xg (Zb (Yo (tV (cU (uIs 5) (cV 0)))) (Yo (Xc (cCh (cI 1) (cU bu (cV 0)) (cI 1000))))) (ao (cC (.bl false))) Xh) (ao (cU qD (aS (iL (cV 0)) 1 [] (gN 0) tT (af (P 0) (aC (cV 0) (aC (cI 0) (aC (cI 99) aN))))))))
noncomputable def jE(P:Nat->List EV.A->WU->Res EV.A):List EV.A->WU->Res EV.A:=aF 1 1 (Xg (Yo (tV (af (P 11) (aC (cV 0) aN)))) gJ Xh)
noncomputable def dn(P:Nat->List EV.A->WU->Res EV.A):List EV.A->WU->Res EV.A:=aF 2 5 (sq (Xg (Zb (Xc (cO oGe (cV 1) (cU bu (cV 0)))) (Xc (cO oGe (cO Xe (cV 0) (cV 1)) (cU bu (cC Oc))))) (p7 13 (cV 1)) Xh) (sq (cX (gT [(gN 2),(gN 3)]) (cO Xe (cC Oc) (cO Xe (cV 0) (cV 1)))) (sq (aH 4 (cU nr (cSl (cV 0) (cO bL (cV 1) (cI 1)) (cO bL (cO bL (cV 1) (cI 1)) (cV 3))))) (sq (Xg (Xc (cO oLt (cU bu (cV 4)) (cV 3))) (p7 13 (cV 1)) Xh) (ao (ae (aC (cV 2) (aC (cV 4) aN))))))))
noncomputable def f6(P:Nat->List EV.A->WU->Res EV.A):List EV.A->WU->Res EV.A:=aF 1 3 (sq (aH 1 (cI 0)) (sq (dz (Fk (cV 0)) (gN 2) (aH 1 (cO bL (cO AB (cV 1) (cI 100)) (cV 2)))) (ao (cV 1))))
noncomputable def NK(P:Nat->List EV.A->WU->Res EV.A):List EV.A->WU->Res EV.A:=pZ 5 5 (sq (gK 0 8 (cV 0) (cV 1)) (sq (gK 0 9 (cV 0) (cV 2)) (sq (gK 0 10 (cV 0) (cV 3)) (sq (gK 0 11 (cV 0) (cU qE (cV 4))) (sq (gK 0 12 (cV 0) (cI 0)) (sq (gK 0 13 (cV 0) (aM aN)) (gK 0 14 (cV 0) (cC (.bl false)))))))))
noncomputable def N1(P:Nat->List EV.A->WU->Res EV.A):List EV.A->WU->Res EV.A:=aF 1 1 (sq (Xg (Yo (tV (b7 0 11 (cV 0)))) gJ Xh) (ao (cU rR (b7 0 11 (cV 0)))))
noncomputable def NZ(P:Nat->List EV.A->WU->Res EV.A):List EV.A->WU->Res EV.A:=aF 2 2 (sq (Xg (Xc (cO oEq (cU bu (b7 0 11 (cV 0))) (cI 64))) gJ Xh) (XC (cM eM (b7 0 11 (cV 0)) (cO mV (cV 1) (b7 0 10 (cV 0))))))
noncomputable def N0(P:Nat->List EV.A->WU->Res EV.A):List EV.A->WU->Res EV.A:=aF 1 5 (sq (cX (gT [(gN 1),(gN 2)]) (af (P 13) (aC (b7 0 8 (cV 0)) (aC (b7 0 12 (cV 0)) aN)))) (sq (aH 3 (af (P 14) (aC (cV 2) aN))) (sq (Xg (Xc (cO oGt (cV 3) (D7 bV (cV 1) (cV 3)))) gJ Xh) (sq (aH 4 (cO bL (cO bL (b7 0 12 (cV 0)) (cI 1)) (cU bu (cV 2)))) (sq (Xg (Xc (cO AA (cV 1) (cC Rw))) gJ (Xg (Xc (cO oEq (cV 1) (cZ 15))) gJ (XC (aR 0 16 (P 19) (cV 0) (aC (cV 1) (aC (cV 3) aN)))))) (gK 0 12 (cV 0) (cV 4)))))))
noncomputable def NS(P:Nat->List EV.A->WU->Res EV.A):List EV.A->WU->Res EV.A:=aF 3 5 (sq (Xg (Xc (cO AA (cV 1) (ae (aC (cZ 17) (aC (cZ 18) aN))))) (sq (XC (aR 0 19 (P 17) (cV 0) (aC (cV 2) aN))) DN) Xh) (sq (Xg (Xc (cO oEq (cV 1) (cZ 20))) (sq (XC (aR 0 19 (P 17) (cV 0) (aC (cO Xe (b7 0 9 (cV 0)) (cV 2)) aN))) DN) Xh) (sq (aH 3 (aR 0 21 (P 16) (cV 0) aN)) (Xg (Xc (cO oEq (cV 1) (cZ 22))) (XC (aR 0 19 (P 17) (cV 0) (aC (cO bL (cV 3) (cV 2)) aN))) (Xg (Xc (cO oEq (cV 1) (cZ 23))) (sq (XC (aR 0 19 (P 17) (cV 0) (aC (cV 3) aN))) (XC (aR 0 19 (P 17) (cV 0) (aC (cV 3) aN)))) (Xg (Xc (cO oEq (cV 1) (cZ 24))) (sq (aH 4 (aR 0 21 (P 16) (cV 0) aN)) (sq (XC (aR 0 19 (P 17) (cV 0) (aC (cV 3) aN))) (XC (aR 0 19 (P 17) (cV 0) (aC (cV 4) aN))))) (XC (aR 0 19 (P 17) (cV 0) (aC (af (P 8) (aC (cV 1) (aC (aR 0 21 (P 16) (cV 0) aN) (aC (cV 3) (aC (b7 0 10 (cV 0)) aN))))) aN)))))))))
noncomputable def nK(P:Nat->List EV.A->WU->Res EV.A):List EV.A->WU->Res EV.A:=aF 4 4 (sq (XC (af (P 12) (aC (cV 0) aN))) (sq (XC (zd (P 2) [.int (.ofNat 10000)] (aC (cV 2) aN))) (sq (XC (af (P 3) (aC (cV 1) (aC (cV 2) aN)))) (sq gJ gJ))))
noncomputable def QD(P:Nat->List EV.A->WU->Res EV.A):List EV.A->WU->Res EV.A:=aF 4 6 (sq (aH 4 (af (P 20) (aC (cV 0) (aC (cV 1) (aC (cV 2) (aC (cV 3) aN)))))) (sq gJ gJ))
noncomputable def nF(P:Nat->List EV.A->WU->Res EV.A):List EV.A->WU->Res EV.A:=aF 1 1 (sq (Xg (Zb (Yo (tV (af (P 1) (aC (cV 0) aN)))) (Xc (cO Za (cU bu (cV 0)) (D8 W8 (cO Xe (cV 0) (cI 0)) (.ofNat 0))))) (ao (cC (.bl false))) Xh) (sq (Xg (Yo (tV (af (P 0) (aC (cO Xe (cV 0) (cI 1)) (aC (cI 0) (aC (cI 1) aN)))))) (ao (cC (.bl false))) Xh) (ao (cOr (cO Za (cO Xe (cV 0) (cI 0)) (cZ 25)) (af (P 0) (aC (cO Xe (cV 0) (cI 2)) (aC (cI 0) (aC (cI 9999) aN))))))))
noncomputable def cF(P:Nat->List EV.A->WU->Res EV.A):List EV.A->WU->Res EV.A:=aF 2 2 (sq (Xg (Xc (cO oGt (cV 1) (cI 3))) (ao (cC (.bl false))) Xh) (sq (Xg (tV (af (P 22) (aC (cV 0) aN))) (ao (cC (.bl true))) Xh) (sq (Xg (Zb (Yo (tV (af (P 4) (aC (cV 0) aN)))) (Xc (cO AA (cO Xe (cV 0) (cI 0)) (ae (aC (cZ 6) (aC (cZ 7) aN)))))) (ao (cC (.bl false))) Xh) (ao (cU qD (aS (iT (af (P 5) (aC (cV 0) aN))) 1 [1] (gN 0) tT (af (P 23) (aC (cV 0) (aC (cO bL (cV 1) (cI 1)) aN)))))))))
noncomputable def k8(P:Nat->List EV.A->WU->Res EV.A):List EV.A->WU->Res EV.A:=aF 2 4 (sq (Xg (Xc (cO oEq (cO Xe (cV 0) (cI 0)) (cV 1))) (ao (aM (aC (cV 0) aN))) Xh) (sq (aH 2 (aM aN)) (sq (dz (iT (af (P 5) (aC (cV 0) aN))) (gN 3) (XC (cM cE (cV 2) (af (P 24) (aC (cV 3) (aC (cV 1) aN)))))) (ao (cV 2)))))
noncomputable def fZ(P:Nat->List EV.A->WU->Res EV.A):List EV.A->WU->Res EV.A:=aF 2 3 (sq (aH 2 (aS (iL (af (P 24) (aC (cV 0) (aC (cV 1) aN)))) 1 [] (gN 0) tT (cO Xe (cV 0) (cI 1)))) (ao (cO oEq (cV 2) (cU oK (cU vG (cU bu (cV 2)))))))
noncomputable def hZ(P:Nat->List EV.A->WU->Res EV.A):List EV.A->WU->Res EV.A:=aF 1 1 (sq (Xg (Zb (Yo (tV (af (P 23) (aC (cV 0) (aC (cI 1) aN))))) (Xc (cO oEq (cO Xe (cV 0) (cI 0)) (cZ 26)))) (ao (cC (.bl false))) Xh) (ao (cU qD (aS (EV.iTab W8) 1 [0] (gN 0) tT (af (P 25) (aC (cV 1) (aC (cV 0) aN)))))))
noncomputable def hX(P:Nat->List EV.A->WU->Res EV.A):List EV.A->WU->Res EV.A:=aF 2 2 (sq (Xg (Zb (Yo (tV (af (P 1) (aC (cV 0) aN)))) (Zb (Xc (cO Za (cU bu (cV 0)) (cI 2))) (Xc (qP a8 (cO Xe (cV 0) (cI 0)))))) (ao (cC (.bl false))) Xh) (ao (af (P 0) (aC (cO Xe (cV 0) (cI 1)) (aC (cI 0) (aC (cO ye (cU bu (af (P 24) (aC (cV 1) (aC (xb a8 (cO Xe (cV 0) (cI 0))) aN)))) (cI 1)) aN))))))
noncomputable def nD(P:Nat->List EV.A->WU->Res EV.A):List EV.A->WU->Res EV.A:=aF 2 2 (ao (cOr (af (P 0) (aC (cV 0) (aC (cI 0) (aC (cI 99) aN)))) (af (P 27) (aC (cV 0) (aC (cV 1) aN)))))
noncomputable def cn(P:Nat->List EV.A->WU->Res EV.A):List EV.A->WU->Res EV.A:=aF 2 5 (sq (aH 2 (cI 0)) (sq (Bp (Xc (cO oLt (cV 2) (cU bu (cV 0)))) (sq (Xg (Yo (tV (af (P 0) (aC (cO Xe (cV 0) (cV 2)) (aC (cI 0) (aC (cI 99) aN)))))) (ao (cC (.bl false))) Xh) (sq (yA (cX (gT [(gN 3),(gN 4)]) (af (P 13) (aC (cV 0) (aC (cV 2) aN)))) [13] (ao (cC (.bl false)))) (sq (Xg (Zb (Xc (cO AC (cV 3) (cC O6))) (Yo (tV (cU qD (aS (iT (cV 4)) 1 [1] (gN 0) tT (af (P 28) (aC (cV 0) (aC (cV 1) aN)))))))) (ao (cC (.bl false))) Xh) (yz 2 (cO bL (cI 1) (cU bu (cV 4)))))))) (ao (cC (.bl true)))))
noncomputable def kY(P:Nat->List EV.A->WU->Res EV.A):List EV.A->WU->Res EV.A:=aF 1 4 (sq (Xg (Zb (Yo (tV (cU (uIs 4) (cV 0)))) (Xc (cO Za (cU bu (cV 0)) (cI 3)))) (ao (cC (.bl false))) Xh) (sq (cX (gT [(gN 1),(gN 2),(gN 3)]) (cV 0)) (sq (Xg (Zb (Yo (tV (af (P 66) (aC (cV 1) aN)))) (Zb (Xc (cO oEq (cV 1) (cZ 7))) (Yo (tV (af (P 26) (aC (cV 2) aN)))))) (ao (cC (.bl false))) Xh) (sq (Xg (Zb (Yo (tV (cU (uIs 4) (cV 3)))) (Yo (Xc (cCh (cI 1) (cU bu (cV 3)) (cI 12))))) (ao (cC (.bl false))) Xh) (ao (af (P 29) (aC (cV 3) (aC (cV 2) aN))))))))
noncomputable def ic(P:Nat->List EV.A->WU->Res EV.A):List EV.A->WU->Res EV.A:=aF 1 1 (Xg (Yo (tV (af (P 30) (aC (cV 0) aN)))) (br 7 (aC (cZ 27) aN)) Xh)
noncomputable def qV(P:Nat->List EV.A->WU->Res EV.A):List EV.A->WU->Res EV.A:=aF 1 1 (sq (Xg (Zb (Yo (tV (cU (uIs 5) (cV 0)))) (Yo (Xc (cCh (cI 1) (cU bu (cV 0)) (cI 16))))) (ao (cC (.bl false))) Xh) (sq (Xg (Yo (tV (cU qD (aS (iL (cV 0)) 1 [] (gN 0) tT (af (P 30) (aC (cV 0) aN)))))) (ao (cC (.bl false))) Xh) (ao (cO oEq (cU wY (cU DX (aS (iL (cV 0)) 1 [] (gN 0) tT (cO Xe (cV 0) (cI 0))))) (cU bu (cV 0))))))
noncomputable def k9(P:Nat->List EV.A->WU->Res EV.A):List EV.A->WU->Res EV.A:=aF 1 1 (Xg (Yo (tV (af (P 32) (aC (cV 0) aN)))) (br 8 (aC (cZ 28) aN)) Xh)
noncomputable def dW(P:Nat->List EV.A->WU->Res EV.A):List EV.A->WU->Res EV.A:=aF 2 2 (sq (Xg (Xc (cO oEq (cO Xe (cV 0) (cI 0)) (cZ 25))) (ao (cAn (cO oEq (cO Xe (cV 1) (cI 0)) (cZ 5)) (cO oLe (cO Xe (cV 1) (cI 1)) (cO Xe (cV 0) (cI 2))))) Xh) (ao (cOr (cO oEq (cO Xe (cV 0) (cI 0)) (cZ 26)) (cO oEq (cO Xe (cV 1) (cI 0)) (cZ 6)))))
noncomputable def nI(P:Nat->List EV.A->WU->Res EV.A):List EV.A->WU->Res EV.A:=aF 3 4 (sq (aH 3 (cO Xe (cV 0) (cI 0))) (sq (Xg (Xc (qO W8 (cV 3))) (sq (Xg (Yo (tV (af (P 34) (aC (cV 0) (aC (cV 1) aN))))) (ao (cC (.bl false))) Xh) (sq (XC (cM eM (cO pF (cV 2) (cV 3)) (cIf (Xc (cO oEq (cV 3) (cZ 26))) (cV 1) (cO Xe (cV 1) (cI 1))))) (ao (cC (.bl true))))) Xh) (sq (Xg (Xc (cO Za (cO Xe (cV 1) (cI 0)) (cV 3))) (ao (cC (.bl false))) Xh) (sq (Xg (Xc (cO oEq (cV 3) (cZ 5))) (ao (cO oEq (cO Xe (cV 1) (cI 1)) (cO Xe (cV 0) (cI 1)))) Xh) (ao (cAn (af (P 35) (aC (cO Xe (cV 0) (cI 1)) (aC (cO Xe (cV 1) (cI 1)) (aC (cV 2) aN)))) (af (P 35) (aC (cO Xe (cV 0) (cI 2)) (aC (cO Xe (cV 1) (cI 2)) (aC (cV 2) aN))))))))))
noncomputable def kX(P:Nat->List EV.A->WU->Res EV.A):List EV.A->WU->Res EV.A:=aF 2 3 (sq (aH 2 (Jk [26,25,29] (aC (aM aN) (aC (aM aN) (aC (aM aN) aN))))) (sq (Xg (Yo (tV (af (P 35) (aC (cO Xe (cV 0) (cI 1)) (aC (cV 1) (aC (cV 2) aN)))))) (ao (cC (.WX))) Xh) (ao (ae (aC (cU nr (cO pF (cV 2) (cZ 26))) (aC (cU nr (cO pF (cV 2) (cZ 25))) (aC (cU nr (cO pF (cV 2) (cZ 29))) aN)))))))
noncomputable def fY(P:Nat->List EV.A->WU->Res EV.A):List EV.A->WU->Res EV.A:=aF 3 3 (sq (Xg (tV (cU (uIs 2) (cV 0))) (ao (cV 0)) Xh) (sq (Xg (Xc (cO oEq (cO Xe (cV 0) (cI 0)) (cZ 30))) (ao (cO mV (cO Xe (cV 1) (cO Xe (cV 0) (cI 1))) (cI 100))) Xh) (sq (Xg (Xc (cO oEq (cO Xe (cV 0) (cI 0)) (cZ 31))) (ao (cO yc (cO Xe (cV 1) (cO Xe (cV 0) (cI 1))) (cI 100))) Xh) (ao (cO Xe (cV 2) (cO Xe (cV 0) (cI 1)))))))
noncomputable def dm(P:Nat->List EV.A->WU->Res EV.A):List EV.A->WU->Res EV.A:=aF 2 7 (sq (aH 2 (cO Xe (cV 0) (cI 0))) (sq (cX (gT [(gN 3),(gN 4),(gN 5),(gN 6)]) (cV 1)) (sq (Xg (Xc (cO oEq (cV 2) (cZ 26))) (ao (ae (aC (cZ 5) (aC (cO Xe (cV 3) (cO Xe (cV 0) (cI 1))) aN)))) Xh) (sq (Xg (Xc (cO oEq (cV 2) (cZ 25))) (ao (ae (aC (cZ 5) (aC (cO Xe (cV 4) (cO Xe (cV 0) (cI 1))) aN)))) Xh) (sq (Xg (Xc (cO oEq (cV 2) (cZ 29))) (ao (ae (aC (cZ 6) (aC (cO Xe (cV 5) (cO Xe (cV 0) (cI 1))) aN)))) Xh) (sq (Xg (Xc (cO oEq (cV 2) (cZ 5))) (ao (cV 0)) Xh) (ao (ae (aC (cV 2) (aC (af (P 38) (aC (cO Xe (cV 0) (cI 1)) (aC (cV 1) aN))) (aC (af (P 38) (aC (cO Xe (cV 0) (cI 2)) (aC (cV 1) aN))) aN)))))))))))
noncomputable def vS(P:Nat->List EV.A->WU->Res EV.A):List EV.A->WU->Res EV.A:=aF 3 12 (sq (cX (gT [(gN 3),(gN 4),(gN 5)]) (cV 0)) (sq (cX (gT [(gN 6),(gN 7),(gN 8),(gN 9)]) (cV 1)) (sq (aH 10 (aS (iT (cV 5)) 1 [7,8] (gN 0) tT (af (P 37) (aC (cV 0) (aC (cV 1) (aC (cV 2) aN)))))) (sq (aH 11 (nB 0 (P 15) [] (aC (cV 10) (aC (cV 9) (aC (cV 2) (aC (cO bL (aM (aC (cI 1) aN)) (cU qE (cV 6))) aN)))))) (sq (yA (Bp (Xc (cO oLt (b7 0 12 (cV 11)) (cU bu (cV 10)))) (XC (aR 0 32 (P 18) (cV 11) aN))) [13] (ao (cC (.bl false)))) (ao (cO oEq (b7 0 11 (cV 11)) (aM (aC (cI 1) (aC (af (P 9) (aC (af (P 38) (aC (cV 4) (aC (cV 1) aN))) (aC (cV 9) (aC (cV 2) aN)))) aN))))))))))
noncomputable def nJ(P:Nat->List EV.A->WU->Res EV.A):List EV.A->WU->Res EV.A:=aF 1 3 (sq (aH 1 (aM (aC (ae aN) aN))) (sq (dz (iL (cV 0)) (gN 2) (aH 1 (oS (iL (cV 1)) 2 [2] (gN 0) (iL (cV 2)) (gN 1) (cO bL (cV 0) (ae (aC (cV 1) aN)))))) (ao (cV 1))))
noncomputable def kW(P:Nat->List EV.A->WU->Res EV.A):List EV.A->WU->Res EV.A:=aF 2 2 (ao (af (P 40) (aC (aS (zP (cI 4)) 1 [0,1] (gN 0) tT (cIf (Xc (cO GP (cV 0) (cV 1))) (cU oK (cU vG (cV 2))) (aM (aC (cI 0) aN)))) aN)))
noncomputable def OA(P:Nat->List EV.A->WU->Res EV.A):List EV.A->WU->Res EV.A:=aF 2 11 (sq (XC (af (P 31) (aC (cV 0) aN))) (sq (XC (af (P 2) (aC (cV 1) (aC (cI 5) aN)))) (sq (aH 2 (cO Xe (cV 0) (cI 1))) (sq (aH 3 (af (P 40) (aC (aS (iL (af (P 24) (aC (cV 2) (aC (cZ 26) aN)))) 1 [1] (gN 0) tT (cU oK (cU vG (cV 1)))) aN))) (sq (aH 4 (af (P 40) (aC (aS (iL (af (P 24) (aC (cV 2) (aC (cZ 25) aN)))) 1 [] (gN 0) tT (aS (iT (cC Ou)) 1 [0] (gN 0) (Xc (cO oLe (cV 0) (cO Xe (cV 1) (cI 2)))) (cV 0))) aN))) (sq (aH 5 (af (P 40) (aC (aS (iL (af (P 24) (aC (cV 2) (aC (cZ 29) aN)))) 1 [] (gN 0) tT (cU oK (cU vG (cI 4)))) aN))) (sq (dz (iL (cV 3)) (gN 6) (dz (iL (cV 4)) (gN 7) (dz (iL (cV 5)) (gN 8) (dz (iL (af (P 41) (aC (cV 8) (aC (cV 1) aN)))) (gN 9) (sq (aH 10 (ae (aC (cV 6) (aC (cV 7) (aC (cV 8) (aC (cV 9) aN)))))) (Xg (Yo (tV (af (P 39) (aC (cV 0) (aC (cV 10) (aC (cV 1) aN)))))) (ao (cV 10)) Xh)))))) (ao (cC (.WX))))))))))
noncomputable def jA(P:Nat->List EV.A->WU->Res EV.A):List EV.A->WU->Res EV.A:=aF 2 4 (sq (cX (gT [(gN 2),(gN 3)]) (cV 1)) (sq (Xg (Xc (cO oLe (cV 0) (cI 9))) (ao (aM (aC (cV 2) (aC (cV 0) aN)))) Xh) (ao (aM (aC (cV 3) (aC (cO mV (cV 0) (cI 100)) (aC (cO yc (cV 0) (cI 100)) aN)))))))
noncomputable def dU(P:Nat->List EV.A->WU->Res EV.A):List EV.A->WU->Res EV.A:=aF 2 4 (sq (aH 2 (af (P 43) (aC (cV 1) (aC (cC Qb) aN)))) (sq (aH 3 (af (P 43) (aC (cO bL (cV 0) (cU bu (cV 2))) (aC (cC Q1) aN)))) (ao (ae (aC (cV 3) (aC (cV 2) aN))))))
noncomputable def nL(P:Nat->List EV.A->WU->Res EV.A):List EV.A->WU->Res EV.A:=aF 2 5 (sq (Xg (Xc (cO oEq (cO Xe (cV 0) (cI 0)) (cZ 7))) (ao (aM (aC (ae (aC (cZ 7) (aC (ae aN) (aC (cO vw (cV 0) (cI 1)) aN)))) aN))) Xh) (sq (aH 2 (aM aN)) (sq (dz (iL (cV 1)) (gN 3) (sq (aH 4 (af (P 36) (aC (cV 3) (aC (cV 0) aN)))) (Xg (Xc (cU mG (cV 4))) (XC (cM eM (cV 2) (ae (aC (cO Xe (cV 3) (cI 0)) (aC (cO Xe (cV 3) (cI 2)) (aC (cO Xe (cV 4) (cI 0)) aN)))))) Xh))) (ao (cV 2)))))
noncomputable def jC(P:Nat->List EV.A->WU->Res EV.A):List EV.A->WU->Res EV.A:=aF 3 6 (sq (aH 3 (cU bu (cV 1))) (sq (Xg (Xc (cO oEq (cV 0) (cZ 7))) (sq (cX (gT [(gN 4),(gN 5)]) (af (P 44) (aC (cO Xe (cV 2) (cI 1)) (aC (cO Xe (cV 2) (cI 2)) aN)))) (aH 3 (cO bL (cU bu (cV 4)) (cU bu (cV 5))))) Xh) (ao (cO bL (cV 3) (cU DY (cV 2))))))
noncomputable def eV(P:Nat->List EV.A->WU->Res EV.A):List EV.A->WU->Res EV.A:=aF 4 10 (sq (Xg (Xc (cO oEq (cO Xe (cV 0) (cI 0)) (cZ 33))) (ao (ae (aC (cI 3) (aC (ae aN) aN)))) Xh) (sq (aH 4 (cC (.WX))) (sq (dz (iL (af (P 45) (aC (cV 0) (aC (cV 1) aN)))) (gT [(gN 5),(gN 6),(gN 7)]) (sq (aH 8 (aS (iT (cV 7)) 1 [2,3] (gN 0) tT (cO Xe (cV 2) (cM Au (cV 1) (cV 0))))) (sq (Xg (tV (cU DW (aS (iL (cV 8)) 1 [] (gN 0) tT (cU qF (cV 0))))) sCt Xh) (sq (aH 9 (af (P 46) (aC (cV 5) (aC (cV 6) (aC (aS (iL (cV 8)) 1 [] (gN 0) tT (cO Xe (cV 0) (cI 0))) aN))))) (Xg (Zb (Xc (cU qF (cV 4))) (Xc (cO oLt (cV 9) (cO Xe (cV 4) (cI 0))))) (aH 4 (ae (aC (cV 9) (aC (ae (aC (cV 5) (aC (cU nr (aS (iL (cV 8)) 1 [] (gN 0) tT (cO Xe (cV 0) (cI 1)))) aN))) aN)))) Xh))))) (ao (cV 4)))))
noncomputable def dS(P:Nat->List EV.A->WU->Res EV.A):List EV.A->WU->Res EV.A:=aF 2 5 (sq (aH 2 (aM aN)) (sq (aH 3 (aM aN)) (sq (dz (zO (af (P 10) (aC (cV 0) aN))) (gN 4) (sq (XC (cM eM (cV 3) (af (P 47) (aC (cV 4) (aC (cV 1) (aC (cV 2) (aC (cV 3) aN))))))) (XC (cM eM (cV 2) (cV 4))))) (sq (Xg (Xc (cU qF (cO Xe (cV 3) (cU yI (cI 1))))) (br 9 (aC (cZ 34) aN)) Xh) (ao (cO Xe (cV 3) (cU yI (cI 1))))))))
noncomputable def jB(P:Nat->List EV.A->WU->Res EV.A):List EV.A->WU->Res EV.A:=aF 4 9 (sq (Lh [(gN 4),(gN 5),(gN 6)] (aS (B9 (cO vw (cV 0) (cI 1)) (cO Xe (cV 2) (cI 1))) 2 [1,3] (gT [(gN 0),(gN 1)]) tT (af (P 51) (aC (cV 0) (aC (cV 2) (aC (cV 1) (aC (cV 3) aN))))))) (sq (cX (gT [(gN 7),(gN 8)]) (af (P 44) (aC (cU bu (cV 5)) (aC (cU bu (cV 6)) aN)))) (ao (cO bL (cO bL (cO bL (cO bL (cV 4) (cV 7)) (cV 5)) (cV 8)) (cV 6)))))
noncomputable def ib(P:Nat->List EV.A->WU->Res EV.A):List EV.A->WU->Res EV.A:=aF 4 13 (sq (cX (gT [(gN 4),(gN 5)]) (cV 2)) (sq (aH 6 (cO Xe (aS (iL (cV 1)) 1 [4] (gN 0) (Xc (cO oEq (cO Xe (cV 0) (cI 0)) (cV 1))) (cV 0)) (cI 0))) (sq (cX (gT [(gN 7),(gN 8),(gN 9)]) (af (P 36) (aC (cV 6) (aC (cV 0) aN)))) (sq (aH 10 (aM aN)) (sq (dz (B9 (cV 7) (cV 5)) (gT [(gN 11),(gN 12)]) (XC (cM cE (cV 10) (af (P 51) (aC (cV 11) (aC (cV 1) (aC (cV 12) (aC (cV 3) aN)))))))) (ao (cO bL (cV 10) (aS (iT (cO Xe (cV 6) (cI 2))) 1 [8,9] (gN 0) tT (af (P 37) (aC (cV 0) (aC (cV 1) (aC (cV 2) aN))))))))))))
noncomputable def ia(P:Nat->List EV.A->WU->Res EV.A):List EV.A->WU->Res EV.A:=aF 4 5 (sq (Xg (Xc (cO oEq (cO Xe (cV 0) (cI 0)) (cZ 33))) (sq (aH 4 (cO Xe (cV 3) (cO Xe (cV 0) (cI 1)))) (ao (aM (aC (cI 15) (aC (cO mV (cV 4) (cI 100)) (aC (cO yc (cV 4) (cI 100)) aN)))))) Xh) (sq (Xg (Xc (cO oEq (cO Xe (cV 0) (cI 0)) (cZ 7))) (ao (af (P 49) (aC (cV 0) (aC (cV 1) (aC (cV 2) (aC (cV 3) aN)))))) Xh) (ao (af (P 50) (aC (cV 0) (aC (cV 1) (aC (cV 2) (aC (cV 3) aN))))))))
noncomputable def nC(P:Nat->List EV.A->WU->Res EV.A):List EV.A->WU->Res EV.A:=aF 2 4 (sq (cX (gT [(gN 2),(gN 3)]) (af (P 48) (aC (cV 0) (aC (cV 1) aN)))) (ao (cO bL (af (P 51) (aC (cV 0) (aC (cV 1) (aC (cV 3) (aC (aM aN) aN))))) (aM (aC (cI 0) aN)))))
noncomputable def Eb(P:Nat->List EV.A->WU->Res EV.A):List EV.A->WU->Res EV.A:=aF 2 2 (sq (XC (af (P 7) (aC (cV 0) aN))) (sq (XC (af (P 33) (aC (cV 1) aN))) (ao (af (P 52) (aC (cV 0) (aC (cV 1) aN))))))
noncomputable def NF(P:Nat->List EV.A->WU->Res EV.A):List EV.A->WU->Res EV.A:=pZ 2 2 (sq (Xg (Xc (cU qF (cV 1))) (aH 1 (cU qE (cC Og))) Xh) (sq (XC (af (P 33) (aC (cV 1) aN))) (sq (gK 1 35 (cV 0) (cU qE (cV 1))) (gK 1 36 (cV 0) vO))))
noncomputable def NT(P:Nat->List EV.A->WU->Res EV.A):List EV.A->WU->Res EV.A:=aF 2 2 (ao (cAn (af (P 66) (aC (cV 1) aN)) (cO oIn (cV 1) (aS (iL (b7 1 35 (cV 0))) 1 [] (gN 0) tT (cO Xe (cV 0) (cI 0))))))
noncomputable def Oh(P:Nat->List EV.A->WU->Res EV.A):List EV.A->WU->Res EV.A:=aF 2 2 (sq (Xg (Zb (Yo (tV (af (P 66) (aC (cV 1) aN)))) (Xc (cO nX (cV 1) (b7 1 36 (cV 0))))) (br 11 (aC (cZ 37) aN)) Xh) (ao (cO pF (b7 1 36 (cV 0)) (cV 1))))
noncomputable def Oz(P:Nat->List EV.A->WU->Res EV.A):List EV.A->WU->Res EV.A:=aF 2 3 (sq (XC (af (P 31) (aC (cV 1) aN))) (sq (Xg (tV (aR 1 38 (P 55) (cV 0) (aC (cO Xe (cV 1) (cI 0)) aN))) (br 12 (aC (cZ 39) aN)) Xh) (sq (Xg (Xc (cO oEq (cU bu (b7 1 35 (cV 0))) (cI 16))) (br 8 (aC (cZ 40) aN)) Xh) (sq (aH 2 (tR (P 42) gA (aC (cV 1) aN) (aC (cI 3) aN))) (sq (Xg (Xc (cU mG (cV 2))) gJ Xh) (XC (cM eM (b7 1 35 (cV 0)) (cV 1))))))))
noncomputable def Oo(P:Nat->List EV.A->WU->Res EV.A):List EV.A->WU->Res EV.A:=aF 2 2 (sq (Xg (Yo (tV (aR 1 38 (P 55) (cV 0) (aC (cV 1) aN)))) (br 11 (aC (cZ 41) aN)) Xh) (sq (Xg (Xc (cO oEq (cU bu (b7 1 35 (cV 0))) (cI 1))) (br 8 (aC (cZ 42) aN)) Xh) gJ))
noncomputable def N6(P:Nat->List EV.A->WU->Res EV.A):List EV.A->WU->Res EV.A:=aF 1 1 (ao (cU qE (b7 1 35 (cV 0))))
noncomputable def Oy(P:Nat->List EV.A->WU->Res EV.A):List EV.A->WU->Res EV.A:=aF 3 4 (sq (Xg (Yo (tV (af (P 66) (aC (cV 1) aN)))) (br 11 (aC (cZ 43) aN)) Xh) (sq (aH 3 (af (P 53) (aC (cV 2) (aC (b7 1 35 (cV 0)) aN)))) (sq (wQ (b7 1 36 (cV 0)) (cV 1) (ae (aC (cV 2) (aC (cU nr (cV 3)) aN)))) (ao (cV 3)))))
noncomputable def Od(P:Nat->List EV.A->WU->Res EV.A):List EV.A->WU->Res EV.A:=aF 2 2 (ao (cU qE (cO Xe (aR 1 44 (P 56) (cV 0) (aC (cV 1) aN)) (cI 1))))
noncomputable def Oq(P:Nat->List EV.A->WU->Res EV.A):List EV.A->WU->Res EV.A:=aF 2 2 (ao (cO Xe (aR 1 44 (P 56) (cV 0) (aC (cV 1) aN)) (cI 0)))
noncomputable def Om(P:Nat->List EV.A->WU->Res EV.A):List EV.A->WU->Res EV.A:=aF 4 4 (ao (tR (P 21) uj (aC (aR 1 45 (P 61) (cV 0) (aC (cV 1) aN)) (aC (cV 2) aN)) (aC (cV 3) aN)))
noncomputable def NM(P:Nat->List EV.A->WU->Res EV.A):List EV.A->WU->Res EV.A:=aF 1 1 (ao (cU wX (b7 1 36 (cV 0))))
noncomputable def fX(P:Nat->List EV.A->WU->Res EV.A):List EV.A->WU->Res EV.A:=aF 0 4 (sq (cX (gT [(gN 0),(gN 1),(gN 2)]) (ae (aC (ae (aC (cZ 26) (aC (cI 0) aN))) (aC (ae (aC (cZ 26) (aC (cI 1) aN))) (aC (ae (aC (cZ 25) (aC (cI 0) (aC (cI 99) aN)))) aN))))) (sq (aH 3 (aM (aC (ae (aC (cZ 46) (aC (ae (aC (cZ 3) (aC (cV 0) (aC (ae (aC (cZ 5) (aC (cI 1) aN))) aN)))) (aC (ae (aC (cI 12) (aC (cI 1) aN))) aN)))) aN))) (sq (XC (cM eM (cV 3) (ae (aC (cZ 47) (aC (ae (aC (cZ 3) (aC (ae (aC (cZ 29) (aC (cI 0) aN))) (aC (ae (aC (cZ 29) (aC (cI 1) aN))) aN)))) (aC (ae (aC (cI 3) (aC (ae (aC (cZ 6) (aC (cI 0) aN))) (aC (cI 3) (aC (ae (aC (cZ 6) (aC (cI 1) aN))) (aC (cI 4) aN)))))) aN)))))) (sq (XC (cM eM (cV 3) (ae (aC (cZ 48) (aC (ae (aC (cZ 49) (aC (cV 0) (aC (ae (aC (cZ 5) (aC (cI 2) aN))) aN)))) (aC (ae (aC (cI 13) (aC (cI 4) aN))) aN)))))) (sq (XC (cM eM (cV 3) (ae (aC (cZ 50) (aC (ae (aC (cZ 4) (aC (cV 0) (aC (cV 2) aN)))) (aC (ae (aC (cI 1) (aC (ae (aC (cZ 30) (aC (cI 0) aN))) (aC (cI 5) aN)))) aN)))))) (sq (XC (cM eM (cV 3) (ae (aC (cZ 51) (aC (ae (aC (cZ 3) (aC (ae (aC (cZ 49) (aC (cV 0) (aC (cV 1) aN)))) (aC (cV 2) aN)))) (aC (ae (aC (cI 6) (aC (cI 12) (aC (ae (aC (cZ 30) (aC (cI 0) aN))) aN)))) aN)))))) (sq (XC (cM eM (cV 3) (ae (aC (cZ 52) (aC (ae (aC (cZ 2) (aC (cV 2) (aC (cV 0) aN)))) (aC (ae (aC (cI 1) (aC (ae (aC (cZ 30) (aC (cI 0) aN))) (aC (cI 14) (aC (cI 7) aN))))) aN)))))) (sq (XC (cM eM (cV 3) (ae (aC (cZ 18) (aC (ae (aC (cZ 3) (aC (cV 0) (aC (ae (aC (cZ 25) (aC (cI 0) (aC (cI 9999) aN)))) aN)))) (aC (ae (aC (cI 2) (aC (ae (aC (cZ 30) (aC (cI 0) aN))) (aC (ae (aC (cZ 31) (aC (cI 0) aN))) (aC (cI 4) aN))))) aN)))))) (sq (XC (cM eM (cV 3) (ae (aC (cZ 53) (aC (ae (aC (cZ 4) (aC (ae (aC (cZ 25) (aC (cI 0) (aC (cI 99) aN)))) (aC (ae (aC (cZ 25) (aC (cI 1) (aC (cI 99) aN)))) aN)))) (aC (ae (aC (cI 1) (aC (ae (aC (cZ 30) (aC (cI 0) aN))) (aC (cI 1) (aC (ae (aC (cZ 30) (aC (cI 1) aN))) (aC (cI 5) aN)))))) aN)))))) (ao (cV 3)))))))))))
noncomputable def nms:List Nat:=[2,3,4,5,6,7,8,9,10,11,12,13,14,15,16,17,18,19,20,21,22,23,24,25,26,29,30,31,32,33,35,36,44,45,46,47,48,49,50,51,52,53,54,55,56,57,61,62,63,64,65,66,67,68,69,70,71,73,74,75,76,77,78,79,80,81]
noncomputable def jh(as:List EV.A)(S:WU):Res EV.A:=match as with
 |[.str n]=>bA (some (bF n nms)) S
 |[a]=>match Zx 20 a with
  |true=>bA (some false) S
  |false=>.bad
 |_=>.bad
noncomputable def fw(as:List EV.A)(S:WU):Res EV.A:=match as with
 |[.X5,.ref i,.ref j]=>match look i S.cs with
  |some .Zq=>match Z3 S j with
   |some (x::a)=>match few 900 (x::a)with
    |true=>.ok .any S
    |false=>.bad
   |_=>.bad
  |_=>.bad
 |_=>.bad
noncomputable def dsp(P:Nat->List EV.A->WU->Res EV.A)(f:Nat):List EV.A->WU->Res EV.A:=match f with
 |0=>kZ P
 |1=>jz P
 |2=>N2 P
 |3=>jD P
 |4=>nG P
 |5=>eW P
 |6=>nH P
 |7=>jF P
 |8=>dX P
 |9=>la P
 |10=>qW P
 |11=>nE P
 |12=>jE P
 |13=>dn P
 |14=>f6 P
 |15=>NK P
 |16=>N1 P
 |17=>NZ P
 |18=>N0 P
 |19=>NS P
 |20=>nK P
 |21=>QD P
 |22=>nF P
 |23=>cF P
 |24=>k8 P
 |25=>fZ P
 |26=>hZ P
 |27=>hX P
 |28=>nD P
 |29=>cn P
 |30=>kY P
 |31=>ic P
 |32=>qV P
 |33=>k9 P
 |34=>dW P
 |35=>nI P
 |36=>kX P
 |37=>fY P
 |38=>dm P
 |39=>vS P
 |40=>nJ P
 |41=>kW P
 |42=>OA P
 |43=>jA P
 |44=>dU P
 |45=>nL P
 |46=>jC P
 |47=>eV P
 |48=>dS P
 |49=>jB P
 |50=>ib P
 |51=>ia P
 |52=>nC P
 |53=>Eb P
 |54=>NF P
 |55=>NT P
 |56=>Oh P
 |57=>Oz P
 |58=>Oo P
 |59=>N6 P
 |60=>Oy P
 |61=>Od P
 |62=>Oq P
 |63=>Om P
 |64=>NM P
 |65=>fX P
 |66=>jh
 |67=>fw
 |_=>λ_ _=>.bad
noncomputable def cN:Nat->Nat->List EV.A->WU->Res EV.A
 |0,_=>λ_ _=>.bad
 |n+1,f=>dsp (cN n) f
section
variable{P:Program}{w:World}{K:W.Frag}{mg:Str->Option Value}{base:Heap}{n:Nat}
noncomputable def Mn(T:Txt P w K mg):Nat->Addr
 |0=>T.NH
 |1=>T.Oa
 |2=>T.Ob
 |3=>T.N8
 |4=>T.Pe
 |5=>T.O1
 |6=>T.Q4
 |7=>T.NX
 |8=>T.Os
 |9=>T.NP
 |10=>T.O0
 |11=>T.N9
 |12=>T.Ot
 |13=>T.Ol
 |14=>T.NR
 |_=>0
noncomputable def tbF(T:Txt P w K mg):Nat->Addr
 |0=>T.NO
 |_=>T.Oi
noncomputable abbrev gx(T:Txt P w K mg):Gx:=⟨K,ST,Jf,Mn T,tbF T⟩
theorem uW(m:List Addr)(H:Hp):Rs (gx T) H m [] []:=.nil
theorem Ik(m:List Addr)(H:Hp):Rs (gx T) H m [.WX] [.WX]:=.cons R.WX .nil
theorem DM(m:List Addr)(H:Hp):Rs (gx T) H m [.int (.ofNat 10000)] [.int 10000]:=.cons (R.int _) .nil
theorem BS:∀p∈TTO,∃j,p.2=.flat (.int j):=λp a=>by simp only[TTO,T3,Uu,Vu]at a;rcases a with rfl|rfl|rfl<;>exact⟨_,rfl⟩
theorem EX(h:Rs (gx T) H m as c)(k:Rs (gx T) H m bs e)(d:Rs (gx T) H m f g):Rs (gx T) H m (if as.length=a/\bs.length=b then as++bs++f else []) (if c.length=a/\e.length=b then c++e++g else []):=by
 rw[h.length,k.length];split
 ·exact(h.append k).append d
 ·exact .nil
theorem Ef(as bs:List α):bP as bs=if as.length=1/\bs.length=1 then as++bs++[]else []:=by
 unfold bP;split
 ·rfl
 ·rename_i h;rw[TQ];rintro⟨d,e⟩;obtain⟨a,rfl⟩:=pq d;obtain⟨c,rfl⟩:=pq e;exact h _ _ rfl rfl
theorem Eh(as bs:List α):bD as bs=if as.length=3/\bs.length=1 then as++bs++[]else []:=by
 unfold bD;split
 ·rfl
 ·rename_i h;rw[TQ];rintro⟨e,f⟩;obtain⟨a,b,d,rfl⟩:=GM e;obtain⟨c,rfl⟩:=pq f;exact h _ _ _ _ rfl rfl
theorem Eg(z:α)(as bs:List α):jc z as bs=if as.length=2/\bs.length=1 then as++bs++[z]else []:=by
 unfold jc;split
 ·rfl
 ·rename_i h;rw[TQ];rintro⟨d,e⟩;obtain⟨a,b,rfl⟩:=mU d;obtain⟨c,rfl⟩:=pq e;exact h _ _ _ rfl rfl
theorem uS(h:Rs (gx T) H m as a)(k:Rs (gx T) H m bs c):Rs (gx T) H m (gA as bs) (bP a c):=by unfold gA;rw[Ef,Ef];exact EX h k .nil
theorem sJ(h:Rs (gx T) H m as a)(k:Rs (gx T) H m bs c):Rs (gx T) H m (eY as bs) (bD a c):=by unfold eY;rw[Eh,Eh];exact EX h k .nil
theorem Ii(h:Rs (gx T) H m as a)(k:Rs (gx T) H m bs c):Rs (gx T) H m (uj as bs) (vW a c):=by unfold uj vW;rw[Eg,Eg];exact EX h k (.cons (R.int _) .nil)
theorem kC:fT (gx T) TL a7:=tj (show mE ST TL a7=true by decide +kernel) (show jK a7 ST.length=true by decide +kernel)
theorem gO:fT (gx T) TB aL:=tj (show mE ST TB aL=true by decide +kernel) (show jK aL ST.length=true by decide +kernel)
theorem eJ:fT (gx T) TM W8:=tj (show mE ST TM W8=true by decide +kernel) (show jK W8 ST.length=true by decide +kernel)
theorem mF:fT (gx T) TF a8:=tj (show mE ST TF a8=true by decide +kernel) (show jK a8 ST.length=true by decide +kernel)
theorem iY:fT (gx T) TTO bV:=tj (show mE ST TTO bV=true by decide +kernel) (show jK bV ST.length=true by decide +kernel)
theorem kB:Sd (gx T) (W8.map (·.1)) ["hole","gap","slot"]:=.cons rfl (.cons rfl (.cons rfl .nil))
theorem zC(T:Txt P w K mg):∀c,bF c [13]=true->W.exmOne K (.ref ((gx T).cls c)) (.ref T.Ol)=some true:=λc h=>by
 have e:13=c:=by unfold bF at h;cases q:Nat.beq 13 c with|true=>exact Ug q|false=>rw[q]at h;cases h
 subst e;exact T.Rm
theorem uh(T:Txt P w K mg):∀c,bF c [9]=true->W.exmOne K (.ref ((gx T).cls c)) (.ref T.NP)=some true:=λc h=>by
 have e:9=c:=by unfold bF at h;cases q:Nat.beq 9 c with|true=>exact Ug q|false=>rw[q]at h;cases h
 subst e;exact T.Qc
noncomputable def Zc:Ts where
 fl:=[(("is_whole":Str),0),(("is_tagged":Str),1),(("need_size":Str),2),(("need_args":Str),3),(("is_node":Str),4),(("trees_within":Str),5),(("is_tree":Str),6),(("need_tree":Str),7),(("worth_of_both":Str),8),(("reckoned":Str),9),(("walked":Str),10),(("is_code":Str),11),(("need_code":Str),12),(("instruction_at":Str),13),(("number_told":Str),14),(("started":Str),20),(("is_mark":Str),22),(("is_pattern_part":Str),23),(("marks_in":Str),24),(("is_numbered":Str),25),(("is_pattern":Str),26),(("is_filling":Str),27),(("is_cell":Str),28),(("are_instructions":Str),29),(("is_piece":Str),30),(("need_piece":Str),31),(("is_set":Str),32),(("need_set":Str),33),(("may_stand_for":Str),34),(("matches":Str),35),(("found_in":Str),36),(("filled_cell":Str),37),(("filled_pattern":Str),38),(("keeps":Str),39),(("rows_of":Str),40),(("args_for":Str),41),(("jump_over":Str),43),(("jumps_of_pick":Str),44),(("ways_of":Str),45),(("length_by":Str),46),(("best_by_ways":Str),47),(("best_covering":Str),48),(("laid_pick":Str),49),(("laid_piece":Str),50),(("laid_cells":Str),51),(("code_of":Str),52),(("lay":Str),53),(("_law_pieces":Str),65),(("is_name":Str),66),(("_law_pick":Str),67),(("lay_laying":Str),53)]
 cl:=[(("MOST_SIZE":Str),.int (.ofNat 10000)),(("MANY_ARGS":Str),.int (.ofNat 4)),(("LONGEST_NAME":Str),.int (.ofNat 8)),(("MOST_PARTS":Str),.int (.ofNat 40)),(("MOST_DEEP":Str),.int (.ofNat 8)),(("MOST_CELLS":Str),.int (.ofNat 1000)),(("MOST_CELL":Str),.int (.ofNat 99)),(("MOST_PILE":Str),.int (.ofNat 64)),(("MOST_PATTERN_DEEP":Str),.int (.ofNat 3)),(("MOST_GAP":Str),.int (.ofNat 9999)),(("MOST_PIECE_CELLS":Str),.int (.ofNat 12)),(("MOST_PIECES":Str),.int (.ofNat 16)),(("MOST_TRIED_SIZE":Str),.int (.ofNat 5)),(("BENEATH_HOLES":Str),.int (.ofNat 1)),(("MOST_NEAR":Str),.int (.ofNat 9)),(("CALL_CELLS":Str),.int (.ofNat 3)),(("END":Str),.int (.ofNat 0)),(("CALL":Str),.int (.ofNat 15)),(("TRIED_SIZE":Str),.int (.ofNat 3)),(("INSTRUCTIONS":Str),Oc),(("STRAIGHT":Str),O6),(("AHEAD":Str),Q1),(("BEHIND":Str),Qb),(("WAYS":Str),Rw),(("TRIED_NUMS":Str),Ou),(("BASIC":Str),Og)]
 tl:=[(("MOST_IN_LEAF":Str),a7),(("TREES_IN_BRANCH":Str),aL),(("MARK_LENGTHS":Str),W8),(("FILLED_FROM":Str),a8),(("MOST_TOLD":Str),bV)]
 bl:=[("len":Str),("isinstance":Str),("int":Str),("bool":Str),("str":Str),("tuple":Str),("list":Str),("range":Str),("all":Str),("any":Str),("set":Str),("sum":Str),("reversed":Str),("zip":Str),("enumerate":Str),("ValueError":Str)]
 xl:=[(("NoSize":Str),1),(("NoTree":Str),2),(("NoArgs":Str),3),(("NoPiece":Str),7),(("NoSet":Str),8),(("NoCover":Str),9),(("NoName":Str),11),(("Taken":Str),12)]
 ml:=[(0,("take":Str),16),(0,("push":Str),17),(0,("step":Str),18),(0,("change":Str),19),(1,("has_piece":Str),55),(1,("order":Str),56),(1,("put":Str),57),(1,("drop":Str),58),(1,("pieces":Str),59),(1,("lay":Str),60),(1,("code":Str),61),(1,("tree":Str),62)]
 dl:=[(0,("cells":Str)),(0,("given":Str)),(0,("size":Str)),(0,("pile":Str)),(0,("place":Str)),(0,("kept":Str)),(0,("ended":Str)),(1,("ready":Str)),(1,("orders":Str))]
 hl:=[(("Fault":Str),[13]),(("NoCover":Str),[9])]
structure Al(base:Heap)(T:Txt P w K mg)(n:Nat):Prop where
 fx:Fx P w K mg base (gx T) (3+2*n) (cN n) Zc
 Rt:WV P w K mg base (Xb P w) (3+2*n) T.NV.a T.NV.d ["tree","some","cover","places"] (Xr (gx T) (cN n 51))
 RK:WV P w K mg base (Xb P w) (3+2*n) T.OS T.Od ["self","name"] (Xr (gx T) (cN n 61))
 Sg:WV P w K mg base (Xb P w) (3+2*n) T.Of.a T.Of.d ["pattern","kind"] (Xr (gx T) (cN n 24))
 Oj:WV P w K mg base (Xb P w) (3+2*n) T.NG.a T.NG.d [] (Xr (gx T) (cN n 65))
 PX:WV P w K mg base (Xb P w) (3+2*n) T.N4 T.NK ["self","cells","given","size","pile"] (Xr (gx T) (cN n 15))
 NQ:WV P w K mg base (Xb P w) (3+2*n) T.NU T.NF ["self","some"] (Xr (gx T) (cN n 54))
 Se:WV P w K mg base (Xb P w) (3+2*n) T.O5 T.Om ["self","name","args","size"] (Xr (gx T) (cN n 63))
 NW:WV P w K mg base (Xb P w) (3+2*n) T.NY T.NM ["self"] (Xr (gx T) (cN n 64))
 RN:WV P w K mg base (Xb P w) (3+2*n) T.OU T.N2 ["size","most"] (Xr (gx T) (cN n 2))
 Tn:WV P w K mg base (Xb P w) (3+2*n) T.RO T.QD ["code","args","size","steps"] (Xr (gx T) (cN n 21))
 Ss:WV P w K mg base (Xb P w) (3+2*n) T.PF T.OA ["piece","size"] (Xr (gx T) (cN n 42))
noncomputable abbrev XO(base:Heap)(T:Txt P w K mg)(n:Nat){x:Str}{st:Stmt}{c:List Str}(D:Df K mg x st c)(F:List EV.A->WU->Res EV.A):Prop:=WV P w K mg base (Xb P w) (3+2*n+1+1) D.a D.d c (Xr (gx T) F)
theorem XQ{T:Txt P w K mg}(A:Al base T n){st:Stmt}{N d:List Str}{c:Cs}{D:Df K mg x st d}(S:WT N d (aa st))(h:Fx P w K mg base (gx T) (3+2*n) (cN n) Zc->Xo P w (gx T) mg base N x st D.a (3+2*n) c):XO base T n D (aF d.length N.length c):=WV.trim (a9 (g:=gx T) D.f S (Xo.of S (h A.fx)))
theorem pk{T:Txt P w K mg}{st:Stmt}{c:List Str}(D:Df K mg x st c){F:List EV.A->WU->Res EV.A}(h:WV P w K mg base (Xb P w) k D.a D.d c (Xr (gx T) F)):∃f,mg x=some (.ref f)/\W.keepIn K (.ref f)=true/\FnE P w K mg base (gx T) k f F:=⟨_,D.m,D.f.kp,_,_,D.b,h⟩
end
section
theorem Ko:∀n x,ST[n]?=some x->gd (.str x)=bF n nms/\x.length<=100:=by
 have h:(List.range ST.length).all (λn=>match ST[n]? with|some x=>(gd (.str x)==bF n nms)&&decide (x.length<=100)|none=>true)=true:=by decide +kernel
 intro n x e;have:=U3.mp h n (Wt.mpr (M1.mp e).1);rw[e,Tz]at this;exact⟨eq_of_beq this.1,Ue this.2⟩
variable{K:W.Frag}
theorem CW{T:Txt P w K mg}:WV P w K mg base (Xb P w) (3+2*n+1+1) T.OJ.a T.OJ.d ["thing"] (EV.Xr (gx T) jh) :=
 (WV.imp (uC (k:=3+2*n+1) T) λI H Q E ⟨m,S,as,s,r,h⟩=>by
  match as,r with
  |[],r=>exact h.elim
  |[a],r =>
   obtain⟨v,t,rfl,j,r2⟩:=r.W0;have r2:=r2.XA;subst r2
   have fin:∀(d:D)(b:Bool),Dat (gx T).K H d v->Eo d->gd d=b->Out (gx T) m S H (bA (some b) S) (An (gx T) Q) E->spD K yQ [v] H Q E:=λd b l ok g h=>by refine⟨[d],.bl b,WW.cons l WW.nil,⟨d,rfl,ok,by rw[g]⟩,λv J sm p=>?_⟩;obtain⟨u,B⟩:=s.same sm;rw[p.X7];obtain⟨M,G,q⟩:=Out.bA (h.ext B) u;cases G;exact q
   have i:(match Zx 20 a with|true=>bA (some false) S|false=>.bad)=jh [a] S->(∀y,toD (gx T) a≠.str y)->spD K yQ [v] H Q E:=λe f=>by
    rw[<- e]at h
    cases q:Zx 20 a with
    |false=>rw[q]at h;exact h.elim
    |true =>
     rw[q]at h;refine fin (toD (gx T) a) false (i7 a q j).1 ?_ (rZ f) h;generalize toD (gx T) a=d at f
     cases d with
     |str y=>exact absurd rfl (f y)
     |_=>trivial
   cases a with
   |str k =>obtain⟨x,e,rfl⟩:=j.Xi;have g:=Ko k x e;exact fin (.str x) _ (Dat.strI x) (dO (by have:=g.2;omega)) g.1 h
   |_=>exact i rfl λy z=>by unfold toD at z;cases z
  |a::b::c,r=>cases a<;>exact h.elim).cx0
theorem fB{P:Program}{w:World}{mg:Str->Option Value}{T:Txt P w K mg}{m:List Addr}{S:WU}{xs:List EV.A}{Q:VK}{E:XK}(s:WZ (gx T) m S H)(ra:R (gx T) H m .X5 va)(rt:R (gx T) H m (.ref i) vt)(u:look i S.cs=some .Zq)(rl:R (gx T) H m (.ref j) vl)(hl:Z3 S j=some xs)(h0:0<xs.length)(h9:xs.length<=900)
  (q:∀(k:Nat) x,xs[k]?=some x->∀d v,Ext m S H m S d->WZ (gx T) m S d->R (gx T) d m x v->Q v d):bK K [va,vt,vl] H Q E:=by
 obtain⟨a,ns,rfl,sc⟩:=ra.scrE;obtain⟨t,B,rfl⟩:=rt.Yu;obtain⟨l,O,rfl⟩:=rl.Yu;obtain⟨t',f,p,q',rest,hT,hp⟩:=s.cell i _ u;rw[B]at f;cases f;obtain⟨l',vs,g,hL,rs⟩:=Xk.look s hl;rw[O]at g;cases g
 have I:l≠t:=λz=>by have:=s.uniq O (z▸B);subst this;unfold Z3 at hl;rw[u]at hl;cases hl
 have U:=rs.length;refine⟨a,t,l,ns,vs,p,q',rest,rfl,sc,Xk.of hL,I,by omega,by omega,hT,hp,λk x d p' J M n N Y=>?_⟩;have lv:Z1 m S t:=⟨i,_,B,u,rfl⟩
 have lo:∀b,d b=none->H b=none:=λb z=>by
  cases r:H b with
  |none=>rfl
  |some o =>
   by_cases e:b=t
   ·rw[e,n]at z;cases z
   ·rw[M b o e r]at z;cases z
 have G:Ext m S H m S d:=⟨⟨[],by simp⟩,lo,λb o hn r=>M b o (λe=>hn (e▸lv)) r,λ_ c _ e o=>⟨c,e,o⟩⟩
 have s2:WZ (gx T) m S d:=⟨s.len,s.nd,λb r z=>s.up b r (G.low b z),λk c e=>by
  obtain⟨b,eb,ok⟩:=s.cell k c e;refine⟨b,eb,?_⟩;by_cases z:b=t
  ·subst z;have:=s.uniq eb B;subst this;rw[u]at e;cases e;exact⟨p',J,rest,n,N⟩
  ·exact ok.mono G s λo h=>M b o z h⟩
 cases hk:xs[k]? with
 |none =>have h1:=UP.mp hk;have h2:=(M1.mp Y).1;omega
 |some y=>exact q k y hk d x G s2 (R.mono G s y (rs.at hk Y))
theorem Dn{T:Txt P w K mg}(F:WV P w K mg base CX0 (3+2*n+1+1) T.NA.a T.NA.d ["_law_script","_law_town","_law_some"] (bK K)):WV P w K mg base (Xb P w) (3+2*n+1+1) T.NA.a T.NA.d ["_law_script","_law_town","_law_some"] (EV.Xr (gx T) fw) :=
 (WV.imp F λz H Q E ⟨m,S,as,s,r,h⟩=>by
  unfold fw at h;split at h
  ·rename_i i j;obtain⟨B,t,rfl,c,r2⟩:=r.W0;obtain⟨G,t,rfl,e,f⟩:=r2.W0;obtain⟨I,t,rfl,r5,g⟩:=f.W0;rw[g.XA];split at h
   ·rename_i l;split at h
    ·rename_i x J hl;split at h
     ·rename_i p;exact fB s c e l r5 hl (by simp) (bH p) λk y M N v q u O=>(h.ext q).ret u v R.any
     ·exact h.elim
    ·exact h.elim
   ·exact h.elim
  ·exact h.elim).cx0
end
section
variable{P:Program}{w:World}{K:W.Frag}{mg:Str->Option Value}
theorem rV:∀{l:List Nat},bF n l=true->n∈l
 |[],h=>nomatch h
 |k::l,h=>by
  unfold bF at h
  cases q:Nat.beq k n with
  |true=>rw[Ug q];exact Uq
  |false=>rw[q]at h;exact Ua _ (rV h)
theorem EN(T:Txt P w K mg):∀c,bF c [1,2,3,7,8,9,11,12]=true->W.exmOne K (.ref ((gx T).cls c)) (.ref T.NH)=some true/\W.exmOne K (.ref ((gx T).cls c)) (.ref T.NR)=some false/\gS T ((gx T).cls c) (c - 1):=λc h=>by
 have e:=rV h;simp only[T3,Uu,Vu]at e;rcases e with rfl|rfl|rfl|rfl|rfl|rfl|rfl|rfl
 ·exact⟨T.PL,T.QX,.head _⟩
 ·exact⟨T.PM,T.QY,.tail _ (.head _)⟩
 ·exact⟨T.PH,T.QU,.tail _ (.tail _ (.head _))⟩
 ·exact⟨T.Pi,T.Qo,.tail _ (.tail _ (.tail _ (.head _)))⟩
 ·exact⟨T.P1,T.Q6,.tail _ (.tail _ (.tail _ (.tail _ (.head _))))⟩
 ·exact⟨T.Ph,T.Qn,.tail _ (.tail _ (.tail _ (.tail _ (.tail _ (.head _)))))⟩
 ·exact⟨T.PJ,T.QV,.tail _ (.tail _ (.tail _ (.tail _ (.tail _ (.tail _ (.head _))))))⟩
 ·exact⟨T.P2,T.Q7,.tail _ (.tail _ (.tail _ (.tail _ (.tail _ (.tail _ (.tail _ (.head _)))))))⟩
theorem wW{T:Txt P w K mg}{E I:L2.St->XK}{j:Cs}{e:List Nat}{D:Ends}{J:L2.St}(h:tS (gx T) E (om j i r e) D J H)(N:ST[r]?=some "refused")(O:∀c,bF c e=true->gS T ((gx T).cls c) (c - 1))
  (Q:∀c d l n,bF c e=true->(∀a,n a=none->(By (cS (iX T) [] (λ_ _ _=>False) (ay (cB i) bM))) (D.gone i) (d.set i (some (.ref a))) (upd n a (gq a ((gx T).cls c))))->I d (.ref ((gx T).cls c)) l n):tS (gx T) I j D J H:=by
 obtain⟨m,M,S,s,U,h⟩:=h;refine⟨m,M,S,s,U,?_⟩;unfold om at h
 cases q:j M S with
 |bad=>rw[q]at h;exact h
 |ok f S1=>rw[q]at h;cases f<;>exact h
 |exc c y S1 =>
  rw[q]at h;dsimp only at h
  cases g:bF c e with
  |false=>rw[g]at h;exact h.elim
  |true =>
   rw[g]at h;dsimp only at h
   cases z:y[i]? with
   |none=>rw[z]at h;exact h.elim
   |some o =>
    rw[z]at h;intro m1 Y B l x1 s1 Yn;refine Q c B l Y g λa ha=>⟨.ref a,UY (by rw[<- Yn.len];exact(M1.mp z).1),a,_,c - 1,rfl,ai,O c g,λv H2 sm dv=>?_⟩
    have G:=(bx ha (gq a ((gx T).cls c))).trans sm;obtain⟨s2,x2⟩:=s1.same G;refine h m1 H2 v (x1.trans x2) s2 ?_;obtain⟨p,vs,rfl,sq,ds⟩:=dv.Xf;obtain⟨u,t,rfl,d1,d2⟩:=ds.W0;obtain⟨u',t,rfl,d3,d4⟩:=d2.W0;have d4:=d4.XA;subst d4;rw[d1.Xi,d3.W4]at sq;exact R.tup sq (.cons (R.str N) (.cons (R.int _) .nil))
noncomputable abbrev tWh(T:Txt P w K mg)(i:Nat):TS:=By (cS (iX T) [] (λ_ _ _=>False) (ay (cB i) bM))
theorem HY{X:Cx}(T:Txt X.prog X.w X.K X.mg){E:L2.St->XK}{k1:Cs}{body a:List Stmt}{i r:Nat}{l:List Nat}{x:Str}
  (p:∀(pn:List (Addr×Obj))(xe:Value->Shared->Prop)(E:L2.St->XK),aE (Xb X.prog X.w) {X with pn:=pn,xe:=xe} E->XH {X with pn:=pn,xe:=xe} body (tS (gx T) E k1)) (u:Gl X "PieceError") (v:X.N.Nodup) (y:X.N[i]?=some x) (hl:X.env.kindOf x=some .local)
  (z:∀e:Value,XH (X.hand e) (d::a) (tWh T i)) (B:ST[r]?=some "refused") (f:∀c,bF c l=true->W.exmOne X.K (.ref ((gx T).cls c)) (.ref T.NH)=some true/\W.exmOne X.K (.ref ((gx T).cls c)) (.ref T.NR)=some false/\gS T ((gx T).cls c) (c - 1))
  (g:X.stack=X.env::X.outer:=by rfl) (j:X.env.frame=some X.env.locals:=by rfl):PS X (.Try body [.ExceptHandler (some (.Name "PieceError" J)) (some x) (d::a) n] [] [] G) (tS (gx T) E (om k1 i r l)) :=
 Zz (yo (i:=i) (t:=λE=>tS (gx T) E k1) p u T.Qf v y hl z g j) λD M H h=>wW h B (λc m=>(f c m).2.2) λc I O Q m q=>⟨(f c m).1,_,rfl,q⟩
theorem DG{X:Cx}(T:Txt X.prog X.w X.K X.mg){E:L2.St->XK}{k1:Cs}{body a p:List Stmt}{i r:Nat}{u:List Nat}{x:Str}
  (B:∀(pn:List (Addr×Obj))(xe:Value->Shared->Prop)(E:L2.St->XK),aE (Xb X.prog X.w) {X with pn:=pn,xe:=xe} E->XH {X with pn:=pn,xe:=xe} body (tS (gx T) E k1)) (g:Gl X "Broken") (G:Gl X "PieceError") (I:X.N.Nodup) (v:X.N[i]?=some x) (hl:X.env.kindOf x=some .local)
  (J:∀e:Value,XH (X.hand e) (f::p) (tWh T i)) (M:ST[r]?=some "refused") (d:∀c,bF c u=true->W.exmOne X.K (.ref ((gx T).cls c)) (.ref T.NH)=some true/\W.exmOne X.K (.ref ((gx T).cls c)) (.ref T.NR)=some false/\gS T ((gx T).cls c) (c - 1))
  (j:X.stack=X.env::X.outer:=by rfl) (l:X.env.frame=some X.env.locals:=by rfl):PS X (.Try body [.ExceptHandler (some (.Name "Broken" np)) (some x) (y::a) z,.ExceptHandler (some (.Name "PieceError" O)) (some x) (f::p) n] [] [] Q) (tS (gx T) E (om k1 i r u)) :=
 Zz (A2 (i:=i) (i':=i) (th:=λ_ _ _=>False) (t:=λE=>tS (gx T) E k1) B g T.RQ I v hl (λ_ _ _ _ _ _ _ U=>U.elim) G T.Qf v hl J j l) λD σ H h=>wW h M (λc m=>(d c m).2.2) λc Y dx H' m q=>.inr ⟨(d c m).2.1,(d c m).1,_,rfl,q⟩
theorem zG{T:Txt P w K mg}{st:Stmt}{n:FuncData}{N:List Str}{p0:Str}{c:Cs}(F:YH K x d st f n)(S:WT N [p0,p] (aa st))
  (u:∀(a:Value)(A:Around)(outer:List PySem.Env)(s:Shared)(H:Hp)(E:XK),W2 k (A.deeper (envOfC d (aa st) s.heap.objs.size f a))->XH (bG (Xb P w) P w K mg base N d (aa st) f a A outer s H E) (aV st)
   (tSq (gx T) (λ_=>E) c (By λz=>cS (bK K) [] E (ay (cB 0) (ay (cB 1) (ay (cB b) bM))) z))) :
  WV P w K mg base (Xb P w) (k+1) f n [p0,p] (spP (gx T) (Zt c N.length b)):=by
 have e:2<=N.length:=by have:=UI List.length S.pre;rw[Vb]at this;simp at this;omega
 refine F.ok2 S (λB H Q E ⟨m,S,as,G,g,s,r,h,_⟩=>?_) λa A outer s H B Q E I ⟨m,g,as,G,S2,sm,r,h,q⟩=>⟨_,u a A outer s H E I,?_⟩
 ·rw[r.length];unfold Zt at h;split at h
  ·rfl
  ·cases h
 ·unfold Zt at h;split at h
  ·rename_i t;rw[aY]at h;refine⟨m,_,g,sm,lR (as:=[.X5,.ref t]) r (by rw[r.length];exact e),?_⟩;split at h
   ·rename_i J S3 M;have i:c (([.X5,.ref t]:List EV.A).map some++List.replicate (N.length - ([.X5,.ref t]:List EV.A).length) none) g=.ok (.nx J) S3:=M;rw[i];intro m3 H3 O U Y l;split at h
    ·rename_i t' j e0 e1 eb;split at h
     ·rename_i y ys ht hl;split at h
      ·rename_i h9;cases h;obtain⟨v0,g0,r0⟩:=l.get 0 _ e0;obtain⟨v1,g1,r1⟩:=l.get 1 _ e1;obtain⟨vb,gb,rb⟩:=l.get b _ eb;exact⟨v0,g0,v1,g1,vb,gb,fB (E:=E) Y r0 r1 ht rb hl (by simp) (bH h9) λk x hx H4 v x4 s4 rv=>q k x hx m3 H4 v (U.trans x4) s4 rv⟩
      ·cases h
     ·cases h
    ·cases h
   ·cases h
  ·cases h
end
noncomputable def tPk(g:Gx)(i:Ca):TE:=λf H Q=>∃m e S,WZ g m S H/\Re g H m e f/\∃t j c S1,i e S=.ok [.X5,.ref t,.ref j] S1/\look t S1.cs=some .Zq/\Z3 S1 j=some c/\0<c.length/\c.length<=900 /\
 ∀(k:Nat) x,c[k]?=some x->∀d a v,Ext m S H d S1 a->WZ g d S1 a->Re g a d e f->R g a d x v->Q v a
theorem HL{X:Cx}(T:Txt X.prog X.w X.K X.mg)
  (B:WV X.prog X.w X.K X.mg X.base (Xb X.prog X.w) k T.NA.a T.NA.d ["_law_script","_law_town","_law_some"] (bK X.K)) (G:W2 k X.A) (I:Gl X "_law_pick") (g:aE (Xb X.prog X.w) X E)
  (J:PA X (a::c) (Z6 (gx T) E M)) (i:(("_law_pick":Str)==("__debug__":Str))=false:=by decide) (N:starEach (a::c) X.env=(false,eval a X.env)::starEach c X.env:=by rfl) (l:(backTo n (starEach c X.env)).any (·.1)=false:=by rfl) :
  PE X (.Call (.Name "_law_pick" p) (a::c) [] n) (tPk (gx T) M) :=
 XU (bg (XX:=[]) B G I T.NA.m T.NA.f.kp T.NA.b .nil g J i N l) λσ H Q ⟨m,O,S,s,r,t,j,xs,S1,e,U,hl,Y,h9,q⟩=>⟨m,O,S,s,r,by
  rw[e];intro m1 H1 u y vs rs;obtain⟨v1,r1,rfl,q1,rs⟩:=rs.W0;obtain⟨v2,r2,rfl,q2,rs⟩:=rs.W0;obtain⟨v3,r3,rfl,q3,rs⟩:=rs.W0;have rs:=rs.XA;subst rs;exact fB y q1 q2 U q3 hl Y h9 λk x g H2 v z s2 rv=>q k x g m1 H2 v (u.trans z) s2 ((r.mono u s).mono z y) rv⟩
noncomputable def vy(g:Gx)(i:Nat)(l:Ca):TS:=λD n H=>∃m e S,WZ g m S H/\Re g H m e n/\∃t j c S1,l e S=.ok [.X5,.ref t,.ref j] S1/\look t S1.cs=some .Zq/\Z3 S1 j=some c/\0<c.length/\c.length<=900 /\
 ∀(k:Nat) x,c[k]?=some x->∀f d a,Ext m S H f S1 d->WZ g f S1 d->Re g d f (e.set i (some x)) a->D.nx a d
theorem ji{X:Cx}(T:Txt X.prog X.w X.K X.mg){c:Pos}
  (u:WV X.prog X.w X.K X.mg X.base (Xb X.prog X.w) k T.NA.a T.NA.d ["_law_script","_law_town","_law_some"] (bK X.K)) (z:W2 k X.A) (B:Gl X "_law_pick") (n:aE (Xb X.prog X.w) X E)
  (G:PA X (a::f) (Z6 (gx T) E cs)) (I:X.N.Nodup) (J:X.N[i]?=some y) (hl:Loc X.env.scope y)
  (hs:swapsWith (.Call (.Name "_law_pick" p) (a::f) [] g) (some (.Name y l)) c.line X.env=pure false:=by rfl) (M:X.fn y=true\/X.env.scope.names.lookup y=some .local:=by first|exact .inl rfl|exact .inr rfl|assumption)
  (O:starEach (a::f) X.env=(false,eval a X.env)::starEach f X.env:=by rfl) (r:(backTo g (starEach f X.env)).any (·.1)=false:=by rfl) :
  PS X (.Assign [.Name y l] (.Call (.Name "_law_pick" p) (a::f) [] g) c) (vy (gx T) i cs) :=
 Zz (gI I J hl (HL T u z B n G (by decide) O r) hs M) λD σ H ⟨m,Q,S,s,U,t,j,Y,S1,e,ht,hl,h0,h9,q⟩ =>
  ⟨m,Q,S,s,U,t,j,Y,S1,e,ht,hl,h0,h9,λk x n m' H' v x1 s1 Yn rv=>q k x n m' H' _ x1 s1 (Yn.set rv i)⟩
theorem WZ.town(s:WZ g m S H)(i:Nat)(h:look i S.cs=some (.lst (.int p::.int q::rest)))(f:0<=p):WZ g m ⟨S.nx,put i .Zq S.cs⟩ H:=by
 refine⟨s.len,s.nd,s.up,λj c e=>?_⟩;rcases du e with⟨rfl,rfl,_⟩|⟨_,z⟩
 ·obtain⟨a,z,t,d,r⟩:=s.cell j _ h;obtain⟨u,v,rfl,l,r⟩:=r.W0;obtain⟨w,r2,rfl,n,r⟩:=r.W0;rw[l.W4,n.W4]at d;exact⟨a,z,p,q,r2,d,f⟩
 ·exact s.cell j c z
noncomputable def vM(F:List EV.A->WU->Option (List EV.A×WU))(as:List EV.A)(S:WU):Res EV.A:=match F as S with
 |some (_::_,S)=>.ok .any S
 |_=>.bad
theorem EW{K:W.Frag}(h:WV P w K mg base a k f c d (spP g F)):WV P w K mg base a k f c d (EV.Xr g (vM F)) :=
 WV.imp h λt H Q E ⟨m,S,as,s,r,h⟩=>by
  unfold vM at h;split at h
  ·rename_i x i j e;exact⟨m,S,as,x::i,j,s,r,e,λk y _ l n v p q _=>h l n p q v R.any⟩
  ·exact h.elim
structure Own(P:Program)(w:World)(K:W.Frag)(mg:Str->Option Value)(base:Heap)(g:Gx)(j:Nat)(x:Str)(F:List EV.A->WU->Res EV.A):Prop where
 h:∃f,mg x=some (.ref f)/\W.keepIn K (.ref f)=true/\FnE P w K mg base g j f F
theorem bz(c:QA X g E (a::i) l)(o:Own X.prog X.w X.K X.mg X.base g j x F:=by assumption)(d:Ctx X g E j:=by assumption)(e:ZU X x=true:=by kernel_rfl):QE X g E (.Call (.Name x p) (a::i) [] m) (af F l) :=
 have f:=(Tz _ _).mp (Ud▸c.pl);let⟨_,n,q,_,_,r,t⟩:=o.h;⟨pR t d.hs (aG e).1 n q r d.ps c.h (aG e).2.1 (aP (aI f.1)) (dG f.2),rfl⟩
structure QM(X:Cx)(g:Gx)(E:L2.St->XK)(e:List Stmt)(c:Cs)(tl:TS):Prop where
 h:XH X e (tSq g E c tl)
theorem LO{X:Cx}{st:Stmt}(h:QS X g E st c)(d:QM X g E a e tl):QM X g E (st::a) (sq c e) tl:=⟨KW h.h d.h⟩
theorem Du{X:Cx}(ok:WV X.prog X.w X.K X.mg X.base c k f d e (EV.Xr g F))(i:W2 k X.A)(j:Gl X x)(l:X.mg x=some (.ref f))(hk:W.keepIn X.K (.ref f)=true)(n:Binds X.K d e [])(q:Passes c X E)
  (a:(x==("__debug__":Str))=false:=by decide):PE X (.Call (.Name x p) [] [] r) (tE g (λ_=>E) (af F aN)) :=
 XU (AL (XX:=[]) ok i j l hk n .nil q a) λt H Q ⟨m,u,S,s,v,h⟩=>⟨m,S,[],s,.nil,h⟩
noncomputable def fg(P:Nat->List EV.A->WU->Res EV.A):Cs:=(sq (Xg (Xc (cO oEq (cV 1) (cI 0))) (ao (aR 1 17 (P 57) (cV 0) (aC (cV 2) aN))) Xh) (sq (Xg (Xc (cO oEq (cV 1) (cI 1))) (ao (aR 1 62 (P 58) (cV 0) (aC (cV 2) aN))) Xh) (sq (Xg (Xc (cO oEq (cV 1) (cI 2))) (ao (aR 1 63 (P 60) (cV 0) (aC (cV 2) (aC (cV 3) aN)))) Xh) (sq (Xg (Xc (cO oEq (cV 1) (cI 3))) (ao (aR 1 45 (P 61) (cV 0) (aC (cV 2) aN))) Xh) (ao (cIf (Xc (cO oEq (cV 1) (cI 4))) (aR 1 64 (P 62) (cV 0) (aC (cV 2) aN)) (zj 1 65 (P 63) eY (cV 0) (aC (cV 2) (aC (cO Xe (cV 3) (cI 0)) aN)) (aC (cO Xe (cV 3) (cI 1)) aN))))))))
noncomputable def gu(P:Nat->List EV.A->WU->Res EV.A):List EV.A->WU->Res EV.A:=aF 4 5 (om (fg P) 4 70 [1,2,3,7,8,9,11,12])
noncomputable def dN(P:Nat->List EV.A->WU->Res EV.A):Cs:=(ao (zi 1 (P 64) (nB 1 (P 54) [] (aC (cV 0) aN))))
noncomputable def eU(P:Nat->List EV.A->WU->Res EV.A):List EV.A->WU->Res EV.A:=aF 1 2 (om (dN P) 1 70 [1,2,3,7,8,9,11,12])
noncomputable def cA(as:List EV.A)(S:WU):Res EV.A:=gu (cN 20) as S
noncomputable def cMd(as:List EV.A)(S:WU):Res EV.A:=eU (cN 20) as S
noncomputable def cL(i:Nat)(as:List EV.A)(S:WU):Res EV.A:=cN 20 i as S
noncomputable def aO:Cs:=(sq (cX (gT [(gN 2),(gN 3)]) (ae (aC (ae (aC (cZ 5) (aC (cI 1) aN))) (aC (ae (aC (cZ 6) (aC (cI 0) aN))) aN)))) (sq (aH 4 (cV 2)) (sq (dz (zP (cI 8)) (gN 5) (aH 4 (ae (aC (cZ 3) (aC (cV 4) (aC (cV 3) aN)))))) (sq (aH 6 (cV 2)) (sq (dz (zP (cI 4)) (gN 5) (aH 6 (cIf (Xc (cO oLt (cV 5) (cI 3))) (ae (aC (cZ 7) (aC (cV 6) (aC (cV 6) (aC (cV 6) aN))))) (ae (aC (cZ 3) (aC (cV 6) (aC (cV 2) aN))))))) (sq (aH 7 (aM (aC (cC (.WX)) (aC (ae aN) (aC (cZ 5) (aC (ae (aC (cZ 5) aN)) (aC (ae (aC (cZ 5) (aC (cU yI (cI 1)) aN))) (aC (ae (aC (cZ 5) (aC (cI 10000) aN))) (aC (ae (aC (cZ 5) (aC (cC (.bl true)) aN))) (aC (ae (aC (cZ 6) (aC (cI 4) aN))) (aC (ae (aC (cZ 6) (aC (cI 0) (aC (cI 0) aN)))) aN))))))))))) (sq (XC (cM cE (cV 7) (aM (aC (ae (aC (cZ 3) (aC (cV 2) aN))) aN)))) (sq (XC (cM cE (cV 7) (aM (aC (ae (aC (cZ 3) (aC (cV 2) (aC (cV 2) (aC (cV 2) aN))))) (aC (ae (aC (cZ 7) (aC (cV 2) (aC (cV 2) aN)))) (aC (ae (aC (cZ 55) (aC (cV 2) (aC (cV 2) aN)))) (aC (aM (aC (cZ 5) (aC (cI 1) aN))) (aC (ae (aC (cZ 3) (aC (cV 2) (aC (cI 5) aN)))) aN)))))))) (sq (XC (cM cE (cV 7) (aM (aC (ae (aC (cZ 26) (aC (cI 0) aN))) aN)))) (sq (XC (cM cE (cV 7) (aM (aC (ae (aC (cZ 4) (aC (cV 2) (aC (cC (.WX)) aN)))) (aC (cV 4) (aC (ae (aC (cZ 3) (aC (cV 6) (aC (cV 6) aN)))) (aC (ae (aC (cV 2) aN)) (aC (cI 7) aN)))))))) Xh))))))))))
noncomputable def ax:Cs:=(sq (cX (gT [(gN 2),(gN 3),(gN 4)]) (ae (aC (ae (aC (cZ 26) (aC (cI 0) aN))) (aC (ae (aC (cZ 25) (aC (cI 0) (aC (cI 99) aN)))) (aC (ae (aC (cZ 29) (aC (cI 0) aN))) aN))))) (sq (aH 5 (ae (aC (cZ 3) (aC (cV 2) (aC (ae (aC (cZ 26) (aC (cI 1) aN))) aN))))) (sq (aH 6 (aM (aC (cC (.WX)) (aC (ae aN) (aC (ae (aC (cZ 57) (aC (cV 5) aN))) (aC (ae (aC (cZ 58) (aC (cV 5) (aC (ae (aC (cI 4) aN)) aN)))) (aC (ae (aC (cZ 59) (aC (cV 5) (aC (ae (aC (cI 4) aN)) aN)))) (aC (ae (aC (cZ 7) (aC (cV 5) (aC (ae (aC (cI 4) aN)) aN)))) aN)))))))) (sq (XC (cM cE (cV 6) (aM (aC (ae (aC (cZ 60) (aC (cV 5) (aC (ae (aC (cI 4) aN)) aN)))) (aC (aM (aC (cZ 57) (aC (cV 5) (aC (ae (aC (cI 4) aN)) aN)))) aN))))) (sq (XC (cM cE (cV 6) (aM (aC (ae (aC (cZ 57) (aC (cV 2) (aC (ae (aC (cI 4) aN)) aN)))) (aC (ae (aC (cZ 57) (aC (cV 5) (aC (ae aN) aN)))) (aC (ae (aC (cZ 57) (aC (cV 5) (aC (aM (aC (cI 4) aN)) aN)))) (aC (ae (aC (cZ 57) (aC (cV 5) (aC (ae (aC (cI 8) (aC (cI 1) aN))) aN)))) (aC (ae (aC (cZ 57) (aC (cV 5) (aC (ae (aC (cI 0) aN)) aN)))) aN)))))))) (sq (XC (cM cE (cV 6) (aM (aC (ae (aC (cZ 57) (aC (cV 5) (aC (ae (aC (cI 15) (aC (cI 1) (aC (cI 0) aN)))) aN)))) aN)))) (sq (XC (cM cE (cV 6) (aM (aC (ae (aC (cZ 57) (aC (cV 5) (aC (ae (aC (cI 1) aN)) aN)))) (aC (ae (aC (cZ 57) (aC (cV 5) (aC (ae (aC (cI 2) (aC (cI 5) aN))) aN)))) (aC (ae (aC (cZ 57) (aC (cV 5) (aC (cO AD (ae (aC (cI 4) aN)) (cI 13)) aN)))) (aC (ae (aC (cZ 57) (aC (cV 5) (aC (ae (aC (cI 100) aN)) aN)))) aN))))))) (sq (XC (cM cE (cV 6) (aM (aC (ae (aC (cZ 57) (aC (cV 5) (aC (ae (aC (cC (.bl true)) aN)) aN)))) (aC (ae (aC (cZ 57) (aC (cV 5) (aC (ae (aC (cI 17) aN)) aN)))) aN))))) (sq (XC (cM cE (cV 6) (aM (aC (ae (aC (cZ 57) (aC (cV 3) (aC (ae (aC (cI 1) (aC (ae (aC (cZ 30) (aC (cI 1) aN))) aN))) aN)))) (aC (ae (aC (cZ 57) (aC (cV 3) (aC (ae (aC (cI 1) (aC (ae (aC (cZ 6) (aC (cI 0) aN))) aN))) aN)))) (aC (ae (aC (cZ 57) (aC (cV 3) (aC (ae (aC (ae (aC (cZ 30) (aC (cI 0) aN))) (aC (cI 1) aN))) aN)))) aN)))))) (sq (XC (cM cE (cV 6) (aM (aC (ae (aC (cZ 57) (aC (cV 3) (aC (ae (aC (cI 1) (aC (ae (aC (cZ 61) (aC (cI 0) aN))) aN))) aN)))) (aC (ae (aC (cZ 57) (aC (cV 4) (aC (ae (aC (cI 3) aN)) aN)))) aN))))) (sq (XC (cM cE (cV 6) (aM (aC (ae (aC (cZ 57) (aC (ae (aC (cZ 3) (aC (ae (aC (cZ 26) (aC (cI 1) aN))) (aC (cV 2) aN)))) (aC (ae (aC (cI 4) aN)) aN)))) (aC (ae (aC (cZ 57) (aC (ae (aC (cZ 3) (aC (cV 2) (aC (cV 2) aN)))) (aC (ae (aC (cI 4) aN)) aN)))) aN))))) (sq (XC (cM cE (cV 6) (aM (aC (ae (aC (cZ 57) (aC (ae (aC (cZ 3) (aC (cV 2) (aC (ae (aC (cZ 26) (aC (cI 2) aN))) aN)))) (aC (ae (aC (cI 4) aN)) aN)))) (aC (ae (aC (cZ 57) (aC (ae (aC (cZ 7) (aC (cV 2) (aC (cV 2) (aC (cV 2) aN))))) (aC (ae (aC (cI 4) aN)) aN)))) aN))))) (sq (XC (cM cE (cV 6) (aM (aC (ae (aC (cZ 57) (aC (ae (aC (cZ 25) (aC (cI 0) aN))) (aC (ae (aC (cI 1) (aC (cI 1) aN))) aN)))) (aC (ae (aC (cZ 57) (aC (ae (aC (cZ 25) (aC (cI 0) (aC (cI 10000) aN)))) (aC (ae (aC (cI 1) (aC (cI 1) aN))) aN)))) (aC (ae (aC (cZ 57) (aC (ae (aC (cZ 25) (aC (cI 1) (aC (cI 9) aN)))) (aC (ae (aC (cI 1) (aC (cI 1) aN))) aN)))) aN)))))) (sq (XC (cM cE (cV 6) (aM (aC (ae (aC (cZ 57) (aC (ae (aC (cZ 6) (aC (cI 0) aN))) (aC (ae (aC (cI 3) (aC (cI 0) aN))) aN)))) (aC (ae (aC (cZ 57) (aC (ae (aC (cZ 5) (aC (cU yI (cI 1)) aN))) (aC (ae (aC (cI 1) (aC (cI 1) aN))) aN)))) aN))))) (sq (XC (cM eM (cV 6) (ae (aC (cZ 57) (aC (ae (aC (cZ 3) (aC (ae (aC (cZ 3) (aC (ae (aC (cZ 3) (aC (cV 2) (aC (cV 3) aN)))) (aC (ae (aC (cZ 5) (aC (cI 1) aN))) aN)))) (aC (ae (aC (cZ 5) (aC (cI 1) aN))) aN)))) (aC (ae (aC (cI 4) aN)) aN)))))) (sq (XC (cM eM (cV 6) (ae (aC (cZ 57) (aC (ae (aC (cZ 3) (aC (ae (aC (cZ 3) (aC (cV 2) (aC (ae (aC (cZ 26) (aC (cI 1) aN))) aN)))) (aC (ae (aC (cZ 26) (aC (cI 2) aN))) aN)))) (aC (ae (aC (cI 4) (aC (cI 4) aN))) aN)))))) Xh))))))))))))))))
noncomputable def Dc(as:List EV.A)(S:WU):Res EV.A:=vM (Zt aO 8 7) as S
noncomputable def tDr(g:Gx)(E:XK)(F:List EV.A->WU->Option (List EV.A×WU)):TE:=λa=>cS (spP g F) [] E (ay (cB 0) (ay (cB 1) bM)) a
noncomputable def kJ:Cs:=(aH 1 (aM (aC (cI 0) (aC (cI 0) (aC (cI 4) aN)))))
noncomputable def ba:Cs:=(Xg (Zb (Xc (cO Za (af cMd (aC (cV 2) aN)) (ae (aC (cZ 70) (aC (cI 7) aN))))) (Zb (Xc (cO Za (af cMd (aC (cC (.WX)) aN)) (cI 0))) (Xc (cO Za (af cMd (aC (aM (aC (cO Xe (cC Og) (cI 2)) aN)) aN)) (cI 0))))) (ao (cC (.bl false))) Xh)
noncomputable def ip:Cs:=(cX (gT [(gN 3),(gN 4)]) (ae (aC (nB 1 (cL 54) [.WX] aN) (aC (ae (aC (cZ 6) (aC (cI 1) aN))) aN))))
noncomputable def fP:Cs:=(Xg (Xc (cO Za (af cA (aC (cV 3) (aC (cI 0) (aC (cV 5) (aC (cC (.WX)) aN))))) (ae (aC (cZ 70) (aC (cI 6) aN))))) (ao (cC (.bl false))) Xh)
noncomputable def kK:Cs:=(Xg (Xc (cO Za (af cA (aC (cV 3) (aC (cI 0) (aC (cO bL (cO Bt (cO Xe (cC Og) (cI 0)) (cI 2)) (ae (aC (ae (aC (cI 13) aN)) aN))) (aC (cC (.WX)) aN))))) (ae (aC (cZ 70) (aC (cI 11) aN))))) (ao (cC (.bl false))) Xh)
noncomputable def iq:Cs:=(Xg (Xc (cO Za (af cA (aC (cV 3) (aC (cI 1) (aC (cV 6) (aC (cC (.WX)) aN))))) (ae (aC (cZ 70) (aC (cI 10) aN))))) (ao (cC (.bl false))) Xh)
noncomputable def ir:Cs:=(Xg (Xc (cO Za (af cA (aC (cV 3) (aC (cI 2) (aC (cV 6) (aC (af Dc (aC (cV 0) (aC (cV 1) aN))) aN))))) (ae (aC (cZ 70) (aC (cI 10) aN))))) (ao (cC (.bl false))) Xh)
noncomputable def eZ:Ca:=(aC (cV 0) (aC (cV 1) (aC (aM (aC (cV 6) (aC (cZ 71) (aC (cZ 7) aN)))) aN)))
noncomputable def bW:Cs:=(Xg (Xc (cO Za (aS (iT (ae (aC (cI 3) (aC (cI 4) (aC (cI 5) aN))))) 1 [3,7] (gN 0) tT (af cA (aC (cV 1) (aC (cV 0) (aC (cV 2) (aC (ae (aC (cC (.WX)) (aC (cC (.WX)) aN))) aN)))))) (cO wo (aM (aC (ae (aC (cZ 70) (aC (cI 10) aN))) aN)) (cI 3)))) (ao (cC (.bl false))) Xh)
noncomputable def e7:Ca:=(aC (cV 0) (aC (cV 1) (aC (aM (aC (cC (.WX)) (aC (ae (aC (cI 0) (aC (cI 0) (aC (cI 0) aN)))) (aC (ae (aC (cI 0) (aC (cI 0) (aC (cI 0) (aC (cI 10) aN))))) (aC (aM (aC (cI 0) (aC (cI 0) (aC (cI 0) (aC (cI 0) aN))))) aN))))) aN)))
noncomputable def e9:Ca:=(aC (cV 0) (aC (cV 1) (aC (aM (aC (cC (.WX)) (aC (cI 1) (aC (cI 10001) (aC (cC (.bl true)) aN))))) aN)))
noncomputable def fc:Cs:=(Xg (Zb (Xc (cO Za (af cA (aC (cV 3) (aC (cI 5) (aC (cZ 73) (aC (ae (aC (cV 8) (aC (cV 9) aN))) aN))))) (ae (aC (cZ 70) (aC (cI 0) aN))))) (Xc (cO Za (af cA (aC (cV 3) (aC (cI 5) (aC (cZ 73) (aC (ae (aC (cV 8) (aC (cI 10) aN))) aN))))) (ae (aC (cZ 70) (aC (cI 2) aN)))))) (ao (cC (.bl false))) Xh)
noncomputable def iu:Ct:=(Xc (cO Za (aR 1 63 (cL 60) (cV 3) (aC (cZ 73) (aC (cV 4) aN))) (aM (aC (cI 3) (aC (cI 1) (aC (cI 0) aN))))))
noncomputable def ff:Ce:=(ae (aC (cZ 70) (aC (cI 1) aN)))
noncomputable def Cc:Ci:=(iL (af (cL 65) aN))
noncomputable def b15:Cs:=(XC (aR 1 17 (cL 57) (cV 3) (aC (cV 10) aN)))
noncomputable def ik:Cs:=(sq (aH 11 (ae (aC (cZ 68) (aC (ae (aC (cZ 4) (aC (ae (aC (cZ 26) (aC (cI 0) aN))) (aC (ae (aC (cZ 26) (aC (cI 1) aN))) aN)))) (aC (ae (aC (cI 14) (aC (cI 5) aN))) aN))))) (sq (Xg (Zb (Xc (cO Za (af cA (aC (cV 3) (aC (cI 0) (aC (cV 11) (aC (cC (.WX)) aN))))) (ae (aC (cZ 70) (aC (cI 7) aN))))) (Xc (cO Za (cU bu (aR 1 74 (cL 59) (cV 3) aN)) (cI 16)))) (ao (cC (.bl false))) Xh) (sq (aH 12 (nB 1 (cL 54) [] (aC (aM (aC (cO Xe (cC Og) (cI 2)) aN)) aN))) (sq (Xg (Zb (Xc (cO Za (af cA (aC (cV 12) (aC (cI 1) (aC (cZ 29) (aC (cC (.WX)) aN))))) (ae (aC (cZ 70) (aC (cI 7) aN))))) (Xc (cO Za (aR 1 74 (cL 59) (cV 12) aN) (aM (aC (cO Xe (cC Og) (cI 2)) aN))))) (ao (cC (.bl false))) Xh) (ao (cAn (cO oEq (af cA (aC (cV 12) (aC (cI 2) (aC (cZ 73) (aC (ae (aC (cZ 5) (aC (cI 1) aN))) aN))))) (ae (aC (cZ 70) (aC (cI 8) aN)))) (cAn (cO oEq (zi 1 (cL 64) (cV 12)) (cI 0)) (cO oEq (aR 1 45 (cL 61) (cV 3) (aC (cZ 73) aN)) (aM (aC (cI 3) (aC (cI 1) (aC (cI 0) aN))))))))))))
noncomputable def fe:Cs:=sq (dz Cc (gN 10) b15) ik
noncomputable def bQ:Ce:=(aM aN)
noncomputable def bR:Ce:=(cU nr (cC Og))
noncomputable def bS:Ce:=(cO bL (cC Og) (aM (aC (cO Xe (cC Og) (cI 0)) aN)))
noncomputable def bT:Ce:=(cZ 69)
noncomputable def bU:Ce:=(cI 7)
noncomputable def fO:Ce:=(aM (aC (cC (.WX)) (aC (cZ 58) (aC (cZ 59) (aC (cZ 60) (aC (cZ 72) (aC (cI 5) (aC (ae (aC (cZ 73) aN)) aN))))))))
noncomputable def bs:List EV.A:=match Og with | .cl a=>a|_=>[]
noncomputable def bp(i:Nat):EV.A:=bs.getD i .WX
noncomputable def tr1:EV.A:=.tup [.str 6,.int (.ofNat 1)]
noncomputable def M7:EV.A:=.tup [.str 5,.int (.ofNat 1)]
noncomputable def M6:EV.A:=.tup [.str 6,.int (.ofNat 0)]
noncomputable def vI:EV.A:=.tup [.str 26,.int (.ofNat 0)]
noncomputable def Lx:EV.A:=.tup [.str 26,.int (.ofNat 1)]
noncomputable def D1:EV.A:=.tup [.str 3,vI,Lx]
noncomputable def D0:EV.A:=.tup [.int (.ofNat 4)]
noncomputable def DZ:EV.A:=.tup [.str 25,.int (.ofNat 0),.int (.ofNat 99)]
noncomputable def CZ:List EV.A:=[.ref 1,.tup bs,.ref 16,.ref 18,.str 69,.int (.ofNat 7)]
noncomputable def names:List EV.A:=[.WX,.str 58,.str 59,.str 60,.str 72,.int (.ofNat 5),.tup [.str 73]]
noncomputable def rS:EV.Env:=[some .X5,some (.ref 0),none,none,none,none,none,none,none,none,none,none,none]
noncomputable def r2(o:EV.A):EV.Env:=[some .X5,some (.ref 0),some o,none,none,none,none,none,none,none,none,none,none]
noncomputable def ro(b n w a c:Option EV.A):EV.Env:=[some .X5,some (.ref 0),some .any,some (.ref 20),some tr1,b,n,w,a,c,none,none,none]
noncomputable abbrev r5(b n:EV.A):EV.Env:=ro (some b) (some n) none none none
noncomputable abbrev r10(n w:EV.A):EV.Env:=ro (some .any) (some n) (some w) none none
noncomputable abbrev r12(a:EV.A):EV.Env:=ro (some .any) (some .any) (some .any) (some a) none
noncomputable abbrev r13(a c:EV.A):EV.Env:=ro (some .any) (some .any) (some .any) (some a) (some c)
noncomputable def S1:WU:=⟨1,[(0,.Zq)]⟩
noncomputable def itm(o:Option (List EV.A×WU)):List EV.A:=match o with|some q=>q.1|none=>[]
noncomputable def sto(o:Option (List EV.A×WU)):WU:=match o with|some q=>q.2|none=>⟨0,[]⟩
noncomputable def S2a:WU:=⟨2,[(1,.lst []),(0,.Zq)]⟩
noncomputable def gP:Option (List EV.A×WU):=Zt ax 7 6 [.X5,.ref 0] S2a
noncomputable def SP:WU:=⟨16,[(5,.lst [.int (.ofNat 4)]),(3,.lst [.str 57,D1,D0]),(1,.lst []),(0,.Zq)]⟩
noncomputable def S2b(y:EV.A):WU:=⟨17,[(16,.lst [y]),(5,.lst [.int (.ofNat 4)]),(3,.lst [.str 57,D1,D0]),(1,.lst []),(0,.Zq)]⟩
noncomputable def cC4(y:EV.A):List (Nat×C):=[(18,.lst (bs++[bp 0])),(16,.lst [y]),(5,.lst [.int (.ofNat 4)]),(3,.lst [.str 57,D1,D0]),(1,.lst []),(0,.Zq)]
noncomputable def S2c(y:EV.A):WU:=⟨19,cC4 y⟩
noncomputable def S4(y:EV.A):WU:=⟨20,cC4 y⟩
noncomputable def S5:WU:=⟨20,[(0,.Zq)]⟩
noncomputable def sh0:List (Nat×C):=[(155,.dct []),(154,.lst bs),(20,.obj 1 [(35,.ref 154),(36,.ref 155)]),(0,.Zq)]
noncomputable def sh1:List (Nat×C):=[(155,.dct [(73,.tup [tr1,.tup [.int (.ofNat 3),.int (.ofNat 1),.int (.ofNat 0)]])]),(154,.lst bs),(20,.obj 1 [(35,.ref 154),(36,.ref 155)]),(0,.Zq)]
noncomputable def S6:WU:=⟨156,sh0⟩
noncomputable def gQ:Option (List EV.A×WU):=Zt ax 7 6 [.X5,.ref 0] S6
noncomputable def cQ:List (Nat×C):=(159,.lst [.int (.ofNat 4)])::(157,.lst [.str 57,D1,D0])::sh0
noncomputable def SQ:WU:=⟨170,cQ⟩
noncomputable def S7w:WU:=⟨171,(170,.lst names)::cQ⟩
noncomputable def S7:WU:=⟨171,cQ⟩
noncomputable def S8:WU:=⟨171,sh0⟩
noncomputable def gT:Option (List EV.A×WU):=Zt aO 8 7 [.X5,.ref 0] S8
noncomputable def S9:WU:=⟨177,(173,.lst [.str 5,.int (.ofNat 1)])::sh0⟩
noncomputable def S9':WU:=⟨177,sh0⟩
noncomputable def S10:WU:=⟨363,sh1⟩
noncomputable def wrL(n:EV.A):List EV.A:=[n,.str 71,.str 7]
noncomputable def Jc(n:EV.A):WU:=⟨364,(363,.lst (wrL n))::sh1⟩
noncomputable def S11:WU:=⟨364,sh1⟩
noncomputable def z4:List EV.A:=[.int (.ofNat 0),.int (.ofNat 0),.int (.ofNat 0),.int (.ofNat 0)]
noncomputable def argL:List EV.A:=[.WX,.tup [.int (.ofNat 0),.int (.ofNat 0),.int (.ofNat 0)],.tup [.int (.ofNat 0),.int (.ofNat 0),.int (.ofNat 0),.int (.ofNat 10)],.ref 364]
noncomputable def Jd:WU:=⟨366,(365,.lst argL)::(364,.lst z4)::sh1⟩
noncomputable def S12:WU:=⟨366,(364,.lst z4)::sh1⟩
noncomputable def basL:List EV.A:=[.WX,.int (.ofNat 1),.int (.ofNat 10001),.bl true]
noncomputable def Je:WU:=⟨367,(366,.lst basL)::(364,.lst z4)::sh1⟩
noncomputable def S13:WU:=⟨367,(364,.lst z4)::sh1⟩
noncomputable def S14:WU:=⟨367,sh1⟩
noncomputable def q_0:EV.A:=.tup [.str 46,.tup [.str 3,vI,M7],.tup [.int (.ofNat 12),.int (.ofNat 1)]]
noncomputable def q_1:EV.A:=.tup [.str 47,.tup [.str 3,.tup [.str 29,.int (.ofNat 0)],.tup [.str 29,.int (.ofNat 1)]],.tup [.int (.ofNat 3),M6,.int (.ofNat 3),.tup [.str 6,.int (.ofNat 1)],.int (.ofNat 4)]]
noncomputable def q_2:EV.A:=.tup [.str 48,.tup [.str 49,vI,.tup [.str 5,.int (.ofNat 2)]],.tup [.int (.ofNat 13),.int (.ofNat 4)]]
noncomputable def q_3:EV.A:=.tup [.str 50,.tup [.str 4,vI,DZ],.tup [.int (.ofNat 1),.tup [.str 30,.int (.ofNat 0)],.int (.ofNat 5)]]
noncomputable def q_4:EV.A:=.tup [.str 51,.tup [.str 3,.tup [.str 49,vI,Lx],DZ],.tup [.int (.ofNat 6),.int (.ofNat 12),.tup [.str 30,.int (.ofNat 0)]]]
noncomputable def q_5:EV.A:=.tup [.str 52,.tup [.str 2,DZ,vI],.tup [.int (.ofNat 1),.tup [.str 30,.int (.ofNat 0)],.int (.ofNat 14),.int (.ofNat 7)]]
noncomputable def q_6:EV.A:=.tup [.str 18,.tup [.str 3,vI,.tup [.str 25,.int (.ofNat 0),.int (.ofNat 9999)]],.tup [.int (.ofNat 2),.tup [.str 30,.int (.ofNat 0)],.tup [.str 31,.int (.ofNat 0)],.int (.ofNat 4)]]
noncomputable def q_7:EV.A:=.tup [.str 53,.tup [.str 4,DZ,.tup [.str 25,.int (.ofNat 1),.int (.ofNat 99)]],.tup [.int (.ofNat 1),.tup [.str 30,.int (.ofNat 0)],.int (.ofNat 1),.tup [.str 30,.int (.ofNat 1)],.int (.ofNat 5)]]
noncomputable def pcs:List EV.A:=[q_0,q_1,q_2,q_3,q_4,q_5,q_6,q_7]
noncomputable def rp(x:EV.A):EV.Env:=[some .X5,some (.ref 0),some .any,some (.ref 20),some tr1,some .any,some .any,some .any,some .any,some .any,some x,none,none]
noncomputable def sh2(i:Nat):List (Nat×C):=[(155,.dct [(73,.tup [tr1,.tup [.int (.ofNat 3),.int (.ofNat 1),.int (.ofNat 0)]])]),(154,.lst (bs++pcs.take i)),(20,.obj 1 [(35,.ref 154),(36,.ref 155)]),(0,.Zq)]
noncomputable def L(n i:Nat):WU:=⟨n,(367,.ZF pcs)::sh2 i⟩
noncomputable def SF(n:Nat):WU:=⟨n,(367,.lst pcs)::sh2 8⟩
noncomputable def ZS(P:EV.A->Prop):List EV.A->Prop
 |[]=>True
 |x::r=>P x/\ZS P r
theorem ZS.get:∀{l:List EV.A}{k:Nat}{x:EV.A},ZS P l->l[k]?=some x->P x
 |[],_,_,_,e=>nomatch e
 |_::_,0,_,h,e=>T7 e▸h.1
 |_::r,k+1,_,h,e=>ZS.get (l:=r) (k:=k) h.2 (by simpa using e)
noncomputable def rtT:XR->Bool
 | .ok (.rt (.bl true)) _=>true
 |_=>false
noncomputable abbrev Kp(c:Cs)(a:EV.Env)(S:WU):Prop:=fr S (c a S)=.ok (.nx a) S
noncomputable def frB(S:WU):Res Bool->Res Bool
 | .ok f a=>.ok f ⟨S.nx,old S.nx a.cs⟩
 |r=>r
noncomputable def kpB(c:List Nat):Res Bool->Res Bool
 | .ok f a=>.ok f ⟨a.nx,sub a.cs c⟩
 |r=>r
noncomputable def kpX(c:List Nat):XR->XR
 | .ok f a=>.ok f ⟨a.nx,sub a.cs c⟩
 |r=>r
noncomputable def yS(c:EV.Env)(x:EV.A)(S:WU):Res Bool:=(cA [.ref 20,.int (.ofNat 2),.str 73,x] S).b λa S=>(ff c S).b λb S=>(Za a b S).b λy S=>match y with
 | .bl k=>.ok k S
 |_=>.bad
noncomputable abbrev Yp(i:Nat):Prop:=Kp ba (r2 (.ref 16)) (S4 ((itm gP).getD i .WX))
noncomputable abbrev L5(i:Nat):Prop:=∀n,Kp fP (r5 ((itm gQ).getD i .WX) n) S7
noncomputable abbrev L7(i:Nat):Prop:=Kp iq (r5 .any (names.getD i .WX)) S8
noncomputable abbrev L8(i:Nat):Prop:=Kp ir (r5 .any (names.getD i .WX)) S8
noncomputable abbrev L9(i:Nat):Prop:=∀n,frB S9 (yS (r5 .any n) ((itm gT).getD i .WX) S9)=.ok false S9
noncomputable abbrev L11(i:Nat):Prop:=∀n,Kp bW (r10 n (names.getD i .WX)) S11
noncomputable abbrev L14(i j:Nat):Prop:=Kp fc (r13 (argL.getD i .WX) (basL.getD j .WX)) S13
theorem JF:∀y,Kp ba (r2 (.ref 1)) (S4 y):=λy=>by kernel_rfl
theorem FR:Yp 3:=by kernel_rfl
theorem Cn:Yp 11:=by kernel_rfl
theorem Cy:Yp 19:=by kernel_rfl
theorem CH:Yp 27:=by kernel_rfl
theorem CP:Yp 35:=by kernel_rfl
theorem JS:L5 7:=λn=>by kernel_rfl
theorem F5:L5 15:=λn=>by kernel_rfl
theorem Gd:L5 23:=λn=>by kernel_rfl
theorem Gm:L5 31:=λn=>by kernel_rfl
theorem Ft:L11 0:=λn=>by kernel_rfl
theorem J9:L8 3:=by kernel_rfl
theorem J3:L7 6:=by kernel_rfl
theorem Kg:L9 3:=λn=>by kernel_rfl
theorem Gu:L9 11:=λn=>by kernel_rfl
theorem GD:L9 19:=λn=>by kernel_rfl
theorem zY:L14 1 1:=by kernel_rfl
theorem Ad:L14 3 1:=by kernel_rfl
theorem JG:∀y,Kp ba (r2 (.tup bs)) (S4 y):=λy=>by kernel_rfl
theorem FS:Yp 4:=by kernel_rfl
theorem Co:Yp 12:=by kernel_rfl
theorem Cz:Yp 20:=by kernel_rfl
theorem CI:Yp 28:=by kernel_rfl
theorem JL:L5 0:=λn=>by kernel_rfl
theorem JT:L5 8:=λn=>by kernel_rfl
theorem F6:L5 16:=λn=>by kernel_rfl
theorem Ge:L5 24:=λn=>by kernel_rfl
theorem Gn:L5 32:=λn=>by kernel_rfl
theorem JW:L7 1:=by kernel_rfl
theorem Fw:L11 3:=λn=>by kernel_rfl
theorem Kc:L8 6:=by kernel_rfl
theorem Kh:L9 4:=λn=>by kernel_rfl
theorem Gv:L9 12:=λn=>by kernel_rfl
theorem GE:L9 20:=λn=>by kernel_rfl
theorem zZ:L14 1 2:=by kernel_rfl
theorem Ae:L14 3 2:=by kernel_rfl
theorem JH:∀y,Kp ba (r2 (.ref 18)) (S4 y):=λy=>by kernel_rfl
theorem FT:Yp 5:=by kernel_rfl
theorem Cp:Yp 13:=by kernel_rfl
theorem CA:Yp 21:=by kernel_rfl
theorem CJ:Yp 29:=by kernel_rfl
theorem JM:L5 1:=λn=>by kernel_rfl
theorem JU:L5 9:=λn=>by kernel_rfl
theorem F7:L5 17:=λn=>by kernel_rfl
theorem Gf:L5 25:=λn=>by kernel_rfl
theorem Gp:L5 33:=λn=>by kernel_rfl
theorem J7:L8 1:=by kernel_rfl
theorem JZ:L7 4:=by kernel_rfl
theorem FB:L11 6:=λn=>by kernel_rfl
theorem Ki:L9 5:=λn=>by kernel_rfl
theorem Gw:L9 13:=λn=>by kernel_rfl
theorem je9:∀n,kpB [155,154,20,0] (iu (r5 .any n) S9')=.ok false S10:=λn=>by kernel_rfl
theorem z6:L14 1 3:=by kernel_rfl
theorem Af:L14 3 3:=by kernel_rfl
theorem JI:∀y,Kp ba (r2 (.str 69)) (S4 y):=λy=>by kernel_rfl
theorem FU:Yp 6:=by kernel_rfl
theorem Cq:Yp 14:=by kernel_rfl
theorem CB:Yp 22:=by kernel_rfl
theorem CK:Yp 30:=by kernel_rfl
theorem JN:L5 2:=λn=>by kernel_rfl
theorem F0:L5 10:=λn=>by kernel_rfl
theorem F8:L5 18:=λn=>by kernel_rfl
theorem Gg:L5 26:=λn=>by kernel_rfl
theorem Gq:L5 34:=λn=>by kernel_rfl
theorem Fu:L11 1:=λn=>by kernel_rfl
theorem Ka:L8 4:=by kernel_rfl
theorem Cj:∀n,Kp bW (r10 n (.str 71)) S11:=λn=>by kernel_rfl
theorem Kj:L9 6:=λn=>by kernel_rfl
theorem Gy:L9 14:=λn=>by kernel_rfl
theorem zT:L14 0 0:=by kernel_rfl
theorem z7:L14 2 0:=by kernel_rfl
theorem je3:kpX [155,154,20,0] (ip (r2 .any) S5)=.ok (.nx (ro none none none none none)) S6:=by kernel_rfl
theorem JJ:∀y,Kp ba (r2 (.int (.ofNat 7))) (S4 y):=λy=>by kernel_rfl
theorem FV:Yp 7:=by kernel_rfl
theorem Cr:Yp 15:=by kernel_rfl
theorem CC:Yp 23:=by kernel_rfl
theorem CL:Yp 31:=by kernel_rfl
theorem JO:L5 3:=λn=>by kernel_rfl
theorem F1:L5 11:=λn=>by kernel_rfl
theorem F9:L5 19:=λn=>by kernel_rfl
theorem Gh:L5 27:=λn=>by kernel_rfl
theorem Gr:L5 35:=λn=>by kernel_rfl
theorem JX:L7 2:=by kernel_rfl
theorem Fy:L11 4:=λn=>by kernel_rfl
theorem Ck:∀n,Kp bW (r10 n (.str 7)) S11:=λn=>by kernel_rfl
theorem Kk:L9 7:=λn=>by kernel_rfl
theorem Gz:L9 15:=λn=>by kernel_rfl
theorem zU:L14 0 1:=by kernel_rfl
theorem z8:L14 2 1:=by kernel_rfl
theorem FL:Yp 0:=by kernel_rfl
theorem FY:Yp 8:=by kernel_rfl
theorem Cu:Yp 16:=by kernel_rfl
theorem CD:Yp 24:=by kernel_rfl
theorem CM:Yp 32:=by kernel_rfl
theorem JP:L5 4:=λn=>by kernel_rfl
theorem F2:L5 12:=λn=>by kernel_rfl
theorem Ga:L5 20:=λn=>by kernel_rfl
theorem Gi:L5 28:=λn=>by kernel_rfl
theorem je6:∀n,Kp kK (r5 .any n) S8:=λn=>by kernel_rfl
theorem J8:L8 2:=by kernel_rfl
theorem J0:L7 5:=by kernel_rfl
theorem Kd:L9 0:=λn=>by kernel_rfl
theorem Kl:L9 8:=λn=>by kernel_rfl
theorem GA:L9 16:=λn=>by kernel_rfl
theorem zV:L14 0 2:=by kernel_rfl
theorem Aa:L14 2 2:=by kernel_rfl
theorem FM:Yp 1:=by kernel_rfl
theorem FZ:Yp 9:=by kernel_rfl
theorem Cv:Yp 17:=by kernel_rfl
theorem CF:Yp 25:=by kernel_rfl
theorem CN:Yp 33:=by kernel_rfl
theorem JQ:L5 5:=λn=>by kernel_rfl
theorem F3:L5 13:=λn=>by kernel_rfl
theorem Gb:L5 21:=λn=>by kernel_rfl
theorem Gj:L5 29:=λn=>by kernel_rfl
theorem JV:L7 0:=by kernel_rfl
theorem Fv:L11 2:=λn=>by kernel_rfl
theorem Kb:L8 5:=by kernel_rfl
theorem Ke:L9 1:=λn=>by kernel_rfl
theorem Km:L9 9:=λn=>by kernel_rfl
theorem GB:L9 17:=λn=>by kernel_rfl
theorem zW:L14 0 3:=by kernel_rfl
theorem Ab:L14 2 3:=by kernel_rfl
theorem FO:Yp 2:=by kernel_rfl
theorem Cm:Yp 10:=by kernel_rfl
theorem Cw:Yp 18:=by kernel_rfl
theorem CG:Yp 26:=by kernel_rfl
theorem CO:Yp 34:=by kernel_rfl
theorem JR:L5 6:=λn=>by kernel_rfl
theorem F4:L5 14:=λn=>by kernel_rfl
theorem Gc:L5 22:=λn=>by kernel_rfl
theorem Gk:L5 30:=λn=>by kernel_rfl
theorem J4:L8 0:=by kernel_rfl
theorem JY:L7 3:=by kernel_rfl
theorem Fz:L11 5:=λn=>by kernel_rfl
theorem Kf:L9 2:=λn=>by kernel_rfl
theorem Gs:L9 10:=λn=>by kernel_rfl
theorem GC:L9 18:=λn=>by kernel_rfl
theorem zX:L14 1 0:=by kernel_rfl
theorem Ac:L14 3 0:=by kernel_rfl
theorem FD:b15 (rp q_1) (L 481 1)=.ok (.nx (rp q_1)) (L 2033 2):=by kernel_rfl
theorem FC:b15 (rp q_0) (L 368 0)=.ok (.nx (rp q_0)) (L 481 1):=by kernel_rfl
theorem FE:b15 (rp q_2) (L 2033 2)=.ok (.nx (rp q_2)) (L 2151 3):=by kernel_rfl
theorem FF:b15 (rp q_3) (L 2151 3)=.ok (.nx (rp q_3)) (L 2455 4):=by kernel_rfl
theorem FG:b15 (rp q_4) (L 2455 4)=.ok (.nx (rp q_4)) (L 3265 5):=by kernel_rfl
theorem FH:b15 (rp q_5) (L 3265 5)=.ok (.nx (rp q_5)) (L 3583 6):=by kernel_rfl
theorem FJ:b15 (rp q_6) (L 3583 6)=.ok (.nx (rp q_6)) (L 4013 7):=by kernel_rfl
theorem FK:b15 (rp q_7) (L 4013 7)=.ok (.nx (rp q_7)) (L 4421 8):=by kernel_rfl
theorem Mu:rtT (ik (rp q_7) (SF 4421))=true:=by kernel_rfl
section
variable{P:Program}{w:World}{K:W.Frag}{mg:Str->Option Value}
local macro_rules | `(tactic|trivial)=>`(tactic|first | (show QA _ _ _ _ _;first|refine' ID ?_ ?_|exact LQ) | (show QE _ _ _ _ _;first | (show QE _ _ _ (.Name _ _) _;first|exact w_v|exact Ly) | (show QE _ _ _ (.Constant _ _ _) _;first|exact LJ|exact Ma|exact M8|exact LR) | (show QE _ _ _ (.Call _ _ _ _) _;first | (show QE _ _ _ _ (af _ _);refine' IB ?_) | (show QE _ _ _ _ (cU bu _);refine' yK b8 GZ dI ?_) | (show QE _ _ _ _ (cM eM _ _);refine' IP F.slot_list_append F.type_list_append fQ GS ?_ ?_) | (show QE _ _ _ _ (cM cE _ _);refine' IP Vw VS fR GU ?_ ?_) | (show QE _ _ _ _ (aR _ _ _ _ _);first|refine' IQ ?_ ?_|refine' D4 ?_) | (show QE _ _ _ _ (cU (uIs _) _);first|refine' tD E5 rfl (by decide) (by decide) ?_|refine' tD qM rfl (by decide) (by decide) ?_|refine' tD kG rfl (by decide) (by decide) ?_|refine' tD y6 rfl (by decide) (by decide) ?_|refine' tD BX rfl (by decide) (by decide) ?_) | (show QE _ _ _ _ (cU nr _);refine' BI mP Hb qM ?_) | (show QE _ _ _ _ (cU qE _);refine' BI gZ AE kG ?_) | (show QE _ _ _ _ (cU qD _);refine' yK (qQ rfl) GQ y3 ?_) | (show QE _ _ _ _ (cU DW _);refine' yK (zk rfl) GR E4 ?_) | (show QE _ _ _ _ (cU DY _);refine' yK (zq rfl) Ha E7 ?_) | (show QE _ _ _ _ (cU DX _);refine' BI (xi rfl) G8 E6 ?_) | (show QE _ _ _ _ (cU vG _);refine' BI zo G7 y4 ?_) | (show QE _ _ _ _ (cU wY _);refine' yK qR C2 dI ?_) | (show QE _ _ _ _ (cU oK _);refine' BI (mO rfl) C3 kG ?_) | (show QE _ _ _ _ (cU wX _);refine' yK xc C1 dI ?_) | (show QE _ _ _ _ (cU rR _);refine' LV ?_) | (show QE _ _ _ _ (cM Au _ _);refine' LF ?_ ?_)) | (show QE _ _ _ (.Tuple _ _ _) _;refine' Md ?_) | (show QE _ _ _ (.Subscript _ _ _) _;first | (show QE _ _ _ _ (cO Xe _ _);refine' Nl ?_ ?_) | (show QE _ _ _ _ (xb _ _);refine' LL ?_) | (show QE _ _ _ _ (cO pF _ _);refine' IE ?_ ?_) | (show QE _ _ _ _ (cO vw _ _);refine' LZ ?_ ?_) | (show QE _ _ _ _ (cO Bt _ _);refine' LY ?_ ?_)|refine' L6 ?_ ?_ ?_) | (show QE _ _ _ (.List _ _) _;refine' LN ?_) | (show QE _ _ _ (.Compare _ _ _ _) _;refine' M9 ?_) | (show QE _ _ _ (.BinOp _ _ _ _) _;first | (show QE _ _ _ _ (cO bL _ _);refine' vJ (Zi.or (ZL.or pG)) uA ?_ ?_) | (show QE _ _ _ _ (cO ye _ _);refine' vJ Hf G9 ?_ ?_) | (show QE _ _ _ _ (cO mV _ _);refine' vJ cW G0 ?_ ?_) | (show QE _ _ _ _ (cO yc _ _);refine' vJ pH GT ?_ ?_) | (show QE _ _ _ _ (cO AB _ _);refine' vJ uD G4 ?_ ?_) | (show QE _ _ _ _ (cO wo _ _);refine' vJ He C5 ?_ ?_) | (show QE _ _ _ _ (cO AD _ _);refine' vJ Da C6 ?_ ?_)) | (show QE _ _ _ (.Attribute _ _ _) _;refine' LA ?_) | (show QE _ _ _ (.ListComp _ _ _ _) _;refine' IC ?_ ?_) | (show QE _ _ _ (.BoolOp _ _ _) _;first|refine' IX ?_ ?_|refine' Mf ?_ ?_|refine' Nv ?_) | (show QE _ _ _ (.IfExp _ _ _ _) _;refine' Nj ?_ ?_ ?_) | (show QE _ _ _ (.UnaryOp _ _ _) _;first|refine' LP ?_|refine' IY ?_) | (show QE _ _ _ (.JoinedStr _ _) _;refine' LC ?_) | (show QE _ _ _ _ (vO);exact IF)) | (show QL _ _ _ _ _;first|refine' Nq ?_ ?_|refine' LS ?_|exact Nn) | (show QS _ _ _ _ _;first | (show QS _ _ _ (.Return _ _) _;first|refine' LW ?_|exact IT) | (show QS _ _ _ (.If _ _ _ _) _;refine' LG ?_ ?_ ?_) | (show QS _ _ _ (.Assign [.Name _ _] _ _) _;first | (show QS _ _ _ _ (aH _ (aS _ _ _ _ _ _));refine' yL ?_ ?_)|refine' LX ?_) | (show QS _ _ _ _ (cX _ _);refine' Me ?_ ?_) | (show QS _ _ _ _ (gK _ _ _ _);refine' IV ?_ ?_) | (show QS _ _ _ (.Expr _ _) _;refine' Nd ?_) | (show QS _ _ _ (.For _ _ _ _ _) _;refine' LB ?_ ?_ ?_) | (show QS _ _ _ _ (br _ _);refine' D5 ?_) | (show QS _ _ _ _ gJ;exact IU) | (show QS _ _ _ _ (yz _ _);refine' LI ?_) | (show QS _ _ _ (.While _ _ _ _) _;refine' Mg ?_ ?_) | (show QS _ _ _ _ (wQ _ _ _);refine' IH ?_ ?_ ?_) | (show QS _ _ _ _ (yA _ _ _);refine' Mc ?_ ?_)|exact Lz) | (show QT _ _ _ _ _;first | (show QT _ _ _ _ (Xc (cO nX _ _));refine' IG ?_ ?_) | (show QT _ _ _ _ (Xc _);refine' Nb ?_) | (show QT _ _ _ _ (tV _);refine' Nt ?_) | (show QT _ _ _ _ (Yo _);refine' IW ?_)|refine' Nu ?_) | (show QC _ _ _ _ _;first | (show QC _ _ _ _ (cO oEq _ _);refine' Nc ?_ ?_) | (show QC _ _ _ _ (cO Za _ _);refine' Nm ?_ ?_) | (show QC _ _ _ _ (cO oLt _ _);refine' gp Et Kv ?_ ?_) | (show QC _ _ _ _ (cO oLe _ _);refine' gp jP wq ?_ ?_) | (show QC _ _ _ _ (cO oGt _ _);refine' gp Es Kt ?_ ?_) | (show QC _ _ _ _ (cO oGe _ _);refine' gp Er Ks ?_ ?_) | (show QC _ _ _ _ (cO AA _ _);refine' gp nY GX ?_ ?_) | (show QC _ _ _ _ (cO AC _ _);refine' gp pI C4 ?_ ?_) | (show QC _ _ _ _ (cO GP _ _);refine' gp nY GW ?_ ?_) | (show QC _ _ _ _ (cU qF _);refine' LK ?_) | (show QC _ _ _ _ (cU mG _);refine' IS ?_) | (show QC _ _ _ _ (cCh _ _ _);refine' Na ?_ ?_ ?_) | (show QC _ _ _ _ (cO oIn _ _);refine' Nk ?_ ?_) | (show QC _ _ _ _ (qO _ _);refine' LH ?_) | (show QC _ _ _ _ (qP _ _);refine' IR ?_) | (show QC _ _ _ _ (cO oInD _ _);refine' w_din ?_ ?_)) | (show QW _ _ _ _ _;first|refine' Np ?_ ?_|refine' LU ?_|refine' w_and ?_ ?_|refine' w_and1 ?_) | (show QG _ _ _ _;first|exact Nf|refine' Ng ?_) | (show QH _ _ _ _;first|refine' D3 ?_ ?_|exact II) | (show QI _ _ _ _ _ _;first | (show QI _ _ _ _ _ (iL _);refine' Nh ?_) | (show QI _ _ _ _ _ (iT _);refine' Ni ?_)|refine' IK ?_|refine' IM ?_ ?_|refine' IJ ?_|refine' IL ?_) | (show QF _ _ _ _ _;first|exact Nr|refine' Mb ?_)|refine' And.intro ?_ ?_|intro _)
theorem ud(A:Al base T n):XO base T n T.P8 (kZ (cN n)):=XQ A sS (by repeat' trivial)
theorem rq(A:Al base T n):XO base T n T.Pu (jz (cN n)):=XQ A qf (by repeat' trivial)
theorem jJ{T:Txt P w K mg}(A:Al base T n):WV P w K mg base (Xb P w) (3+2*n+1+1) T.OU T.N2 ["size","most"] (Xr (gx T) (N2 (cN n))):=by
 have a:=A.fx;refine WV.trim (wH (g:=gx T) T.N3 iV (Xo.of iV ?_))
 repeat' trivial
theorem rF(A:Al base T n):XO base T n T.Pz (jD (cN n)):=XQ A qm (by repeat' trivial)
theorem xF(A:Al base T n):XO base T n T.Qv (nG (cN n)):=XQ A vi (by repeat' trivial)
theorem lC(A:Al base T n):XO base T n T.OR (eW (cN n)):=XQ A kA (by repeat' trivial)
theorem xG(A:Al base T n):XO base T n T.Qw (nH (cN n)):=XQ A vj (by repeat' trivial)
theorem rH(A:Al base T n):XO base T n T.PD (jF (cN n)):=XQ A qp (by repeat' trivial)
theorem kr(A:Al base T n):XO base T n T.OH (dX (cN n)):=XQ A jr (by repeat' trivial)
theorem uf(A:Al base T n):XO base T n T.Qa (la (cN n)):=XQ A sW (by repeat' trivial)
theorem zy(A:Al base T n):XO base T n T.Rl (qW (cN n)):=XQ A yD (by repeat' trivial)
theorem xC(A:Al base T n):XO base T n T.Qt (nE (cN n)):=XQ A vg (by repeat' trivial)
theorem rG(A:Al base T n):XO base T n T.PB (jE (cN n)):=XQ A qo (by repeat' trivial)
theorem jb(A:Al base T n):XO base T n T.OC (dn (cN n)):=by
 refine XQ A iU λe=>?_;intro d f outer s H E a c;have g:=c.nd;have hs:=c.hs
 repeat' trivial
 ·exact⟨(sG T.Rv (ft (k:=1) T) (qL T) (a.mono (by omega)) vz rfl T.Q2 rfl (qv 1))⟩
 ·exact⟨(sG T.Rv (ft (k:=1) T) (qL T) (a.mono (by omega)) vz rfl T.Q2 rfl (qv 1))⟩
theorem mT(A:Al base T n):XO base T n T.OZ (f6 (cN n)):=XQ A mw (by repeat' trivial)
theorem gy{T:Txt P w K mg}(A:Al base T n):WV P w K mg base (Xb P w) (3+2*n+1+1) T.N4 T.NK ["self","cells","given","size","pile"] (Xr (gx T) (NK (cN n))):=by
 have a:=A.fx;refine a9 (g:=gx T) T.OO b6 (Xo.of b6 ?_)
 repeat' trivial
theorem lu{T:Txt P w K mg}(A:Al base T n):WV P w K mg base (Xb P w) (3+2*n+1+1) T.ON T.N1 ["self"] (Xr (gx T) (N1 (cN n))):=by
 have a:=A.fx;refine WV.trim (a9 (g:=gx T) T.Pl eG (Xo.of eG ?_))
 repeat' trivial
theorem lj{T:Txt P w K mg}(A:Al base T n):WV P w K mg base (Xb P w) (3+2*n+1+1) T.OL T.NZ ["self","number"] (Xr (gx T) (NZ (cN n))):=by
 have a:=A.fx;refine WV.trim (a9 (g:=gx T) T.Pj eE (Xo.of eE ?_))
 repeat' trivial
theorem lq{T:Txt P w K mg}(A:Al base T n):WV P w K mg base (Xb P w) (3+2*n+1+1) T.OM T.N0 ["self"] (Xr (gx T) (N0 (cN n))):=by
 have d:=A.fx;refine WV.trim (a9 (g:=gx T) T.Pk eF (Xo.of eF ?_));intro c e outer s H E f a;have i:=a.nd;have hs:=a.hs
 repeat' trivial
 ·exact⟨(HC iY BS rfl T.QP (aK (v:=.ref T.Pd) rfl T.QO rfl) (qv 1) (qv 3) ⟨rfl,rfl,rfl,rfl⟩),rfl⟩
theorem i8{T:Txt P w K mg}(A:Al base T n):WV P w K mg base (Xb P w) (3+2*n+1+1) T.Ow T.NS ["self","name","number"] (Xr (gx T) (NS (cN n))):=by
 have a:=A.fx;refine WV.trim (a9 (g:=gx T) T.O2 cP (Xo.of cP ?_))
 repeat' trivial
theorem xJ(A:Al base T n):XO base T n T.Qz (nK (cN n)):=by
 refine XQ A vo λd=>?_;intro c e outer s H E f a;have g:=a.nd;have hs:=a.hs
 repeat' trivial
 ·exact⟨(Dv A.RN hs rfl T.Pp T.N3.kp (qK T) (tq T) DM (Passes.s bb) (aT (qv 2) bY)),rfl⟩
theorem Jq{T:Txt P w K mg}(A:Al base T n):WV P w K mg base (Xb P w) (3+2*n+1+1) T.RO T.QD ["code","args","size","steps"] (Xr (gx T) (QD (cN n))):=by
 have a:=A.fx;refine WV.trim (a9 (g:=gx T) T.SC Bs (Xo.of Bs ?_))
 repeat' trivial
theorem xE(A:Al base T n):XO base T n T.Qu (nF (cN n)):=by
 refine XQ A vh λd=>?_;intro c e outer s H E f a;have g:=a.nd;have hs:=a.hs
 repeat' trivial
 ·exact⟨(HD eJ ET rfl T.Pr (aK (v:=.ref T.N7) rfl T.OP rfl) (uM gD lM (qv 0) jR (λ_ _=>rfl)) ⟨rfl,rfl,rfl,rfl⟩),rfl⟩
theorem ie(A:Al base T n):XO base T n T.Ov (cF (cN n)):=XQ A gM (by repeat' trivial)
theorem lB(A:Al base T n):XO base T n T.Of (k8 (cN n)):=XQ A sU (by repeat' trivial)
theorem mS(A:Al base T n):XO base T n T.OY (fZ (cN n)):=XQ A mr (by repeat' trivial)
theorem oY(A:Al base T n):XO base T n T.O8 (hZ (cN n)):=by
 refine XQ A ng λd=>?_;intro c e outer s H E f a;have g:=a.nd;have hs:=a.hs
 repeat' trivial
 ·exact⟨(HH T.Po kB (aK (v:=.ref T.N7) rfl T.OP rfl)),rfl⟩
theorem oX(A:Al base T n):XO base T n T.O7 (hX (cN n)):=XQ A mZ (by repeat' trivial)
theorem xB(A:Al base T n):XO base T n T.Qs (nD (cN n)):=XQ A vf (by repeat' trivial)
theorem gz(A:Al base T n):XO base T n T.On (cn (cN n)):=XQ A fU (by repeat' trivial)
theorem uc(A:Al base T n):XO base T n T.P7 (kY (cN n)):=XQ A sR (by repeat' trivial)
theorem o5(A:Al base T n):XO base T n T.Pa (ic (cN n)):=XQ A nj (by repeat' trivial)
theorem zx(A:Al base T n):XO base T n T.Rj (qV (cN n)):=XQ A yC (by repeat' trivial)
theorem ue(A:Al base T n):XO base T n T.P9 (k9 (cN n)):=XQ A sV (by repeat' trivial)
theorem km(A:Al base T n):XO base T n T.OG (dW (cN n)):=XQ A jq (by repeat' trivial)
theorem xH(A:Al base T n):XO base T n T.Qx (nI (cN n)):=XQ A vk (by repeat' trivial)
theorem ub(A:Al base T n):XO base T n T.P6 (kX (cN n)):=by
 refine XQ A sQ λd=>?_;intro c e outer s H E f a;have g:=a.nd;have hs:=a.hs
 repeat' trivial
 ·exact⟨(KC (pN (oi bY) (pN (oi bY) (pN (oi bY) Ht))) (.cons rfl (.cons rfl (.cons rfl .nil))) (by decide) (by decide) rfl rfl (by simp) (by decide)),rfl⟩
theorem mR(A:Al base T n):XO base T n T.OX (fY (cN n)):=XQ A mq (by repeat' trivial)
theorem ja(A:Al base T n):XO base T n T.OB (dm (cN n)):=XQ A iS (by repeat' trivial)
theorem B6(A:Al base T n):XO base T n T.RJ (vS (cN n)):=by
 refine XQ A Br λe=>?_;intro c f outer s H E d a;have g:=a.nd;have hs:=a.hs
 repeat' trivial
 ·exact⟨(uO T.mk_Machine A.PX d rfl T.Su (gr T) .nil uW (Passes.s bb) (aT (qv 10) (aT (qv 9) (aT (qv 2) (aT (HK (Zi.or (ZL.or pG)) uA (oi (aT (A6 (v:=.int 1) rfl T.Pb ⟨_,rfl⟩ (λ_ _=>R.int _)) bY)) (KY gZ AE rfl T.SG kG (qv 6))) bY))))),rfl⟩
theorem xI(A:Al base T n):XO base T n T.Qy (nJ (cN n)):=by
 refine XQ A vm λe=>?_;intro c f outer s H E g a;have d:=a.nd;have hs:=a.hs
 repeat' trivial
 ·exact⟨(uP (i:=1) (own:=["row","one"]) (fr:=[2]) (N':=["row","one","some"]) (Dy rfl (qv 1)) rfl (by show bO ["choices","rows","some"] (λx=>(aa jm).names.lookup x) _ _ _ _=true;decide +kernel) rfl (λ_ _ _ _ _=>(mX (i:=0) (by show List.Nodup [("row":Str),("one":Str),("some":Str)];decide +kernel) rfl (Or.inl rfl))) (λ_ _ _ _ _=>(Dy rfl (qv 2))) (λ_ _ _ _ _=>(mX (i:=1) (by show List.Nodup [("row":Str),("one":Str),("some":Str)];decide +kernel) rfl (Or.inl rfl))) (λ_ _ _ _ _=>(HK (Zi.or (ZL.or pG)) uA (qv 0) (Ey (aT (qv 1) bY)))) d rfl rfl rfl)⟩
theorem ua(A:Al base T n):XO base T n T.P5 (kW (cN n)):=XQ A sP (by repeat' trivial)
theorem xA{T:Txt P w K mg}(A:Al base T n):WV P w K mg base (Xb P w) (3+2*n+1+1) T.PF T.OA ["piece","size"] (Xr (gx T) (OA (cN n))):=by
 have d:=A.fx;refine WV.trim (a9 (g:=gx T) T.Qp mm (Xo.of mm ?_));intro c e outer s H E j a;have l:=a.nd;have hs:=a.hs
 repeat' trivial
 ·exact⟨(Dw (x0:="mark") (own:=["mark"]) (fr:=[]) (N':=["mark"]) (Dy rfl (pR A.Sg hs rfl T.Of.m T.Of.f.kp T.Of.b (Passes.s bb) (aT (qv 2) (aT qs bY)))) rfl (BW (by show oQ "mark" ["piece","size","pattern","all_holes","all_nums","all_ks","holes","nums","ks","args","trial"] (λx=>(aa jk).names.lookup x) _ _ _ _=true;decide +kernel)) rfl (λ_ _=>rfl) (λ_=>rfl) rfl (λ_ _ _ _ _ _=>(mX (i:=0) (by show List.Nodup [("mark":Str)];decide +kernel) rfl (Or.inr rfl))) (λ_ _ _ _ _ _=>HS) (λ_ _ _ _ _ _=>(uK (own:=["num"]) (fr:=[0]) (N':=["num","mark"]) (KJ rfl (A6 (v:=.ref T.OI) rfl T.Qh rfl (kU T.Ou (by rfl) (by rfl)))) rfl (by kernel_rfl) rfl (λ_ _ _ _ _=>(mX (i:=0) (by show List.Nodup [("num":Str),("mark":Str)];decide +kernel) rfl (Or.inl rfl))) (λ_ _ _ _ _=>(sA (Bc jP wq (qv 0) (uM gD lM (qv 1) jR (λ_ _=>rfl)) (gF _)))) (λ_ _ _ _ _=>(qv 0))))),rfl⟩
theorem rC(A:Al base T n):XO base T n T.Pw (jA (cN n)):=XQ A qg (by repeat' trivial)
theorem kl(A:Al base T n):XO base T n T.OF (dU (cN n)):=XQ A jo (by repeat' trivial)
theorem xK(A:Al base T n):XO base T n T.QB (nL (cN n)):=XQ A vp (by repeat' trivial)
theorem rE(A:Al base T n):XO base T n T.Py (jC (cN n)):=XQ A qk (by repeat' trivial)
theorem lA(A:Al base T n):XO base T n T.OQ (eV (cN n)):=XQ A kz (by repeat' trivial)
theorem kj(A:Al base T n):XO base T n T.OE (dS (cN n)):=XQ A jn (by repeat' trivial)
theorem rD(A:Al base T n):XO base T n T.Px (jB (cN n)):=by
 refine XQ A qh λe=>?_;intro d g outer s H E j c;have a:=c.nd;have hs:=c.hs
 repeat' trivial
 ·exact⟨(K0 rfl rfl (uK (own:=["one","within"]) (fr:=[1,3]) (N':=["one","within","some","places"]) (A7 rfl rfl T.Td (Bb rfl (qv 0) jR) (uM gD lM (qv 2) jR (λ_ _=>rfl))) rfl (by show bO ["tree","some","cover","places","first","second","third","ahead","behind"] (λx=>(aa fJ).names.lookup x) _ _ _ _=true;decide +kernel) rfl (λ_ _ _ _ _=>(KI rfl rfl (fS (mX (i:=0) (by show List.Nodup [("one":Str),("within":Str),("some":Str),("places":Str)];decide +kernel) rfl (Or.inl rfl)) (fS (mX (i:=1) (by show List.Nodup [("one":Str),("within":Str),("some":Str),("places":Str)];decide +kernel) rfl (Or.inl rfl)) uL)))) (λ_ _ _ _ _=>HS) (λ_ _ _ _ _=>(pR A.Rt hs rfl T.NV.m T.NV.f.kp T.NV.b wu (aT (qv 0) (aT (qv 2) (aT (qv 1) (aT (qv 3) bY))))))) (fS (mX (i:=4) a rfl (Or.inl rfl)) (fS (mX (i:=5) a rfl (Or.inl rfl)) (fS (mX (i:=6) a rfl (Or.inl rfl)) uL))))⟩
theorem oZ(A:Al base T n):XO base T n T.O9 (ib (cN n)):=XQ A ni (by repeat' trivial)
theorem ig(A:Al base T n):XO base T n T.NV (ia (cN n)):=XQ A nh (by repeat' trivial)
theorem xy(A:Al base T n):XO base T n T.Qr (nC (cN n)):=XQ A ve (by repeat' trivial)
theorem Ed(A:Al base T n):XO base T n T.QR (Eb (cN n)):=XQ A Im (by repeat' trivial)
theorem kh{T:Txt P w K mg}(A:Al base T n):WV P w K mg base (Xb P w) (3+2*n+1+1) T.NU T.NF ["self","some"] (Xr (gx T) (NF (cN n))):=by
 have a:=A.fx;refine wH (g:=gx T) T.NJ dF (Xo.of dF ?_)
 repeat' trivial
theorem i9{T:Txt P w K mg}(A:Al base T n):WV P w K mg base (Xb P w) (3+2*n+1+1) T.Ox T.NT ["self","name"] (Xr (gx T) (NT (cN n))):=by
 have a:=A.fx;refine WV.trim (a9 (g:=gx T) T.O3 cR (Xo.of cR ?_))
 repeat' trivial
theorem oW{T:Txt P w K mg}(A:Al base T n):WV P w K mg base (Xb P w) (3+2*n+1+1) T.O4 T.Oh ["self","name"] (Xr (gx T) (Oh (cN n))):=by
 have a:=A.fx;refine WV.trim (a9 (g:=gx T) T.Qd gm (Xo.of gm ?_))
 repeat' trivial
theorem tZ{T:Txt P w K mg}(A:Al base T n):WV P w K mg base (Xb P w) (3+2*n+1+1) T.P0 T.Oz ["self","piece"] (Xr (gx T) (Oz (cN n))):=by
 have d:=A.fx;refine WV.trim (a9 (g:=gx T) T.Q9 j6 (Xo.of j6 ?_));intro c e outer s H E f a;have i:=a.nd;have hs:=a.hs
 repeat' trivial
 ·exact⟨(wG A.Ss hs rfl T.Sx T.Qp.kp (xa T) uS (Passes.s bb) (aT (qv 1) bY) (pS (A6 (v:=.int 3) rfl T.Qi ⟨_,rfl⟩ (λ_ _=>R.int _)) uN)),rfl⟩
theorem rg{T:Txt P w K mg}(A:Al base T n):WV P w K mg base (Xb P w) (3+2*n+1+1) T.Pf T.Oo ["self","name"] (Xr (gx T) (Oo (cN n))):=by
 have a:=A.fx;refine WV.trim (a9 (g:=gx T) T.QK iQ (Xo.of iQ ?_))
 repeat' trivial
theorem mQ{T:Txt P w K mg}(A:Al base T n):WV P w K mg base (Xb P w) (3+2*n+1+1) T.OW T.N6 ["self"] (Xr (gx T) (N6 (cN n))):=by
 have a:=A.fx;refine WV.trim (a9 (g:=gx T) T.PU fM (Xo.of fM ?_))
 repeat' trivial
theorem tY{T:Txt P w K mg}(A:Al base T n):WV P w K mg base (Xb P w) (3+2*n+1+1) T.PZ T.Oy ["self","name","tree"] (Xr (gx T) (Oy (cN n))):=by
 have a:=A.fx;refine WV.trim (a9 (g:=gx T) T.Q8 j5 (Xo.of j5 ?_))
 repeat' trivial
theorem jI{T:Txt P w K mg}(A:Al base T n):WV P w K mg base (Xb P w) (3+2*n+1+1) T.OS T.Od ["self","name"] (Xr (gx T) (Od (cN n))):=by
 have a:=A.fx;refine WV.trim (a9 (g:=gx T) T.QJ iP (Xo.of iP ?_))
 repeat' trivial
theorem rh{T:Txt P w K mg}(A:Al base T n):WV P w K mg base (Xb P w) (3+2*n+1+1) T.Pg T.Oq ["self","name"] (Xr (gx T) (Oq (cN n))):=by
 have a:=A.fx;refine WV.trim (a9 (g:=gx T) T.QN iR (Xo.of iR ?_))
 repeat' trivial
theorem t7{T:Txt P w K mg}(A:Al base T n):WV P w K mg base (Xb P w) (3+2*n+1+1) T.O5 T.Om ["self","name","args","size"] (Xr (gx T) (Om (cN n))):=by
 have d:=A.fx;refine WV.trim (a9 (g:=gx T) T.Ra j7 (Xo.of j7 ?_));intro c e outer s H E f a;have i:=a.nd;have hs:=a.hs
 repeat' trivial
 ·exact⟨(wG A.Tn hs rfl T.Zo T.SC.kp (Jh T) Ii (Passes.s bb) (aT (Ba rfl T.Xa T.Ye rfl A.RK hs (eT T) (Passes.s bb) (qv 0) (aT (qv 1) bY)) (aT (qv 2) bY)) (pS (qv 3) uN)),rfl⟩
theorem lx{T:Txt P w K mg}(A:Al base T n):WV P w K mg base (Xb P w) (3+2*n+1+1) T.NY T.NM ["self"] (Xr (gx T) (NM (cN n))):=by
 have a:=A.fx;refine WV.trim (a9 (g:=gx T) T.Oe eI (Xo.of eI ?_))
 repeat' trivial
theorem f9(A:Al base T n):XO base T n T.NG (fX (cN n)):=XQ A mj (by repeat' trivial)
theorem t8{T:Txt P w K mg}(A:Al base T n)(p:qI P w K mg base (3+2*n+1) T.NI.a T.NI.d ["_law_e"] (iX T)):XO base T n T.N5 (gu (cN n)):=by
 refine XQ A sO λu=>?_;intro g q outer s H j r c;have hs:=c.hs;have t:=c.nd;refine⟨wJ (DG (X:=bG (Xb P w) P w K mg base _ _ (aa gL) _ g q outer s H j) T (i:=4) (k1:=fg (cN n)) (λpn xe E l=>QL.h ?_) rfl rfl t rfl rfl (λe=>bc (bJ (su (E:=λ_ _ _=>False) p r.h.mark rfl T.NI.m T.NI.f.kp T.NI.b .nil (aB (pv 4) aj)))) rfl (EN T))⟩;have c:=c.tr l;unfold fg
 repeat' trivial
 ·exact⟨(DB rfl T.Xa T.Z8 rfl A.Se hs (tO T) sJ l (qv 0) (aT (qv 2) (aT (uM gD lM (qv 3) jR (λ_ _=>rfl)) bY)) (pS (uM gD lM (qv 3) jR (λ_ _=>rfl)) uN)),rfl⟩
theorem rj{T:Txt P w K mg}(A:Al base T n)(q:qI P w K mg base (3+2*n+1) T.NI.a T.NI.d ["_law_e"] (iX T)):XO base T n T.QQ (eU (cN n)):=by
 refine XQ A p8 λu=>?_;intro g r outer s H j l c;have hs:=c.hs;have t:=c.nd;refine⟨wJ (HY (X:=bG (Xb P w) P w K mg base _ _ (aa fG) _ g r outer s H j) T (i:=1) (k1:=dN (cN n)) (λpn xe E p=>QL.h ?_) rfl t rfl rfl (λe=>bc (bJ (su (E:=λ_ _ _=>False) q l.h.mark rfl T.NI.m T.NI.f.kp T.NI.b .nil (aB (pv 1) aj)))) rfl (EN T))⟩;have c:=c.tr p;unfold dN
 repeat' trivial
 ·exact⟨(A9 rfl T.Yk A.NW l (eS T) rfl T.Rg dI (uO T.Zg A.NQ l rfl T.Sk (dh T) .nil uW p (aT (qv 0) bY))),rfl⟩
theorem ly{T:Txt P w K mg}(l:Fx P w K mg base (gx T) n (cN 0) Zc)(e:WV P w K mg base (Xb P w) n T.NA.a T.NA.d ["_law_script","_law_town","_law_some"] (bK K)):WV P w K mg base (Xb P w) (n+1+1) T.ND.a T.ND.d ["_law_script","_law_town"] (spP (gx T) (Zt aO 8 7)):=by
 refine zG (N:=["_law_script","_law_town","_law_num","_law_arg","_law_low","_law_k","_law_wide","_law_bad"]) T.ND.f Yg λc g outer s H E i=>QM.h ?_;have j:Ctx (bG (Xb P w) P w K mg base _ _ (aa cw) _ c g outer s H E) (gx T) (λ_=>E) n:=⟨rfl,i,Passes.s bb,Yg.nd,rfl⟩
 have hs:=j.hs;unfold aO
 repeat' (first | (show QM _ _ _ (_::_::_) _ _;refine' LO ?_ ?_)|trivial)
 exact⟨(A8 (bJ (bg (E:=λ_=>E) e hs rfl T.NA.m T.NA.f.kp T.NA.b .nil (Passes.s bb) (aB (pv 0) (aB (pv 1) (aB (pv 7) aj))))))⟩
theorem ki{T:Txt P w K mg}(l:Fx P w K mg base (gx T) n (cN 0) Zc)(e:WV P w K mg base (Xb P w) n T.NA.a T.NA.d ["_law_script","_law_town","_law_some"] (bK K)):WV P w K mg base (Xb P w) (n+1+1) T.NB.a T.NB.d ["_law_script","_law_town"] (spP (gx T) (Zt ax 7 6)):=by
 refine zG (N:=["_law_script","_law_town","_law_hole","_law_gap","_law_slot","_law_two","_law_bad"]) T.NB.f Yb λc g outer s H E i=>QM.h ?_;have j:Ctx (bG (Xb P w) P w K mg base _ _ (aa bZ) _ c g outer s H E) (gx T) (λ_=>E) n:=⟨rfl,i,Passes.s bb,Yb.nd,rfl⟩
 have hs:=j.hs;unfold ax
 repeat' (first | (show QM _ _ _ (_::_::_) _ _;refine' LO ?_ ?_)|trivial)
 exact⟨(A8 (bJ (bg (E:=λ_=>E) e hs rfl T.NA.m T.NA.f.kp T.NA.b .nil (Passes.s bb) (aB (pv 0) (aB (pv 1) (aB (pv 6) aj))))))⟩
noncomputable def t9(T:Txt P w K mg)(E:XK):TS:=(DS (tOr (Ys (tOp (λx y H Q=>yq K true x y H Q\/yr K true x y H Q) (cS (EV.Xr (gx T) cA) [] E (ay (cB 3) (ay (tC (.int 2)) (ay (tC (.str "f")) (ay (tDr (gx T) E (Zt aO 8 7)) bM))))) (tE (gx T) (λ_=>E) ff))) (tB (gx T) (λ_=>E) iu)) (tS (gx T) (λ_=>E) (ao (cC (.bl false)))) (tS (gx T) (λ_=>E) Xh))
theorem Ic{T:Txt P w K mg}(J:Fx P w K mg base (gx T) n cL Zc)(M:Own P w K mg base (gx T) n "_law_ask" cA)(N:Own P w K mg base (gx T) n "_law_made" cMd)(O:Own P w K mg base (gx T) n "_law_no_tree" Dc)(y:WV P w K mg base (Xb P w) n T.N5.a T.N5.d ["_law_shop","_law_what","_law_one","_law_other"] (EV.Xr (gx T) cA))(l:WV P w K mg base (Xb P w) n T.NA.a T.NA.d ["_law_script","_law_town","_law_some"] (bK K))(z:WV P w K mg base (Xb P w) n T.ND.a T.ND.d ["_law_script","_law_town"] (spP (gx T) (Zt aO 8 7)))(t:WV P w K mg base (Xb P w) n T.NB.a T.NB.d ["_law_script","_law_town"] (spP (gx T) (Zt ax 7 6)))(u:WV P w K mg base (Xb P w) n T.NU T.NF ["self","some"] (EV.Xr (gx T) (cL 54)))(B:WV P w K mg base (Xb P w) n T.NY T.NM ["self"] (EV.Xr (gx T) (cL 64)))(G:WV P w K mg base (Xb P w) n T.NG.a T.NG.d [] (EV.Xr (gx T) (cL 65))){q:Around}{outer:List PySem.Env}{s:Shared}{E:XK}(e:W2 (n+1) (q.deeper (envOfC "law" (aa oB) s.heap.objs.size T.Qm.a p))) :
  XH (bG (Xb P w) P w K mg base ["_law_script","_law_town","_law_odd","_law_shop","_law_tree_here","_law_bad","_law_name","_law_wrong","_law_args_here","_law_base","_law_piece","_law_extra","_law_single"] "law" (aa oB) T.Qm.a p q outer s H E) (aV oB) (bf (tS (gx T) (λ_=>E) kJ) (bf (Y6 (λr=>cS (bK K) [] E (ay (cB 0) (ay (cB 1) (ay (vx (ay (tE (gx T) (λ_=>E) bQ) (ay (tE (gx T) (λ_=>E) bR) (ay (vx (ay (tDr (gx T) E (Zt ax 7 6)) bM)) (ay (tE (gx T) (λ_=>E) bS) (ay (tE (gx T) (λ_=>E) bT) (ay (tE (gx T) (λ_=>E) bU) bM))))))) bM))) r) (dZ 2)) (bf (tS (gx T) (λ_=>E) ba) (bf (tS (gx T) (λ_=>E) ip) (bf (Iu 5 6 (ay (tDr (gx T) E (Zt ax 7 6)) (ay (λr=>cS (bK K) [] E (ay (cB 0) (ay (cB 1) (ay (tE (gx T) (λ_=>E) fO) bM))) r) bM))) (bf (tS (gx T) (λ_=>E) fP) (bf (tS (gx T) (λ_=>E) kK) (bf (tS (gx T) (λ_=>E) iq) (bf (tS (gx T) (λ_=>E) ir) (bf (t9 T E) (bf (vy (gx T) 7 eZ) (bf (tS (gx T) (λ_=>E) bW) (bf (vy (gx T) 8 e7) (bf (vy (gx T) 9 e9) (bf (tS (gx T) (λ_=>E) fc) (tS (gx T) (λ_=>E) fe)))))))))))))))):=by
 have g:=sc_law.nd;have I:Ctx (bG (Xb P w) P w K mg base _ _ (aa oB) _ p q outer s H E) (gx T) (λ_=>E) n:=⟨rfl,e,Passes.s bb,g,rfl⟩
 have hs:=I.hs;refine' av (QS.h ?_) ?_
 ·unfold kJ
  repeat' (first|refine' bz ?_|trivial)
 refine' av (gI (i:=2) g rfl (Or.inl rfl) (bg (E:=λ_=>E) l hs rfl T.NA.m T.NA.f.kp T.NA.b .nil (Passes.s bb) (aB (pv 0) (aB (pv 1) (aB (fA (aB (QE.h (c:=bQ) ?_) (aB (QE.h (c:=bR) ?_) (aB (fA (aB (bg (E:=λ_=>E) t hs rfl T.NB.m T.NB.f.kp T.NB.b .nil (Passes.s bb) (aB (pv 0) (aB (pv 1) aj))) aj)) (aB (QE.h (c:=bS) ?_) (aB (QE.h (c:=bT) ?_) (aB (QE.h (c:=bU) ?_) aj))))))) aj))))) ?_
 ·show QE _ _ _ _ bQ;unfold bQ
  repeat' (first|refine' bz ?_|trivial)
 ·show QE _ _ _ _ bR;unfold bR
  repeat' (first|refine' bz ?_|trivial)
 ·show QE _ _ _ _ bS;unfold bS
  repeat' (first|refine' bz ?_|trivial)
 ·show QE _ _ _ _ bT;unfold bT
  repeat' (first|refine' bz ?_|trivial)
 ·show QE _ _ _ _ bU;unfold bU
  repeat' (first|refine' bz ?_|trivial)
 refine' av (QS.h ?_) ?_
 ·unfold ba
  repeat' (first|refine' bz ?_|trivial)
 refine' av (QS.h ?_) ?_
 ·unfold ip
  repeat' (first|refine' bz ?_|trivial)
  ·exact⟨(Dz T.Zg u e rfl T.Sk (kg T) (kD T) Ik (Passes.s bb)),rfl⟩
 refine' av (Hx (i:=5) (j:=6) rfl g rfl rfl (by decide) rfl rfl (aB (bg (E:=λ_=>E) t hs rfl T.NB.m T.NB.f.kp T.NB.b .nil (Passes.s bb) (aB (pv 0) (aB (pv 1) aj))) (aB (bg (E:=λ_=>E) l hs rfl T.NA.m T.NA.f.kp T.NA.b .nil (Passes.s bb) (aB (pv 0) (aB (pv 1) (aB (QE.h (c:=fO) ?_) aj)))) aj)) (by kernel_rfl)) ?_
 ·show QE _ _ _ _ fO;unfold fO
  repeat' (first|refine' bz ?_|trivial)
 refine' av (QS.h ?_) ?_
 ·unfold fP
  repeat' (first|refine' bz ?_|trivial)
 refine' av (QS.h ?_) ?_
 ·unfold kK
  repeat' (first|refine' bz ?_|trivial)
 refine' av (QS.h ?_) ?_
 ·unfold iq
  repeat' (first|refine' bz ?_|trivial)
 refine' av (QS.h ?_) ?_
 ·unfold ir
  repeat' (first|refine' bz ?_|trivial)
 refine' av (lO (PW.pt (wD (cg ((AI e).or (AJ e)) (bg (E:=λ_=>E) y hs rfl T.N5.m T.N5.f.kp T.N5.b .nil (Passes.s bb) (aB (pv 3) (aB aQ (aB gG (aB (bg (E:=λ_=>E) z hs rfl T.ND.m T.ND.f.kp T.ND.b .nil (Passes.s bb) (aB (pv 0) (aB (pv 1) aj))) aj))))) (QE.h (c:=ff) ?_) (gF _)) (pQ (QT.h (c:=iu) ?_)))) (wJ (Ew KA)) KS) ?_
 ·unfold ff
  repeat' (first|refine' bz ?_|trivial)
 ·unfold iu
  repeat' (first|refine' bz ?_|trivial)
 refine' av (ji T (cs:=eZ) (i:=7) l hs ?_ (Passes.s bb) (QA.h ?_) g ?_ ?_) ?_
 ·rfl
 ·unfold eZ
  repeat' (first|refine' bz ?_|trivial)
 ·rfl
 ·exact(Or.inr rfl)
 refine' av (QS.h ?_) ?_
 ·unfold bW
  repeat' (first|refine' bz ?_|trivial)
 refine' av (ji T (cs:=e7) (i:=8) l hs ?_ (Passes.s bb) (QA.h ?_) g ?_ ?_) ?_
 ·rfl
 ·unfold e7
  repeat' (first|refine' bz ?_|trivial)
 ·rfl
 ·exact(Or.inl rfl)
 refine' av (ji T (cs:=e9) (i:=9) l hs ?_ (Passes.s bb) (QA.h ?_) g ?_ ?_) ?_
 ·rfl
 ·unfold e9
  repeat' (first|refine' bz ?_|trivial)
 ·rfl
 ·exact(Or.inl rfl)
 refine' av (QS.h ?_) ?_
 ·unfold fc
  repeat' (first|refine' bz ?_|trivial)
 refine' QL.h ?_;unfold fe Cc b15 ik
 repeat' (first|refine' bz ?_|trivial)
 ·exact⟨(Du G hs rfl T.NG.m T.NG.f.kp T.NG.b bb),rfl⟩
 ·exact⟨(uO T.Zg u e rfl T.Sk (dh T) .nil uW (Passes.s bb) (aT (oi (aT (uM gD lM (A6 (v:=.ref T.Q0) rfl T.So rfl (Ea T.Og (by rfl) (by rfl))) jR (λ_ _=>rfl)) bY)) bY)),rfl⟩
 ·exact⟨(A9 rfl T.Yk B e (eS T) rfl T.Rg dI (qv 12)),rfl⟩
end
noncomputable def AllN(P:Nat->Prop):Nat->Nat->Prop
 |_,0=>True
 |s,n+1=>P s/\AllN P (s+1) n
theorem AllN.get:∀{n s i:Nat},AllN P s n->i<n->P (s+i)
 |0,_,_,_,h=>absurd h (Nat.not_lt_zero _)
 |_+1,_,0,h,_=>h.1
 |n+1,s,i+1,h,q=>by have:=AllN.get h.2 (Nat.lt_of_succ_lt_succ q);rwa [Nat.add_right_comm]at this
theorem tN{P:EV.A->Prop}{l:List EV.A}{n:Nat}(hl:Nat.beq l.length n=true)(h:AllN (λi=>P (l.getD i .WX)) 0 n){k:Nat}{x:EV.A}(e:l[k]?=some x):P x:=by
 have q:=h.get (i:=k) (by rw[<- Ug hl];exact(M1.mp e).1);rw[Nat.zero_add]at q
 rwa [UJ,e]at q
theorem JK{k:Nat}{y:EV.A}:(itm gP)[k]?=some y->Kp ba (r2 (.ref 16)) (S4 y):=tN (P:=λy=>Kp ba (r2 (.ref 16)) (S4 y)) (n:=36) (by kernel_rfl) (⟨FL,FM,FO,FR,FS,FT,FU,FV,FY,FZ,Cm,Cn,Co,Cp,Cq,Cr,Cu,Cv,Cw,Cy,Cz,CA,CB,CC,CD,CF,CG,CH,CI,CJ,CK,CL,CM,CN,CO,CP,trivial⟩)
theorem Mv(h:Kp ba (r2 (.ref 16)) (S4 y)):ZS (λo=>Kp ba (r2 o) (S4 y)) CZ:=⟨JF y,JG y,h,JH y,JI y,JJ y,trivial⟩
theorem Mw{k:Nat}{b:EV.A}:(itm gQ)[k]?=some b->∀n,Kp fP (r5 b n) S7:=tN (P:=λb=>∀n,Kp fP (r5 b n) S7) (n:=36) (by kernel_rfl) (⟨JL,JM,JN,JO,JP,JQ,JR,JS,JT,JU,F0,F1,F2,F3,F4,F5,F6,F7,F8,F9,Ga,Gb,Gc,Gd,Ge,Gf,Gg,Gh,Gi,Gj,Gk,Gm,Gn,Gp,Gq,Gr,trivial⟩)
theorem je7s:ZS (λn=>Kp iq (r5 .any n) S8/\Kp ir (r5 .any n) S8/\∀m,Kp bW (r10 m n) S11) names:=⟨⟨JV,J4,Ft⟩,⟨JW,J7,Fu⟩,⟨JX,J8,Fv⟩,⟨JY,J9,Fw⟩,⟨JZ,Ka,Fy⟩,⟨J0,Kb,Fz⟩,⟨J3,Kc,FB⟩,trivial⟩
theorem Mx{k:Nat}{x:EV.A}:(itm gT)[k]?=some x->∀n,frB S9 (yS (r5 .any n) x S9)=.ok false S9:=tN (P:=λx=>∀n,frB S9 (yS (r5 .any n) x S9)=.ok false S9) (n:=21) (by kernel_rfl) (⟨Kd,Ke,Kf,Kg,Kh,Ki,Kj,Kk,Kl,Km,Gs,Gu,Gv,Gw,Gy,Gz,GA,GB,GC,GD,GE,trivial⟩)
theorem je14s:ZS (λa=>ZS (λc=>Kp fc (r13 a c) S13) basL) argL:=⟨⟨zT,zU,zV,zW,trivial⟩,⟨zX,zY,zZ,z6,trivial⟩,⟨z7,z8,Aa,Ab,trivial⟩,⟨Ac,Ad,Ae,Af,trivial⟩,trivial⟩
theorem M5{D:Ends}(s:WZ g m S H)(d:Re g H m a f)(e:rtT (c a S)=true)(q:∀H,D.rt (.bl true) H):tS g E c D f H:=by
 have h:∃i,c a S=.ok (.rt (.bl true)) i:=by
  generalize c a S=r at e;unfold rtT at e;split at e
  ·exact⟨_,rfl⟩
  ·cases e
 exact M4 s d h λ_ j v r=>by rw[r.X7];exact q j
theorem Ff(h:frB S r=.ok b S):∃a,r=.ok b a/\old S.nx a.cs=S.cs:=by
 cases r with
 |ok f a =>unfold frB at h;injection h with d e;subst d;exact⟨a,rfl,by have:=UI WU.cs e;exact this⟩
 |exc c S=>cases h
 |bad=>cases h
theorem GJ(h:kpB d r=.ok b S):∃a,r=.ok b a/\(⟨a.nx,sub a.cs d⟩:WU)=S:=by
 cases r with
 |ok f a =>unfold kpB at h;injection h with e g;subst e;exact⟨a,rfl,g⟩
 |exc c S=>cases h
 |bad=>cases h
theorem GK(h:kpX d r=.ok f S):∃a,r=.ok f a/\(⟨a.nx,sub a.cs d⟩:WU)=S:=by
 cases r with
 |ok f a =>unfold kpX at h;injection h with e g;subst e;exact⟨a,rfl,g⟩
 |exc c i S=>cases h
 |bad=>cases h
section
variable{K:W.Frag}(T:Txt P w K mg)(E:XK)
noncomputable abbrev tk(c:Cs):TS:=tS (gx T) (λ_=>E) c
noncomputable def t12:TS:=bf (vy (gx T) 8 e7) (bf (vy (gx T) 9 e9) (bf (tk T E fc) (tk T E fe)))
noncomputable def t10:TS:=bf (vy (gx T) 7 eZ) (bf (tk T E bW) (t12 T E))
noncomputable def t5:TS:=bf (tk T E fP) (bf (tk T E kK) (bf (tk T E iq) (bf (tk T E ir) (bf (t9 T E) (t10 T E)))))
noncomputable def t4:TS:=bf (Iu 5 6 (ay (tDr (gx T) E (Zt ax 7 6)) (ay (λa=>cS (bK K) [] E (ay (cB 0) (ay (cB 1) (ay (tE (gx T) (λ_=>E) fO) bM))) a) bM))) (t5 T E)
noncomputable def t1:TS:=bf (Y6 (λa=>cS (bK K) [] E (ay (cB 0) (ay (cB 1) (ay (vx (ay (tE (gx T) (λ_=>E) bQ) (ay (tE (gx T) (λ_=>E) bR) (ay (vx (ay (tDr (gx T) E (Zt ax 7 6)) bM)) (ay (tE (gx T) (λ_=>E) bS) (ay (tE (gx T) (λ_=>E) bT) (ay (tE (gx T) (λ_=>E) bU) bM))))))) bM))) a) (dZ 2)) (bf (tk T E ba) (bf (tk T E ip) (t4 T E)))
end
section
variable{P:Program}{w:World}{K:W.Frag}{mg:Str->Option Value}{T:Txt P w K mg}{E:XK}{m:List Addr}{H:Hp}{σ:L2.St}{Dd:Ends}{b n o y:EV.A}
theorem p12:e7 (ro (some .any) (some .any) (some .any) none none) S11=.ok [.X5,.ref 0,.ref 365] Jd:=by kernel_rfl
theorem p13(a:EV.A):e9 (r12 a) S12=.ok [.X5,.ref 0,.ref 366] Je:=by kernel_rfl
theorem p10(n:EV.A):eZ (r5 .any n) S10=.ok [.X5,.ref 0,.ref 363] (Jc n):=by kernel_rfl
theorem cH{d:YS}{b:Cs}{x:EV.A}{e:List EV.A}{f a c:EV.Env}{S g:WU}(i:d x f=some a)(j:b a S=.ok (.nx c) g):lp d b (x::e) f S=lp d b e c g:=by rw[lp];rw[i];dsimp only;rw[j]
theorem Fe{it:Ci}{d:YS}{b:Cs}{c:EV.Env}{S S1 g L8:WU}{e a:List EV.A}{f:Fl}{r:XR}(i:it c S=.ok (e,a) S1)(j:YT a S1=g)(l:lp d b e c g=.ok f L8)(p:(XR.ok f L8).back S1 a=r):dz it d b c S=r:=by unfold dz;rw[i];show(dP a S1 λL=>lp d b e c L).back S1 a=r;rw[cm,j,l];exact p
theorem Lk(h:s c S=.ok (.nx a) d):sq s l c S=l a d:=by unfold sq;rw[h]
theorem lp8:lp (gN 10) b15 pcs (r13 .any .any) (L 368 0)=.ok (.nx (rp q_7)) (L 4421 8):=(cH rfl FC).trans ((cH rfl FD).trans ((cH rfl FE).trans ((cH rfl FF).trans ((cH rfl FG).trans ((cH rfl FH).trans ((cH rfl FJ).trans ((cH rfl FK).trans (rfl))))))))
theorem p15:Cc (r13 .any .any) S14=.ok (pcs,[.ref 367]) ⟨368,(367,.lst pcs)::sh1⟩:=by kernel_rfl
theorem Jr:dz Cc (gN 10) b15 (r13 .any .any) S14=.ok (.nx (rp q_7)) (SF 4421):=Fe p15 (by kernel_rfl:YT [.ref 367] ⟨368,(367,.lst pcs)::sh1⟩=L 368 0) lp8 (by kernel_rfl)
theorem Mt:rtT (fe (r13 .any .any) S14)=true:=by have h:fe (r13 .any .any) S14=ik (rp q_7) (SF 4421):=Lk Jr;rw[h];exact Mu
theorem l12(p:∀H,Dd.rt (.bl true) H)(s:WZ (gx T) m S11 H)(q:Re (gx T) H m (ro (some .any) (some .any) (some .any) none none) σ):t12 T E Dd σ H:=by refine⟨m,_,S11,s,q,0,365,argL,Jd,p12,by rfl,by rfl,(by decide),(by decide),λi a r m1 t d M u v=>?_⟩;refine⟨m1,_,S12,u.keep [364,155,154,20,0] (by kernel_rfl),(v:Re (gx T) t m1 (r12 a) d),0,366,basL,Je,p13 a,by rfl,by rfl,(by decide),(by decide),λj c z m2 g e N B G=>?_⟩;refine vH (B.keep [364,155,154,20,0] (by kernel_rfl):WZ (gx T) m2 S13 g) (G:Re (gx T) g m2 (r13 a c) e) ((je14s.get r).get z) λl f I J=>?_;exact M5 (I.keep [155,154,20,0] (by kernel_rfl):WZ (gx T) m2 S14 l) ((J.any 8 (a:=a) rfl).any 9 (a:=c) rfl:Re (gx T) l m2 (r13 .any .any) f) Mt p
variable{kn:Nat}
theorem l10(f:∀H,Dd.rt (.bl true) H)(g:names[kn]?=some n)(s:WZ (gx T) m S10 H)(j:Re (gx T) H m (r5 .any n) σ):t10 T E Dd σ H:=by
 refine⟨m,_,S10,s,j,0,363,wrL n,Jc n,p10 n,by rfl,by rfl,(by show 0<3;decide),(by show 3<=900;decide),λi v l m1 e c B p q=>?_⟩;have r:ZS (λv=>∀m,Kp bW (r10 m v) S11) (wrL n):=⟨(je7s.get g).2.2,Cj,Ck,trivial⟩
 refine vH (p.keep [155,154,20,0] (by kernel_rfl):WZ (gx T) m1 S11 e) (q:Re (gx T) e m1 (r10 n v) c) (r.get l n) λt d u z=>?_;exact l12 f u ((z.any 6 (a:=n) rfl).any 7 (a:=v) rfl:Re (gx T) t m1 (ro (some .any) (some .any) (some .any) none none) d)
theorem BU{x:EV.A}{Q:Bool->Hp->Prop}(s:WZ (gx T) m S9 H)(f:Re (gx T) H m d σ)(rs:Rs (gx T) H m [.ref 20,.int (.ofNat 2),.str 73,x] p)(e:frB S9 (yS d x S9)=.ok false S9)(q:∀c,WZ (gx T) m S9 c->Re (gx T) c m d σ->Q false c) :
  EV.Xr (gx T) cA (p++[]) H (λv H=>tE (gx T) (λ_=>E) ff σ H λw H=>(λx y H Q=>yq K true x y H Q\/yr K true x y H Q) v w H λy c=>∃k,y=.bl k/\Q k c) E:=by
 have h:Out (gx T) m S9 H (yS d x S9) (λk _ _ c=>Q k c) E:=by obtain⟨Y,h,o⟩:=Ff e;rw[h];intro m' c i r;have g:=f.mono i s;obtain⟨k,rfl,_⟩:=i.pre;exact q c (s.cut r o) (f.cut g)
 exact⟨m,S9,_,s,by rw[Vh];exact rs,h.bind.mono λa m1 S1 H1 t j z v B=>⟨m1,d,S1,j,f.mono t s,z.bind.mono λb m2 G I J M N w rw=>Ep m2 G I a b v w _ E M (R.mono J j _ B) rw (N.bind.mono λy m3 S3 H3 x3 O l u U=>by
  cases y with
  |bl k=>exact⟨k,U.X7,l.ret O⟩
  |_=>exact l.elim)⟩⟩
theorem Jw:Zt aO 8 7 [.X5,.ref 0] S8=some (itm gT,sto gT):=by kernel_rfl
theorem Fi:(⟨(sto gT).nx,sub (sto gT).cs [173,155,154,20,0]⟩:WU)=S9:=by kernel_rfl
theorem l9(s:WZ (gx T) m S8 H)(d:Re (gx T) H m (r5 .any n) σ)(q:∀p a e,WZ (gx T) p S10 e->Re (gx T) e p (r5 .any n) a->Dd.nx a e):t9 T E Dd σ H:=by obtain⟨v,g3,z⟩:=d.get 3 (.ref 20) rfl;obtain⟨B,g0,q0⟩:=d.get 0 .X5 rfl;obtain⟨G,g1,I⟩:=d.get 1 (.ref 0) rfl;refine⟨v,g3,B,g0,G,g1,m,S8,[.X5,.ref 0],itm gT,sto gT,s,.cons q0 (.cons I .nil),Jw,λk x J f M v4 r N O=>?_⟩;have g:=d.mono r s;have i:WZ (gx T) f S9 M:=N.keep [173,155,154,20,0] Fi;refine BU (Q:=λc U=>if c=true then _ else tB (gx T) (λ_=>E) iu σ U _) i g (.cons (R.mono r s _ z) (.cons (R.int _) (.cons (R.str (x:="f") rfl) (.cons O .nil)))) (Mx J n) λY s5 t=>?_;rw[TQ TU];have u:WZ (gx T) f S9' Y:=s5.keep [155,154,20,0] (by kernel_rfl);obtain⟨S',h9,o9⟩:=GJ (je9 n);refine⟨f,_,S9',u,t,?_⟩;rw[h9];intro m7 H7 x7 s7;show(if false=true then _ else tS (gx T) (λ_=>E) Xh Dd σ H7);rw[TQ TU];exact⟨m7,r5 .any n,S10,s7.keep [155,154,20,0] o9,t.mono x7 u,λm8 H8 j x8 s8 l=>q m8 j H8 s8 l⟩
theorem l5(i:∀H,Dd.rt (.bl true) H){j:Nat}(l:(itm gQ)[j]?=some b)(f:names[kn]?=some n)(s:WZ (gx T) m S7 H)(c:Re (gx T) H m (r5 b n) σ):t5 T E Dd σ H:=by refine vH s c (Mw l n) λg d p q=>?_;have h:=je7s.get f;refine vH (p.keep [155,154,20,0] (by kernel_rfl):WZ (gx T) m S8 g) (q.any 5 (a:=b) rfl:Re (gx T) g m (r5 .any n) d) (je6 n) λM r t u=>?_;refine vH t u h.1 λN v z B=>?_;refine vH z B h.2.1 λO G I e=>?_;exact l9 I e λQ J U s c=>l10 i f s c
theorem Jv:Zt ax 7 6 [.X5,.ref 0] S6=some (itm gQ,sto gQ):=by kernel_rfl
theorem Fh:(⟨(sto gQ).nx,sub (sto gQ).cs [159,157,155,154,20,0]⟩:WU)=SQ:=by kernel_rfl
theorem Ju:Zt ax 7 6 [.X5,.ref 0] S2a=some (itm gP,sto gP):=by kernel_rfl
theorem Fg:(⟨(sto gP).nx,sub (sto gP).cs [5,3,1,0]⟩:WU)=SP:=by kernel_rfl
theorem p4:fO (ro none none none none none) SQ=.ok (.ref 170) S7w:=by kernel_rfl
theorem p0:kJ [some .X5,none,none,none,none,none,none,none,none,none,none,none,none] ⟨0,[]⟩=.ok (.nx rS) ⟨1,[(0,.lst [.int (.ofNat 0),.int (.ofNat 0),.int (.ofNat 4)])]⟩:=by kernel_rfl
theorem MC:bQ rS S1=.ok (.ref 1) S2a:=by kernel_rfl
theorem p11:bR rS S2a=.ok (.tup bs) S2a:=by kernel_rfl
theorem MD(y:EV.A):bS rS (S2b y)=.ok (.ref 18) ⟨19,(18,.lst (bs++[bp 0]))::(17,.lst [bp 0])::(S2b y).cs⟩:=by kernel_rfl
theorem ME(y:EV.A):bT rS (S2c y)=.ok (.str 69) (S2c y):=by kernel_rfl
theorem MF(y:EV.A):bU rS (S2c y)=.ok (.int (.ofNat 7)) (S2c y):=by kernel_rfl
noncomputable abbrev NL:List Str:=["_law_script","_law_town","_law_odd","_law_shop","_law_tree_here","_law_bad","_law_name","_law_wrong","_law_args_here","_law_base","_law_piece","_law_extra","_law_single"]
theorem l4(q:∀H,Dd.rt (.bl true) H)(s:WZ (gx T) m S6 H)(e:Re (gx T) H m (ro none none none none none) σ):t4 T E Dd σ H:=by
 obtain⟨i,g0,q0⟩:=e.get 0 .X5 rfl;obtain⟨j,g1,l⟩:=e.get 1 (.ref 0) rfl;refine⟨i,g0,j,g1,m,S6,[.X5,.ref 0],itm gQ,sto gQ,s,.cons q0 (.cons l .nil),Jv,λk b r t u v f z B=>?_⟩;have c:=e.mono f s;have a:WZ (gx T) t SQ u:=z.keep [159,157,155,154,20,0] Fh;refine⟨i,g0,j,g1,yJ a c p4 λm5 U Y d g G=>?_⟩;have I:=c.mono d a;refine fB (E:=E) g (R.mono d a _ (R.mono f s _ q0)) (R.mono d a _ (R.mono f s _ l)) rfl G (xs:=names) rfl (by decide) (by decide) λk n J M N p O Q=>⟨v,N,rfl,?_⟩
 exact l5 q r J (O.keep [159,157,155,154,20,0] (by kernel_rfl)) ((((I.mono p g).set (R.mono p g _ (R.mono d a _ B)) 5).set Q 6:_):Re (gx T) M m5 (r5 b n) _)
theorem l2(e:∀H,Dd.rt (.bl true) H){f g:Nat}(i:(itm gP)[f]?=some y)(j:CZ[g]?=some o)(s:WZ (gx T) m (S4 y) H)(l:Re (gx T) H m (r2 o) σ):bf (tk T E ba) (bf (tk T E ip) (t4 T E)) Dd σ H:=by refine vH s l ((Mv (JK i)).get j) λd c p q=>?_;obtain⟨z,h,r⟩:=GK je3;refine Iy (p.keep [0] (by kernel_rfl):WZ (gx T) m S5 d) (q.any 2 (a:=o) rfl:Re (gx T) d m (r2 .any) c) h λm2 B t G u v=>?_;exact l4 e (u.keep [155,154,20,0] r) v
theorem l1(hD:∀H,Dd.rt (.bl true) H)(s:WZ (gx T) m S1 H)(z:Re (gx T) H m rS σ):t1 T E Dd σ H:=by obtain⟨u0,g0,k0⟩:=z.get 0 .X5 rfl;obtain⟨u1,g1,k1⟩:=z.get 1 (.ref 0) rfl;refine⟨u0,g0,u1,g1,?_⟩;show tE (gx T) (λ_=>E) bQ σ H _;refine yJ s z MC λm1 H1 v1 M i q1=>?_;have Yn:=z.mono M s;refine yJ (c:=bR) i Yn p11 λm2 H2 v2 B N q2=>?_;have Zl:=Yn.mono B i;have j:=R.mono B i _ (R.mono M s _ k0);have l:=R.mono B i _ (R.mono M s _ k1);refine⟨u0,g0,u1,g1,m2,S2a,[.X5,.ref 0],itm gP,sto gP,N,.cons j (.cons l .nil),Ju,λk y hy m4 H4 v4 x4 s4 q4=>?_⟩;have O:=Zl.mono x4 N;have f:WZ (gx T) m4 SP H4:=s4.keep [5,3,1,0] Fg;have p:=El f (.cons q4 .nil) rfl;refine⟨p.1,λp5 Q=>?_⟩;obtain⟨m5,x5,G,q5⟩:=p.2 p5 Q;have Zm:=O.mono x5 f;refine yJ (c:=bS) (S:=S2b y) G Zm (MD y) λm6 H6 v6 U s6 q6=>?_;have q:=Zm.mono U G;have d:WZ (gx T) m6 (S2c y) H6:=s6.keep [18,16,5,3,1,0] (by kernel_rfl);refine yJ (c:=bT) d q (ME y) λm7 H7 v7 I g q7=>?_;have t:=q.mono I d;refine yJ (c:=bU) g t (MF y) λm8 H8 v8 u J q8=>?_;have Y:=t.mono u g;have e:∀a v,R (gx T) H2 m2 a v->R (gx T) H8 m8 a v:=λa v r=>R.mono u g a (R.mono I d a (R.mono U G a (R.mono x5 f a (R.mono x4 N a r))));have z1:=e _ _ (R.mono B i _ q1);have z2:=e _ _ q2;have z3:=R.mono u g _ (R.mono I d _ (R.mono U G _ q5));have z4:=R.mono u g _ (R.mono I d _ q6);have z5:=R.mono u g _ q7;have p:=El (xs:=CZ) J (.cons z1 (.cons z2 (.cons z3 (.cons z4 (.cons z5 (.cons q8 .nil)))))) rfl;refine⟨p.1,λp9 hp9=>?_⟩;obtain⟨m9,x9,s9,q9⟩:=p.2 p9 hp9;have re9:=Y.mono x9 J;refine fB (E:=E) s9 (R.mono x9 J _ (e _ _ j)) (R.mono x9 J _ (e _ _ l)) rfl q9 (xs:=CZ) rfl (by decide) (by decide) λk o ho H10 v10 x10 s10 q10=>?_;exact l2 hD hy ho (s10.keep [18,16,5,3,1,0] (by kernel_rfl)) ((re9.mono x10 s9).set q10 2)
theorem l0(c:∀H,Dd.rt (.bl true) H)(h:R (gx T) H [] .X5 v):bf (tk T E kJ) (t1 T E) Dd (L2.start NL [v]) H:=by
 have s:WZ (gx T) [] ⟨0,[]⟩ H:=⟨rfl,.nil,(λ_ h=>nomatch h),(λ_ _ h=>nomatch h)⟩
 have d:Re (gx T) H [] [some .X5,none,none,none,none,none,none,none,none,none,none,none,none] (L2.start NL [v]):=lR (as:=[.X5]) (N:=NL) (.cons h .nil) (by show 1<=13;decide);refine Iy s d p0 λg i e j f a=>?_;exact l1 c (WZ.town f 0 (p:=0) (q:=0) (rest:=[.int (.ofNat 4)]) rfl (by decide)) a
end
noncomputable def sY(K:W.Frag):Sp:=λc H Q _=>∃(a:Addr)(d:List Int),c=[.ref a]/\Scr K H a d/\∀e,Q (.bl true) e
section
variable{K:W.Frag}
theorem GY{P:Program}{mg:Str->Option Value}{T:Txt P w K mg}(g:Fx P w K mg base (gx T) n cL Zc)(i:Own P w K mg base (gx T) n "_law_ask" cA)(j:Own P w K mg base (gx T) n "_law_made" cMd)(l:Own P w K mg base (gx T) n "_law_no_tree" Dc)(m:WV P w K mg base (Xb P w) n T.N5.a T.N5.d ["_law_shop","_law_what","_law_one","_law_other"] (EV.Xr (gx T) cA))(p:WV P w K mg base (Xb P w) n T.NA.a T.NA.d ["_law_script","_law_town","_law_some"] (bK K))(r:WV P w K mg base (Xb P w) n T.ND.a T.ND.d ["_law_script","_law_town"] (spP (gx T) (Zt aO 8 7)))(t:WV P w K mg base (Xb P w) n T.NB.a T.NB.d ["_law_script","_law_town"] (spP (gx T) (Zt ax 7 6)))(u:WV P w K mg base (Xb P w) n T.NU T.NF ["self","some"] (EV.Xr (gx T) (cL 54)))(v:WV P w K mg base (Xb P w) n T.NY T.NM ["self"] (EV.Xr (gx T) (cL 64)))(y:WV P w K mg base (Xb P w) n T.NG.a T.NG.d [] (EV.Xr (gx T) (cL 65))):WV P w K mg base (Xb P w) (n+1+1) T.Qm.a T.Qm.d ["_law_script"] (sY K):=by
 refine T.Qm.f.ok2 sc_law (λz H Q E ⟨a,c,e,_⟩=>by rw[e];rfl) λB M outer s H z Q E G ⟨a,c,e,I,q⟩=>⟨_,Ic g i j l m p r t u v y G,?_⟩
 subst e;exact l0 (T:=T) (E:=E) (Dd:={nx:=λ_ J=>Q .WX J,rt:=Q}) q (by unfold R;exact⟨a,c,rfl,I⟩)
theorem ci{P:Program}{w:World}{K:W.Frag}{mg:Str->Option Value}{T:Txt P w K mg}{t:Tok}(h:mg x=some (.int i t)):∃v u,mg x=some u/\RelV v u/\∀H m,R (gx T) H m (.int i) v:=⟨.int i,_,h,⟨_,rfl⟩,λ_ _=>R.int _⟩
theorem mkF{P:Program}{mg:Str->Option Value}{T:Txt P w K mg}{call:Nat->List EV.A->WU->Res EV.A}(h:Yz (λp=>∃f,mg p.1=some (.ref f)/\W.keepIn K (.ref f)=true/\FnE P w K mg base (gx T) j f (call p.2)) Zc.fl)(d:Yz (λp=>ZC K ((gx T).tb p.1)/\∃f,Meth K ((gx T).tb p.1) p.2.1 f/\FnE P w K mg base (gx T) j f (call p.2.2)) Zc.ml):Fx P w K mg base (gx T) j call Zc where
 fn _ _ e:=Yz.look h e
 con _ _ e:=Yz.look (l:=Zc.cl) (Φ:=λp=>∃v u,mg p.1=some u/\RelV v u/\∀H m,R (gx T) H m p.2 v) ⟨ci T.RY,ci T.RS,ci T.Pm,ci T.Rz,ci T.RV,ci T.Ry,ci T.RU,ci T.RX,ci T.PN,ci T.Si,ci T.P3,ci T.Ro,ci T.Qe,ci T.Pb,ci T.RW,ci T.Rx,ci T.To,ci T.Tf,ci T.Qi,⟨.ref T.OK,_,T.Rb,rfl,kU T.Oc (by rfl) (by rfl)⟩,⟨.ref T.PY,_,T.Sj,rfl,kU T.O6 (by rfl) (by rfl)⟩,⟨.ref T.Ru,_,T.SU,rfl,kU T.Q1 (by rfl) (by rfl)⟩,⟨.ref T.Q3,_,T.SD,rfl,kU T.Qb (by rfl) (by rfl)⟩,⟨.ref T.Sh,_,T.Th,rfl,kU T.Rw (by rfl) (by rfl)⟩,⟨.ref T.OI,_,T.Qh,rfl,kU T.Ou (by rfl) (by rfl)⟩,⟨.ref T.Q0,_,T.So,rfl,Ea T.Og (by rfl) (by rfl)⟩,trivial⟩ e
 tab _ _ e:=Yz.look (l:=Zc.tl) (Φ:=λp=>∃a t,mg p.1=some (.ref a)/\fT (gx T) t p.2/\dH K a t) ⟨⟨_,_,T.Rc,kC,T.Ri⟩,⟨_,_,T.Qg,gO,T.Ql⟩,⟨_,_,T.OP,eJ,T.Pr⟩,⟨_,_,T.Rn,mF,T.Rp⟩,⟨_,_,T.QO,iY,T.QP⟩,trivial⟩ e
 bi _ e:=Yz.has (l:=Zc.bl) (Φ:=λx=>mg x=none) ⟨T.Rg,T.NC,T.Tq,T.Ti,T.Tc,T.SW,T.SG,T.SV,T.Tb,T.Tp,T.Tr,T.Tt,T.Sl,T.Td,T.R4,T.Qj,trivial⟩ e
 exc _ _ e:=Yz.look (l:=Zc.xl) (Φ:=λp=>cq K ((gx T).cls p.2) [.type "ValueError",.type "Exception",.type "BaseException",.type "object"] "ValueError.__new__" none=true/\mg p.1=some (.ref ((gx T).cls p.2))) ⟨⟨T.SJ,T.R1⟩,⟨T.SK,T.R3⟩,⟨T.SH,T.RZ⟩,⟨T.Sz,T.Rr⟩,⟨T.SX,T.Sq⟩,⟨T.Sy,T.Qq⟩,⟨T.SI,T.R0⟩,⟨T.SY,T.Sr⟩,trivial⟩ e
 met k m i e:=Yz.has (x:=(k,m,i)) d e
 han _ _ e:=Yz.look (l:=Zc.hl) (Φ:=λp=>∃C,mg p.1=some C/\∀c,bF c p.2=true->W.exmOne K (.ref ((gx T).cls c)) C=some true) ⟨⟨_,T.Q2,zC T⟩,⟨_,T.Qq,uh T⟩,trivial⟩ e
 fld k f e:=Yz.has (x:=(k,f)) (l:=Zc.dl) (Φ:=λ(p:Nat×Str)=>ZC K ((gx T).tb p.1)/\Xm K ((gx T).tb p.1) p.2) ⟨⟨T.W5,T.na_cells⟩,⟨T.W5,T.na_given⟩,⟨T.W5,T.na_size⟩,⟨T.W5,T.na_pile⟩,⟨T.W5,T.na_place⟩,⟨T.W5,T.na_kept⟩,⟨T.W5,T.na_ended⟩,⟨T.Xa,T.na_ready⟩,⟨T.Xa,T.na_orders⟩,trivial⟩ e
theorem al0{P:Program}{w:World}{K:W.Frag}{mg:Str->Option Value}{T:Txt P w K mg}:Al base T 0:=⟨mkF ⟨pk T.P8 ah,pk T.Pu ah,⟨_,T.Pp,T.N3.kp,_,_,gX T,ah⟩,pk T.Pz ah,pk T.Qv ah,pk T.OR ah,pk T.Qw ah,pk T.PD ah,pk T.OH ah,pk T.Qa ah,pk T.Rl ah,pk T.Qt ah,pk T.PB ah,pk T.OC ah,pk T.OZ ah,pk T.Qz ah,pk T.Qu ah,pk T.Ov ah,pk T.Of ah,pk T.OY ah,pk T.O8 ah,pk T.O7 ah,pk T.Qs ah,pk T.On ah,pk T.P7 ah,pk T.Pa ah,pk T.Rj ah,pk T.P9 ah,pk T.OG ah,pk T.Qx ah,pk T.P6 ah,pk T.OX ah,pk T.OB ah,pk T.RJ ah,pk T.Qy ah,pk T.P5 ah,pk T.Pw ah,pk T.OF ah,pk T.QB ah,pk T.Py ah,pk T.OQ ah,pk T.OE ah,pk T.Px ah,pk T.O9 ah,pk T.NV ah,pk T.Qr ah,pk T.QR ah,pk T.NG ah,pk T.OJ ah,pk T.NA ah,⟨_,T.YF,T.QR.f.kp,_,_,T.QR.b,ah⟩,trivial⟩ ⟨⟨T.W5,_,T.Yh,_,_,eR T,ah⟩,⟨T.W5,_,T.Yi,_,_,eP T,ah⟩,⟨T.W5,_,T.Yj,_,_,eQ T,ah⟩,⟨T.W5,_,T.X0,_,_,dj T,ah⟩,⟨T.Xa,_,T.X3,_,_,dk T,ah⟩,⟨T.Xa,_,T.YE,_,_,gY T,ah⟩,⟨T.Xa,_,T.Y3,_,_,kQ T,ah⟩,⟨T.Xa,_,T.YQ,_,_,jv T,ah⟩,⟨T.Xa,_,T.Yy,_,_,fW T,ah⟩,⟨T.Xa,_,T.Y4,_,_,kP T,ah⟩,⟨T.Xa,_,T.Ye,_,_,eT T,ah⟩,⟨T.Xa,_,T.YR,_,_,jw T,ah⟩,trivial⟩,ah,ah,ah,ah,ah,ah,ah,ah,ah,ah,ah⟩
theorem alS{P:Program}{w:World}{K:W.Frag}{mg:Str->Option Value}{T:Txt P w K mg}(A:Al base T n):Al base T (n+1):=⟨mkF ⟨pk T.P8 (ud A),pk T.Pu (rq A),⟨_,T.Pp,T.N3.kp,_,_,gX T,(jJ A)⟩,pk T.Pz (rF A),pk T.Qv (xF A),pk T.OR (lC A),pk T.Qw (xG A),pk T.PD (rH A),pk T.OH (kr A),pk T.Qa (uf A),pk T.Rl (zy A),pk T.Qt (xC A),pk T.PB (rG A),pk T.OC (jb A),pk T.OZ (mT A),pk T.Qz (xJ A),pk T.Qu (xE A),pk T.Ov (ie A),pk T.Of (lB A),pk T.OY (mS A),pk T.O8 (oY A),pk T.O7 (oX A),pk T.Qs (xB A),pk T.On (gz A),pk T.P7 (uc A),pk T.Pa (o5 A),pk T.Rj (zx A),pk T.P9 (ue A),pk T.OG (km A),pk T.Qx (xH A),pk T.P6 (ub A),pk T.OX (mR A),pk T.OB (ja A),pk T.RJ (B6 A),pk T.Qy (xI A),pk T.P5 (ua A),pk T.Pw (rC A),pk T.OF (kl A),pk T.QB (xK A),pk T.Py (rE A),pk T.OQ (lA A),pk T.OE (kj A),pk T.Px (rD A),pk T.O9 (oZ A),pk T.NV (ig A),pk T.Qr (xy A),pk T.QR (Ed A),pk T.NG (f9 A),pk T.OJ CW,pk T.NA (Dn ((iA (k:=1) T (iz (k:=0) T)).mono (by omega))),⟨_,T.YF,T.QR.f.kp,_,_,T.QR.b,(Ed A)⟩,trivial⟩ ⟨⟨T.W5,_,T.Yh,_,_,eR T,(lu A)⟩,⟨T.W5,_,T.Yi,_,_,eP T,(lj A)⟩,⟨T.W5,_,T.Yj,_,_,eQ T,(lq A)⟩,⟨T.W5,_,T.X0,_,_,dj T,(i8 A)⟩,⟨T.Xa,_,T.X3,_,_,dk T,(i9 A)⟩,⟨T.Xa,_,T.YE,_,_,gY T,(oW A)⟩,⟨T.Xa,_,T.Y3,_,_,kQ T,(tZ A)⟩,⟨T.Xa,_,T.YQ,_,_,jv T,(rg A)⟩,⟨T.Xa,_,T.Yy,_,_,fW T,(mQ A)⟩,⟨T.Xa,_,T.Y4,_,_,kP T,(tY A)⟩,⟨T.Xa,_,T.Ye,_,_,eT T,(jI A)⟩,⟨T.Xa,_,T.YR,_,_,jw T,(rh A)⟩,trivial⟩,ig A,jI A,lB A,f9 A,gy A,kh A,t7 A,lx A,jJ A,Jq A,xA A⟩
theorem alN(T:Txt P w K mg):∀n,Al base T n
 |0=>al0
 |n+1=>alS (alN T n)
end
end My
end
namespace My
open PySem L2 EV PyProof.Rows
section
theorem Jj:gu (cN 20)=cA:=by funext as S;rfl
theorem Jl:eU (cN 20)=cMd:=by funext as S;rfl
theorem vP:cN 20=cL:=by funext i as S;rfl
theorem Kq:vM (Zt aO 8 7)=Dc:=by funext as S;rfl
variable{K:W.Frag}
theorem Fx.up{P:Program}{call:Nat->List EV.A->WU->Res EV.A}(F:Fx P w K mg base g j call t)(h:j<=k):Fx P w K mg base g k call t:={F with fn:=λx i e=>let⟨f,a,b,l,n,c,d⟩:=F.fn x i e;⟨f,a,b,l,n,c,d.mono h⟩,met:=λx m i e=>let⟨p,f,a,l,n,c,d⟩:=F.met x m i e;⟨p,f,a,l,n,c,d.mono h⟩}
theorem chain(T:Txt P w K mg):WV P w K mg base (Xb P w) 47 T.Qm.a T.Qm.d ["_law_script"] (sY K):=by have A:=alN (base:=base) T 20;have W:=mW (base:=base) (k:=43) T;have e:=t8 A W;rw[Jj]at e;have f:=rj A W;rw[Jl]at f;have g:=Fx.up A.fx (show 43<=45 by decide);rw[vP]at g;have i:=(A.NQ).mono (show _<=45 by decide);rw[vP]at i;have j:=(A.NW).mono (show _<=45 by decide);rw[vP]at j;have l:=(A.Oj).mono (show _<=45 by decide);rw[vP]at l;have q0:=iA (P:=P) (w:=w) (base:=base) (k:=1) T (iz (k:=0) T);have c:=q0.cx0 (CX:=Xb P w);have no:=ly (Fx.up al0.fx (show 3<=3 by decide)) (c.mono (show 2<=3 by decide));have p:=ki (Fx.up al0.fx (show 3<=3 by decide)) (c.mono (show 2<=3 by decide));have m:=EW no;rw[Kq]at m;exact GY (n:=45) (T:=T) g ⟨pk T.N5 e⟩ ⟨pk T.QQ f⟩ ⟨pk T.ND (m.mono (by decide))⟩ e (c.mono (by decide)) (no.mono (by decide)) (p.mono (by decide)) i j l
end
noncomputable def df_mk{K:W.Frag}{h:Heap}{mg:Str->Option Value}{n:Str}{st:Stmt}{e:List Str}{f:Addr}{oc:Value}{p j:Option Addr}{g:Array (Option Value)}{kV doc m d ct:Value}(X:K.In h)(G:h.Ns mainGlobals mg)(a:W.nsIn K mainGlobals n=some (some (.ref f)))(l:K.lookup f=some ⟨oc,p,.func (W.fnOf n n (b9 st) (aV st) (aa st) .none kV doc m j d ct),g⟩)(c:W.codeIn K d n=true)(k:W.keepIn K (.ref f)=true)
  (q:∀i:List Value,i.length=e.length->bindArgs (W.fnOf n n (b9 st) (aV st) (aa st) .none kV doc m j d ct) ⟨i,[]⟩=pure (e.zip i)):Df K mg n st e:=⟨f,_,fun_mk l c k,W.mg_of X G a,.all q⟩
variable{K:W.Frag}
theorem fin{l:W.OpenLaw}(a:mg "law"=some (.ref d))(T:Txt l.prog w K mg) :
  ∃c:FuncData,(∀(s:Shared)(v:Value),BindsTo s c ⟨[v],[]⟩ [("_law_script",v)])/\∀base:Heap,K.In base->base.Ns mainGlobals mg->WV l.prog w K mg base (Xb l.prog w) 47 d c ["_law_script"] (sY K):=by
 have e:=a.symm.trans T.Qm.m;cases e;obtain⟨_,_,_,_,_,_,_,_,_,e,_⟩:=T.Qm.f.ex;exact⟨_,λs v=>by rw[e];exact .of_eq rfl,λbase _ _=>chain T⟩
theorem walk{l:W.OpenLaw}{loose:List Str}{d:DefRec}{K:Params->W.Frag}(i:l.most=some 63)(c:d.params.defaults=[])
  (j:∀(w:World)(h:Heap),m w h->(K w.params).In h)
  (F:∀(w:World)(mg:Str->Option Value)(e:Addr)(h:Heap),(K w.params).In h->h.Ns mainGlobals mg->mg d.name=some (.ref e) ->
   ∃g:FuncData,(∀(s:Shared)(u:Value),BindsTo s g ⟨[u],[]⟩ [("_law_script",u)])/\∀base:Heap,(K w.params).In base->base.Ns mainGlobals mg->WV l.prog w (K w.params) mg base (Xb l.prog w) 47 e g ["_law_script"] (sY (K w.params))) :
  W.WalkO q loose y m l.row.toRowW d [] (λf p=>PySem.call f p) :=
 L2.walk_of (n:=63) (k:=47) (x:="_law_script") (CX:=λw=>Xb l.prog w) (sp:=λw=>sY (K w.params)) i (by decide) c ⟨rfl,by decide,by decide⟩ j F (λ_ _ a r hl t v=>⟨a,r,rfl,Io t v,λ_=>rfl⟩) λ_ _ _ _ _ ⟨_,_,_,_,_,_,_,_,_,_,_,_,_,_,z⟩=>z
theorem fund_mk{st:Stmt}{kV doc:Value}{i:List Value}(l:K.lookup f=some ⟨oc,n,.func (W.fnOf x a (b9 st) (aV st) (aa st) (.ref T) kV doc j m d ct),g⟩)(c:W.codeIn K d a=true)(k:W.keepIn K (.ref f)=true)(e:K.lookup T=some ⟨p,q,.seq i.toArray r,t⟩):FunD K x a st f (W.fnOf x a (b9 st) (aV st) (aa st) (.ref T) kV doc j m d ct) T i:=⟨⟨oc,n,kV,doc,j,m,d,ct,g,rfl,l,c⟩,k,⟨_,_,e,rfl⟩⟩
theorem YX{l:W.OpenLaw}(x:K.lookup a=some o)(e:KTD.tabLook KTD.flatLooks (λb=>K.lookup b) a ([("hole",.int 2),("gap",.int 3),("slot",.int 2)]:List (Str×PyData))=true)(q:KTD.hashesOf (λb=>K.lookup b) a=([("hole",.int 2),("gap",.int 3),("slot",.int 2)]:List (Str×PyData)).map λp=>(PySem.strKind l.prog w).hash p.1):vL l.prog w K a ["hole","gap","slot"]:=⟨⟨_,x⟩,λh x=>⟨_,W.kt_tab_in l.prog w x e (by decide +kernel) q,rfl⟩⟩
end My
open PySem PySem.W PyProof.Rows
set_option maxRecDepth 100000 in
set_option maxHeartbeats 0 in
theorem PySem.Challenge.cw_piecelay_k24_shops_refused_holds : PySem.Challenge.rw_piecelay_k24_shops_refused.Holds := by
 w_on;refine holds_law My.said λsaid=>?_
 refine holds_open (q:=My.view) (loose:=My.loose) (Xt:=My.xt) (XP:=XL My.view []) (Yf:=Hook.obs (kHook My.k0.heap_1 My.kas My.kas_ok)) (Ya:=Hook.val (kHook My.k0.heap_1 My.kas My.kas_ok)) (YP:=Hook.says (kHook My.k0.heap_1 My.kas My.kas_ok)) (N:=My.NN) My.left (Hook.of (kHook My.k0.heap_1 My.kas My.kas_ok)) (Hook.keeps (kHook My.k0.heap_1 My.kas My.kas_ok)) (λs e=>xl_of s (Bool.and_eq_true_iff.mp e).1) XL.keeps (by rfl) (by rfl) (by rfl) (λs e=>recFacts_of (Bool.and_eq_true_iff.mp e).2) (by rfl) (by first|assumption|decide +kernel) (by decide +kernel) ⟨rfl,rfl,rfl,rfl,rfl,by decide +kernel⟩ ?hw ?hc
 case hw=>w_witness2
 k_fill
 refine My.walk (l:=PySem.Challenge.rw_piecelay_k24_shops_refused) rfl rfl (λw h Y=>PySem.W.kIn_of Y) ?F
 case F =>
  intro w mg i h f G g;refine My.fin g ?T;have M:∀{n:Str}{v:Value},nsIn _ mainGlobals n=some (some v)->mg n=some v:=mg_of f G;have N:∀{n:Str},nsIn _ mainGlobals n=some none->mg n=none:=mg_none_of f G;constructor
  case toDfs =>
   constructor
   all_goals
    refine' My.df_mk f G ?a ?l ?c ?k ?b
    case a=>k_is
    case l=>change _=_;k_is
    case c=>k_is
    case k=>k_is
    case b=>exactλd hl=>by first | (match d,hl with |[],_=>rfl) | (match d,hl with |[_],_=>rfl) | (match d,hl with |[_,_],_=>rfl) | (match d,hl with |[_,_,_],_=>rfl) | (match d,hl with |[_,_,_,_],_=>rfl) | (match d,hl with |[_,_,_,_,_],_=>rfl) | (match d,hl with |[_,_,_,_,_,_],_=>rfl)
  all_goals try (first|refine M ?_|refine N ?_);k_is
  all_goals try (refine' L2.Meth.mk ?m1 ?m2 ?m3;(case m1=>k_is);(case m2=>kernel_rfl);(case m3=>k_is))
  all_goals try (refine' L2.Mk.mk ?n1 ?n2 ?n3 ?n4;(case n2=>k_is);all_goals kernel_rfl)
  (case Po=>(refine' My.YX ?o1 ?o2 ?o3;(case o1=>k_is);(case o2=>first|rfl|decide +kernel);(case o3=>first|rfl|kernel_rfl)))
  (case Zg=>refine' L2.Mk.mk ?o1 ?o2 ?o3 ?o4;(case o2=>k_is);all_goals kernel_rfl)
  (case Rv=>refine' L2.IniK.mk ?i1 ?i2 ?i3 ?i4;(case i2=>k_is);all_goals kernel_rfl)
  (case NJ=>refine' My.fund_mk ?h1 ?h2 ?h3 ?h4;(case h1=>change _=_;k_is);(case h2=>k_is);(case h3=>k_is);(case h4=>change _=_;k_is))
  (case SC=>refine' L2.fun_mk ?f1 ?f2 ?f3;(case f1=>change _=_;k_is);(case f2=>k_is);(case f3=>k_is))
  (case w_run=>intros;rfl)
  all_goals first|rfl|kernel_rfl|decide +kernel | (refineλh x=>kt_text_in x ?_;first|rfl|decide +kernel) | (refine' L2.fun_mk ?f1 ?f2 ?f3;(case f1=>change _=_;k_is);(case f2=>k_is);(case f3=>k_is)) | (refine' My.fund_mk ?g1 ?g2 ?g3 ?g4;(case g1=>change _=_;k_is);(case g2=>k_is);(case g3=>k_is);(case g4=>change _=_;k_is)) | (constructor<;>first|rfl|kernel_rfl|decide +kernel)
