import PyProof.Rows.All
import Lean
import KE.KTops
import KE.KRevSl
import KE.KFromBytes
import KE.KTryMore
import KE.KItem
import KE.KUnpack
import KE.KRevIter
import PySem.Challenge.RW_piecelay_k25_whole_twins
set_option Elab.async false
set_option linter.all false
set_option maxRecDepth 100000
set_option maxHeartbeats 0
set_option compiler.extract_closed false
abbrev qd:=List (PySem.Addr×PySem.Obj)
abbrev qf:=PySem.Value->PySem.Shared->Prop
abbrev vc:=PySem.W.Frag
abbrev yw:=List PySem.Value
abbrev cL:=PySem.Str->Option PySem.Value
abbrev eH:=List Int
abbrev e9:=List PySem.Str
abbrev nt:=List PySem.Addr
local macro_rules|`(⋯)=>`(by first|decide +kernel|lia)
abbrev M1:=@List.getElem?_eq_getElem
abbrev Tn:=@PySem.wpAny_bind
abbrev To:=@List.length_map
abbrev Tp:=@PySem.Heap.get?_push_of_some
abbrev Tq:=@List.length_append
abbrev Tt:=@Ne.symm
abbrev Tu:=@Nat.le_refl
abbrev Tv:=@List.getElem?_map
abbrev Tw:=@Bool.and_eq_true
abbrev Tz:=@PySem.wpAny_pure
abbrev TH:=@Bool.false_ne_true
abbrev TJ:=@List.size_toArray
abbrev TN:=@if_neg
abbrev TQ:=@List.length_cons
abbrev TR:=@if_pos
abbrev TU:=@decide_eq_false
abbrev TV:=@PySem.Heap.lt_size
abbrev TX:=@Nat.lt_of_lt_of_le
abbrev TY:=@List.mem_cons
abbrev TZ:=@decide_eq_true
abbrev T3:=@PySem.Heap.get?_push_size
abbrev T4:=@of_decide_eq_true
abbrev T7:=@List.map_cons
abbrev T8:=@Nat.le_trans
abbrev T9:=@List.getElem?_eq_some_iff
abbrev Ua:=@List.mem_append_right
abbrev Ub:=@List.append_nil
abbrev Uc:=@List.getD_eq_getElem?_getD
abbrev Ud:=@Nat.ne_of_lt
abbrev Ue:=@PySem.F.plainAttrs_list
abbrev Ug:=@List.mem_cons_of_mem
abbrev Uh:=@List.map_append
abbrev Ui:=@List.mem_of_getElem?
abbrev Uj:=@List.mem_singleton
abbrev Uk:=@List.length_take
abbrev Ul:=@List.not_mem_nil
abbrev Um:=@List.take_add_one
abbrev Uo:=@decide_eq_true_eq
abbrev Up:=@congrArg
abbrev Uq:=@List.mem_cons_self
abbrev Ur:=@Option.some.inj
abbrev Us:=@Nat.zero_le
abbrev Ut:=@List.length_nil
abbrev Uu:=@PySem.F.slot_list_append
abbrev Uv:=@Bool.and_false
abbrev Uw:=@List.mem_append
abbrev Ux:=@PySem.PassesOwn.never
abbrev Uy:=@PySem.Heap.size_push
abbrev Uz:=@PySem.F.type_list_append
abbrev UA:=@Bool.and_true
abbrev UB:=@List.mem_map
abbrev UC:=@PySem.wpAny_mono
abbrev UD:=@List.getElem?_append_right
abbrev UE:=@List.take_length
abbrev UG:=@Nat.ne_of_gt
abbrev UH:=@PySem.wpAny_truthy_bool
abbrev UI:=@Nat.lt_irrefl
abbrev UJ:=@Nat.le_of_lt
abbrev UK:=@List.lookup_cons
abbrev UL:=@PySem.mem_of_lookup
abbrev UM:=@List.take_zero
abbrev UN:=@List.find?_cons
abbrev UO:=@Int.emod_lt_of_pos
abbrev UP:=@of_decide_eq_false
abbrev UQ:=@PySem.wpAny_callSpecial?_slot
abbrev UR:=@PySem.F.excBase_ValueError
abbrev US:=@PySem.wpAny_holding
abbrev UT:=@PySem.codeAny_mono
abbrev UU:=@Option.map_eq_some_iff
abbrev UW:=@List.append_assoc
abbrev UX:=@or_false
abbrev UY:=@List.getElem?_append_left
abbrev UZ:=@List.mem_filterMap
abbrev U0:=@PySem.wpAny_Call_Name_kw
abbrev U1:=@PySem.F.slot_list_extend
abbrev U3:=@Nat.lt_trans
abbrev U4:=@List.all_eq_true
abbrev U5:=@PySem.wpAny_standAt
abbrev U6:=@Bool.false_or
abbrev U7:=@PySem.Heap.get?_push_at
abbrev U8:=@PyProof.Rows.callWith_type1
abbrev U9:=@Int.emod_nonneg
abbrev Va:=@Bool.true_and
abbrev Vb:=@PySem.wpAny_call_entry
abbrev Vc:=@List.take_append_drop
abbrev Vd:=@PySem.wpAny_setField_rec
abbrev Ve:=@PySem.F.type_list_extend
abbrev Vf:=@PySem.wpAny_field
abbrev Vg:=@List.mem_append_left
abbrev Vh:=@Option.map_some
abbrev Vi:=@PySem.wpAny_comprehension_free
abbrev Vj:=@List.map_map
abbrev Vk:=@Nat.pow_le_pow_right
abbrev Vl:=@PySem.wpAny_newObj_type
abbrev Vm:=@List.any_cons
abbrev Vn:=@PySem.F.plainAttrs_list
abbrev Vo:=@beq_eq_false_iff_ne
abbrev Vp:=@List.filter_cons
abbrev Vq:=@List.take_of_length_le
abbrev Vr:=@PySem.W.Fast.te11892475500146522536
abbrev Vs:=@PySem.W.Fast.te14364793385576792824
abbrev Vt:=@Nat.le_of_eq
abbrev Vu:=@PyProof.Rows.F.plain_set_update_loop
abbrev Vv:=@PySem.wpAny_passesOwn
abbrev Vw:=@List.nodup_cons
abbrev Vx:=@PySem.builtinLookup_eq_fast
abbrev Vy:=@List.length_filter_le
abbrev Vz:=@PySem.F.slot_tuple_iterator_next
abbrev VA:=@PySem.F.excBase_ValueError
abbrev VB:=@List.getElem?_set_ne
abbrev VC:=@beq_iff_eq
abbrev VD:=@Bool.false_and
abbrev VE:=@Nat.lt_succ_self
abbrev VF:=@PySem.F.called_set
abbrev VG:=@PySem.F.slot_list_append
abbrev VH:=@PySem.F.type_list_append
abbrev VI:=@List.filterMap_cons
abbrev VJ:=@PyProof.Rows.slot_tuple_getitem
abbrev VL:=@PySem.wpAny_attempt
abbrev VM:=@PySem.wpAny_call
abbrev VN:=@Nat.lt_of_le_of_lt
abbrev VO:=@Nat.le_max_left
abbrev VP:=@PySem.sizeLine_eq
abbrev VQ:=@PySem.Calls.callWith_builtin
abbrev VR:=@List.drop_append_of_le_length
abbrev VS:=@PySem.wpAny_pyIter_list
abbrev VT:=@Int.toNat_natCast
abbrev VU:=@Bool.eq_false_iff
abbrev VW:=@List.flatten_cons
abbrev VX:=@if_true
abbrev VY:=@List.getElem?_eq_none
abbrev VZ:=@PySem.W.Fast.te10156331382660048174
abbrev V0:=@Prod.ext
abbrev V1:=@Nat.le_max_right
abbrev V2:=@Bool.or_eq_false_iff
abbrev V3:=@PySem.W.Fast.te6613529449190102663
abbrev V4:=@Array.getElem?_eq_some_iff
abbrev V5:=@Nat.le_succ
abbrev V6:=@Array.length_toList
abbrev V7:=@List.length_reverse
abbrev V8:=@PySem.typeLookup_type
abbrev V9:=@List.foldl_cons
abbrev Wa:=@List.nil_append
abbrev Wb:=@PySem.W.callWith_K
abbrev Wc:=@List.map_nil
abbrev Wd:=@List.set_set
abbrev We:=@PyProof.Rows.F.entry_set_update_loop
abbrev Wf:=@List.filter_append
abbrev Wg:=@PySem.W.hideAll_none
abbrev Wh:=@PySem.wpAny_seqItems
abbrev Wi:=@Option.bind_eq_some_iff
abbrev Wj:=@PySem.wpAny_assign_Name
abbrev Wk:=@Nat.lt_succ_of_lt
abbrev Wl:=@PySem.F.slot_list_index
abbrev Wm:=@List.Sublist.refl
abbrev Wn:=@PySem.codeAny_compStart_list
abbrev Wo:=@List.drop_of_length_le
abbrev Wq:=@List.length_drop
abbrev Wr:=@Option.getD_some
abbrev Ws:=@Nat.le_add_right
abbrev Wt:=@List.mem_flatMap
abbrev Wu:=@Nat.succ_le_succ
abbrev Wv:=@List.length_singleton
abbrev Ww:=@PySem.exec_Assign_Name_used
abbrev Wx:=@PySem.codeAny_handlers_test
abbrev Wz:=@List.mem_filter
abbrev WA:=@PySem.wpAny_execs_nil
abbrev WB:=@Bool.eq_iff_iff
abbrev WC:=@List.of_mem_zip
abbrev WD:=@PySem.SeqAt.EqAt.same
abbrev WE:=@PySem.Calls.evalArgs_plain
abbrev WG:=@PySem.call_meets
abbrev WH:=@List.forIn_cons
abbrev WI:=@PySem.codeAny_builtin
abbrev WJ:=@PySem.codeAny_call_builtin
abbrev WK:=@PySem.F.slot_zip_next
abbrev WL:=@PySem.Value.isStrOf_shape
abbrev WM:=@PySem.wpAny_handleBy_cons
abbrev WN:=@List.flatMap_append
abbrev WO:=@List.map_congr_left
abbrev WQ:=@List.flatten_append
abbrev WR:=@PySem.isSubtype_type
abbrev WS:=@Sum.inr.inj
abbrev WT:=@Int.le_refl
abbrev WU:=@PySem.SeqAt.EqAt.int_str
abbrev WV:=@PySem.SeqAt.EqAt.str_int
abbrev WW:=@PySem.Calls.spliced_cons
abbrev WX:=@PySem.F.args_tuple_add_2
abbrev WY:=@PySem.tupleKind_room_in1
abbrev WZ:=@Bool.false_eq_true
abbrev W0:=@PySem.W.kia_one
abbrev W2:=@PySem.Paired.length
abbrev W3:=@List.all_cons
abbrev W4:=@PySem.wpAny_noRaise
abbrev W5:=@List.any_eq_false
abbrev W6:=@PySem.F.entry_tuple_add
abbrev W7:=@List.length_range
abbrev W8:=@List.foldl_append
abbrev W9:=@List.flatMap_cons
abbrev Xa:=@if_false
abbrev Xb:=@List.any_map
abbrev Xc:=@Nat.pow_succ
section
namespace LT
open PySem PySem.W PyProof.Rows
noncomputable def ran(p:Program)(w:World)(a:Nat)(b:Option Value):Nat->SharedT->Thread->Option SharedT
 |0,_,_=>none
 |k+1,s,t=>bif through t then some s else bif Fast.tw6613529449190102663 a b t then
   (Fast.tw10156331382660048174 (Fast.tw11892475500146522536 Fast.tw14364793385576792824) p w s t).bind λx=>ran p w a b k x.1 x.2
  else none
theorem HU{p:Program}{w:World}{a:Nat}{b:Option Value}(k:Nat):∀{s c:SharedT}{t:Thread},ran p w a b k s t=some c->topRun treeTable p w a b k s.abs t=some c.abs:=by
 induction k with
 |zero=>intro s c t h;cases h
 |succ k d =>
  intro s c t h;unfold ran at h;rw[<- V3,<- VZ,<- Vr,<- Vs]at h;unfold topRun;cases c1:through t
  ·cases c2:stepOk a b t
   ·rw[c1,c2]at h;cases h
   ·rw[c1,c2]at h;obtain⟨x,e,f⟩:=Wi.mp (show(stepT (denote treeTable) p w s t).bind _=some c from h);rw[stepT_spec (s':=x.1) (t':=x.2) e];exact d f
  ·rw[c1]at h;cases h;rfl
noncomputable def D4(P:Params):BT:=((boot_heap P).objs.toList.foldl (λ(x:BT×Nat) o=>(x.1.ins x.2 o,x.2+1)) (BT.nil,0)).1
theorem D5:∀P,absHeap (D4 P) 11 {}=boot_heap P:=λP=>by kernel_rfl
noncomputable abbrev boot(P:Params)(os:OsState):SharedT:=⟨D4 P,11,{},#[],boot_drawn,boot_toks,os⟩
theorem D6(P:Params)(os:OsState):(boot P os).abs=⟨boot_heap P,#[],boot_drawn,boot_toks,os⟩:=by show(⟨absHeap (D4 P) 11 {},#[],boot_drawn,boot_toks,os⟩:Shared)=_;rw[D5]
theorem Ir:∀P:Params,((boot_heap P).isNs mainGlobals&&(#[]:Array GenState).size==0,(boot_heap P).objs.size,(boot_heap P).nsMap mainGlobals "__annotations__")=(true,11,some (.ref 6)):=λP=>by kernel_rfl
end LT
namespace LT
section
universe u1 u2 u3 u4 u5 u6 u7 u8 u9
end
end LT
namespace LT
open PySem PySem.W PyProof.Rows
noncomputable def goes(p:Program)(w:World)(a:Nat)(b:Option Value):Nat->SharedT->Thread->Option (SharedT×Thread)
 |0,s,t=>some (s,t)
 |k+1,s,t=>bif through t then none else bif Fast.tw6613529449190102663 a b t then
   (Fast.tw10156331382660048174 (Fast.tw11892475500146522536 Fast.tw14364793385576792824) p w s t).bind λx=>goes p w a b k x.1 x.2
  else none
variable{n₀:Nat}{ann:Option Value}
theorem Ez{p:Program}{w:World}(k:Nat):∀{s a:SharedT}{t b:Thread},goes p w n₀ ann k s t=some (a,b)->topGo treeTable p w n₀ ann k s.abs t=some (a.abs,b):=by
 induction k with
 |zero=>intro s a t b h;cases h;rfl
 |succ k c =>
  intro s a t b h;unfold goes at h;rw[<- V3,<- VZ,<- Vr,<- Vs]at h;unfold topGo;cases c1:through t
  ·cases c2:stepOk n₀ ann t
   ·rw[c1,c2]at h;cases h
   ·rw[c1,c2]at h;obtain⟨x,d,e⟩:=Wi.mp (show(stepT (denote treeTable) p w s t).bind _=some (a,b) from h);rw[stepT_spec (s':=x.1) (t':=x.2) d];exact c e
  ·rw[c1]at h;cases h
noncomputable def ZY(p:Program)(w:World)(n₀:Nat)(ann:Option Value):Nat->SharedT->Thread->Option (Flow×SharedT×Code×Pos)
 |0,_,_=>none
 |k+1,s,t=>match endAt 1 t with
  |some f=>some (f,s,t.code,t.pos)
  |none=>bif Fast.tw6613529449190102663 n₀ ann t then
   (Fast.tw10156331382660048174 (Fast.tw11892475500146522536 Fast.tw14364793385576792824) p w s t).bind λx=>ZY p w n₀ ann k x.1 x.2
  else none
theorem sP{p:Program}{w:World}(k:Nat):∀{s a:SharedT}{t:Thread}{f:Flow}{c:Code}{q:Pos},ZY p w n₀ ann k s t=some (f,a,c,q)->segRun treeTable p w n₀ ann 1 k s.abs t=some (f,a.abs,c,q):=by
 induction k with
 |zero=>intro s a t f c q h;cases h
 |succ k b =>
  intro s a t f c q h;unfold ZY at h;unfold segRun
  cases c1:endAt 1 t with
  |some x=>rw[c1]at h;cases h;rfl
  |none =>
   rw[c1]at h;dsimp only at h ⊢;rw[<- V3,<- VZ,<- Vr,<- Vs]at h;cases c2:stepOk n₀ ann t
   ·rw[c2]at h;cases h
   ·rw[c2]at h;obtain⟨x,d,e⟩:=Wi.mp (show(stepT (denote treeTable) p w s t).bind _=some (f,a,c,q) from h);rw[stepT_spec (s':=x.1) (t':=x.2) d];exact b e
noncomputable def EB{α:Type}:List α->List α×List α
 |[]=>([],[])
 |x::r=>match EB r with | (a,b)=>(x::b,a)
noncomputable def grown:Nat->List Obj->BT
 |0,_=>.nil
 |_,[]=>.nil
 |k+1,x::r=>match EB r with | (a,b)=>.node x (grown k a) (grown k b)
section
universe u1 u2 u3 u4 u5 u6 u7 u8 u9
variable{A:Type u1}{B:Type u2}{C:Type u3}{D:Type u4}{E:Type u5}{F:Type u6}{G:Type u7}{H:Type u8}{I:Type u9}
noncomputable def c1(x:A×B×C×D×E×F×G×H×I):A:=match x with | (a,_)=>a
noncomputable def c2(x:A×B×C×D×E×F×G×H×I):B:=match x with | (_,a,_)=>a
noncomputable def c3(x:A×B×C×D×E×F×G×H×I):C:=match x with | (_,_,a,_)=>a
noncomputable def c4(x:A×B×C×D×E×F×G×H×I):D:=match x with | (_,_,_,a,_)=>a
noncomputable def c5(x:A×B×C×D×E×F×G×H×I):E:=match x with | (_,_,_,_,a,_)=>a
noncomputable def c6(x:A×B×C×D×E×F×G×H×I):F:=match x with | (_,_,_,_,_,a,_)=>a
noncomputable def c7(x:A×B×C×D×E×F×G×H×I):G:=match x with | (_,_,_,_,_,_,a,_)=>a
noncomputable def c8(x:A×B×C×D×E×F×G×H×I):H:=match x with | (_,_,_,_,_,_,_,a,_)=>a
noncomputable def c9(x:A×B×C×D×E×F×G×H×I):I:=match x with | (_,_,_,_,_,_,_,_,a)=>a
noncomputable def d1(x:A×B×C×D×E×F×G×H×I):A:=match x with | (a,_)=>a
noncomputable def d2(x:A×B×C×D×E×F×G×H×I):B:=match x with | (_,a,_)=>a
noncomputable def d3(x:A×B×C×D×E×F×G×H×I):C:=match x with | (_,_,a,_)=>a
noncomputable def d4(x:A×B×C×D×E×F×G×H×I):D:=match x with | (_,_,_,a,_)=>a
noncomputable def d5(x:A×B×C×D×E×F×G×H×I):E:=match x with | (_,_,_,_,a,_)=>a
noncomputable def d6(x:A×B×C×D×E×F×G×H×I):F:=match x with | (_,_,_,_,_,a,_)=>a
noncomputable def d7(x:A×B×C×D×E×F×G×H×I):G:=match x with | (_,_,_,_,_,_,a,_)=>a
noncomputable def d8(x:A×B×C×D×E×F×G×H×I):H:=match x with | (_,_,_,_,_,_,_,a,_)=>a
noncomputable def d9(x:A×B×C×D×E×F×G×H×I):I:=match x with | (_,_,_,_,_,_,_,_,a)=>a
theorem all9{x y:A×B×C×D×E×F×G×H×I}(a:c1 x=d1 y)(b:c2 x=d2 y)(c:c3 x=d3 y)(d:c4 x=d4 y)(h5:c5 x=d5 y)(e:c6 x=d6 y)(h7:c7 x=d7 y)(f:c8 x=d8 y)(g:c9 x=d9 y):x=y:=(V0 a (V0 b (V0 c (V0 d (V0 h5 (V0 e (V0 h7 (V0 f g))))))))
end
noncomputable def tA{α:Type}(n:Nat)(l:List α):List α:=l.take n
noncomputable def tB{α:Type}(n:Nat)(l:List α):List α:=l.take n
noncomputable def rA{α:Type}(n:Nat)(l:List α):List α:=l.drop n
noncomputable def rB{α:Type}(n:Nat)(l:List α):List α:=l.drop n
theorem cut2{α:Type}{x y:List α}(n:Nat)(a:tA n x=tB n y)(b:rA n x=rB n y):x=y:=by rw[<- Vc n x,<- Vc n y];exact congr (Up _ a) b
theorem left3{p q:Program}{loose:e9}{g:Shared->Bool}{α:Type}{i:Shared->α}{j:World->α}{N n1 n2 n3 n4 n5:Nat}{b m c:World->OsState->SharedT}{a:World->OsState->Shared}{l n:List Stmt}{env:Env}{q0 p0 p1 p2 p3:Pos}(e:opening p=plainProg p.main.scope.names)(hN:Nat.ble 600 N=true)(f:∀s,fenceModules? p s=some s)
  (x:n1+(n2+(n3+(n4+n5)))=N) (y:l++n=behindTheImports p)
  (A:∀(w:World)(os:OsState),goes p w 11 (some (.ref 6)) n1 (boot w.params os) (topStub p)=some (b w os,⟨Fast.tw11892475500146522536 Fast.tw14364793385576792824 (.body (behindTheImports p) env),.body (behindTheImports p) env,p0,[topFrame q0]⟩))
  (B:∀(w:World)(os:OsState),ZY p w 11 (some (.ref 6)) n2 (b w os) (blockOf (behindTheImports p) env (.body (behindTheImports p) env) p0 [topFrame q0])=some (.next,b w os,.body (behindTheImports p) env,p1))
  (C:∀(w:World)(os:OsState),ZY p w 11 (some (.ref 6)) n3 (b w os) (piecesOf l env (.body (behindTheImports p) env) p1 [topFrame q0])=some (.next,m w os,.body (behindTheImports p) env,p2))
  (E:∀(w:World)(os:OsState),ZY p w 11 (some (.ref 6)) n4 (m w os) (piecesOf n env (.body (behindTheImports p) env) p2 [topFrame q0])=some (.next,c w os,.body (behindTheImports p) env,p3))
  (h5:∀(w:World)(os:OsState),ran p w 11 (some (.ref 6)) n5 (c w os) (restOf [] env (.body (behindTheImports p) env) p3 [topFrame q0])=some (c w os))
  (G:∀(w:World)(os:OsState),(c w os).abs=a w os)
  (H:∀(w:World)(os:OsState),(staticsOk (Fast.tw5923862056798008813 p.main.body) (boot_heap w.params) (a w os).heap&&namesBound p (a w os).heap&&gensDone (a w os)&&laidKept (boot_heap w.params) (a w os).heap)=true)
  (I:∀(w:World)(os:OsState),Fast.tw4187177175401517315 q loose (Fast.tw5923862056798008813 p.main.body) g true (a w os)=openGood q loose)
  (J:∀(w:World)(os:OsState),i (a w os)=j w):LeftO p q loose g i j N:=λw=>by
 obtain⟨⟨L,M,d,k,os⟩,e,O⟩:=UU.mp (boot_open e hN f w);obtain⟨rfl,rfl,rfl,rfl⟩:L=boot_heap w.params/\M=Array.mk []/\d=boot_drawn/\k=boot_toks:=by simpa using O
 have r:=HU n5 (h5 w os);have r:=piece_app (sP n4 (E w os)) r;rw[Ub]at r;have r:=piece_app (sP n3 (C w os)) r;rw[y]at r;have r:=piece_block (sP n2 (B w os)) r;have z:=Ez n1 (A w os);rw[<- Vr,<- Vs]at z;have r:=go_top z r;rw[x,D6,G]at r;have u:=H w os;have v:=I w os;have Q:=J w os;rw[<- Fast.te5923862056798008813]at u;rw[<- Fast.te4187177175401517315,<- Fast.te5923862056798008813]at v;obtain⟨z1,z2,z3⟩:_/\_/\_:=by simpa only[Prod.mk.injEq]using Ir w.params
 have t:topFrom treeTable p w N ⟨boot_heap w.params,Array.mk [],boot_drawn,boot_toks,os⟩=some (a w os):=by unfold topFrom;dsimp only;rw[z1,z2,z3,r];show(match staticsOk (importedModules p.main.body) (boot_heap w.params) (a w os).heap&&namesBound p (a w os).heap&&gensDone (a w os)&&laidKept (boot_heap w.params) (a w os).heap with|true=>_|false=>_)=_;rw[u]
 unfold openEnds;rw[e];show(topFrom treeTable p w N _).map _=_;rw[t];exact Up some (V0 v Q)
end LT
namespace My
open PySem
noncomputable def top(i:Nat):Stmt:=PySem.Challenge.pw_piecelay_k25_whole_twins.main.body.getD i (.Pass ⟨0,0,0,0⟩)
end My
namespace LM
open PySem PySem.W
noncomputable def o(c:Value)(d:Data):Obj:=⟨c,none,d,#[]⟩
noncomputable def tu(l:yw):Obj:=o (.type "tuple") (.seq l.toArray 0)
noncomputable def fi(c:Value)(l:yw):Obj:=o c (.fields l.toArray)
noncomputable def di(P:Params)(n:Nat)(l:List (Str×Nat×Value)):Obj:=o (.type "dict") (.dict (l.map λx=>(⟨PyData.keyHash P x.1,.str x.1 x.2.1,x.2.2⟩:DictEntry)).toArray n)
noncomputable def co(a b:Str)(t l c k f r:Nat)(z:Bool)(m:yw)(u:Nat):Obj:=fi (.type "code") ([.str a t,.str b (t+1),.str "/claim/cut.py" (t+2),.int l 0,.int c 0,.int 0 0,.int k 0,.int f 0,.ref r,.bool z,.int 181 0,.ref (r+1),.none]++m++[.int u 0,.int l 0,.str "/claim/cut.py" (u+1)])
noncomputable def fr(a b c:Value):Obj:=⟨.type "frame",none,.plain,#[some a,some (.ref 3),some b,none,some c,none,some (.ref 0)]⟩
noncomputable def ty(n:Str)(b m:yw)(a:Nat)(s:yw)(l:List (Option Value)):Obj:=⟨.type "type",none,.cls ⟨n,b,m,a,n,true,[],s,false,none,false⟩,l.toArray⟩
noncomputable def ca(s:Stmt)(j:Nat):Stmt:=match s with
 | .ClassDef _ _ _ b _ _ _ _ _ _ _=>b.getD j (.Pass ⟨0,0,0,0⟩)
 |_=>s
noncomputable def fu(c:Value)(s:Stmt)(q:Str)(g:Nat)(d k m v:Value):Obj:=match s with
 | .FunctionDef n a b _ _ _ e _ _ _=>o c (.func ⟨n,q,a,.stmts b,e,g,[],d,k,.none,m,none,v,.none,0⟩)
 |_=>o c .plain
noncomputable def loc(s:Scope):List Str:=(s.names.filter λx=>match x.2 with | .local=>true|_=>false).map (·.1)
noncomputable def f7(s:Stmt)(q:Str)(A t:Nat)(d k m:Value):List Obj:=match s with
 | .FunctionDef n a _ _ _ _ b _ _ p=>[tu [],fi .none [],tu ((loc b).zipIdx.map λx=>.str x.1 (t+3+x.2)),tu [],fu .none s q 0 .none .none .none .none,co n q t p.line a.args.length a.kwonlyargs.length 3 A true [.ref (A+2),.ref (A+3),.ref (A+4)] (t+3+(loc b).length),fu (.type "function") s q 3 d k m (.ref (A+5))]
 |_=>[]
noncomputable def f5(s:Stmt)(q:Str)(A t:Nat)(d k m:Value):List Obj:=match s with
 | .FunctionDef n a _ _ _ _ _ _ _ p=>[tu [],fi .none [],fu .none s q 0 .none .none .none .none,co n q t p.line a.args.length a.kwonlyargs.length 3 A true [.none,.none,.ref (A+2)] (t+3),fu (.type "function") s q 3 d k m (.ref (A+3))]
 |_=>[]
noncomputable def fn(s:Stmt):Str:=match s with
 | .FunctionDef n _ _ _ _ _ _ _ _ _=>n
 |_=>""
noncomputable def h7(m:Value)(i A t:Nat):List Obj:=f7 (My.top i) (fn (My.top i)) A t .none .none m
noncomputable def h5(m:Value)(i A t:Nat):List Obj:=f5 (My.top i) (fn (My.top i)) A t .none .none m
noncomputable def rs(l:List (Str×Nat×Nat)):List (Str×Nat×Value):=l.map λx=>(x.1,x.2.1,.ref x.2.2)
noncomputable def oc(P:Params)(i:Nat)(n:Str):List Obj:=[tu [(.ref 24)],fi (.type "builtin_function_or_method") [(.builtin "type.__prepare__"),(.type "type")],di P 4 [("__module__",(214+16*i),(.str "piecelay.errors" 187)),("__qualname__",(216+16*i),(.str n (215+16*i))),("__firstlineno__",(218+16*i),(.int (4+2*i) (217+16*i))),("__static_attributes__",(219+16*i),(.ref (35+12*i)))],tu [],fi .none [],co n n (209+16*i) (4+2*i) 0 0 0 (31+12*i) false [.none,.none,.none] (212+16*i),fr (.ref (33+12*i)) (.ref (30+12*i)) (.str "piecelay.errors" 187),tu [],di P 2 [("__module__",(214+16*i),(.str "piecelay.errors" 187)),("__firstlineno__",(218+16*i),(.int (4+2*i) (217+16*i))),("__static_attributes__",(219+16*i),(.ref (35+12*i))),("__doc__",(220+16*i),.none)],ty n [(.ref 24)] [(.ref (37+12*i)),(.ref 24),(.type "ValueError"),(.type "Exception"),(.type "BaseException"),(.type "object")] (36+12*i) [] [some (.ref (28+12*i)),none,some (.str n (207+16*i)),some (.str n (215+16*i)),some (.builtin "ValueError.__new__"),some (.bool true)],fi (.type "super") [(.ref (37+12*i)),(.ref (37+12*i)),(.ref (37+12*i))],fi (.type "builtin_function_or_method") [(.builtin "object.__init_subclass__"),(.ref (37+12*i))]]
noncomputable def b11(P:Params):List Obj:=(boot_heap P).objs.toList
noncomputable def st(P:Params)(os:OsState)(t:Nat)(l:List Obj):SharedT:=⟨LT.grown 12 l,l.length,{},#[],boot_drawn,t,os⟩
noncomputable def a4:List Obj:=[tu [],fi .none [],co "<module>" "<module>" 182 1 0 0 0 11 false [.none,.none,.none] 185,fr (.ref 13) (.ref 3) (.str "__main__" 164)]
noncomputable abbrev sa(w:World)(os:OsState):SharedT:=st w.params os 187 (b11 w.params++a4)
noncomputable def ml(P:Params):List Obj:=([
 [tu [(.type "ValueError")],fi (.type "builtin_function_or_method") [(.builtin "type.__prepare__"),(.type "type")],di P 4 [("__module__",196,(.str "piecelay.errors" 187)),("__qualname__",198,(.str "PieceError" 197)),("__firstlineno__",200,(.int 2 199)),("__static_attributes__",201,(.ref 22))],tu [],fi .none [],co "PieceError" "PieceError" 191 2 0 0 0 18 false [.none,.none,.none] 194,fr (.ref 20) (.ref 17) (.str "piecelay.errors" 187),tu [],di P 3 [("__module__",196,(.str "piecelay.errors" 187)),("__firstlineno__",200,(.int 2 199)),("__static_attributes__",201,(.ref 22)),("__weakref__",203,(.ref 25)),("__doc__",204,.none)],ty "PieceError" [(.type "ValueError")] [(.ref 24),(.type "ValueError"),(.type "Exception"),(.type "BaseException"),(.type "object")] 23 [(.ref 37),(.ref 49),(.ref 61),(.ref 73),(.ref 85),(.ref 97),(.ref 109),(.ref 121),(.ref 133),(.ref 145),(.ref 157),(.ref 169),(.ref 188),(.ref 207)] [some (.ref 15),none,some (.str "PieceError" 189),some (.str "PieceError" 197),some (.builtin "ValueError.__new__"),some (.bool true)],fi (.type "getset_descriptor") [(.str "__weakref__" 202),(.ref 24),(.builtin "ExceptionGroup.__weakref__"),.none],fi (.type "super") [(.ref 24),(.ref 24),(.ref 24)],fi (.type "builtin_function_or_method") [(.builtin "object.__init_subclass__"),(.ref 24)]],
 (List.range 12).flatMap (λi=>oc P i (["NoSize","NoTree","NoArgs","NoCode","NoSteps","Late","NoPiece","NoSet","NoCover","NoParts","NoName","Taken"].getD i "")),
 [tu [(.ref 24)],fi (.type "builtin_function_or_method") [(.builtin "type.__prepare__"),(.type "type")],di P 5 [("__module__",406,(.str "piecelay.errors" 187)),("__qualname__",408,(.str "Fault" 407)),("__firstlineno__",410,(.int 28 409)),("__init__",418,(.ref 185)),("__static_attributes__",420,(.ref 186))],tu [],fi .none [(.int 30 0),(.int 4 0),(.ref 184)],co "Fault" "Fault" 401 28 0 0 0 175 false [.none,.none,.none] 404,fr (.ref 177) (.ref 174) (.str "piecelay.errors" 187),tu [],fi .none [],tu [(.str "self" 414),(.str "place" 415)],tu [],fu .none (ca (My.top 14) 0) "Fault.__init__" 0 .none .none .none .none,co "__init__" "Fault.__init__" 411 30 2 0 3 179 true [(.ref 181),(.ref 182),(.ref 183)] 416,fu (.type "function") (ca (My.top 14) 0) "Fault.__init__" 3 .none .none (.str "piecelay.errors" 187) (.ref 184),tu [(.str "place" 419)],di P 2 [("__module__",406,(.str "piecelay.errors" 187)),("__firstlineno__",410,(.int 28 409)),("__init__",418,(.ref 185)),("__static_attributes__",420,(.ref 186)),("__doc__",421,.none)],ty "Fault" [(.ref 24)] [(.ref 188),(.ref 24),(.type "ValueError"),(.type "Exception"),(.type "BaseException"),(.type "object")] 187 [] [some (.ref 172),none,some (.str "Fault" 399),some (.str "Fault" 407),some (.builtin "ValueError.__new__"),some (.bool true)],fi (.type "super") [(.ref 188),(.ref 188),(.ref 188)],fi (.type "builtin_function_or_method") [(.builtin "object.__init_subclass__"),(.ref 188)],tu [(.ref 24)],fi (.type "builtin_function_or_method") [(.builtin "type.__prepare__"),(.type "type")],di P 5 [("__module__",431,(.str "piecelay.errors" 187)),("__qualname__",433,(.str "Broken" 432)),("__firstlineno__",435,(.int 32 434)),("__init__",443,(.ref 204)),("__static_attributes__",445,(.ref 205))],tu [],fi .none [(.int 34 0),(.int 4 0),(.ref 203)],co "Broken" "Broken" 426 32 0 0 0 194 false [.none,.none,.none] 429,fr (.ref 196) (.ref 193) (.str "piecelay.errors" 187),tu [],fi .none [],tu [(.str "self" 439),(.str "trial" 440)],tu [],fu .none (ca (My.top 15) 0) "Broken.__init__" 0 .none .none .none .none,co "__init__" "Broken.__init__" 436 34 2 0 3 198 true [(.ref 200),(.ref 201),(.ref 202)] 441,fu (.type "function") (ca (My.top 15) 0) "Broken.__init__" 3 .none .none (.str "piecelay.errors" 187) (.ref 203),tu [(.str "trial" 444)],di P 2 [("__module__",431,(.str "piecelay.errors" 187)),("__firstlineno__",435,(.int 32 434)),("__init__",443,(.ref 204)),("__static_attributes__",445,(.ref 205)),("__doc__",446,.none)],ty "Broken" [(.ref 24)] [(.ref 207),(.ref 24),(.type "ValueError"),(.type "Exception"),(.type "BaseException"),(.type "object")] 206 [] [some (.ref 191),none,some (.str "Broken" 424),some (.str "Broken" 432),some (.builtin "ValueError.__new__"),some (.bool true)],fi (.type "super") [(.ref 207),(.ref 207),(.ref 207)],fi (.type "builtin_function_or_method") [(.builtin "object.__init_subclass__"),(.ref 207)]]]:List (List Obj)).flatten
noncomputable abbrev sm(w:World)(os:OsState):SharedT :=
 st w.params os 449 ((b11 w.params).set 3 (di w.params 24 [("__name__",165,(.str "piecelay.errors" 187)),("__doc__",166,.none),("__package__",167,.none),("__loader__",168,(.builtin "__main__.__loader__#opaque")),("__spec__",169,.none),("__annotations__",170,(.ref 6)),("__builtins__",171,(.ref 4)),("__file__",173,(.str "/claim/cut.py" 172)),("__cached__",174,.none),("PieceError",206,(.ref 24)),("NoSize",222,(.ref 37)),("NoTree",238,(.ref 49)),("NoArgs",254,(.ref 61)),("NoCode",270,(.ref 73)),("NoSteps",286,(.ref 85)),("Late",302,(.ref 97)),("NoPiece",318,(.ref 109)),("NoSet",334,(.ref 121)),("NoCover",350,(.ref 133)),("NoParts",366,(.ref 145)),("NoName",382,(.ref 157)),("Taken",398,(.ref 169)),("Fault",423,(.ref 188)),("Broken",448,(.ref 207))])++([tu [],fi .none [(.int 2 0),(.int 0 0),(.ref 20),(.int 4 0),(.int 0 0),(.ref 33),(.int 6 0),(.int 0 0),(.ref 45),(.int 8 0),(.int 0 0),(.ref 57),(.int 10 0),(.int 0 0),(.ref 69),(.int 12 0),(.int 0 0),(.ref 81),(.int 14 0),(.int 0 0),(.ref 93),(.int 16 0),(.int 0 0),(.ref 105),(.int 18 0),(.int 0 0),(.ref 117),(.int 20 0),(.int 0 0),(.ref 129),(.int 22 0),(.int 0 0),(.ref 141),(.int 24 0),(.int 0 0),(.ref 153),(.int 26 0),(.int 0 0),(.ref 165),(.int 28 0),(.int 0 0),(.ref 177),(.int 32 0),(.int 0 0),(.ref 196)],co "<module>" "<module>" 182 1 0 0 0 11 false [.none,.none,.none] 185,fr (.ref 13) (.ref 3) (.str "__main__" 164)]++ml w.params))
noncomputable def env:Env:={scope:=PySem.Challenge.pw_piecelay_k25_whole_twins.main.scope,locals:=mainNs,globals:=mainNs,cells:=[],code:=.ref 13,frame:=some 14}
noncomputable abbrev n0:Value:=(.str "piecelay.checks" 449)
noncomputable abbrev n1:Value:=(.str "piecelay.trees" 493)
noncomputable abbrev n2:Value:=(.str "piecelay.machine" 580)
noncomputable abbrev n3:Value:=(.str "piecelay.pieces" 794)
noncomputable abbrev n4:Value:=(.str "piecelay.covers" 1067)
noncomputable abbrev n5:Value:=(.str "piecelay.laying" 1147)
noncomputable abbrev n6:Value:=(.str "piecelay.shops" 1195)
noncomputable abbrev n7:Value:=(.str "law_piecelay_k25_whole_twins" 1338)
noncomputable def fl(P:Params):List Obj:=([
 h7 n0 20 210 457,
 h7 n0 21 217 466,
 h5 n0 22 224 473,
 [tu [(.int 10000 451)]],
 f7 (My.top 23) "need_size" 230 479 (.ref 229) .none n0,
 h5 n0 24 237 487,
 [di P 2 [("num",499,(.int 9999 500)),("arg",501,(.int 3 502))],di P 5 [("add",506,(.int 2 507)),("sub",508,(.int 2 509)),("mul",510,(.int 2 511)),("less",512,(.int 2 513)),("pick",514,(.int 3 515))]],
 h7 n1 30 244 522,
 h7 n1 31 251 530,
 h5 n1 32 258 537,
 h7 n1 33 263 543,
 h7 n1 34 270 550,
 h7 n1 35 277 560,
 h7 n1 36 284 571,
 [tu [(.str "end" 592),(.int 0 593)],tu [(.str "put" 594),(.int 1 595)],tu [(.str "far" 596),(.int 2 597)],tu [(.str "load" 598),(.int 1 599)],tu [(.str "add" 600),(.int 0 601)],tu [(.str "sub" 602),(.int 0 603)],tu [(.str "mul" 604),(.int 0 605)],tu [(.str "less" 606),(.int 0 607)],tu [(.str "skip" 608),(.int 1 609)],tu [(.str "jump" 610),(.int 2 611)],tu [(.str "zero" 612),(.int 1 613)],tu [(.str "none" 614),(.int 2 615)],tu [(.str "more" 616),(.int 1 617)],tu [(.str "twice" 618),(.int 0 619)],tu [(.str "about" 620),(.int 0 621)],tu [(.str "call" 622),(.int 2 623)],tu [(.str "back" 624),(.int 0 625)],tu [(.ref 291),(.ref 292),(.ref 293),(.ref 294),(.ref 295),(.ref 296),(.ref 297),(.ref 298),(.ref 299),(.ref 300),(.ref 301),(.ref 302),(.ref 303),(.ref 304),(.ref 305),(.ref 306),(.ref 307)],di P 3 [("load",627,(.int 3 628)),("skip",629,(.int 9 630)),("zero",631,(.int 9 632))],tu [(.str "skip" 637),(.str "jump" 638),(.str "zero" 639),(.str "none" 640),(.str "call" 641),(.str "back" 642)]],
 h5 n2 46 311 644,
 h7 n2 47 316 650,
 h7 n2 48 323 657,
 h7 n2 49 330 668,
 [tu [],fi (.type "builtin_function_or_method") [(.builtin "type.__prepare__"),(.type "type")],di P 11 [("__module__",684,(.str "piecelay.machine" 580)),("__qualname__",686,(.str "Machine" 685)),("__firstlineno__",688,(.int 137 687)),("__init__",699,(.ref 350)),("take",706,(.ref 357)),("push",714,(.ref 364)),("step",725,(.ref 371)),("way",735,(.ref 378)),("finish",742,(.ref 385)),("change",753,(.ref 392)),("__static_attributes__",761,(.ref 393))],tu [],fi .none [(.int 139 0),(.int 4 0),(.ref 349),(.int 148 0),(.int 4 0),(.ref 356),(.int 153 0),(.int 4 0),(.ref 363),(.int 158 0),(.int 4 0),(.ref 370),(.int 172 0),(.int 4 0),(.ref 377),(.int 186 0),(.int 4 0),(.ref 384),(.int 191 0),(.int 4 0),(.ref 391)],co "Machine" "Machine" 679 137 0 0 0 340 false [.none,.none,.none] 682,fr (.ref 342) (.ref 339) (.str "piecelay.machine" 580)],
 f7 (ca (My.top 50) 0) "Machine.__init__" 344 689 .none .none n2,
 f7 (ca (My.top 50) 1) "Machine.take" 351 700 .none .none n2,
 f7 (ca (My.top 50) 2) "Machine.push" 358 707 .none .none n2,
 f7 (ca (My.top 50) 3) "Machine.step" 365 715 .none .none n2,
 f7 (ca (My.top 50) 4) "Machine.way" 372 726 .none .none n2,
 f7 (ca (My.top 50) 5) "Machine.finish" 379 736 .none .none n2,
 f7 (ca (My.top 50) 6) "Machine.change" 386 743 .none .none n2,
 [tu [(.str "cells" 754),(.str "ended" 755),(.str "given" 756),(.str "kept" 757),(.str "pile" 758),(.str "place" 759),(.str "size" 760)],di P 4 [("__module__",684,(.str "piecelay.machine" 580)),("__firstlineno__",688,(.int 137 687)),("__init__",699,(.ref 350)),("take",706,(.ref 357)),("push",714,(.ref 364)),("step",725,(.ref 371)),("way",735,(.ref 378)),("finish",742,(.ref 385)),("change",753,(.ref 392)),("__static_attributes__",761,(.ref 393)),("__dict__",763,(.ref 396)),("__weakref__",765,(.ref 397)),("__doc__",766,.none)],ty "Machine" [(.type "object")] [(.ref 395),(.type "object")] 394 [] [none,none,some (.str "Machine" 677),some (.str "Machine" 685),some (.builtin "object.__new__"),some (.bool true)],fi (.type "getset_descriptor") [(.str "__dict__" 762),(.ref 395),(.builtin "function.__dict__"),(.builtin "function.__dict__#set")],fi (.type "getset_descriptor") [(.str "__weakref__" 764),(.ref 395),(.builtin "ExceptionGroup.__weakref__"),.none],fi (.type "super") [(.ref 395),(.ref 395),(.ref 395)],fi (.type "builtin_function_or_method") [(.builtin "object.__init_subclass__"),(.ref 395)]],
 h7 n2 51 400 769,
 [di P 1 [("steps",780,(.int 1000 779))]],
 f7 (My.top 52) "run" 408 781 .none (.ref 407) n2,
 [di P 3 [("hole",806,(.int 2 807)),("gap",808,(.int 3 809)),("slot",810,(.int 2 811))],di P 3 [("low",816,(.str "gap" 817)),("high",818,(.str "gap" 819)),("arg",820,(.str "slot" 821))],tu [(.str "put" 826),(.str "far" 827),(.str "load" 828),(.str "add" 829),(.str "sub" 830),(.str "mul" 831),(.str "less" 832),(.str "more" 833),(.str "twice" 834),(.str "about" 835)],tu [(.int 0 837),(.int 1 838),(.int 2 839),(.int 99 840),(.int 100 841),(.int 9999 842)],tu [(.str "gap" 847),(.int 0 848),(.int 99 849)],tu [(.str "low" 851),(.int 0 852)],tu [(.int 1 850),(.ref 420)],tu [(.str "one" 846),(.ref 419),(.ref 421)],tu [(.str "gap" 854),(.int 0 855),(.int 9999 856)],tu [(.str "low" 858),(.int 0 859)],tu [(.str "high" 860),(.int 0 861)],tu [(.int 2 857),(.ref 424),(.ref 425)],tu [(.str "two" 853),(.ref 423),(.ref 426)],tu [(.str "slot" 863),(.int 0 864)],tu [(.str "arg" 866),(.int 0 867)],tu [(.int 3 865),(.ref 429)],tu [(.str "slot" 862),(.ref 428),(.ref 430)],tu [(.str "hole" 870),(.int 0 871)],tu [(.str "hole" 872),(.int 1 873)],tu [(.str "add" 869),(.ref 432),(.ref 433)],tu [(.int 4 874)],tu [(.str "add" 868),(.ref 434),(.ref 435)],tu [(.str "hole" 877),(.int 0 878)],tu [(.str "hole" 879),(.int 1 880)],tu [(.str "sub" 876),(.ref 437),(.ref 438)],tu [(.int 5 881)],tu [(.str "sub" 875),(.ref 439),(.ref 440)],tu [(.str "hole" 884),(.int 0 885)],tu [(.str "hole" 886),(.int 1 887)],tu [(.str "mul" 883),(.ref 442),(.ref 443)],tu [(.int 6 888)],tu [(.str "mul" 882),(.ref 444),(.ref 445)],tu [(.str "hole" 891),(.int 0 892)],tu [(.str "hole" 893),(.int 1 894)],tu [(.str "less" 890),(.ref 447),(.ref 448)],tu [(.int 7 895)],tu [(.str "less" 889),(.ref 449),(.ref 450)],tu [(.str "hole" 898),(.int 0 899)],tu [(.str "gap" 900),(.int 0 901),(.int 99 902)],tu [(.str "add" 897),(.ref 452),(.ref 453)],tu [(.str "low" 904),(.int 0 905)],tu [(.int 12 903),(.ref 455)],tu [(.str "more" 896),(.ref 454),(.ref 456)],o (.type "list") (.seq #[(.ref 422),(.ref 427),(.ref 431),(.ref 436),(.ref 441),(.ref 446),(.ref 451),(.ref 457)] 0)],
 h7 n3 66 459 907,
 h5 n3 67 466 914,
 h7 n3 68 471 920,
 h5 n3 69 478 930,
 h5 n3 70 483 936,
 h7 n3 71 488 942,
 h7 n3 72 495 950,
 h5 n3 73 502 958,
 h7 n3 74 507 964,
 h7 n3 75 514 974,
 h5 n3 76 521 981,
 h7 n3 77 526 987,
 h7 n3 78 533 994,
 h7 n3 79 540 1002,
 h7 n3 80 547 1012,
 h7 n3 81 554 1021,
 h7 n3 82 561 1030,
 h5 n3 83 568 1043,
 h5 n3 84 573 1049,
 h5 n3 85 578 1055,
 h5 n3 86 583 1061,
 [tu [(.int 10 1073),(.int 11 1074)],tu [(.int 8 1076),(.int 9 1077)]],
 h7 n4 92 590 1079,
 h7 n4 93 597 1089,
 h7 n4 94 604 1099,
 h7 n4 95 611 1110,
 h5 n4 96 618 1122,
 h7 n4 97 623 1128,
 h7 n4 98 630 1139,
 h5 n5 102 637 1153,
 h5 n5 103 642 1159,
 h7 n5 104 647 1165,
 h7 n5 105 654 1176,
 h7 n5 106 661 1186,
 [tu [],fi (.type "builtin_function_or_method") [(.builtin "type.__prepare__"),(.type "type")],di P 19 [("__module__",1206,(.str "piecelay.shops" 1195)),("__qualname__",1208,(.str "Shop" 1207)),("__firstlineno__",1210,(.int 465 1209)),("__init__",1218,(.ref 682)),("has_piece",1224,(.ref 687)),("order",1232,(.ref 694)),("put",1241,(.ref 701)),("drop",1247,(.ref 706)),("pieces",1254,(.ref 713)),("lay",1264,(.ref 720)),("code",1272,(.ref 727)),("tree",1280,(.ref 734)),("run",1290,(.ref 741)),("is_stale",1300,(.ref 748)),("stale",1306,(.ref 753)),("total",1312,(.ref 758)),("twin",1320,(.ref 765)),("__len__",1327,(.ref 772)),("__static_attributes__",1330,(.ref 773))],tu [],fi .none [(.int 467 0),(.int 4 0),(.ref 681),(.int 474 0),(.int 4 0),(.ref 686),(.int 477 0),(.int 4 0),(.ref 693),(.int 482 0),(.int 4 0),(.ref 700),(.int 493 0),(.int 4 0),(.ref 705),(.int 500 0),(.int 4 0),(.ref 712),(.int 503 0),(.int 4 0),(.ref 719),(.int 510 0),(.int 4 0),(.ref 726),(.int 513 0),(.int 4 0),(.ref 733),(.int 516 0),(.int 4 0),(.ref 740),(.int 519 0),(.int 4 0),(.ref 747),(.int 526 0),(.int 4 0),(.ref 752),(.int 529 0),(.int 4 0),(.ref 757),(.int 532 0),(.int 4 0),(.ref 764),(.int 537 0),(.int 4 0),(.ref 771)],co "Shop" "Shop" 1201 465 0 0 0 671 false [.none,.none,.none] 1204,fr (.ref 673) (.ref 670) (.str "piecelay.shops" 1195),tu [.none]],
 f7 (ca (My.top 110) 0) "Shop.__init__" 676 1211 (.ref 675) .none n6,
 f5 (ca (My.top 110) 1) "Shop.has_piece" 683 1219 .none .none n6,
 f7 (ca (My.top 110) 2) "Shop.order" 688 1225 .none .none n6,
 f7 (ca (My.top 110) 3) "Shop.put" 695 1233 .none .none n6,
 f5 (ca (My.top 110) 4) "Shop.drop" 702 1242 .none .none n6,
 f7 (ca (My.top 110) 5) "Shop.pieces" 707 1248 .none .none n6,
 f7 (ca (My.top 110) 6) "Shop.lay" 714 1255 .none .none n6,
 f7 (ca (My.top 110) 7) "Shop.code" 721 1265 .none .none n6,
 f7 (ca (My.top 110) 8) "Shop.tree" 728 1273 .none .none n6,
 f7 (ca (My.top 110) 9) "Shop.run" 735 1281 .none .none n6,
 f7 (ca (My.top 110) 10) "Shop.is_stale" 742 1291 .none .none n6,
 f5 (ca (My.top 110) 11) "Shop.stale" 749 1301 .none .none n6,
 f5 (ca (My.top 110) 12) "Shop.total" 754 1307 .none .none n6,
 f7 (ca (My.top 110) 13) "Shop.twin" 759 1313 .none .none n6,
 f7 (ca (My.top 110) 14) "Shop.__len__" 766 1321 .none .none n6,
 [tu [(.str "orders" 1328),(.str "ready" 1329)],di P 4 [("__module__",1206,(.str "piecelay.shops" 1195)),("__firstlineno__",1210,(.int 465 1209)),("__init__",1218,(.ref 682)),("has_piece",1224,(.ref 687)),("order",1232,(.ref 694)),("put",1241,(.ref 701)),("drop",1247,(.ref 706)),("pieces",1254,(.ref 713)),("lay",1264,(.ref 720)),("code",1272,(.ref 727)),("tree",1280,(.ref 734)),("run",1290,(.ref 741)),("is_stale",1300,(.ref 748)),("stale",1306,(.ref 753)),("total",1312,(.ref 758)),("twin",1320,(.ref 765)),("__len__",1327,(.ref 772)),("__static_attributes__",1330,(.ref 773)),("__dict__",1332,(.ref 776)),("__weakref__",1334,(.ref 777)),("__doc__",1335,.none)],ty "Shop" [(.type "object")] [(.ref 775),(.type "object")] 774 [] [none,none,some (.str "Shop" 1199),some (.str "Shop" 1207),some (.builtin "object.__new__"),some (.bool true)],fi (.type "getset_descriptor") [(.str "__dict__" 1331),(.ref 775),(.builtin "function.__dict__"),(.builtin "function.__dict__#set")],fi (.type "getset_descriptor") [(.str "__weakref__" 1333),(.ref 775),(.builtin "ExceptionGroup.__weakref__"),.none],fi (.type "super") [(.ref 775),(.ref 775),(.ref 775)],fi (.type "builtin_function_or_method") [(.builtin "object.__init_subclass__"),(.ref 775)]],
 h7 n7 112 780 1340,
 h7 n7 113 787 1352,
 h5 n7 114 794 1361,
 h5 n7 115 799 1367,
 h7 n7 116 804 1373,
 h7 n7 117 811 1381,
 h5 n7 118 818 1391,
 h7 n7 119 823 1397,
 h7 n7 120 830 1405,
 h5 n7 121 837 1416,
 h5 n7 122 842 1422]:List (List Obj)).flatten
noncomputable def en:List (Str×Nat×Value):=([
 [("__name__",165,(.str "law_piecelay_k25_whole_twins" 1338)),("__doc__",166,.none),("__package__",167,.none),("__loader__",168,(.builtin "__main__.__loader__#opaque")),("__spec__",169,.none),("__annotations__",170,(.ref 6)),("__builtins__",171,(.ref 4)),("__file__",173,(.str "/claim/cut.py" 172)),("__cached__",174,.none)],
 rs [("PieceError",206,24),("NoSize",222,37),("NoTree",238,49),("NoArgs",254,61),("NoCode",270,73),("NoSteps",286,85),("Late",302,97),("NoPiece",318,109),("NoSet",334,121),("NoCover",350,133),("NoParts",366,145),("NoName",382,157),("Taken",398,169),("Fault",423,188),("Broken",448,207)],
 [("MOST_SIZE",452,(.int 10000 451))],
 [("MANY_ARGS",454,(.int 4 453))],
 [("LONGEST_NAME",456,(.int 8 455))],
 rs [("is_whole",465,216),("is_tagged",472,223),("is_name",478,228),("need_size",486,236),("need_args",492,241)],
 [("MOST_PARTS",496,(.int 40 495))],
 [("MOST_DEEP",498,(.int 8 497))],
 rs [("MOST_IN_LEAF",505,242),("TREES_IN_BRANCH",521,243),("is_node",529,250),("trees_within",536,257),("is_tree",542,262),("need_tree",549,269),("worth_of_both",559,276),("reckoned",570,283),("walked",579,290)],
 [("MOST_CELLS",583,(.int 1000 582))],
 [("MOST_CELL",585,(.int 99 584))],
 [("MOST_STEPS",587,(.int 100000 586))],
 [("MOST_PILE",589,(.int 64 588))],
 [("MOST_KEPT",591,(.int 16 590))],
 rs [("INSTRUCTIONS",626,308),("MOST_TOLD",636,309),("WAYS",643,310),("is_code",649,315),("need_code",656,322),("instruction_at",667,329),("number_told",676,336),("Machine",768,395),("started",778,406),("run",792,414),("run_machine",793,414)],
 [("MOST_PATTERN_DEEP",797,(.int 3 796))],
 [("MOST_GAP",799,(.int 9999 798))],
 [("MOST_PIECE_CELLS",801,(.int 12 800))],
 [("MOST_PIECES",803,(.int 16 802))],
 [("MOST_TRIED_SIZE",805,(.int 5 804))],
 rs [("MARK_LENGTHS",815,415),("FILLED_FROM",825,416),("STRAIGHT",836,417),("TRIED_NUMS",843,418)],
 [("BENEATH_HOLES",845,(.int 1 844))],
 rs [("BASIC",906,458),("is_mark",913,465),("is_pattern_part",919,470),("marks_in",929,477),("is_numbered",935,482),("is_pattern",941,487),("is_filling",949,494),("is_cell",957,501),("are_instructions",963,506),("is_piece",973,513),("need_piece",980,520),("is_set",986,525),("need_set",993,532),("may_stand_for",1001,539),("matches",1011,546),("found_in",1020,553),("filled_cell",1029,560),("filled_pattern",1042,567),("keeps",1048,572),("rows_of",1054,577),("args_for",1060,582),("failing",1066,587)],
 [("MOST_NEAR",1070,(.int 9 1069))],
 [("CALL_CELLS",1072,(.int 3 1071))],
 rs [("AHEAD",1075,588),("BEHIND",1078,589),("jump_over",1088,596),("jumps_of_pick",1098,603),("ways_of",1109,610),("length_by",1121,617),("best_by_ways",1127,622),("best_covering",1138,629),("length_of",1146,636)],
 [("END",1150,(.int 0 1149))],
 [("CALL",1152,(.int 15 1151))],
 rs [("laid_pick",1158,641),("laid_piece",1164,646),("laid_cells",1175,653),("code_of",1185,660),("lay",1193,667),("lay_laying",1194,667)],
 [("TRIED_SIZE",1198,(.int 3 1197))],
 rs [("Shop",1337,775),("_law_draw",1351,786),("_law_pick",1360,793),("_law_tree",1366,798),("_law_args",1372,803),("_law_size",1380,810),("_law_pieces",1390,817),("_law_set",1396,822),("_law_which",1404,829),("_law_ask",1415,836),("_law_seen",1421,841),("law",1427,846)]]:List (List (Str×Nat×Value))).flatten
noncomputable def ol(P:Params):List Obj:=(b11 P).set 3 (di P 123 en)++([tu [],fi .none ([(2,0,20),(4,0,33),(6,0,45),(8,0,57),(10,0,69),(12,0,81),(14,0,93),(16,0,105),(18,0,117),(20,0,129),(22,0,141),(24,0,153),(26,0,165),(28,0,177),(32,0,196),(40,0,215),(42,0,222),(44,0,227),(48,0,235),(51,0,240),(61,0,249),(68,0,256),(72,0,261),(82,0,268),(85,0,275),(93,0,282),(103,0,289),(117,0,314),(121,0,321),(124,0,328),(132,0,335),(137,0,342),(210,0,405),(217,0,413),(237,0,464),(243,0,469),(251,0,476),(258,0,481),(261,0,486),(265,0,493),(269,0,500),(271,0,505),(284,0,512),(293,0,519),(296,0,524),(302,0,531),(305,0,538),(309,0,545),(321,0,552),(326,0,559),(334,0,566),(346,0,571),(357,0,576),(362,0,581),(364,0,586),(384,0,595),(389,0,602),(393,0,609),(402,0,616),(408,0,621),(420,0,628),(429,0,635),(436,0,640),(440,0,645),(448,0,652),(455,0,659),(458,0,666),(465,0,673),(540,0,785),(554,0,792),(556,0,797),(566,0,802),(568,0,809),(570,0,816),(581,0,821),(584,0,828),(592,0,835),(607,0,840),(610,0,845)].flatMap λ(x:Nat×Nat×Nat)=>[.int x.1 0,.int x.2.1 0,.ref x.2.2]),co "<module>" "<module>" 182 1 0 0 0 11 false [.none,.none,.none] 185,fr (.ref 13) (.ref 3) (.str "__main__" 164)]++(ml P++fl P))
noncomputable abbrev sf(w:World)(os:OsState):SharedT:=st w.params os 1428 (ol w.params)
noncomputable abbrev fs(w:World)(os:OsState):Shared:=⟨⟨(ol w.params).toArray,{}⟩,#[],boot_drawn,1428,os⟩
end LM
end
section
open PySem PySem.W PyProof.Rows
section
local macro_rules | `(tactic|o_head $H:term)=>`(tactic| (have _hook:=$H;assumption))
theorem My.k0(h:PySem.Challenge.rw_piecelay_k25_whole_twins.row.Holds):PySem.Challenge.rw_piecelay_k25_whole_twins.row.Holds:=by
 k_head
end
namespace My
noncomputable def view:Program:={PySem.Challenge.pw_piecelay_k25_whole_twins with main:={PySem.Challenge.pw_piecelay_k25_whole_twins.main with body:=[top 1,top 2,top 3,top 4,top 5,top 6,top 7,top 8,top 9,top 10,top 11,top 12,top 13,top 14,top 15,top 17,top 18,top 19,top 20,top 21,top 22,top 24,top 26,top 27,top 28,top 29,top 30,top 31,top 32,top 33,top 34,top 35,top 36,top 38,top 39,top 40,top 41,top 42,top 43,top 44,top 45,top 46,top 47,top 48,top 49,top 50,top 51,top 53,top 55,top 56,top 57,top 58,top 59,top 60,top 61,top 62,top 63,top 64,top 65,top 66,top 67,top 68,top 69,top 70,top 71,top 72,top 73,top 74,top 75,top 76,top 77,top 78,top 79,top 80,top 81,top 82,top 83,top 84,top 85,top 86,top 88,top 89,top 90,top 91,top 92,top 93,top 94,top 95,top 96,top 97,top 98,top 100,top 101,top 102,top 103,top 104,top 105,top 106,top 107,top 109,top 110,top 112,top 113,top 114,top 115,top 116,top 117,top 118,top 119,top 120,top 121,top 122]}}
noncomputable abbrev PRG:Program:=PySem.Challenge.pw_piecelay_k25_whole_twins
noncomputable abbrev loose:List Str:=["need_size","MOST_IN_LEAF","TREES_IN_BRANCH","MOST_TOLD","run","run_machine","MARK_LENGTHS","FILLED_FROM","BASIC","lay_laying"]
noncomputable abbrev xt(s:Shared):Bool:=xlAt view [] s&&recOk (RowW.records (OpenRow.toRowW (OpenLaw.row PySem.Challenge.rw_piecelay_k25_whole_twins))) s
noncomputable abbrev kas:List Addr:=[2,3,15,22,23,24,25,28,35,36,37,40,47,48,49,52,59,60,61,64,71,72,73,76,83,84,85,88,95,96,97,100,107,108,109,112,119,120,121,124,131,132,133,136,143,144,145,148,155,156,157,160,167,168,169,172,179,181,182,184,185,186,187,188,191,198,200,201,203,204,205,206,207,210,212,213,215,216,217,219,220,222,223,224,227,228,229,230,232,233,235,236,237,240,241,242,243,244,246,247,249,250,251,253,254,256,257,258,261,262,263,265,266,268,269,270,272,273,275,276,277,279,280,282,283,284,286,287,289,290,291,292,293,294,295,296,297,298,299,300,301,302,303,304,305,306,307,308,309,310,311,314,315,316,318,319,321,322,323,325,326,328,329,330,332,333,335,336,344,346,347,349,350,351,353,354,356,357,358,360,361,363,364,365,367,368,370,371,372,374,375,377,378,379,381,382,384,385,386,388,389,391,392,393,394,395,396,397,400,402,403,405,406,407,408,410,411,413,414,415,416,417,418,419,420,421,422,423,424,425,426,427,428,429,430,431,432,433,434,435,436,437,438,439,440,441,442,443,444,445,446,447,448,449,450,451,452,453,454,455,456,457,458,459,461,462,464,465,466,469,470,471,473,474,476,477,478,481,482,483,486,487,488,490,491,493,494,495,497,498,500,501,502,505,506,507,509,510,512,513,514,516,517,519,520,521,524,525,526,528,529,531,532,533,535,536,538,539,540,542,543,545,546,547,549,550,552,553,554,556,557,559,560,561,563,564,566,567,568,571,572,573,576,577,578,581,582,583,586,587,588,589,590,592,593,595,596,597,599,600,602,603,604,606,607,609,610,611,613,614,616,617,618,621,622,623,625,626,628,629,630,632,633,635,636,637,640,641,642,645,646,647,649,650,652,653,654,656,657,659,660,661,663,664,666,667,675,676,678,679,681,682,683,686,687,688,690,691,693,694,695,697,698,700,701,702,705,706,707,709,710,712,713,714,716,717,719,720,721,723,724,726,727,728,730,731,733,734,735,737,738,740,741,742,744,745,747,748,749,752,753,754,757,758,759,761,762,764,765,766,768,769,771,772,773,774,775,776,777,780,782,783,785,786,787,789,790,792,793,794,797,798,811,813,814,816,817,818,821,822,823,825,826,828,829,830,832,833,835,836,837,840,841,842,845,846]
theorem kas_ok:∀P,kas=(My.k0.heap_1 P).map (·.1):=λ_=>by kernel_rfl
noncomputable abbrev hk:Hook:=kHook My.k0.heap_1 kas kas_ok
noncomputable abbrev NN:Nat:=7097
noncomputable abbrev cd:Code:=.body (behindTheImports PRG) LM.env
noncomputable abbrev q0:Pos:=⟨0,0,0,0⟩
theorem m1:∀(w:World)(os:OsState),LT.goes PRG w 11 (some (.ref 6)) 12 (LT.boot w.params os) (topStub PRG)=some (LM.sa w os,⟨Fast.tw11892475500146522536 Fast.tw14364793385576792824 cd,cd,q0,[topFrame q0]⟩):=λw os=>by kernel_rfl
theorem m2:∀(w:World)(os:OsState),LT.ZY PRG w 11 (some (.ref 6)) 1 (LM.sa w os) (blockOf (behindTheImports PRG) LM.env cd q0 [topFrame q0])=some (.next,LM.sa w os,cd,q0):=λw os=>by kernel_rfl
theorem m3:∀(w:World)(os:OsState),LT.ZY PRG w 11 (some (.ref 6)) 3242 (LM.sa w os) (piecesOf ((behindTheImports PRG).take 16) LM.env cd q0 [topFrame q0])=some (.next,LM.sm w os,cd,⟨32,0,35,26⟩):=λw os=>by kernel_rfl
abbrev m4S(w:World):Prop:=∀os:OsState,LT.ZY PRG w 11 (some (.ref 6)) 3801 (LM.sm w os) (piecesOf ((behindTheImports PRG).drop 16) LM.env cd ⟨32,0,35,26⟩ [topFrame q0])=some (.next,LM.sf w os,cd,⟨610,0,636,98⟩)
theorem m4a:∀w:World,m4S (w.withFollow "special-get-raises" false):=λw os=>by kernel_rfl
theorem m4b:∀w:World,m4S (w.withFollow "special-get-raises" true):=λw os=>by kernel_rfl
theorem m5:∀(w:World)(os:OsState),LT.ran PRG w 11 (some (.ref 6)) 41 (LM.sf w os) (restOf [] LM.env cd ⟨610,0,636,98⟩ [topFrame q0])=some (LM.sf w os):=λw os=>by kernel_rfl
theorem m6:∀(w:World)(os:OsState),(LM.sf w os).abs=LM.fs w os:=λw os=>by kernel_rfl
noncomputable abbrev im:=Fast.tw5923862056798008813 PRG.main.body
theorem e1:∀(w:World)(os:OsState),staticsOk im (boot_heap w.params) (LM.fs w os).heap=true:=λw os=>by kernel_rfl
theorem e2:∀(w:World)(os:OsState),namesBound PRG (LM.fs w os).heap=true:=λw os=>by kernel_rfl
theorem e3:∀(w:World)(os:OsState),laidKept (boot_heap w.params) (LM.fs w os).heap=true:=λw os=>by kernel_rfl
noncomputable abbrev sO(w:World)(os:OsState):=Fast.tw4187177175401517315 view loose im xt true (LM.fs w os)
noncomputable abbrev qN:=openGood view loose
theorem g1:∀(w:World)(os:OsState),LT.c1 (sO w os)=LT.d1 qN:=λw os=>by kernel_rfl
theorem g2:∀(w:World)(os:OsState),LT.c2 (sO w os)=LT.d2 qN:=λw os=>by kernel_rfl
theorem g3:∀(w:World)(os:OsState),LT.c3 (sO w os)=LT.d3 qN:=λw os=>by kernel_rfl
theorem g4:∀(w:World)(os:OsState),LT.c4 (sO w os)=LT.d4 qN:=λw os=>by kernel_rfl
theorem g5:∀(w:World)(os:OsState),LT.c5 (sO w os)=LT.d5 qN:=λw os=>by kernel_rfl
theorem g6a:∀(w:World)(os:OsState),LT.tA 45 (LT.c6 (sO w os))=LT.tB 45 (LT.d6 qN):=λw os=>by kernel_rfl
theorem g6b:∀(w:World)(os:OsState),LT.rA 45 (LT.c6 (sO w os))=LT.rB 45 (LT.d6 qN):=λw os=>by kernel_rfl
theorem g6(w:World)(os:OsState):LT.c6 (sO w os)=LT.d6 qN:=LT.cut2 45 (g6a w os) (g6b w os)
theorem g7:∀(w:World)(os:OsState),LT.c7 (sO w os)=LT.d7 qN:=λw os=>by kernel_rfl
theorem g8:∀(w:World)(os:OsState),LT.c8 (sO w os)=LT.d8 qN:=λw os=>by kernel_rfl
theorem g9:∀(w:World)(os:OsState),LT.c9 (sO w os)=LT.d9 qN:=λw os=>by kernel_rfl
theorem g0:∀(w:World)(os:OsState),Hook.obs hk (LM.fs w os)=Hook.val hk w:=λw os=>by kernel_rfl
theorem left:LeftO PRG view loose xt (Hook.obs hk) (Hook.val hk) NN :=
 LT.left3 (by rfl) ⋯ (λs=>by rfl) ⋯ (Vc 16 _) m1 m2 m3 (λw=>byRow2 "special-get-raises" (P:=m4S) m4a m4b w) m5 m6 (λw os=>by rw[e1,e2,e3];rfl) (λw os=>LT.all9 (g1 w os) (g2 w os) (g3 w os) (g4 w os) (g5 w os) (g6 w os) (g7 w os) (g8 w os) (g9 w os)) g0
end My
end
section
namespace My
open PySem PySem.W PyProof.Rows
noncomputable abbrev lw:=PySem.Challenge.rw_piecelay_k25_whole_twins
noncomputable abbrev lpr:=lw.row.prog
theorem sd1:namesResolve lpr=true:=by kernel_rfl
theorem sd2:(namesMeet lpr lpr.main.body λ_ n=>attrL n)=true:=by kernel_rfl
theorem sd3:looksOpen lpr=true:=by unfold looksOpen;rw[sd1,sd2];kernel_rfl
theorem said:OpenLaw.wellSaid lw=true:=by unfold OpenLaw.wellSaid OpenRow.wellSaid OpenRow.partSaid;rw[sd3];kernel_rfl
end My
namespace L2
open PySem PySem.Spec PyProof.Rows
noncomputable abbrev Key:=Sum Int Str
noncomputable def uQ:Key->Value->Bool
 | .inl k,v=>Value.isInt k v
 | .inr x,v=>Value.isStrOf x v
noncomputable def Mi(w:World):Key->Int
 | .inl k=>hashInt k
 | .inr x=>hashStr w x
theorem dU:∀{k:Key}{v:Value},uQ k v=true->(∃i t,k=Sum.inl i/\v=Value.int i t)\/(∃x t,k=Sum.inr x/\v=Value.str x t)
 | .inl i,v,h=>by obtain⟨t,e⟩:=Value.isInt_shape (k:=i) (v:=v) h;exact .inl ⟨i,t,rfl,e⟩
 | .inr x,v,h=>by obtain⟨t,e⟩:=WL (x:=x) (v:=v) h;exact .inr ⟨x,t,rfl,e⟩
theorem C3(i:Int)(t:Tok):uQ (.inl i) (.int i t)=true:=by simp[uQ,Value.isInt]
theorem C4(x:Str)(t:Tok):uQ (.inr x) (.str x t)=true:=by simp[uQ,Value.isStrOf]
theorem J0(a b:Int):decide ((Sum.inl a:Key)=Sum.inl b)=(a==b):=by
 by_cases e:a=b
 ·subst e;simp
 ·have h:¬ (Sum.inl a:Key)=Sum.inl b:=λq=>e (Sum.inl.inj q);rw[TU h];exact(Vo.mpr e).symm
theorem J7(a b:Str):decide ((Sum.inr a:Key)=Sum.inr b)=decide (a=b):=by
 by_cases e:a=b
 ·subst e;simp
 ·have h:¬ (Sum.inr a:Key)=Sum.inr b:=λq=>e (WS q);rw[TU h,TU e]
theorem J3(a:Int)(b:Str):decide ((Sum.inl a:Key)=Sum.inr b)=false:=TU (λq=>nomatch q)
theorem J4(a:Str)(b:Int):decide ((Sum.inr a:Key)=Sum.inl b)=false:=TU (λq=>nomatch q)
noncomputable def cK(prog:Program)(w:World):PySem.KeyKind prog w Key where
 is:=uQ
 hash:=Mi w
 inj:=λv a b f d=>by
  rcases dU f with⟨i,t,rfl,rfl⟩|⟨x,t,rfl,rfl⟩
  ·rcases dU d with⟨j,u,rfl,e⟩|⟨y,u,rfl,e⟩
   ·injection e with e1 _;rw[e1]
   ·exact nomatch e
  ·rcases dU d with⟨j,u,rfl,e⟩|⟨y,u,rfl,e⟩
   ·exact nomatch e
   ·injection e with e1 _;rw[e1]
 byValue:=λk v h=>by rcases dU h with⟨i,t,rfl,rfl⟩|⟨x,t,rfl,rfl⟩<;>rfl
 pyHash:=λc h=>by
  rcases dU c with⟨i,t,rfl,rfl⟩|⟨x,t,rfl,rfl⟩
  ·exact wpAny_pyHash_int h
  ·exact wpAny_pyHash_str h
 eqBool:=λg c h=>by
  rcases dU g with⟨i,t,rfl,rfl⟩|⟨x,t,rfl,rfl⟩
  ·rcases dU c with⟨j,u,rfl,rfl⟩|⟨y,u,rfl,rfl⟩
   ·rw[J0]at h;exact wpAny_eqBool_int h
   ·rw[J3]at h;exact WU i t y u _ _ _ _ h
  ·rcases dU c with⟨j,u,rfl,rfl⟩|⟨y,u,rfl,rfl⟩
   ·rw[J4]at h;exact WV x t j u _ _ _ _ h
   ·rw[J7]at h;exact wpAny_eqBool_str h
 «strs»:=λk x t v h=>by
  rcases dU h with⟨i,u,rfl,e⟩|⟨y,u,rfl,e⟩
  ·exact nomatch e
  ·injection e with e1 _;subst e1;cases v<;>rfl
theorem yM(prog:Program)(w:World)(i:Int)(t:Tok):(cK prog w).is (.inl i) (.int i t)=true:=C3 i t
theorem yN(prog:Program)(w:World)(x:Str)(t:Tok):(cK prog w).is (.inr x) (.str x t)=true:=C4 x t
inductive V where
 |Xi|bl (b:Bool)|int (i:Int)|str (x:Str)|byt (b:Array UInt8)|flt (b:UInt64)|ref (a:Addr)|ty (n:String)
 deriving DecidableEq
def RelV:V->Value->Prop
 | .Xi,u=>u=Value.none
 | .bl b,u=>u=Value.bool b
 | .int i,u=>∃t,u=Value.int i t
 | .str x,u=>∃t,u=Value.str x t
 | .byt b,u=>∃t,u=Value.bytes b t
 | .flt b,u=>∃t,u=Value.float b t
 | .ref a,u=>u=Value.ref a
 | .ty n,u=>u=Value.type n
abbrev Vals:List V->List Value->Prop:=Paired RelV
theorem Vals.length(r:Vals a b):a.length=b.length:=W2 r
theorem Vals.get:∀{a:List V}{b:yw}{i:Nat}{x:V},Vals a b->a[i]?=some x->∃u,b[i]?=some u/\RelV x u
 |_,_,_,_,.nil,e=>by simp at e
 |_,_,0,_,.cons r _,e=>by simp at e;subst e;exact⟨_,rfl,r⟩
 |_,_,i+1,x,.cons _ t,e=>by obtain⟨u,c,d⟩:=Vals.get (i:=i) (x:=x) t (by simpa using e);exact⟨u,by simpa using c,d⟩
theorem Vals.set(r:RelV x u):∀{a:List V}{b:yw}(i:Nat),Vals a b->Vals (a.set i x) (b.set i u)
 |_,_,_,.nil=>.nil
 |_,_,0,.cons _ t=>.cons r t
 |_,_,i+1,.cons q t=>.cons q (Vals.set r i t)
theorem Vals.append:∀{a b:List V}{c d:yw},Vals a c->Vals b d->Vals (a++b) (c++d)
 |_,_,_,_,.nil,s=>s
 |_,_,_,_,.cons r t,s=>.cons r (Vals.append t s)
theorem Vals.take:∀{a:List V}{b:yw}(n:Nat),Vals a b->Vals (a.take n) (b.take n)
 |_,_,0,_=>.nil
 |_,_,_+1,.nil=>.nil
 |_,_,n+1,.cons r t=>.cons r (Vals.take n t)
theorem Vals.drop:∀{a:List V}{b:yw}(n:Nat),Vals a b->Vals (a.drop n) (b.drop n)
 |_,_,0,r=>r
 |_,_,_+1,.nil=>.nil
 |_,_,n+1,.cons _ t=>Vals.drop n t
def YI:Option V->Option Value->Prop
 |some v,some u=>RelV v u
 |none,none=>True
 |_,_=>False
def KV{κ:Type}:List (κ×V)->List (κ×Value)->Prop:=Paired λ(p:κ×V)(q:κ×Value)=>p.1=q.1/\RelV p.2 q.2
noncomputable def kV:Key->V
 | .inl i=>.int i
 | .inr x=>.str x
inductive HO where
 |lst (xs:List V)
 |tup (xs:List V)
 |dK (kvs:List (Key×V))|dT (kvs:List (List Key×V))
 |set (S:Int->Bool) (n:Nat)
 |ins (C dx:Addr) (fs:List (Str×V))
 |own (x:Addr)
 |xd (fs:List (Str×V))
 |met (f x:Addr)
 |rng (lo hi:Int)
 |Yx (o:Obj) (u:HO)
 |tbl (ps:Array Value)
 |ext (φ:Heap->Prop)
noncomputable abbrev Hp:=Addr->Option HO
noncomputable def upd(H:Hp)(a:Addr)(o:HO):Hp:=λb=>if b=a then some o else H b
theorem aD:upd H a o a=some o:=by unfold upd;rw[TR rfl]
theorem aI(h:b≠a):upd H a o b=H b:=by unfold upd;rw[TN h]
theorem Lu{H:Hp}(h:H a=some o)(c:H b=some u)(d:o≠u):a≠b:=by intro e;subst e;rw[h]at c;exact d (Ur c)
theorem aK{H:Hp}(h:H a=some o)(c:H b=none):a≠b:=by intro e;subst e;rw[h]at c;cases c
section
variable(P:Program)(w:World)
def Xr(H:Hp)(h:Heap)(a:Addr):HO->Prop
 | .lst d=>d.length<=sizeLine/\∃(b:yw)(n:Nat),Vals d b/\h.get? a=some {cls:=.type "list",data:=.seq b.toArray n}
 | .tup d=>d.length<=sizeLine/\∃b:List Value,Vals d b/\IsTup h a b.toArray
 | .dK c=>c.length<=sizeLine/\(a==sysModules)=false/\∃i,KV c i/\h.DictOf (cK P w) a i
 | .dT c=>c.length<=sizeLine/\(a==sysModules)=false/\∃d:List (List Key×Addr×Value),
   Paired (λ(p:List Key×V)(q:List Key×Addr×Value)=>p.1=q.1/\H q.2.1=some (.tup (p.1.map kV))/\RelV p.2 q.2.2) c d /\
   ∃o j r,h.get? a=some o/\o.ExactDict/\o.data=.dict j r/\j.toList=d.map (entryOfKey (tupleKind (cK P w)))/\(d.map (·.1)).Nodup
 | .set S n=>h.SetOf (intKind P w) a S n
 | .ins C g fs=>H g=some (.own a)/\fs.length<=1000/\g≠a/\h.get? a=some (W.instObj C g) /\
   ∃e,h.Ns1 g e/\(∀f,YI (fs.lookup f) (e f))/\PySem.Within e (fs.map (·.1))
 | .own _=>∃o,h.get? a=some o
 | .xd fs=>∃e,h.Ns1 a e/\∀f,YI (fs.lookup f) (e f)
 | .rng lo s=>∃t u v,h.get? a=some {cls:=.type "range",data:=.fields #[.int lo t,.int s u,.int 1 v]}
 | .Yx o u=>h.get? a=some o/\Xr H h a u
 | .tbl y=>h.get? a=some {cls:=.none,data:=.fields y}
 | .met f x=>h.get? a=some (W.methodObj (.ref f) (.ref x))
 | .ext φ=>φ h/\(∃o,h.get? a=some o)/\∀l m:Heap,φ l->(∀o,l.get? a=some o->m.get? a=some o)->φ m
def Yh(H:Hp)(h:Heap):Prop:=∀a o,H a=some o->Xr P w H h a o
end
section
theorem Xr.lt(x:Xr P w H h a o):a<h.objs.size:=by
 cases o with
 |lst c=>obtain⟨_,_,_,_,e⟩:=x;exact TV e
 |tup c=>obtain⟨_,_,_,p⟩:=x;exact p.lt
 |dK b=>obtain⟨_,_,_,_,o,_,_,e,_⟩:=x;exact TV e
 |dT b=>obtain⟨_,_,_,_,o,_,_,e,_⟩:=x;exact TV e
 |set S n=>obtain⟨o,_,_,_,e,_⟩:=x;exact TV e
 |ins C d fs=>obtain⟨_,_,_,e,_⟩:=x;exact TV e
 |own y=>obtain⟨_,e⟩:=x;exact TV e
 |xd fs=>obtain⟨_,⟨_,_,_,e,_⟩,_⟩:=x;exact TV e
 |rng lo g=>obtain⟨_,_,_,e⟩:=x;exact TV e
 |Yx ob u=>obtain⟨e,_⟩:=x;exact TV e
 |tbl i=>exact TV (show h.get? a=some _ from x)
 |met f y=>exact TV (show h.get? a=some _ from x)
 |ext φ=>obtain⟨_,⟨_,e⟩,_⟩:=x;exact TV e
theorem Paired.mapP:∀{c:List α}{d:List β},Paired F c d->(∀a b,F a b->G a b)->Paired G c d
 |_,_,.nil,_=>.nil
 |_,_,.cons r t,f=>.cons (f _ _ r) (Paired.mapP t f)
theorem Xr.stay{m:Heap}(x:Xr P w H h a o)(k:∀b u,(b=a\/H b=some (.own a))->h.get? b=some u->m.get? b=some u)
  (G:∀b,H b=some (.own a)->B b=some (.own a)) (I:∀b l,H b=some (.tup l)->B b=some (.tup l)):Xr P w B m a o:=by
 induction o with
 |lst l=>obtain⟨z,j,n,r,e⟩:=x;exact⟨z,j,n,r,k _ _ (.inl rfl) e⟩
 |tup l=>obtain⟨z,j,r,ob,e,c⟩:=x;exact⟨z,j,r,ob,k _ _ (.inl rfl) e,c⟩
 |dK s=>obtain⟨z,y,J,r,ob,g,i,e,c⟩:=x;exact⟨z,y,J,r,ob,g,i,k _ _ (.inl rfl) e,c⟩
 |dT s =>obtain⟨z,y,l,r,ob,g,i,e,c⟩:=x;exact⟨z,y,l,Paired.mapP r λp q z=>⟨z.1,I _ _ z.2.1,z.2.2⟩,ob,g,i,k _ _ (.inl rfl) e,c⟩
 |set S n=>obtain⟨ob,g,i,t,e,c⟩:=x;exact⟨ob,g,i,t,k _ _ (.inl rfl) e,c⟩
 |ins C M fs =>obtain⟨d,z,ne,e,A,⟨od,g,i,e2,c⟩,r⟩:=x;exact⟨G _ d,z,ne,k _ _ (.inl rfl) e,A,⟨od,g,i,k _ _ (.inr d) e2,c⟩,r⟩
 |own y=>obtain⟨ob,e⟩:=x;exact⟨ob,k _ _ (.inl rfl) e⟩
 |xd fs=>obtain⟨A,⟨od,g,i,e,c⟩,r⟩:=x;exact⟨A,⟨od,g,i,k _ _ (.inl rfl) e,c⟩,r⟩
 |rng lo N=>obtain⟨t,u,v,e⟩:=x;exact⟨t,u,v,k _ _ (.inl rfl) e⟩
 |Yx ob u L=>obtain⟨e,q⟩:=x;exact⟨k _ _ (.inl rfl) e,L q⟩
 |tbl E =>have e:h.get? a=some {cls:=.none,data:=.fields E}:=x;show m.get? a=some {cls:=.none,data:=.fields E};exact k a _ (.inl rfl) e
 |met f y =>have e:h.get? a=some (W.methodObj (.ref f) (.ref y)):=x;show m.get? a=some (W.methodObj (.ref f) (.ref y));exact k a _ (.inl rfl) e
 |ext φ=>obtain⟨p,⟨o,e⟩,st⟩:=x;exact⟨st _ _ p λo q=>k _ _ (.inl rfl) q,⟨o,k _ _ (.inl rfl) e⟩,st⟩
theorem Yh.lt(x:Yh P w H h)(e:H a=some o):a<h.objs.size:=(x a o e).lt
theorem Yh.fresh{P:Program}{w:World}{H:Hp}{h:Heap}{a:Addr}(x:Yh P w H h)(e:h.objs.size<=a):H a=none:=by
 cases q:H a with
 |none=>rfl
 |some u=>exact absurd (TX (x.lt q) e) (UI _)
theorem Yh.kept{h':Heap}(x:Yh P w H h)(k:∀b u,h.get? b=some u->h'.get? b=some u):Yh P w H h':=λa o e =>
 (x a o e).stay (λb u _ q=>k b u q) (λ_ q=>q) λ_ _ q=>q
theorem Yh.laid{P:Program}{w:World}{H:Hp}{h h':Heap}{a:Addr}{o:HO}(x:Yh P w H h)(k:∀b u,h.get? b=some u->h'.get? b=some u)(i:h.objs.size<=a)(d:Xr P w (upd H a o) h' a o):Yh P w (upd H a o) h':=λb u e=>by
 have f:=x.fresh i;by_cases g:b=a
 ·subst g;rw[aD]at e;cases e;exact d
 ·rw[aI g]at e;exact(x b u e).stay (λc v _ q=>k c v q) (λc q=>by rw[aI (aK q f)];exact q) λc j q=>by rw[aI (aK q f)];exact q
end
def Rd(H:Hp)(a:Addr)(u:HO):Prop:=H a=some u\/∃o,H a=some (.Yx o u)
theorem Rd.ok(r:Rd H a u)(x:Yh P w H h):Xr P w H h a u:=by
 rcases r with r|⟨o,r⟩
 ·exact x a u r
 ·obtain⟨_,q⟩:=x a _ r;exact q
def Mut:Option HO->Prop
 |some (.lst _)=>True
 |some (.dK _)=>True
 |some (.dT _)=>True
 |some (.set _ _)=>True
 |some (.ins _ _ _)=>True
 |some (.ext _)=>True
 |_=>False
section
theorem Yh.write{g:Heap}(ok:Yh P w H h)(i:Mut (H x))(p:e=x\/H e=some (.own x))(k:∀b u,b≠e->h.get? b=some u->g.get? b=some u)(m:∃u,g.get? e=some u)
  (n:Xr P w (upd H x s) g x s):Yh P w (upd H x s) g:=λb u q=>by
 have d:∀c y,H c=some (.own y)->c≠x:=λc y r z=>by subst z;rw[r]at i;exact i
 have f:∀c j,H c=some (.tup j)->c≠x:=λc j r z=>by subst z;rw[r]at i;exact i
 by_cases l:b=x
 ·subst l;rw[aD]at q;cases q;exact n
 ·rw[aI l]at q;by_cases a:b=e
  ·have t:H b=some (.own x):=by
    rcases p with z|z
    ·exact absurd (a.trans z) l
    ·rw[a];exact z
   rw[q]at t;cases t;obtain⟨v,A⟩:=m;exact⟨v,by rw[a];exact A⟩
  ·refine(ok b u q).stay (λc v hc r=>k c v ?_ r) (λc r=>by rw[aI (d c b r)];exact r) λc j r=>by rw[aI (f c j r)];exact r
   rcases hc with rfl|hc
   ·exact a
   ·rintro rfl;rcases p with z|z
    ·exact d c b hc z
    ·rw[hc]at z;cases z;exact l rfl
end
structure Un(fs ex:nt)(H H':Hp)(h h':Heap):Prop where
 keep:∀b o,h.get? b=some o->H b=none->b∉fs->b∉ex->h'.get? b=some o
 slot:∀b o,h.get? b=some o->H b=none->b∈fs->b∉ex->∃sl,h'.get? b=some {o with slots:=sl}
 free:∀b o,h.get? b=some o->H b=none->b∉ex->H' b=none
 there:∀b o,h.get? b=some o->b∉ex->∃o',h'.get? b=some o'
 tups:∀b xs,H b=some (.tup xs)->H' b=some (.tup xs)
 YY:∀b o u,H b=some (.Yx o u)->H' b=some (.Yx o u)
 Zr:∀b ps,H b=some (.tbl ps)->∃more,H' b=some (.tbl (ps++more))
section
theorem Un.any(u:Un fs ex H f h d)(q:h.get? b=some ob)(n:H b=none)(a:b∉ex):∃e,d.get? b=some {ob with slots:=e}:=by
 by_cases c:b∈fs
 ·exact u.slot b ob q n c a
 ·exact⟨ob.slots,u.keep b ob q n c a⟩
theorem Un.kept{h h':Heap}(k:∀b u,h.get? b=some u->h'.get? b=some u):Un fs ex H H h h' :=
 ⟨λb ob q _ _ _=>k b ob q,λb ob q _ _ _=>⟨ob.slots,k b ob q⟩,λ_ _ _ n _=>n,λb ob q _=>⟨ob,k b ob q⟩,λ_ _ q=>q,λ_ _ _ q=>q,λ_ a q=>⟨#[],by rw[q];simp⟩⟩
theorem Un.refl:Un fs ex H H h h:=Un.kept λ_ _ q=>q
theorem Un.laid{fs ex:nt}{H:Hp}{h h':Heap}{a:Addr}{o:HO}(k:∀b u,h.get? b=some u->h'.get? b=some u)(d:h.objs.size<=a)(c:H a=none):Un fs ex H (upd H a o) h h' where
 keep:=λb u q _ _ _=>k b u q
 slot:=λb u q _ _ _=>⟨u.slots,k b u q⟩
 free:=λb u q n _=>by rw[aI (Ud (TX (TV q) d))];exact n
 there:=λb u q _=>⟨u,k b u q⟩
 tups:=λb e q=>by rw[aI (aK q c)];exact q
 YY:=λb u e q=>by rw[aI (aK q c)];exact q
 Zr:=λb f q=>⟨#[],by rw[aI (aK q c),q];simp⟩
theorem Un.write{h d:Heap}(c:Mut (H x))(l:e=x\/H e=some (.own x))(k:∀b u,b≠e->h.get? b=some u->d.get? b=some u)(f:∃u,d.get? e=some u):Un fs ex H (upd H x o) h d:=by
 have i:∀b,H b=none->b≠x:=λb n z=>by subst z;rw[n]at c;exact c
 have j:∀b,H b=none->b≠e:=λb n z=>by
  subst z;rcases l with r|r
  ·exact i b n r
  ·rw[n]at r;cases r
 have g:∀b u,H b=some u->¬ Mut (some u)->b≠x:=λb u q m z=>by subst z;rw[q]at c;exact m c
 refine⟨λb u q n _ _=>k b u (j b n) q,λb u q n _ _=>⟨u.slots,k b u (j b n) q⟩,λb u q n _=>by rw[aI (i b n)];exact n,λb u q _=>?_,
  λb p q=>by rw[aI (g b _ q λz=>z)];exact q,λb u p q=>by rw[aI (g b _ q λz=>z)];exact q,λb s q=>⟨#[],by rw[aI (g b _ q λz=>z),q];simp⟩⟩
 by_cases a:b=e
 ·subst a;exact f
 ·exact⟨u,k b u a q⟩
end
noncomputable def trk(h:Heap)(H:Hp):List Addr:=(List.range h.objs.size).filter λa=>(H a).isSome
noncomputable def wt(h:Heap)(H:Hp):Heap:=W.hideAll h (trk h H)
theorem C0(h:Heap)(H:Hp):(wt h H).objs.size=h.objs.size:=W.hideAll_size _ _
theorem EH{h:Heap}(e:h.get? b=some o)(n:H b=none):(wt h H).get? b=some o :=
 W.hideAll_get _ e λa=>by have q:(H b).isSome=true:=(Wz.mp a).2;rw[n]at q;simp at q
theorem Hw(e:(wt h H).get? b=some o):h.get? b=some o/\H b=none:=by
 have a:h.get? b=some o:=W.of_hideAll (trk h H) e;refine⟨a,?_⟩
 cases q:H b with
 |none=>rfl
 |some x =>have c:b∈trk h H:=Wz.mpr ⟨List.mem_range.mpr (TV a),by simp[q]⟩;have z:(wt h H).get? b=none:=Wg (trk h H) c;rw[z]at e;cases e
structure Mod(K:vc)(mg:cL)(base:Heap):Prop where
 kin:K.In base
 glob:base.Ns mainGlobals mg
 blt:∃mb,base.Ns builtinsNs mb/\∀x:Str,x≠"__name__"->mb x=bootBuiltins x
 nolimit:base.NoLimit
structure Cx where
 prog:Program
 w:World
 K:W.Frag
 mg:Str->Option Value
 base:Heap
 A:Around
 N:List Str
 s₀:Shared
 H₀:Hp
 env:Env
 outer:List Env
 stack:List Env
 ex:List Addr
 fn:Str->Bool
 calm:Bool
 pn:List (Addr×Obj)
 xe:Value->Shared->Prop
noncomputable def frs(l:List Env):List Addr:=l.filterMap (·.frame)
noncomputable abbrev Cx.fs(X:Cx):List Addr:=frs X.outer
def Vis(a:Scope)(x:Str):Prop:=a.names.lookup x=some .local\/a.names.lookup x=some .cell\/a.names.lookup x=some .free
def Loc(a:Scope)(x:Str):Prop:=a.names.lookup x=some .local\/a.names.lookup x=some .cell
def L9(env:Env)(h:Heap)(m:cL)(x:Str)(u:Value):Prop :=
 (env.kindOf x=some .local/\m x=some u)\/((env.kindOf x=some .cell\/env.kindOf x=some .free)/\∃c,env.cells.lookup x=some c/\h.IsCell c (some u))
structure Cx.Ok(X:Cx):Prop where
 mod:Mod X.K X.mg X.base
 kind:X.env.scope.kind=.function
 glob:X.env.globals=mainGlobals
 blt:X.env.builtins=builtinsNs
 above:X.s₀.heap.objs.size<=X.env.locals
 inj:∀x y c,X.env.cells.lookup x=some c->X.env.cells.lookup y=some c->x=y
 has:∀x,(X.env.kindOf x=some .cell\/X.env.kindOf x=some .free)->∃c,X.env.cells.lookup x=some c
 cab:∀x c,X.fn x=true->X.env.cells.lookup x=some c->X.s₀.heap.objs.size<=c
 hd:X.calm=true->X.A.handled=none
 frames:X.A.frames=some X.stack
 stk:X.stack=X.outer\/(X.stack=X.env::X.outer/\X.env.frame=some X.env.locals)
 exf:∀b∈X.ex,b≠X.env.locals/\∀x c,X.env.cells.lookup x=some c->c≠b
 bs:∀b o,X.base.get? b=some o->X.s₀.heap.get? b=some o/\X.H₀ b=none
 bsz:X.base.objs.size<=X.s₀.heap.objs.size
 ZZ:∀b o,X.base.get? b=some o->b∉X.ex
 exfs:∀b∈X.ex,b∉X.fs
 YD:X.s₀.heap.FunFrames X.base X.outer
 frf:∀b∈X.fs,X.H₀ b=none
structure Inv(X:Cx)(pins:qd)(σ:List (Option V))(H:Hp)(s:Shared):Prop where
 ok:X.Ok
 os:s.os=X.s₀.os
 bare:AllBare s.gens
 base:Un X.fs X.ex X.H₀ H X.s₀.heap s.heap
 loc:∃m,s.heap.Ns X.env.locals m/\∀(i:Nat)(x:Str)(v:V),X.N[i]?=some x->σ[i]?=some (some v)->Vis X.env.scope x->∃u,RelV v u/\L9 X.env s.heap m x u
 cell:∀x c,X.env.cells.lookup x=some c->∃v,s.heap.IsCell c v
 free:H X.env.locals=none
 XY:∀x c,X.env.cells.lookup x=some c->H c=none
 pin:∀p∈X.pn++pins,s.heap.get? p.1=some p.2/\H p.1=none/\p.1≠X.env.locals/\p.1∉X.fs/\∀v,p.2.data≠.cell v
 hok:Yh X.prog X.w H s.heap
 len:σ.length=X.N.length
section
theorem Cx.Ok.nofr{X:Cx}(ok:X.Ok)(e:X.base.get? b=some o):b∉X.fs:=λa=>by have:=(ok.YD.mem a).1;rw[e]at this;cases this
theorem Inv.bs(I:Inv X a c H s):∀b o,X.base.get? b=some o->s.heap.get? b=some o/\H b=none:=λb o e =>
 ⟨I.base.keep b o (I.ok.bs b o e).1 (I.ok.bs b o e).2 (I.ok.nofr e) (I.ok.ZZ b o e),I.base.free b o (I.ok.bs b o e).1 (I.ok.bs b o e).2 (I.ok.ZZ b o e)⟩
theorem Inv.bk(I:Inv X a c H s):∀b o,X.base.get? b=some o->s.heap.get? b=some o:=λb o e=>(I.bs b o e).1
theorem Inv.mod(I:Inv X a b H s):Mod X.K X.mg X.base:=I.ok.mod
theorem Inv.Yg(I:Inv X a b H s):X.K.In s.heap:=I.ok.mod.kin.keeps I.bk
theorem Inv.lt(I:Inv X a c H s):X.env.locals<s.heap.objs.size:=let⟨_,b,_⟩:=I.loc;b.lt
theorem Inv.sz(I:Inv X a b H s):X.s₀.heap.objs.size<=s.heap.objs.size:=T8 I.ok.above (UJ I.lt)
theorem Inv.nofs{X:Cx}{b:qd}{c:List (Option V)}{H:Hp}{s:Shared}(I:Inv X b c H s){a:Addr}(h:s.heap.objs.size<=a):a∉X.fs:=λd=>by obtain⟨_,o,e,_⟩:=I.ok.YD.mem d;exact absurd (TX (TV e) (T8 I.sz h)) (UI _)
theorem Inv.cne(I:Inv X d i H s):∀x c,X.env.cells.lookup x=some c->c≠X.env.locals:=λx c e z=>by obtain⟨v,o,f,g⟩:=I.cell x c e;obtain⟨m,⟨j,l,n,a,b,_⟩,_⟩:=I.loc;rw[z,a]at f;cases f;rw[b]at g;cases g
theorem Inv.YD(I:Inv X f t H s):s.heap.FunFrames X.base X.outer:=by
 have all:∀(l:List Env),(∀b∈frs l,b∈X.fs)->X.s₀.heap.FunFrames X.base l->s.heap.FunFrames X.base l:=by
  intro l
  induction l with
  |nil=>intro _ _;trivial
  |cons env r i =>intro g j;obtain⟨hk,⟨L,o,a,m,n,p⟩,q⟩:=j;have c:L∈X.fs:=g L (by unfold frs;rw[VI,a];exact Uq);obtain⟨u,e⟩:=I.base.slot L o n (I.ok.frf L c) c λz=>I.ok.exfs L z c;exact⟨hk,⟨L,_,a,m,e,p⟩,i (λb d=>g b (by unfold frs;rw[VI,a];exact Ug _ d)) q⟩
 exact all X.outer (λ_ d=>d) I.ok.YD
theorem Inv.stack(I:Inv X a d H s):s.heap.FunFrames X.base X.stack:=by
 rcases I.ok.stk with e|⟨e,b⟩
 ·rw[e];exact I.YD
 ·rw[e];obtain⟨m,c,_⟩:=I.loc;refine .cons (by rw[I.ok.kind];decide) b c ?_ I.YD;exact Heap.get?_none_of_le (T8 I.ok.bsz I.ok.above)
theorem Inv.YO(I:Inv X c f H s):∀b∈frs X.stack,b∈X.env.locals::X.fs:=λb a=>by
 rcases I.ok.stk with e|⟨e,d⟩
 ·rw[e]at a;exact Ug _ a
 ·rw[e]at a;unfold frs at a;rw[VI,d]at a;exact a
theorem Inv.YZ(I:Inv X a d H s):∀b∈frs X.stack,H b=none:=λb hb=>by
 rcases TY.mp (I.YO b hb)with e|hb
 ·rw[e];exact I.free
 ·obtain⟨_,o,c,_⟩:=I.ok.YD.mem hb;exact I.base.free b o c (I.ok.frf b hb) λz=>I.ok.exfs b z hb
theorem Inv.step{X:Cx}{f:qd}{Y:List (Option V)}{H E:Hp}{s:Shared}{B:Heap}{g':Array GenState}{d':Drawn}{ch:nt}(I:Inv X f Y H s)
  (g:∀b∈ch,(b∈X.ex\/X.s₀.heap.objs.size<=b)/\b≠X.env.locals/\(∀x c,X.env.cells.lookup x=some c->c≠b)/\∀p∈X.pn++f,p.1≠b)
  (keep:∀b o,b≠X.env.locals->b∉X.fs->b∉ch->s.heap.get? b=some o->H b=none->B.get? b=some o)
  (slot:∀b o,b≠X.env.locals->b∈X.fs->b∉ch->s.heap.get? b=some o->H b=none->∃O,B.get? b=some {o with slots:=O}) (free:∀b o,b∉ch->s.heap.get? b=some o->H b=none->E b=none)
  (there:∀b o,b∉ch->s.heap.get? b=some o->∃J,B.get? b=some J)
  (tups:∀b A,H b=some (.tup A)->E b=some (.tup A)) (YY:∀b o u,H b=some (.Yx o u)->E b=some (.Yx o u)) (Zr:∀b N,H b=some (.tbl N)->∃L,E b=some (.tbl (N++L)))
  (ns:∀m,s.heap.Ns X.env.locals m->B.Ns X.env.locals m) (Q:Yh X.prog X.w E B) (hg:AllBare g') :
  Inv X f Y E {s with heap:=B,gens:=g',drawn:=d',toks:=t'}:=by
 have M:∀b o,X.s₀.heap.get? b=some o->b≠X.env.locals:=λb o e=>Ud (TX (TV e) I.ok.above)
 have y:∀b o,X.s₀.heap.get? b=some o->b∉X.ex->b∉ch:=λb o e a C=>by
  rcases(g b C).1 with z|z
  ·exact a z
  ·exact absurd (TX (TV e) z) (UI _)
 have j:∀x c,X.env.cells.lookup x=some c->∀v,s.heap.IsCell c v->B.IsCell c v:=λx c e v ⟨o,G,T⟩=>by
  have t:c∉ch:=λz=>(g c z).2.2.1 x c e rfl;by_cases hc:c∈X.fs
  ·obtain⟨O,q⟩:=slot c o (I.cne x c e) hc t G (I.XY x c e);exact⟨_,q,T⟩
  ·exact⟨o,keep c o (I.cne x c e) hc t G (I.XY x c e),T⟩
 refine⟨I.ok,I.os,hg,⟨λb o e n C a=>?_,λb o e n C a=>?_,λb o e n a=>?_,λb o e a=>?_,λb A e=>tups b A (I.base.tups b A e),λb o A e=>YY b o A (I.base.YY b o A e),λb N e=>?_⟩,?_,λx c e=>?_,?_,λx c e=>?_,λp hp=>?_,Q,I.len⟩
 ·exact keep b o (M b o e) C (y b o e a) (I.base.keep b o e n C a) (I.base.free b o e n a)
 ·obtain⟨O,e1⟩:=I.base.slot b o e n C a;obtain⟨U,e2⟩:=slot b _ (M b o e) C (y b o e a) e1 (I.base.free b o e n a);exact⟨U,e2⟩
 ·obtain⟨J,e1⟩:=I.base.there b o e a;exact free b J (y b o e a) e1 (I.base.free b o e n a)
 ·obtain⟨J,e1⟩:=I.base.there b o e a;exact there b J (y b o e a) e1
 ·obtain⟨m1,e1⟩:=I.base.Zr b N e;obtain⟨m2,e2⟩:=Zr b _ e1;exact⟨m1++m2,by rw[e2,Array.append_assoc]⟩
 ·obtain⟨m,hn,hl⟩:=I.loc;refine⟨m,ns m hn,λi x v e1 e2 e3=>?_⟩;obtain⟨u,r,l⟩:=hl i x v e1 e2 e3;refine⟨u,r,?_⟩;rcases l with l|⟨k,c,e,z⟩
  ·exact .inl l
  ·exact .inr ⟨k,c,e,j x c e _ z⟩
 ·obtain⟨v,z⟩:=I.cell x c e;exact⟨v,j x c e v z⟩
 ·obtain⟨m,⟨o,_,_,G,_⟩,_⟩:=I.loc;exact free _ o (λz=>(g _ z).2.1 rfl) G I.free
 ·obtain⟨v,o,G,T⟩:=I.cell x c e;exact free c o (λz=>(g c z).2.2.1 x c e rfl) G (I.XY x c e)
 ·obtain⟨e,n,ne,nf,d⟩:=I.pin p hp;have t:p.1∉ch:=λz=>(g p.1 z).2.2.2 p hp rfl;exact⟨keep p.1 p.2 ne nf t e n,free p.1 p.2 t e n,ne,nf,d⟩
theorem Inv.un(I:Inv X a p H s)(u:Un X.fs [] H j s.heap h')(d:Yh X.prog X.w j h'):Inv X a p j {s with heap:=h',toks:=t'}:=by
 obtain⟨m,⟨o,x,y,l,r⟩,_⟩:=id I.loc;obtain⟨A,q⟩:=u.any l I.free (by simp)
 exact I.step (g':=s.gens) (d':=s.drawn) (ch:=[]) (λ_ z=>nomatch z) (λb o _ f _ e n=>u.keep b o e n f (by simp)) (λb o _ f _ e n=>u.slot b o e n f (by simp)) (λb o _ e n=>u.free b o e n (by simp)) (λb o _ e=>u.there b o e (by simp)) u.tups u.YY u.Zr (λB t=>by
  obtain⟨C,g,i,c,v⟩:=t;rw[l]at c;cases c;exact⟨_,g,i,q,v⟩) d I.bare
theorem Inv.call(I:Inv X a y H s)(u:Un (frs X.stack) ch H t s.heap h')(i:Yh X.prog X.w t h')(A:AllBare g')
  (f:∀b∈ch,(b∈X.ex\/X.s₀.heap.objs.size<=b)/\b≠X.env.locals/\(∀x c,X.env.cells.lookup x=some c->c≠b)/\∀p∈X.pn++a,p.1≠b) :
  Inv X a y t {s with heap:=h',gens:=g',drawn:=d',toks:=t'}:=by
 obtain⟨m,⟨o,G,J,v,r⟩,_⟩:=id I.loc;obtain⟨L,j⟩:=u.any v I.free λz=>(f _ z).2.1 rfl
 exact I.step (ch:=ch) f (λb o j B d e n=>u.keep b o e n (λz=>(TY.mp (I.YO b z)).elim j B) d) (λb o _ _ d e n=>u.any e n d) (λb o d e n=>u.free b o e n d) (λb o d e=>u.there b o e d) u.tups u.YY u.Zr (λM C=>by
  obtain⟨N,l,q,g,E⟩:=C;rw[v]at g;cases g;exact⟨_,l,q,j,E⟩) i A
theorem Inv.turned{g:Heap}(I:Inv X a j H s)(k:∀b o,b≠it->s.heap.get? b=some o->g.get? b=some o)(l:H it=none)(i:it≠X.env.locals)
  (t:it∈X.ex\/X.s₀.heap.objs.size<=it) (w:∀x c,X.env.cells.lookup x=some c->c≠it) (y:∀p∈X.pn++a,p.1≠it):Inv X a j H {s with heap:=g,toks:=t'}:=by
 have f:∀b u,H b=some u->b≠it:=λb u e z=>by rw[z,l]at e;cases e
 refine I.step (g':=s.gens) (d':=s.drawn) (ch:=[it]) (λb A=>?_) (λb o _ _ d e _=>k b o (λz=>d (by simp[z])) e) (λb o _ _ d e _=>⟨o.slots,k b o (λz=>d (by simp[z])) e⟩) (λ_ _ _ _ n=>n)
  (λb o d e=>⟨o,k b o (λz=>d (by simp[z])) e⟩) (λ_ _ e=>e) (λ_ _ _ e=>e) (λb J e=>⟨#[],by rw[e];simp⟩) (λm B=>?_) (λb u e=>?_) I.bare
 ·have e:b=it:=by simpa using A
  subst e;exact⟨t,i,w,y⟩
 ·obtain⟨o,C,E,G,r⟩:=B;exact⟨o,C,E,k _ o (Tt i) G,r⟩
 ·refine(I.hok b u e).stay (λc v d q=>k c v ?_ q) (λ_ q=>q) λ_ _ q=>q;rcases d with z|z
  ·rw[z];exact f b u e
  ·exact f c _ z
theorem Inv.tok(I:Inv X a b H s)(t:Nat):Inv X a b H {s with toks:=t}:=I.un (h':=s.heap) (t':=t) Un.refl I.hok
theorem Inv.kept{h':Heap}(I:Inv X a c H s)(k:∀b u,s.heap.get? b=some u->h'.get? b=some u):Inv X a c H {s with heap:=h',toks:=t'}:=I.un (Un.kept k) (I.hok.kept k)
theorem Inv.laid{X:Cx}{c:qd}{f:List (Option V)}{H:Hp}{s:Shared}{h':Heap}{a:Addr}{o:HO}{t':Nat}(I:Inv X c f H s)(k:∀b u,s.heap.get? b=some u->h'.get? b=some u)(d:s.heap.objs.size<=a)(e:Xr X.prog X.w (upd H a o) h' a o) :
  Inv X c f (upd H a o) {s with heap:=h',toks:=t'}:=I.un (Un.laid k d (I.hok.fresh d)) (I.hok.laid k d e)
theorem Inv.write{d:Heap}(I:Inv X a j H s)(g:Mut (H x))(i:e=x\/H e=some (.own x))(k:∀b u,b≠e->s.heap.get? b=some u->d.get? b=some u)(c:∃u,d.get? e=some u)
  (f:Xr X.prog X.w (upd H x o) d x o):Inv X a j (upd H x o) {s with heap:=d,toks:=l}:=I.un (Un.write g i k c) (I.hok.write g i k c f)
theorem Inv.pins_of(I:Inv X a b H s)(h:∀p∈c,s.heap.get? p.1=some p.2/\H p.1=none/\p.1≠X.env.locals/\p.1∉X.fs/\∀v,p.2.data≠.cell v):Inv X c b H s :=
 ⟨I.ok,I.os,I.bare,I.base,I.loc,I.cell,I.free,I.XY,λp d=>(Uw.mp d).elim (λz=>I.pin p (Vg _ z)) (h p),I.hok,I.len⟩
theorem rg{N:e9}(hN:N.Nodup){i j:Nat}{x:Str}(a:N[i]?=some x)(b:N[j]?=some x):i=j:=by obtain⟨c,e1⟩:=T9.mp a;obtain⟨d,e2⟩:=T9.mp b;exact(List.getElem_inj hN).mp (e1.trans e2.symm)
theorem lO(I:Inv X O σ H s)(hN:X.N.Nodup)(T:X.N[i]?=some x)(l:Loc X.env.scope x)(r:RelV v u)
  (h:∀s',Inv X O (σ.set i (some v)) H s'->(∃a,Heap.SameBut a s.heap s'.heap/\(a=X.env.locals\/X.env.cells.lookup x=some a))->Q () s') (hf:X.fn x=true\/X.env.scope.names.lookup x=some .local:=by first|exact .inl rfl|exact .inr rfl|assumption):wpAny M A (storeName X.env x u) Q E s:=by
 obtain⟨m,hn,hl⟩:=id I.loc;have U:(X.env.scope.kind==.class||(X.env.scope.kind==.module&&X.env.locals != X.env.globals))=false:=by rw[I.ok.kind];rfl
 have B:i<σ.length:=by rw[I.len];exact(T9.mp T).1
 have cne:=I.cne
 have g:∀{a:Addr}{L:Heap},(∃o,s.heap.get? a=some o/\H a=none)->Heap.SameBut a s.heap L->Yh X.prog X.w H L:=λ{a L} ha f b ob e=>by
  obtain⟨_,_,t⟩:=ha;refine(I.hok b ob e).stay (λc w' hc q=>(f.2 c ?_).trans q) (λ_ q=>q) λ_ _ q=>q;rintro rfl;rcases hc with rfl|hc
  ·rw[t]at e;cases e
  ·rw[t]at hc;cases hc
 rcases l with hk|hk
 ·refine wpAny_storeName_local hk hn (λL hn' f=>?_) U;obtain⟨oL,_,_,hoL,_⟩:=id hn;refine h _ ⟨I.ok,I.os,I.bare,⟨λb o e n C l=>?_,λb o e n C l=>?_,I.base.free,λb o e l=>?_,I.base.tups,I.base.YY,I.base.Zr⟩,⟨_,hn',λj y v' e1 e2 e3=>?_⟩,λy c e=>?_,I.free,I.XY,λp hp=>?_,g ⟨oL,hoL,I.free⟩ f,by simpa using I.len⟩ ⟨_,f,.inl rfl⟩
  ·exact(f.2 b (Ud (TX (TV e) I.ok.above))).trans (I.base.keep b o e n C l)
  ·obtain⟨sl,e1⟩:=I.base.slot b o e n C l;exact⟨sl,(f.2 b (Ud (TX (TV e) I.ok.above))).trans e1⟩
  ·obtain⟨o',e1⟩:=I.base.there b o e l;exact⟨o',(f.2 b (Ud (TX (TV e) I.ok.above))).trans e1⟩
  ·by_cases G:j=i
   ·subst G;rw[T]at e1;cases e1;rw[List.getElem?_set_self B]at e2;cases e2;exact⟨u,r,.inl ⟨hk,by simp⟩⟩
   ·rw[VB (Tt G)]at e2;obtain⟨u',r',q⟩:=hl j y v' e1 e2 e3;refine⟨u',r',?_⟩;rcases q with⟨k,e⟩|⟨k,c,e,z⟩
    ·refine .inl ⟨k,?_⟩;have:y≠x:=λe=>G (rg hN e1 (e▸T));simp[this,e]
    ·exact .inr ⟨k,c,e,z.sameBut f (cne y c e)⟩
  ·obtain⟨w',z⟩:=I.cell y c e;exact⟨w',z.sameBut f (cne y c e)⟩
  ·obtain⟨e,n,ne,nf,d⟩:=I.pin p hp;exact⟨(f.2 p.1 ne).trans e,n,ne,nf,d⟩
 ·have J:X.fn x=true:=by
   rcases hf with z|z
   ·exact z
   ·rw[z]at hk;cases hk
  obtain⟨c,hc⟩:=I.ok.has x (.inl hk);obtain⟨w',z⟩:=I.cell x c hc;refine wpAny_storeName_cell I.ok.kind hk hc z (λL Y f=>?_);obtain⟨oc,hoc,hocd⟩:=id z;refine h {s with heap:=L} ⟨I.ok,I.os,I.bare,⟨λb o e n C l=>?_,λb o e n C l=>?_,I.base.free,λb o e l=>?_,I.base.tups,I.base.YY,I.base.Zr⟩,⟨m,hn.sameBut f (Tt (cne x c hc)),λj y v' e1 e2 e3=>?_⟩,λy c' e=>?_,I.free,I.XY,λp hp=>?_,g ⟨oc,hoc,I.XY x c hc⟩ f,by simpa using I.len⟩ ⟨c,f,.inr hc⟩
  ·exact(f.2 b (Ud (TX (TV e) (I.ok.cab x c J hc)))).trans (I.base.keep b o e n C l)
  ·obtain⟨sl,e1⟩:=I.base.slot b o e n C l;exact⟨sl,(f.2 b (Ud (TX (TV e) (I.ok.cab x c J hc)))).trans e1⟩
  ·obtain⟨o',e1⟩:=I.base.there b o e l;exact⟨o',(f.2 b (Ud (TX (TV e) (I.ok.cab x c J hc)))).trans e1⟩
  ·by_cases G:j=i
   ·subst G;rw[T]at e1;cases e1;rw[List.getElem?_set_self B]at e2;cases e2;exact⟨u,r,.inr ⟨.inl hk,c,hc,Y⟩⟩
   ·rw[VB (Tt G)]at e2;obtain⟨u',r',q⟩:=hl j y v' e1 e2 e3;refine⟨u',r',?_⟩;rcases q with q|⟨k,c',e,z'⟩
    ·exact .inl q
    ·refine .inr ⟨k,c',e,z'.sameBut f ?_⟩;rintro rfl;exact G (rg hN e1 (I.ok.inj _ _ _ e hc▸T))
  ·by_cases hcc:c'=c
   ·subst hcc;exact⟨_,Y⟩
   ·obtain⟨w2,z2⟩:=I.cell y c' e;exact⟨w2,z2.sameBut f hcc⟩
  ·obtain⟨e,n,ne,nf,d⟩:=I.pin p hp;refine⟨(f.2 p.1 ?_).trans e,n,ne,nf,d⟩;intro q;rw[q,hoc]at e;have q':oc=p.2:=Ur e;exact d w' (by rw[<- q'];exact hocd)
theorem lB(I:Inv X a c H s)(hN:X.N.Nodup)(d:X.N[i]?=some x)(e:Loc X.env.scope x)(r:RelV v u)
  (h:∀b,Inv X a (c.set i (some v)) H b->Q () b) (f:X.fn x=true\/X.env.scope.names.lookup x=some .local:=by first|exact .inl rfl|exact .inr rfl|assumption):wpAny M A (storeName X.env x u) Q E s :=
 lO I hN d e r (λb g _=>h b g) f
theorem Inv.ZC{s':Shared}(I:Inv X a i H s)(j:s'.os=s.os)(u:Un (frs X.stack) ch H g s.heap s'.heap)(d:Yh X.prog X.w g s'.heap)(l:AllBare s'.gens)
  (f:∀b∈ch,(b∈X.ex\/X.s₀.heap.objs.size<=b)/\b≠X.env.locals/\(∀x c,X.env.cells.lookup x=some c->c≠b)/\∀p∈X.pn++a,p.1≠b):Inv X a i g s':=by
 obtain⟨t,m,n,q,r⟩:=s';have e:r=s.os:=j;subst e;exact I.call (g':=m) (t':=q) (d':=n) u d l f
end
abbrev XK:=Value->Option Addr->Hp->Prop
noncomputable abbrev St:=List (Option V)
abbrev VK:=V->Hp->Prop
abbrev TE:=St->Hp->VK->Prop
abbrev TT:=St->Hp->(Bool->Hp->Prop)->Prop
abbrev TA:=St->Hp->(List V->Hp->Prop)->Prop
structure Ends where
 nx:St->Hp->Prop
 rt:VK
 bk:St->Hp->Prop:=λ_ _=>False
 ct:St->Hp->Prop:=λ_ _=>False
abbrev TS:=Ends->St->Hp->Prop
def EP(X:Cx)(a:qd)(c:St)(Q:VK)(u:Value)(d:Shared):Prop:=∃v b,Inv X a c b d/\RelV v u/\Q v b
def TP(X:Cx)(a:qd)(d:St)(Q:Bool->Hp->Prop)(b:Bool)(e:Shared):Prop:=∃c,Inv X a d c e/\Q b c
def AP(X:Cx)(a:qd)(d:St)(Q:List V->Hp->Prop)(e:yw)(f:Shared):Prop:=∃b c,Inv X a d c f/\Vals b e/\Q b c
def SP(X:Cx)(b:qd)(D:Ends)(f:Flow)(d:Shared):Prop :=
 match f with
 | .next=>∃a c,Inv X b a c d/\D.nx a c
 | .brk=>∃a c,Inv X b a c d/\D.bk a c
 | .cont=>∃a c,Inv X b a c d/\D.ct a c
 | .ret u=>∃v a c,Inv X b a c d/\RelV v u/\D.rt v c
def PE(X:Cx)(e:Expr)(t:TE):Prop :=
 ∀(a:qd)(s:Shared)(b:St)(H:Hp)(Q:VK),Inv X a b H s->t b H Q->wpAny (model X.prog X.w) X.A (eval e X.env) (EP X a b Q) X.xe s
def PT(X:Cx)(e:Expr)(t:TT):Prop :=
 ∀(a:qd)(s:Shared)(b:St)(H:Hp)(Q:Bool->Hp->Prop),Inv X a b H s->t b H Q->wpAny (model X.prog X.w) X.A (isTrue e X.env (eval e X.env)) (TP X a b Q) X.xe s
def PW(X:Cx)(e:Expr)(t:TT):Prop :=
 ∀(b:Sem Value)(a:qd)(s:Shared)(c:St)(H:Hp)(Q:Bool->Hp->Prop),Inv X a c H s->t c H Q->wpAny (model X.prog X.w) X.A (isTrue e X.env b) (TP X a c Q) X.xe s
theorem PW.pt(h:PW X e t):PT X e t:=h _
def PA(X:Cx)(d:List Expr)(t:TA):Prop :=
 ∀(b:Pos)(a:qd)(s:Shared)(c:St)(H:Hp)(Q:List V->Hp->Prop),Inv X a c H s->t c H Q->wpAny (model X.prog X.w) X.A (spliced (backTo b (starEach d X.env))) (AP X a c Q) X.xe s
def PS(X:Cx)(st:Stmt)(t:TS):Prop :=
 ∀(a:qd)(s:Shared)(b:St)(H:Hp)(D:Ends),Inv X a b H s->t D b H->wpAny (model X.prog X.w) X.A (exec st X.env) (SP X a D) X.xe s
def Y0(X:Cx)(st:List Stmt)(t:TS):Prop :=
 ∀(a:qd)(s:Shared)(b:St)(H:Hp)(D:Ends),Inv X a b H s->t D b H->wpAny (model X.prog X.w) X.A (execs st X.env) (SP X a D) X.xe s
theorem Xl{α:Type}{t:Sem α}{Q b:α->Shared->Prop}{E:qf}(h:wpAny M A t Q E s)(c:∀a s,Q a s->b a s):wpAny M A t b E s:=UC h c λ_ _ x=>x
section
variable{X:Cx}
noncomputable def cV(i:Nat):TE:=λa H Q=>∃v,a[i]?=some (some v)/\Q v H
noncomputable def tC(v:V):TE:=λ_ H Q=>Q v H
theorem Kn(hN:X.N[i]?=some x)(j:Vis X.env.scope x)(d:(x==("__debug__":Str))=false:=by decide)(f:(x==("__classdict__":Str))=false:=by decide):PE X (.Name x n) (cV i):=by
 intro b s p H Q I h;obtain⟨v,e,h⟩:=h;obtain⟨m,q,t⟩:=I.loc;obtain⟨u,r,l⟩:=t i x v hN e j;have fin:EP X b p Q u s:=⟨v,H,I,r,h⟩
 rcases l with⟨hk,w⟩|⟨hk,c,g,a⟩
 ·exact wpAny_Name (wpAny_loadName_local I.ok.kind hk q w fin) d
 ·rcases hk with hk|hk
  ·exact wpAny_Name (wpAny_loadName_cell I.ok.kind hk g a fin) d
  ·exact wpAny_Name (wpAny_loadName_free I.ok.kind hk g a fin f) d
theorem aE{i j a}:PE X (.Constant (.int i) j a) (tC (.int i)):=λ_ _ _ H _ I h=>wpAny_Constant_int ⟨.int i,H,I.tok _,⟨_,rfl⟩,h⟩
theorem dN{b j a}:PE X (.Constant (.bool b) j a) (tC (.bl b)):=λ_ _ _ H _ I h=>Constant_bool ⟨.bl b,H,I,rfl,h⟩
theorem gM{j a}:PE X (.Constant .none j a) (tC .Xi):=λ_ _ _ H _ I h=>Constant_none ⟨.Xi,H,I,rfl,h⟩
theorem aN{x j a}:PE X (.Constant (.str x) j a) (tC (.str x)):=λ_ _ _ H _ I h=>Calls.Constant_str ⟨.str x,H,I.tok _,⟨_,rfl⟩,h⟩
def Gl(X:Cx)(x:Str):Prop:=X.env.kindOf x=some .globalImplicit
theorem gH{E:qf}{a:qd}{s:Shared}{c:St}{H:Hp}{x:Str}{u:Value}{b:Pos}{Q:qf}(I:Inv X a c H s)(d:Gl X x)(e:X.mg x=some u)(h:Q u s)
  (f:(x==("__debug__":Str))=false:=by decide):wpAny (model X.prog X.w) X.A (eval (.Name x b) X.env) Q E s :=
 Calls.Name_function_global I.ok.kind d (Calls.loadGlobal_global (by rw[I.ok.glob];exact I.mod.glob.keeps I.bk) e h) f
theorem my{E:qf}{a:qd}{s:Shared}{c:St}{H:Hp}{x:Str}{u:Value}{b:Pos}{Q:qf}(I:Inv X a c H s)(d:Gl X x)(e:X.mg x=none)(f:bootBuiltins x=some u)(h:Q u s)
  (g:x≠"__name__":=by decide) (i:(x==("__debug__":Str))=false:=by decide):wpAny (model X.prog X.w) X.A (eval (.Name x b) X.env) Q E s:=by
 obtain⟨m,j,l⟩:=I.mod.blt;exact Calls.Name_function_global I.ok.kind d (Calls.loadGlobal_builtin (by rw[I.ok.glob];exact I.mod.glob.keeps I.bk) e (by rw[I.ok.blt];exact j.keeps I.bk) ((l x g).trans f) h) i
theorem aZ(a:Gl X x)(b:X.mg x=some u)(r:RelV v u)(c:(x==("__debug__":Str))=false:=by decide):PE X (.Name x d) (tC v) :=
 λ_ _ _ H _ I h=>gH I a b ⟨v,H,I,r,h⟩ c
theorem hV(a:Gl X x)(b:X.mg x=none)(c:bootBuiltins x=some u)(r:RelV v u)(d:x≠"__name__":=by decide)(e:(x==("__debug__":Str))=false:=by decide):PE X (.Name x f) (tC v) :=
 λ_ _ _ H _ I h=>my I a b c ⟨v,H,I,r,h⟩ d e
variable{a b:Expr}{ta tb:TE}
def PC(X:Cx)(g:CmpOp)(a b:Expr)(t:TE):Prop :=
 ∀(c:qd)(s:Shared)(f:St)(H:Hp)(Q:VK),Inv X c f H s->t f H Q ->
  wpAny (model X.prog X.w) X.A (eval a X.env) (λv d=>wpAny (model X.prog X.w) X.A (eval b X.env) (λu e=>wpAny (model X.prog X.w) X.A (compareOp g v u) (EP X c f Q) X.xe e) X.xe d) X.xe s
noncomputable def tB(t:TE):TT:=λd H Q=>t d H λx e=>∃c,x=.bl c/\Q c e
theorem Ks(h:PC X g a b t)(f:behindInMarks g b=false:=by first|exact nobehind _ ⋯ ⋯|rfl):PT X (.Compare a [g] [b] i) (tB t):=by intro e s j H Q I l;refine wpAny_isTrue_Compare1 (Xl (h e s j H _ I l) λv y f=>Xl f λu z m=>Xl m λc A ⟨x,n,p,r,w⟩=>?_) f;obtain⟨d,rfl,q⟩:=w;cases r;exact UH ⟨n,p,q⟩
noncomputable def Mn(t u:TT):TT:=λd H Q=>t d H λc e=>if c=true then u d e Q else Q false e
noncomputable def tOr(t u:TT):TT:=λd H Q=>t d H λc e=>if c=true then Q true e else u d e Q
noncomputable def KZ(t:TT):TT:=λd H Q=>t d H λc e=>Q (!c) e
theorem HQ(f:PT X a tA):PW X (.BoolOp .And [a] g) tA:=by
 intro j d s i H Q I h;refine isTrue_and (Xl (f d s i H Q I h) λc l e=>?_)
 cases c with
 |true=>exact isTrue_and_nil e
 |false=>exact e
theorem fG(f:PT X a tA):PW X (.BoolOp .Or [a] g) tA:=by
 intro j d s i H Q I h;refine isTrue_or (Xl (f d s i H Q I h) λc l e=>?_)
 cases c with
 |false=>exact isTrue_or_nil e
 |true=>exact e
theorem Kt(m:PT X a tA)(n:PW X (.BoolOp .And (b::rest) e) f):PW X (.BoolOp .And (a::b::rest) e) (Mn tA f):=by
 intro p d s g H Q I h;refine isTrue_and (Xl (m d s g H _ I h) λc q ⟨i,j,l⟩=>?_)
 cases c with
 |true=>exact n p d q g i Q j l
 |false=>exact⟨i,j,l⟩
theorem fU(m:PT X a tA)(n:PW X (.BoolOp .Or (b::rest) e) f):PW X (.BoolOp .Or (a::b::rest) e) (tOr tA f):=by
 intro p d s g H Q I h;refine isTrue_or (Xl (m d s g H _ I h) λc q ⟨i,j,l⟩=>?_)
 cases c with
 |true=>exact⟨i,j,l⟩
 |false=>exact n p d q g i Q j l
theorem cJ(e:PT X a tA):PT X (.UnaryOp .Not a f) (KZ tA):=by intro d s g H Q I h;exact isTrue_not (e d s g H (λc i=>Q (!c) i) I h)
noncomputable def Jg(ta tb:TE):TE:=λd H Q=>ta d H λx e=>∃c,x=.bl c/\if c=true then tb d e Q else Q (.bl false) e
noncomputable def LY(ta tb:TE):TE:=λd H Q=>ta d H λx e=>∃c,x=.bl c/\if c=true then Q (.bl true) e else tb d e Q
noncomputable def Ji(ta:TE):TE:=λd H Q=>ta d H λx e=>∃c,x=.bl c/\Q (.bl (!c)) e
theorem iU{d}(h:PE X a t):PE X (.BoolOp d [a] e) t:=λc s f H Q I g=>BoolOp_one (h c s f H Q I g)
theorem jt(l:PE X a ta)(m:PE X (.BoolOp .And (b::rest) f) tb):PE X (.BoolOp .And (a::b::rest) f) (Jg ta tb):=by
 intro d s g H Q I h;refine BoolOp_and (Xl (l d s g H _ I h) λv n ⟨x,i,j,p,e⟩=>?_);obtain⟨c,rfl,e⟩:=e;cases p;refine UH ?_
 cases c with
 |true=>exact m d n g i Q j e
 |false=>exact⟨.bl false,i,j,rfl,e⟩
theorem FC(l:PE X a ta)(m:PE X (.BoolOp .Or (b::rest) f) tb):PE X (.BoolOp .Or (a::b::rest) f) (LY ta tb):=by
 intro d s g H Q I h;refine BoolOp_or (Xl (l d s g H _ I h) λv n ⟨x,i,j,p,e⟩=>?_);obtain⟨c,rfl,e⟩:=e;cases p;refine UH ?_
 cases c with
 |false=>exact m d n g i Q j e
 |true=>exact⟨.bl true,i,j,rfl,e⟩
theorem Km(f:PE X a ta):PE X (.UnaryOp .Not a g) (Ji ta):=by intro d s i H Q I h;refine UnaryOp_ (Xl (f d s i H _ I h) λv n ⟨x,j,l,m,e⟩=>?_);obtain⟨c,rfl,e⟩:=e;cases m;exact not_of (UH ⟨.bl (!c),j,l,rfl,e⟩)
noncomputable def tIf(t:TT)(ta tb:TE):TE:=λd H Q=>t d H λc e=>if c=true then ta d e Q else tb d e Q
theorem ni(m:PT X c tA)(n:PE X a ta)(p:PE X b tb):PE X (.IfExp c a b q) (tIf tA ta tb):=by
 intro e s f H Q I h;refine wpAny_IfExp (Xl (m e s f H _ I h) λd g ⟨i,j,l⟩=>?_)
 cases d with
 |true=>exact n e g f i Q j l
 |false=>exact p e g f i Q j l
end
def Xm(K:vc)(H:Hp)(a:Addr)(c:List V):Prop :=
 Rd H a (.lst c) \/
  ∃(o:Obj)(b:Array Value)(n:Nat),K.lookup a=some o/\o.cls=.type "list"/\o.dict=none/\o.data=.seq b n/\b.size<=sizeLine/\Vals c b.toList
def XG(K:vc)(H:Hp)(a:Addr)(c:List V):Prop :=
 Rd H a (.tup c) \/
  ∃(o:Obj)(b:Array Value)(n:Nat),K.lookup a=some o/\o.cls=.type "tuple"/\o.data=.seq b n/\b.size<=sizeLine/\Vals c b.toList
noncomputable def Mb:Value->Option V
 | .none=>some .Xi
 | .bool b=>some (.bl b)
 | .int i _=>some (.int i)
 | .str x _=>some (.str x)
 | .bytes b _=>some (.byt b)
 | .float b _=>some (.flt b)
 | .ref a=>some (.ref a)
 | .type n=>some (.ty n)
 |_=>none
theorem RelV.abs(r:RelV x u):Mb u=some x:=by
 cases x with
 |Xi=>cases r;rfl
 |bl _=>cases r;rfl
 |int _=>obtain⟨t,rfl⟩:=r;rfl
 |str _=>obtain⟨t,rfl⟩:=r;rfl
 |byt _=>obtain⟨t,rfl⟩:=r;rfl
 |flt _=>obtain⟨t,rfl⟩:=r;rfl
 |ref _=>cases r;rfl
 |ty _=>cases r;rfl
theorem RelV.inj(r:RelV x u)(q:RelV y u):x=y:=Ur (r.abs.symm.trans q.abs)
theorem Vals.inj:∀{a b:List V}{c:yw},Vals a c->Vals b c->a=b
 |_,_,_,.nil,.nil=>rfl
 |_,_,_,.cons r t,.cons d e=>by rw[r.inj d,Vals.inj t e]
section
variable{K:vc}
theorem Xm.of(h:H a=some (.lst b)):Xm K H a b:=.inl (.inl h)
theorem XG.of(h:H a=some (.tup b)):XG K H a b:=.inl (.inl h)
theorem Inv.list{X:Cx}{c:qd}{f:St}{H:Hp}{s:Shared}{a:Addr}{d:List V}(I:Inv X c f H s)(h:Xm X.K H a d):∃b:List Value,Vals d b/\PlainL s.heap a b.toArray/\d.length<=sizeLine:=by
 rcases h with h|⟨o,b,n,hk,g,i,j,l,r⟩
 ·obtain⟨z,b,n,r,e⟩:=h.ok I.hok;exact⟨b,r,⟨_,n,e,rfl,rfl,rfl⟩,z⟩
 ·refine⟨b.toList,r,⟨o,n,I.Yg a o hk,g,i,by simpa using j⟩,?_⟩;have e:=r.length;simp only[V6]at e;lia
theorem Inv.tuple{X:Cx}{c:qd}{f:St}{H:Hp}{s:Shared}{a:Addr}{d:List V}(I:Inv X c f H s)(h:XG X.K H a d):∃b:List Value,Vals d b/\IsTup s.heap a b.toArray/\d.length<=sizeLine:=by
 rcases h with h|⟨o,b,n,hk,g,i,j,r⟩
 ·obtain⟨z,b,r,p⟩:=h.ok I.hok;exact⟨b,r,p,z⟩
 ·refine⟨b.toList,r,⟨o,I.Yg a o hk,g,n,by simpa using i⟩,?_⟩;have e:=r.length;simp only[V6]at e;lia
theorem Inv.list_inj{X:Cx}{b:qd}{m:St}{H:Hp}{s:Shared}{a:Addr}{g i:List V}(I:Inv X b m H s)(h:Xm X.K H a g)(p:Xm X.K H a i):g=i:=by
 obtain⟨f,r,⟨o,n,e,_,_,d⟩,_⟩:=I.list h;obtain⟨c,q,⟨t,u,j,_,_,l⟩,_⟩:=I.list p;rw[e]at j;cases j;rw[d]at l;injection l with d1 _;have:f=c:=by simpa using Up Array.toList d1
 subst this;exact r.inj q
theorem Inv.ZT{X:Cx}{b:qd}{m:St}{H:Hp}{s:Shared}{a:Addr}{g i:List V}(I:Inv X b m H s)(h:XG X.K H a g)(p:XG X.K H a i):g=i:=by
 obtain⟨f,r,⟨o,e,_,n,d⟩,_⟩:=I.tuple h;obtain⟨c,q,⟨t,j,_,u,l⟩,_⟩:=I.tuple p;rw[e]at j;cases j;rw[d]at l;injection l with d1 _;have:f=c:=by simpa using Up Array.toList d1
 subst this;exact r.inj q
end
abbrev Cx.ZD(X:Cx)(E:qf):Cx:={X with xe:=E}
noncomputable abbrev Cx.nox(X:Cx):Cx:=X.ZD λ_ _=>False
theorem Cx.Ok.ZD{X:Cx}(ok:X.Ok)(E:qf):(X.ZD E).Ok :=
 ⟨ok.mod,ok.kind,ok.glob,ok.blt,ok.above,ok.inj,ok.has,ok.cab,ok.hd,ok.frames,ok.stk,ok.exf,ok.bs,ok.bsz,ok.ZZ,ok.exfs,ok.YD,ok.frf⟩
theorem Cx.Ok.X4{X:Cx}(ok:(X.ZD E).Ok):X.Ok :=
 ⟨ok.mod,ok.kind,ok.glob,ok.blt,ok.above,ok.inj,ok.has,ok.cab,ok.hd,ok.frames,ok.stk,ok.exf,ok.bs,ok.bsz,ok.ZZ,ok.exfs,ok.YD,ok.frf⟩
section
theorem Inv.ZD{X:Cx}{a:qd}{b:St}{H:Hp}{s:Shared}(I:Inv X a b H s)(E:qf):Inv (X.ZD E) a b H s:=⟨I.ok.ZD E,I.os,I.bare,I.base,I.loc,I.cell,I.free,I.XY,I.pin,I.hok,I.len⟩
theorem Inv.X4{X:Cx}{a:qd}{b:St}{H:Hp}{s:Shared}{E:qf}(I:Inv (X.ZD E) a b H s):Inv X a b H s:=⟨I.ok.X4,I.os,I.bare,I.base,I.loc,I.cell,I.free,I.XY,I.pin,I.hok,I.len⟩
theorem SP.X4{X:Cx}(h:SP (X.ZD E) c D f d):SP X c D f d:=by
 cases f with
 |next=>obtain⟨a,b,I,q⟩:=h;exact⟨a,b,I.X4,q⟩
 |brk=>obtain⟨a,b,I,q⟩:=h;exact⟨a,b,I.X4,q⟩
 |cont=>obtain⟨a,b,I,q⟩:=h;exact⟨a,b,I.X4,q⟩
 |ret u=>obtain⟨v,a,b,I,r,q⟩:=h;exact⟨v,a,b,I.X4,r,q⟩
theorem Y0.nox{X:Cx}{st:List Stmt}(h:Y0 X.nox st t):Y0 X st t:=λa s b H D I c =>
 UC (h a s b H D (I.ZD _) c) (λ_ _ q=>q.X4) λ_ _ z=>False.elim z
end
section
variable{t u:TS}{te:TE}
noncomputable def zV:TS:=λD a H=>D.nx a H
noncomputable def bA(t u:TS):TS:=λD a H=>t {D with nx:=u D} a H
theorem aO:Y0 X [] zV:=λ_ _ a H _ I h=>WA ⟨a,H,I,h⟩
theorem aC{X:Cx}{st:Stmt}{rest:List Stmt}(c:PS X st t)(d:Y0 X rest u):Y0 X (st::rest) (bA t u):=by
 intro a s e H D I h;refine wpAny_execs_cons (Xl (c a s e H {D with nx:=u D} I h) λf g q=>?_)
 cases f with
 |next =>obtain⟨b,i,j,q⟩:=q;exact d a g b i D j q
 |ret v=>exact q
 |brk=>exact q
 |cont=>exact q
theorem aR{X:Cx}{st:Stmt}(b:PS X st t):Y0 X [st] t:=by
 intro a s c H D I h;refine wpAny_execs_cons (Xl (b a s c H D I h) λf d q=>?_)
 cases f with
 |next=>exact WA q
 |ret v=>exact q
 |brk=>exact q
 |cont=>exact q
noncomputable def Jh:TS:=λD a H=>D.ct a H
theorem zk:PS X (.Continue a) Jh:=λ_ _ b H _ I h=>wpAny_Continue ⟨b,H,I,h⟩
theorem Inv.quiet{X:Cx}{a:qd}{b:St}{H:Hp}{s:Shared}(I:Inv X a b H s):interactive X.env=false:=by simp[interactive,I.ok.kind]
noncomputable def vK(te:TE):TS:=λD a H=>te a H λ_ b=>D.nx a b
theorem bO{a:Pos}(d:PE X e te)(f:swapsWith e none a.line X.env=pure false:=by rfl):PS X (.Expr e a) (vK te):=by intro b s c H D I h;exact wpAny_Expr_any (Xl (d b s c H _ I h) λv l ⟨x,g,i,m,j⟩=>⟨c,g,i,j⟩) I.quiet f
noncomputable def Gp(te:TE):TS:=λD a H=>te a H D.rt
theorem jX(c:PE X e te):PS X (.Return (some e) d) (Gp te):=by intro a s b H D I h;exact wpAny_Return_some (Xl (c a s b H _ I h) λv l ⟨x,f,g,i,j⟩=>⟨x,b,f,g,i,j⟩)
noncomputable def LZ:TS:=λD _ H=>D.rt .Xi H
theorem HL:PS X (.Return none a) LZ:=λ_ _ b H _ I h=>wpAny_Return_none ⟨.Xi,b,H,I,rfl,h⟩
noncomputable def sV(c:TT)(t u:TS):TS:=λD a H=>c a H λb d=>if b=true then t D a d else u D a d
theorem bJ(m:PT X c n)(p:Y0 X a t)(q:Y0 X b u):PS X (.If c a b r) (sV n t u):=by
 intro e s f H D I h;refine wpAny_If (Xl (m e s f H _ I h) λd g ⟨i,j,l⟩=>?_)
 cases d with
 |true=>exact p e g f i D j l
 |false=>exact q e g f i D j l
noncomputable def Gn:TS:=λ_ _ _=>False
theorem dA{X:Cx}{st:Stmt}:PS X st Gn:=λ_ _ _ _ _ _ h=>h.elim
theorem lL:Y0 X a Gn:=λ_ _ _ _ _ _ h=>h.elim
end
abbrev TG:=V->St->Hp->(St->Hp->Prop)->Prop
abbrev TGs:=List V->St->Hp->(St->Hp->Prop)->Prop
def PG(X:Cx)(a:Expr)(t:TG):Prop :=
 ∀(b:qd)(s:Shared)(d:St)(H:Hp)(v:V)(u:Value)(Q:St->Hp->Prop),Inv X b d H s->RelV v u->t v d H Q ->
  wpAny (model X.prog X.w) X.A (assign a X.env u) (λ_ f=>∃c e,Inv X b c e f/\Q c e) X.xe s
def PGs(X:Cx)(g:List Expr)(t:TGs):Prop :=
 ∀(a:qd)(s:Shared)(c:St)(H:Hp)(d:List V)(e:yw)(Q:St->Hp->Prop),Inv X a c H s->Vals d e->t d c H Q ->
  wpAny (model X.prog X.w) X.A (assignInOrder ((assignEach g X.env).map (·.2)) e) (λ_ i=>∃b f,Inv X a b f i/\Q b f) X.xe s
abbrev JC:=V->V->V->Hp->(Hp->Prop)->Prop
def Jl(X:Cx)(t:JC):Prop :=
 ∀(a:qd)(s:Shared)(b:St)(H:Hp)(o i v:V)(c d u:Value)(Q:Hp->Prop),Inv X a b H s->RelV o c->RelV i d->RelV v u->t o i v H Q ->
  wpAny (model X.prog X.w) X.A (setItem c d u) (λ_ f=>∃e,Inv X a b e f/\Q e) X.xe s
abbrev TIp:=V->V->Hp->VK->Prop
def PIp(X:Cx)(c:Operator)(t:TIp):Prop :=
 ∀(a:qd)(s:Shared)(b:St)(H:Hp)(x y:V)(v u:Value)(Q:VK),Inv X a b H s->RelV x v->RelV y u->t x y H Q ->
  wpAny (model X.prog X.w) X.A (inplaceOp c v u) (EP X a b Q) X.xe s
section
variable{X:Cx}
noncomputable def bT(i:Nat):TG:=λv a H Q=>Q (a.set i (some v)) H
theorem cF(hN:X.N.Nodup)(b:X.N[i]?=some x)(c:Loc X.env.scope x)(d:X.fn x=true\/X.env.scope.names.lookup x=some .local:=by first|exact .inl rfl|exact .inr rfl|assumption):PG X (.Name x e) (bT i):=by intro a s g H v u Q I r h;exact Wj (lB I hN b c r (λj f=>⟨_,H,f,h⟩) d)
noncomputable def CW:TGs:=λa b H Q=>a=[]/\Q b H
noncomputable def iQ(t:TG)(u:TGs):TGs:=λb c H Q=>∃v r,b=v::r/\t v c H λa d=>u r a d Q
theorem cD:PGs X [] CW:=by intro a s b H c d Q I r h;obtain⟨e,h⟩:=h;subst e;cases r;exact assignInOrder_nil ⟨b,H,I,h⟩
theorem aP(d:PG X e t)(f:PGs X b u)
  (g:(assignEach (e::b) X.env).map (·.2)=assign e X.env::(assignEach b X.env).map (·.2):=by rfl):PGs X (e::b) (iQ t u):=by
 intro a s i H q w Q I r h;obtain⟨v,x,e1,h⟩:=h;subst e1
 cases r with
 |cons r j =>rw[g];refine assignInOrder_cons (Xl (d a s i H _ _ _ I r h) λ_ l ⟨c,m,n,p⟩=>?_);exact f a l c m _ _ Q n j p
noncomputable def As(K:vc)(n:Nat)(t:TGs):TG:=λv c H Q=>∃a b,v=.ref a/\XG K H a b/\b.length=n/\t b c H Q
theorem dP(l:X.calm=true)(h:PGs X d t)
  (m:(assignEach d X.env).length=n:=by rfl) (f:(assignEach d X.env).findIdx? (·.1)=none:=by rfl):PG X (.Tuple d k p) (As X.K n t):=by
 intro c s i H v u Q I r g;obtain⟨a,q,e1,w,x,g⟩:=g;subst e1;cases r;obtain⟨y,j,z,E⟩:=I.tuple w;refine assign_Tuple_tuple (I.ok.hd l) z (by simp[m,<- x,j.length]) f λA B=>?_;have C:Inv X c i H {s with heap:=A}:=I.kept (t':=s.toks) λb o e=>B b o (Ud (TV e)) e;exact h c _ i H q _ Q C (by simpa using j) g
noncomputable def Mf(to b:TE)(t:JC):TG:=λv a H Q=>to a H λo c=>b a c λi d=>t o i v d λe=>Q a e
theorem FE(f:PE X o to)(g:PE X i j)(l:Jl X t)
  (m:∀v,assign (.Subscript o i c) X.env v=(do
   let b <- holding [v] (eval o X.env);let d <- holding [v,b] (eval i X.env)
   standAt c
   holding [v,b,d] (setItem b d v)
   release [v,b,d] []):=by intro _;rfl):PG X (.Subscript o i c) (Mf to j t):=by
 intro a s e H v u Q I r h;rw[m];refine Tn (US (Xl (f a s e H _ I h) λb n ⟨x,p,q,w,z⟩=>?_));refine Tn (US (Xl (g a n e p _ q z) λd A ⟨y,B,C,E,G⟩=>?_));refine Tn (U5 (Tn (US (Xl (l a A e B x y v b d u _ C w E r G) λ_ N ⟨J,L,M⟩=>?_))));exact wpAny_release ⟨e,J,L,M⟩
noncomputable def lV(b:TE)(g:TG):TS:=λD a H=>b a H λx c=>g x a c D.nx
theorem dQ{b:Pos}(f:PE X e i)(j:PG X c g)(l:swapsWithSole [c] e b.line X.env=pure false:=by rfl)(m:swappedStores [c] e X.env=pure none:=by rfl)
  (n:(assignEach [c] X.env).map (·.2)=[assign c X.env]:=by rfl):PS X (.Assign [c] e b) (lV i g):=by
 intro a s d H D I h;refine wpAny_Assign_stores (Xl (f a s d H _ I h) λv p ⟨x,r,t,u,w⟩=>?_) l m;rw[n];exact Xl (j a p d r x v _ t u w) λ_ y q=>q
theorem rG{a:Pos}(hN:X.N.Nodup)(d:X.N[i]?=some x)(f:Loc X.env.scope x)(g:PE X e j)(l:swapsWith e (some (.Name x b)) a.line X.env=pure false:=by rfl)(m:X.fn x=true\/X.env.scope.names.lookup x=some .local:=by first|exact .inl rfl|exact .inr rfl|assumption) :
  PS X (.Assign [.Name x b] e a) (lV j (bT i)):=by
 intro c s n H D I h;refine wpAny_Assign_Name (Xl (g c s n H _ I h) λv w ⟨y,p,q,r,t⟩=>?_) l;exact lB q hN d f r (λz u=>⟨_,p,u,t⟩) m
noncomputable def Mo(i:Nat)(b:TE)(c:TIp):TS:=λD a H=>∃x,a[i]?=some (some x)/\b a H λy d=>c x y d λz e=>D.nx (a.set i (some z)) e
theorem FL(hN:X.N.Nodup)(n:X.N[i]?=some x)(g:Loc X.env.scope x)(C:PE X e E)(G:PIp X p J)(L:X.fn x=true\/X.env.scope.names.lookup x=some .local:=by first|exact .inl rfl|exact .inr rfl|assumption) :
  PS X (.AugAssign (.Name x q) p e M) (Mo i E J):=by
 intro a s t H D I h;obtain⟨v,e1,h⟩:=h;obtain⟨m,O,Q⟩:=I.loc;have j:Vis X.env.scope x:=by rcases g with k|k;exact .inl k;exact .inr (.inl k)
 obtain⟨u,r,l⟩:=Q i x v n e1 j;refine wpAny_AugAssign_Name ?_
 have B:wpAny (model X.prog X.w) X.A (eval e X.env) (λw d=>wpAny (model X.prog X.w) X.A (inplaceOp p u w) (λr f=>wpAny (model X.prog X.w) X.A (storeName X.env x r) (λ_=>SP X a D .next) X.xe f) X.xe d) X.xe s:=by refine Xl (C a s t H _ I h) λw T ⟨y,U,Y,r1,q1⟩=>?_;refine Xl (G a T t U v y u w _ Y r r1 q1) λz s2 ⟨zv,H2,I2,r2,q2⟩=>?_;exact lB I2 hN n g r2 (λs3 I3=>⟨_,H2,I3,q2⟩) L
 rcases l with⟨hk,hm⟩|⟨hk,c,hc,b⟩
 ·exact wpAny_loadName_local I.ok.kind hk O hm B
 ·rcases hk with hk|hk
  ·exact wpAny_loadName_cell I.ok.kind hk hc b B
  ·rcases g with k|k
   ·have:X.env.scope.names.lookup x=some .free:=hk;rw[k]at this;cases this
   ·have:X.env.scope.names.lookup x=some .free:=hk;rw[k]at this;cases this
def LV(to e f:TE)(a:V->V->Hp->VK->Prop)(d:TIp)(b:JC):TS:=λD c H=>to c H λo g=>e c g λi j=>a o i j λx l=>f c l λy m=>d x y m λz n=>b o i z n λp=>D.nx c p
def K6(X:Cx)(t:V->V->Hp->VK->Prop):Prop :=
 ∀(a:qd)(s:Shared)(b:St)(H:Hp)(o i:V)(c d:Value)(Q:VK),Inv X a b H s->RelV o c->RelV i d->t o i H Q ->
  wpAny (model X.prog X.w) X.A (getItem c d) (EP X a b Q) X.xe s
theorem B9(u:PE X o to)(w:PE X i x)(y:K6 X g)(z:PE X e A)(B:PIp X C l)(E:Jl X j)
  (G:∀c d b,augStore i c d b=(do holding [b,c,d] (setItem c d b);release [b,c,d] [];pure .next):=by intros;rfl):PS X (.AugAssign (.Subscript o i n) C e J) (LV to x A g l j):=by
 intro a s f H D I h;refine wpAny_AugAssign_SubscriptAny (Xl (u a s f H _ I h) λc L ⟨p,M,N,q,O⟩=>?_) G;refine Xl (w a L f M _ N O) λd Q ⟨r,T,U,t,Y⟩=>?_;refine Xl (y a Q f T p r c d _ U q t Y) λm s3 ⟨x3,H3,I3,r3,q3⟩=>?_;refine Xl (z a s3 f H3 _ I3 q3) λv s4 ⟨x4,H4,I4,r4,q4⟩=>?_;refine Xl (B a s4 f H4 x3 x4 m v _ I4 r3 r4 q4) λb s5 ⟨x5,H5,I5,r5,q5⟩=>?_;exact Xl (E a s5 f H5 p r x5 c d b _ I5 q t r5 q5) λ_ s6 ⟨H6,I6,q6⟩=>⟨f,H6,I6,q6⟩
noncomputable def ipI(f:Int->Int->Int):TIp:=λx y H Q=>∃i j,x=.int i/\y=.int j/\Q (.int (f i j)) H
theorem Av:PIp X .Add (ipI λi j=>i+j):=by intro a s d H x y v u Q I b c h;obtain⟨i,j,e1,e2,q⟩:=h;subst e1;subst e2;obtain⟨t,rfl⟩:=b;obtain⟨e,rfl⟩:=c;exact iadd_int ⟨.int _,H,I.tok _,⟨_,rfl⟩,q⟩
theorem JW:PIp X .Sub (ipI λi j=>i - j):=by intro a s d H x y v u Q I b c h;obtain⟨i,j,e1,e2,q⟩:=h;subst e1;subst e2;obtain⟨t,rfl⟩:=b;obtain⟨e,rfl⟩:=c;exact isub_int ⟨.int _,H,I.tok _,⟨_,rfl⟩,q⟩
end
section
def sX(c:TT)(i:TS):TS:=λD a H=>∃W:Nat->St->Hp->Prop,(∃m,W m a H)/\∀m a H,W m a H ->
 c a H λb e=>if b=true then ∃N:St->Hp->Prop,(∀d f,N d f->∃g,g<m/\W g d f)/\i {D with nx:=N,ct:=N,bk:=D.nx} a e else D.nx a e
theorem rH{X:Cx}(u:PassesOwn (model X.prog X.w) X.A X.env X.xe)(C:PT X c E)(G:Y0 X body J):PS X (.While c body [] L) (sX E J):=by
 intro a s M H D I h;obtain⟨W,⟨O,Q⟩,g⟩:=h;refine wpAny_While (codeAny_whileLoop (λn T=>∃i x,Inv X a i x T/\W n i x) ?_ O ⟨M,H,I,Q⟩);rintro n U ⟨e,y,Y,w1⟩;refine Vv u (Xl (C a U e y _ Y (g n e y w1)) λb s2 ⟨z,B,l⟩=>?_)
 cases b with
 |true =>
  obtain⟨N,hN,l⟩:=l;rw[TR rfl];refine Vv u (Xl (G a s2 e z _ B l) λf s3 m=>?_)
  cases f with
  |next =>obtain⟨d,j,p,n3⟩:=m;obtain⟨q,r,t⟩:=hN d j n3;exact⟨q,r,d,j,p,t⟩
  |cont =>obtain⟨d,j,p,n3⟩:=m;obtain⟨q,r,t⟩:=hN d j n3;exact⟨q,r,d,j,p,t⟩
  |brk=>exact m
  |ret v=>exact m
 |false =>rw[TN TH];exact WA ⟨e,z,B,l⟩
end
structure It where
 go:Nat->Hp->Prop
 Zd:Nat->Hp->V->Hp->Prop
 stop:Nat->Hp->Prop
def ko(X:Cx)(a:qd)(H:Hp)(b:Addr):Prop :=
 H b=none/\b≠X.env.locals/\b∉X.fs/\(b∈X.ex\/X.s₀.heap.objs.size<=b)/\(∀x c,X.env.cells.lookup x=some c->c≠b)/\∀p∈X.pn++a,p.1≠b
theorem Inv.ZK{X:Cx}{a:qd}{g:St}{H f:Hp}{s:Shared}{b:Addr}(I:Inv X a g H s)(d:s.heap.objs.size<=b)(i:f b=none):ko X a f b:=by
 refine⟨i,UG (TX I.lt d),I.nofs d,.inr (T8 I.sz d),λx c e z=>?_,λp j z=>?_⟩
 ·obtain⟨v,q⟩:=I.cell x c e;exact absurd (TX q.lt (by rw[z];exact d)) (UI _)
 ·exact absurd (TX (TV (I.pin p j).1) (by rw[z];exact d)) (UI _)
structure lP(P:Program)(w:World)(K:vc)(tg:Expr)(J:It)(fp:nt)(it:Addr)(tn:Nat->Heap->Prop):Prop where
 mem:it∈fp
 obj:∀i h,tn i h->∀b∈fp,∃o,h.get? b=some o/\∀v,o.data≠.cell v
 keep:∀i h h',tn i h->(∀b∈fp,∀o,h.get? b=some o->h'.get? b=some o)->tn i h'
 item:∀(X:Cx),X.prog=P->X.w=w->X.K=K->X.calm=true->∀(i:Nat)(pins:qd)(s:Shared)(σ:St)(H:Hp)(E:qf),Inv X pins σ H s->(∀b∈fp,ko X pins H b)->tn i s.heap->J.go i H ->
  wpAny (model P w) X.A (pyNext (.ref it)) (λr s1=>∃u,r=some u /\
   wpAny (model P w) X.A (letOwnedTupleGo tg (.ref it) u) (λ_ s2=>∃x H',Inv X pins σ H' s2/\RelV x u/\J.Zd i H x H'/\tn (i+1) s2.heap/\∀b∈fp,H' b=none) E s1) E s
 done:∀(X:Cx),X.prog=P->X.w=w->X.K=K->X.calm=true->∀(i:Nat)(pins:qd)(s:Shared)(σ:St)(H:Hp)(E:qf),Inv X pins σ H s->(∀b∈fp,ko X pins H b)->tn i s.heap->J.stop i H ->
  wpAny (model P w) X.A (pyNext (.ref it)) (λr s1=>r=none/\Inv X pins σ H s1) E s
 self:∀(A:Around)(i:Nat)(s:Shared)(Q:qf)(E:qf),tn i s.heap->Q (.ref it) s->wpAny (model P w) A (pyIter (.ref it)) Q E s
abbrev TI:=St->Hp->(It->Hp->Prop)->Prop
def PIE(X:Cx)(a:qd)(i:St)(j:Expr)(R:It->Hp->Prop)(c:Value)(e:Shared):Prop :=
 ∃(it:Addr)(f:nt)(g:Nat->Heap->Prop)(J:It)(d:Hp),c=.ref it/\Inv X a i d e/\lP X.prog X.w X.K j J f it g/\g 0 e.heap/\(∀b∈f,ko X a d b)/\R J d
def PI(X:Cx)(c iter:Expr)(d:TI):Prop :=
 ∀(a:qd)(s:Shared)(b:St)(H:Hp)(R:It->Hp->Prop),Inv X a b H s->d b H R ->
  wpAny (model X.prog X.w) X.A (eval iter X.env) (λv e=>wpAny (model X.prog X.w) X.A (pyIter v) (PIE X a b c R) X.xe e) X.xe s
theorem qM{s:Shared}(b:s.heap.get? it=some o)(c:o.cls=.type n)(d:o.data=.fields e)
  (f:["enumerate","zip","dict_itemiterator","dict_reverseitemiterator","odict_iterator","itertools.zip_longest","itertools.pairwise"].contains n=false) (a:Q () s):wpAny M A (letOwnedTupleGo g (.ref it) u) Q E s:=by
 unfold letOwnedTupleGo
 cases g<;>first
  |exact Tz a
  | (cases u<;>first
    |exact Tz a
    | (refine Tn (wpAny_load b ?_)
       rw[c,d];show wpAny M A (if (["enumerate","zip","dict_itemiterator","dict_reverseitemiterator","odict_iterator","itertools.zip_longest","itertools.pairwise"].contains n&&e[0]?==some (rawInt _))=true then _ else _) Q E s;rw[TN (by intro h;rw[f,VD]at h;cases h)];exact Tz a))
noncomputable def Itl(K:vc)(a:Addr):It :=
 ⟨λi H=>∃b x,Xm K H a b/\b[i]?=some x,λi H x c=>c=H/\∀b,Xm K H a b->b[i]?=some x,λi H=>∃b,Xm K H a b/\b.length<=i⟩
noncomputable def Itt(K:vc)(a:Addr):It :=
 ⟨λi H=>∃b x,XG K H a b/\b[i]?=some x,λi H x c=>c=H/\∀b,XG K H a b->b[i]?=some x,λi H=>∃b,XG K H a b/\b.length<=i⟩
noncomputable def Itr(lo:Int)(n:Nat):It:=⟨λi _=>i<n,λi H x a=>a=H/\x=.int (lo+i),λi _=>n<=i⟩
variable{K:vc}
theorem DI(a it:Addr):lP P w K tg (Itl K a) [it] it (λi h=>h.IsListIter it a i) where
 mem:=by simp
 obj:=λi h st b g=>by
  have e:b=it:=by simpa using g
  subst e;obtain⟨o,e,c,d⟩:=st;exact⟨o,e,λv z=>by rw[d]at z;cases z⟩
 keep:=λi h l st k=>st.at λo e=>k it (by simp) o e
 item:=by intro X q r t N i f s O H E I m st y;subst q r t;obtain⟨Q,x,n,A⟩:=y;obtain⟨B,C,p,T⟩:=I.list n;obtain⟨u,U,Y⟩:=C.get A;obtain⟨G,J,f2,L,M,f5⟩:=m it (by simp);refine wpAny_pyNext_list_item st p.isList (x:=u) (by simpa using U) λl j sb=>?_;have I1:Inv X f O H {s with heap:=l}:=I.turned (t':=s.toks) (λb o g e=>(sb.2 b g).trans e) G J L M f5;obtain⟨o,e,c,d⟩:=id j;exact⟨u,rfl,qM (s:={s with heap:=l}) e c d ⋯ ⟨x,H,I1,Y,⟨rfl,λys hy=>by rw[I.list_inj hy n];exact A⟩,j,λb g=>(m b g).1⟩⟩
 done:=by intro X q r t N i f s O H E I m st y;subst q r t;obtain⟨Q,n,A⟩:=y;obtain⟨B,C,p,T⟩:=I.list n;obtain⟨G,J,f2,L,M,f5⟩:=m it (by simp);have hl:=C.length;exact wpAny_pyNext_list_end (I.ok.hd N) st p.isList (by simp;lia) λl eb=>⟨rfl,I.turned (t':=s.toks) (λb o g e=>eb b o g e) G J L M f5⟩
 self:=λ_ _ _ _ _ st h=>wpAny_pyIter_listiter st h
theorem Bx(a it:Addr):lP P w K tg (Itt K a) [it] it (λi h=>h.IsTupleIter it a i) where
 mem:=by simp
 obj:=λi h st b g=>by
  have e:b=it:=by simpa using g
  subst e;obtain⟨o,e,c,d⟩:=st;exact⟨o,e,λv z=>by rw[d]at z;cases z⟩
 keep:=λi h m st k=>st.at λo e=>k it (by simp) o e
 item:=by intro X r t y N i f s O H E I n st A;subst r t y;obtain⟨Q,x,q,B⟩:=A;obtain⟨j,C,p,T⟩:=I.tuple q;obtain⟨u,U,Y⟩:=C.get B;obtain⟨G,J,f2,L,M,f5⟩:=n it (by simp);refine wpAny_pyNext_tuple_item st (show s.heap.IsTuple a j.toArray from p) (x:=u) (by simpa using U) λm l sb=>?_;have I1:Inv X f O H {s with heap:=m}:=I.turned (t':=s.toks) (λb o g e=>(sb.2 b g).trans e) G J L M f5;obtain⟨o,e,c,d⟩:=id l;exact⟨u,rfl,qM (s:={s with heap:=m}) e c d ⋯ ⟨x,H,I1,Y,⟨rfl,λys hy=>by rw[I.ZT hy q];exact B⟩,l,λb g=>(n b g).1⟩⟩
 done:=by intro X r t y N i f s O H E I n st A;subst r t y;obtain⟨Q,q,B⟩:=A;obtain⟨j,C,p,T⟩:=I.tuple q;obtain⟨G,J,f2,L,M,f5⟩:=n it (by simp);have hl:=C.length;exact wpAny_pyNext_tuple_end (I.ok.hd N) st (show s.heap.IsTuple a j.toArray from p) (by simp;lia) λm eb=>⟨rfl,I.turned (t':=s.toks) (λb o g e=>eb b o g e) G J L M f5⟩
 self:=λ_ _ _ _ _ st h=>wpAny_pyIter_tupleiter st h
theorem Bw{K:PySem.W.Frag}(it:Addr)(lo:Int)(n:Nat):lP P w K O (Itr lo n) [it] it (λi h=>IsRangeIter h it (lo+(i:Nat)*1) ((n:Int) - (i:Nat)) 1) where
 mem:=by simp
 obj:=λi h st b c=>by
  have e:b=it:=by simpa using c
  subst e
  exact⟨_,st,λv z=>by
   have C:Data.fields _=Data.cell v:=z;cases C⟩
 keep:=λi h f st k=>k it (by simp) _ st
 item:=by intro X j l m p i a s A H E I g st q;subst j l m;obtain⟨r,u,G,x,y,f5⟩:=g it (by simp);have W:=Walks.range (prog:=X.prog) (w:=X.w) (I.ok.hd p) it lo 1 n;refine W.item i s _ _ q st λv f B J d L=>?_;obtain⟨t,rfl⟩:=J;have M:Inv X a A H {s with heap:=f,toks:=B}:=I.turned (λb o c e=>L b o (by simpa using c) e) r u x y f5;refine⟨_,rfl,qM (s:={s with heap:=f,toks:=B}) (n:="range_iterator") d rfl rfl ⋯ ⟨.int (lo+i),H,M,⟨t,?_⟩,⟨rfl,rfl⟩,d,λb c=>(g b c).1⟩⟩;rw[Int.mul_one]
 done:=by intro X j l m p i a s A H E I g st q;subst j l m;obtain⟨r,u,G,x,y,f5⟩:=g it (by simp);exact wpAny_pyNext_range_end (I.ok.hd p) st (by have:n<=i:=q;lia) λf N=>⟨rfl,I.turned (t':=s.toks) (λb o c e=>N b o c e) r u x y f5⟩
 self:=λ_ _ _ _ _ st h=>wpAny_pyIter_rangeiter st h
section
noncomputable def kh(K:vc)(c:TE):TI:=λd H R=>c d H λx b=>∃a,x=.ref a/\(∃e,Xm K b a e)/\R (Itl K a) b
noncomputable def EL(K:vc)(c:TE):TI:=λd H R=>c d H λx b=>∃a,x=.ref a/\(∃e,XG K b a e)/\R (Itt K a) b
theorem cI(g:PE X l i):PI X y l (kh X.K i):=by
 intro c s j H R I h;refine Xl (g c s j H _ I h) λv d ⟨x,m,f,n,r⟩=>?_;obtain⟨a,e,⟨z,t⟩,q⟩:=r;subst e;cases n;obtain⟨u,A,p,B⟩:=f.list t;refine VS p.isList ?_;refine⟨d.heap.objs.size,[d.heap.objs.size],_,_,m,rfl,f.kept (t':=d.toks) λb o e=>Tp _ e,DI a _,⟨_,T3 _ rfl,rfl,rfl⟩,λb w=>?_,q⟩;have e:b=d.heap.objs.size:=by simpa using w
 subst e;exact f.ZK (Tu _) (f.hok.fresh (Tu _))
theorem iV(i:PE X l j):PI X y l (EL X.K j):=by
 intro c s m H R I h;refine Xl (i c s m H _ I h) λv d ⟨x,n,f,r,t⟩=>?_;obtain⟨a,e,⟨z,u⟩,q⟩:=t;subst e;cases r;obtain⟨g,A,p,B⟩:=f.tuple u;refine wpAny_pyIter_tuple (show d.heap.IsTuple a g.toArray from p) ?_;refine⟨d.heap.objs.size,[d.heap.objs.size],_,_,n,rfl,f.kept (t':=d.toks) λb o e=>Tp _ e,Bx a _,⟨_,T3 _ rfl,rfl,rfl⟩,λb w=>?_,q⟩;have e:b=d.heap.objs.size:=by simpa using w
 subst e;exact f.ZK (Tu _) (f.hok.fresh (Tu _))
theorem FP{X:Cx}{i:Expr}{c:qd}{d:St}{H:Hp}{s:Shared}{R:It->Hp->Prop}{E:qf}{lo a:Int}{t u v:Tok}{f:Nat}(I:Inv X c d H s)(j:-(2 ^ 62)<=lo)(l:lo<2 ^ 62)(m:-(2 ^ 62)<=a)(n:a<2 ^ 62)
  (q:R (Itr lo (a - lo).toNat) H):wpAny (model X.prog X.w) X.A (pyIter (.ref s.heap.objs.size)) (PIE X c d i R) E {s with heap:=s.heap.push {cls:=.type "range",data:=.fields #[.int lo t,.int a u,.int 1 v]},toks:=f}:=by
 refine wpAny_pyIter_range (IsRange.new ..) (small_one j l m n) ?_;have g:Inv X c d H {s with heap:=s.heap.push {cls:=.type "range",data:=.fields #[.int lo t,.int a u,.int 1 v]},toks:=f}:=I.kept λb o e=>Tp _ e
 refine⟨(s.heap.push {cls:=.type "range",data:=.fields #[.int lo t,.int a u,.int 1 v]}).objs.size,[(s.heap.push {cls:=.type "range",data:=.fields #[.int lo t,.int a u,.int 1 v]}).objs.size],_,_,H,rfl,
  g.kept (t':=f) λb o e=>Tp _ e,Bw _ lo (a - lo).toNat,?_,λb p=>?_,q⟩
 ·have e1:lo+((0:Nat):Int)*1=lo:=by simp
  have e2:(((a - lo).toNat:Nat):Int) - ((0:Nat):Int)=Builtin.Range.rangeSize lo a 1:=by rw[rangeSize_one];split<;>lia
  show IsRangeIter _ _ (lo+((0:Nat):Int)*1) ((((a - lo).toNat:Nat):Int) - ((0:Nat):Int)) 1;rw[e1,e2];exact T3 _ rfl
 ·have e:b=(s.heap.push {cls:=.type "range",data:=.fields #[.int lo t,.int a u,.int 1 v]}).objs.size:=by simpa using p
  subst e;exact g.ZK (Tu _) (g.hok.fresh (Tu _))
noncomputable def EK(a:TA):TI:=λb H R=>a b H λc d=>∃j:Int,c=[.int j]/\-(2 ^ 62)<=j/\j<2 ^ 62/\R (Itr 0 j.toNat) d
theorem uW(f:Gl X "range")(g:X.mg "range"=none)(i:PA X [a] l)(m:starEach [a] X.env=[(false,eval a X.env)]:=by rfl):PI X y (.Call (.Name "range" p) [a] [] c) (EK l):=by
 intro b s n H R I h;refine Call_ (my I f g boot_range (U8 (Xl (i c b s n H _ I h) λz A ⟨B,C,u,v,d⟩=>?_) m rfl));obtain⟨j,e,d,w,q⟩:=d;subst e
 cases v with
 |cons r x =>cases x;obtain⟨t,rfl⟩:=r;exact call_range_1 (FP u ⋯ ⋯ d w (by simpa using q))
def Gm(f:TI)(g:TG)(j:TS):TS:=λD a H=>f a H λJ l=>∃W:Nat->Nat->St->Hp->Prop,(∃m,W 0 m a l)/\∀i m a H,W i m a H ->
 (J.stop i H/\D.nx a H)\/(J.go i H/\∃N:St->Hp->Prop,(∀b c,N b c->∃e,e<m/\W (i+1) e b c)/\∀x c,J.Zd i H x c->g x a c λd n=>j {D with nx:=N,ct:=N,bk:=D.nx} d n)
noncomputable def mC(a:nt)(h:Heap):List (Addr×Obj):=a.filterMap λb=>(h.get? b).map λo=>(b,o)
theorem dZ{h:Heap}(a:b∈c)(e:h.get? b=some o):(b,o)∈mC c h:=UZ.mpr ⟨b,a,by rw[e];rfl⟩
theorem Di(a:p∈mC c h):p.1∈c/\h.get? p.1=some p.2:=by
 obtain⟨b,d,e⟩:=UZ.mp a
 cases q:h.get? b with
 |none=>rw[q]at e;cases e
 |some o =>rw[q]at e;have f:(b,o)=p:=Ur e;subst f;exact⟨d,q⟩
theorem Inv.pinned{X:Cx}{a:qd}{f:St}{H:Hp}{s:Shared}{c:nt}(I:Inv X a f H s)(j:∀b∈c,ko X a H b)(l:∀b∈c,∃o,s.heap.get? b=some o/\∀v,o.data≠.cell v):Inv X (a++mC c s.heap) f H s :=
 I.pins_of λp m=>(Uw.mp m).elim (λz=>I.pin p (Ua _ z)) λz=>by obtain⟨g,e⟩:=Di z;obtain⟨n,q,r,_⟩:=j p.1 g;obtain⟨o,i,d⟩:=l p.1 g;rw[e]at i;cases i;exact⟨e,n,q,r,d⟩
theorem Inv.Yb{X:Cx}{a c:qd}{b:St}{H:Hp}{s:Shared}(I:Inv X (a++c) b H s):Inv X a b H s:=I.pins_of λp d=>I.pin p (Ua _ (Vg _ d))
theorem gZ{X:Cx}(B:PassesOwn (model X.prog X.w) X.A X.env X.xe)(hc:X.calm=true)(hi:PI X tg iter wi)(hg:PG X tg g)(j:Y0 X body tb)
  (hs:∀x,foldedSetIterable iter X.env x=pure x:=by intro _;rfl):PS X (.For tg iter body [] pos) (Gm wi g tb):=by
 intro a s σ H D I h;refine wpAny_For (Xl (hi a s σ H _ I h) λv s1 h1=>Xl h1 λitv s2 h2=>?_) hs;obtain⟨it,C,tn,J,H2,e,I2,T,O,f2,W,⟨m0,w0⟩,E⟩:=h2;subst e;have Q:∀{y:Hp},(∀b∈C,y b=none)->∀b∈C,ko X a y b:=λhn b j=>⟨hn b j,(f2 b j).2⟩
 refine codeAny_forLoop_any (λn s'=>∃i l y,Inv X a l y s'/\tn i s'.heap/\(∀b∈C,y b=none)/\W i n l y) ?_ m0 ⟨0,σ,H2,I2,O,λb j=>(f2 b j).1,w0⟩;rintro n s3 ⟨i,p,M,I3,G,L,w3⟩;rcases E i n p M w3 with⟨stop,qn⟩|⟨go,N,hN,step⟩
 ·refine Vv B (Xl (T.done X rfl rfl rfl hc i a s3 p M X.xe I3 (Q L) G stop) λr s4 ⟨U,I4⟩=>?_);subst U;exact WA ⟨p,M,I4,qn⟩
 ·refine Vv B (Xl (T.item X rfl rfl rfl hc i a s3 p M X.xe I3 (Q L) G go) λr s4 ⟨u,U,h4⟩=>?_);subst U;refine Vv B (Xl h4 λ_ s5 ⟨x,H5,I5,r5,y5,Y,fr5⟩=>?_);have I5':=I5.pinned (Q fr5) (T.obj _ _ Y);refine Vv B (Xl (hg _ s5 p H5 x u _ I5' r5 (step x H5 y5)) λ_ s6 ⟨σ6,H6,I6,q6⟩=>?_);refine Vv B (Xl (j _ s6 σ6 H6 _ I6 q6) λf s7 z=>?_)
  have again:∀{c:St}{q:Hp},Inv X (a++mC C s5.heap) c q s7->N c q->∃m,m<n/\∃i l y,Inv X a l y s7/\tn i s7.heap/\(∀b∈C,y b=none)/\W i m l y:=λ{c q} t n7=>by obtain⟨m',hm,w7⟩:=hN c q n7;refine⟨m',hm,i+1,c,q,t.Yb,T.keep _ _ _ Y λb j o e=>(t.pin (b,o) (Ua _ (Ua _ (dZ j e)))).1,λb j=>?_,w7⟩;obtain⟨o,e,d⟩:=T.obj _ _ Y b j;exact(t.pin (b,o) (Ua _ (Ua _ (dZ j e)))).2.1
  cases f with
  |next=>obtain⟨c,q,t,n7⟩:=z;exact again t n7
  |cont=>obtain⟨c,q,t,n7⟩:=z;exact again t n7
  |brk=>obtain⟨c,q,t,z⟩:=z;exact⟨c,q,t.Yb,z⟩
  |ret v=>obtain⟨x7,c,q,t,r7,z⟩:=z;exact⟨x7,c,q,t.Yb,r7,z⟩
end
theorem iP{K:PySem.W.Frag}{a:Addr}{xs:List V}{g:TG}{n:TS}{D:Ends}{b:St}{H:Hp}(Pv:Nat->St->Hp->Prop)(s:Pv 0 b H)(t:∀i b H,i<=xs.length->Pv i b H->Xm K H a xs)
  (u:∀i x b H,xs[i]?=some x->Pv i b H->g x b H λc l=>n {D with nx:=Pv (i+1),ct:=Pv (i+1),bk:=D.nx} c l) (v:∀b H,Pv xs.length b H->D.nx b H) :
  ∃W:Nat->Nat->St->Hp->Prop,(∃m,W 0 m b H)/\∀i m b H,W i m b H ->
   ((Itl K a).stop i H/\D.nx b H)\/((Itl K a).go i H/\∃N:St->Hp->Prop,(∀d f,N d f->∃r,r<m/\W (i+1) r d f)/\∀x f,(Itl K a).Zd i H x f->g x b f λc l=>n {D with nx:=N,ct:=N,bk:=D.nx} c l):=by
 refine⟨λi m b H=>m=xs.length - i/\i<=xs.length/\Pv i b H,⟨xs.length,by simp,Us _,s⟩,?_⟩;rintro i m b H ⟨rfl,w,p⟩;have q:=t i b H w p;by_cases j:i<xs.length
 ·refine .inr ⟨⟨xs,xs[i],q,by simp[j]⟩,Pv (i+1),λd f z=>⟨xs.length - (i+1),⋯,rfl,j,z⟩,λx f y=>?_⟩;obtain⟨e,y⟩:=y;subst e;exact u i x b _ (y xs q) p
 ·have e:i=xs.length:=by lia
  subst e;exact .inl ⟨⟨xs,q,Tu _⟩,v b H p⟩
theorem wm{K:PySem.W.Frag}{a:Addr}{xs:List V}{g:TG}{n:TS}{D:Ends}{b:St}{H:Hp}(Pv:Nat->St->Hp->Prop)(s:Pv 0 b H)(t:∀i b H,i<=xs.length->Pv i b H->XG K H a xs)
  (u:∀i x b H,xs[i]?=some x->Pv i b H->g x b H λc l=>n {D with nx:=Pv (i+1),ct:=Pv (i+1),bk:=D.nx} c l) (v:∀b H,Pv xs.length b H->D.nx b H) :
  ∃W:Nat->Nat->St->Hp->Prop,(∃m,W 0 m b H)/\∀i m b H,W i m b H ->
   ((Itt K a).stop i H/\D.nx b H)\/((Itt K a).go i H/\∃N:St->Hp->Prop,(∀d f,N d f->∃r,r<m/\W (i+1) r d f)/\∀x f,(Itt K a).Zd i H x f->g x b f λc l=>n {D with nx:=N,ct:=N,bk:=D.nx} c l):=by
 refine⟨λi m b H=>m=xs.length - i/\i<=xs.length/\Pv i b H,⟨xs.length,by simp,Us _,s⟩,?_⟩;rintro i m b H ⟨rfl,w,p⟩;have q:=t i b H w p;by_cases j:i<xs.length
 ·refine .inr ⟨⟨xs,xs[i],q,by simp[j]⟩,Pv (i+1),λd f z=>⟨xs.length - (i+1),⋯,rfl,j,z⟩,λx f y=>?_⟩;obtain⟨e,y⟩:=y;subst e;exact u i x b _ (y xs q) p
 ·have e:i=xs.length:=by lia
  subst e;exact .inl ⟨⟨xs,q,Tu _⟩,v b H p⟩
theorem Aa(Pv:St->Hp->Prop)(μ:St->Hp->Nat)(i:Pv a H)
  (j:∀a H,Pv a H->c a H λb e=>if b=true then n {D with nx:=λd f=>Pv d f/\μ d f<μ a H,ct:=λd f=>Pv d f/\μ d f<μ a H,bk:=D.nx} a e else D.nx a e)
  (mono:∀a H Q g,(∀b e,Q b e->g b e)->c a H Q->c a H g):sX c n D a H:=by
 refine⟨λm a H=>m=μ a H/\Pv a H,⟨_,rfl,i⟩,?_⟩;rintro m a H ⟨rfl,p⟩;refine mono a H _ _ (λb e q=>?_) (j a H p)
 cases b with
 |true=>exact⟨_,λd f ⟨r,l⟩=>⟨_,l,rfl,r⟩,q⟩
 |false=>exact q
abbrev R2:=V->V->Hp->VK->Prop
def Ye(X:Cx)(f:Value->Value->Sem Value)(r:R2):Prop :=
 ∀(a:qd)(s:Shared)(b:St)(H:Hp)(x y:V)(v u:Value)(Q:VK),Inv X a b H s->RelV x v->RelV y u->r x y H Q ->
  wpAny (model X.prog X.w) X.A (f v u) (EP X a b Q) X.xe s
def UnR(X:Cx)(f:Value->Sem Value)(r:V->Hp->VK->Prop):Prop :=
 ∀(a:qd)(s:Shared)(b:St)(H:Hp)(x:V)(v:Value)(Q:VK),Inv X a b H s->RelV x v->r x H Q ->
  wpAny (model X.prog X.w) X.A (f v) (EP X a b Q) X.xe s
def gB(X:Cx)(f:Value)(r:List V->Hp->VK->Prop):Prop :=
 ∀(a:qd)(s:Shared)(b:St)(H:Hp)(c:List V)(d:yw)(Q:VK),Inv X a b H s->Vals c d->r c H Q ->
  wpAny (model X.prog X.w) X.A (call f d) (EP X a b Q) X.xe s
def Ma(X:Cx)(r:V->Hp->(Bool->Hp->Prop)->Prop):Prop :=
 ∀(a:qd)(s:Shared)(b:St)(H:Hp)(x:V)(v:Value)(Q:Bool->Hp->Prop),Inv X a b H s->RelV x v->r x H Q ->
  wpAny (model X.prog X.w) X.A (truthy v) (TP X a b Q) X.xe s
noncomputable def Yn(r:R2)(b c:TE):TE:=λa H Q=>b a H λx d=>c a d λy e=>r x y e Q
def tUn(r:V->Hp->VK->Prop)(a:TE):TE:=λb H Q=>a b H λx c=>r x c Q
def rI(C:Int->Int->Prop)(g:Int->Int->V):R2:=λx y H Q=>∃i j,x=.int i/\y=.int j/\C i j/\Q (g i j) H
noncomputable def rI0(g:Int->Int->V):R2:=λx y H Q=>∃i j,x=.int i/\y=.int j/\Q (g i j) H
def rU(g:Int->V):V->Hp->VK->Prop:=λx H Q=>∃i,x=.int i/\Q (g i) H
section
theorem JI{X:Cx}{a b:Expr}{m n:TE}(p:PE X a m)(q:PE X b n){c:qd}{s:Shared}{d:St}{H:Hp}{R:V->V->Hp->Prop}(I:Inv X c d H s)
  (h:m d H λx l=>n d l λy e=>R x y e) {Q:qf} {f:Value->Value->Sem Value}
  (r:∀v u j x y e,Inv X c d e j->RelV x v->RelV y u->R x y e->wpAny (model X.prog X.w) X.A (f v u) Q X.xe j) :
  wpAny (model X.prog X.w) X.A (eval a X.env) (λv g=>wpAny (model X.prog X.w) X.A (eval b X.env) (λu i=>wpAny (model X.prog X.w) X.A (f v u) Q X.xe i) X.xe g) X.xe s:=by
 refine Xl (p c s d H _ I h) λv t ⟨x,l,z,B,C⟩=>?_;refine Xl (q c t d l _ z C) λu j ⟨y,e,E,G,J⟩=>?_;exact r v u j x y e E B G J
theorem bS(d:Ye X (binaryOp e) r)(f:PE X a g)(i:PE X b j):PE X (.BinOp a e b l) (Yn r g j):=by intro c s m H Q I h;exact wpAny_BinOp (JI f i I h λv u n x y p t w z q=>d c n m p x y v u Q t w z q)
theorem FD(d:UnR X (unaryOp e) r)(f:PE X a g):PE X (.UnaryOp e a i) (tUn r g):=by intro b s c H Q I h;exact UnaryOp_ (Xl (f b s c H _ I h) λv j ⟨x,l,m,n,p⟩=>d b j c l x v Q m n p)
theorem opI{X:Cx}{f:Value->Value->Sem Value}{C:Int->Int->Prop}{g:Int->Int->Int}
  (rule:∀(i j:Int)(t u:Tok)(s:Shared)(Q:qf)(E:qf),C i j->Q (.int (g i j) s.toks) {s with toks:=s.toks+1}->wpAny (model X.prog X.w) X.A (f (.int i t) (.int j u)) Q E s) :
  Ye X f (rI C λi j=>.int (g i j)):=by
 intro a s l H x y v u Q I b c h;obtain⟨i,j,rfl,rfl,d,q⟩:=h;obtain⟨t,rfl⟩:=b;obtain⟨e,rfl⟩:=c;exact rule i j t e s _ _ d ⟨.int (g i j),H,I.tok _,⟨_,rfl⟩,q⟩
theorem LA{X:Cx}{f:Value->Value->Sem Value}{g:Int->Int->Int}
  (rule:∀(i j:Int)(t u:Tok)(s:Shared)(Q:qf)(E:qf),Q (.int (g i j) s.toks) {s with toks:=s.toks+1}->wpAny (model X.prog X.w) X.A (f (.int i t) (.int j u)) Q E s) :
  Ye X f (rI0 λi j=>.int (g i j)):=by
 intro a s e H x y v u Q I b c h;obtain⟨i,j,rfl,rfl,q⟩:=h;obtain⟨t,rfl⟩:=b;obtain⟨d,rfl⟩:=c;exact rule i j t d s _ _ ⟨.int (g i j),H,I.tok _,⟨_,rfl⟩,q⟩
theorem Hz{X:Cx}{f:Value->Value->Sem Value}{g:Int->Int->Bool}
  (rule:∀(i j:Int)(t u:Tok)(s:Shared)(Q:qf)(E:qf),Q (.bool (g i j)) s->wpAny (model X.prog X.w) X.A (f (.int i t) (.int j u)) Q E s) :
  Ye X f (rI0 λi j=>.bl (g i j)):=by
 intro a s e H x y v u Q I b c h;obtain⟨i,j,rfl,rfl,q⟩:=h;obtain⟨t,rfl⟩:=b;obtain⟨d,rfl⟩:=c;exact rule i j t d s _ _ ⟨.bl (g i j),H,I,rfl,q⟩
def Jk(i j:Int):Prop:=0<j/\j<1073741824
def L8(i j:Int):Prop:=0<=j/\j<=1000000/\i.natAbs<2 ^ 64
def CMul(i j:Int):Prop:=(-(2 ^ 64)<i/\i<2 ^ 64)\/(-(2 ^ 64)<j/\j<2 ^ 64)
theorem CMul.ok(h:CMul i j):IntMulOk i j:=by
 rcases h with⟨a,b⟩|⟨a,b⟩
 ·exact .of_left (intBits_le_64 a b)
 ·exact .of_right (intBits_le_64 a b)
theorem eQ:Ye X (binaryOp .Add) (rI0 λi j=>.int (i+j)):=LA λ_ _ _ _ _ _ _ q=>add_int q
theorem Fq:Ye X (binaryOp .Sub) (rI0 λi j=>.int (i - j)):=LA λ_ _ _ _ _ _ _ q=>sub_int q
theorem AU:Ye X (binaryOp .Mult) (rI CMul λi j=>.int (i*j)):=opI λ_ _ _ _ _ _ _ a q=>mul_int q a.ok
theorem m8:Ye X (binaryOp .FloorDiv) (rI Jk λi j=>.int (i / j)):=opI λi j _ _ _ _ _ a q=>by have b:(0:Int)<j:=a.1;have c:j<1073741824:=a.2;exact floordiv_int ⋯ (by rw[Int.fdiv_eq_ediv_of_nonneg i ⋯];exact q) (.inl (PyProof.noPylong_small ⋯))
theorem gK:Ye X (binaryOp .Mod) (rI (λ_ j=>0<j) λi j=>.int (i%j)):=opI λi j _ _ _ _ _ a q=>by have b:(0:Int)<j:=a;exact mod_int' ⋯ (by rw[Int.fmod_eq_emod_of_nonneg i ⋯];exact q)
theorem xh:Ye X (binaryOp .Pow) (rI L8 λi j=>.int (i ^ j.toNat)):=opI λ_ _ _ _ _ _ _ a q=>pow_int_small a.1 a.2.1 a.2.2 q
theorem unI{X:Cx}{f:Value->Sem Value}{g:Int->Int}
  (rule:∀(i:Int)(t:Tok)(s:Shared)(Q:qf)(E:qf),Q (.int (g i) s.toks) {s with toks:=s.toks+1}->wpAny (model X.prog X.w) X.A (f (.int i t)) Q E s) :
  UnR X f (rU λi=>.int (g i)):=by
 intro a s c H x v Q I b h;obtain⟨i,rfl,q⟩:=h;obtain⟨t,rfl⟩:=b;exact rule i t s _ _ ⟨.int (g i),H,I.tok _,⟨_,rfl⟩,q⟩
theorem By:UnR X (unaryOp .USub) (rU λi=>.int (-i)):=unI λ_ _ _ _ _ q=>neg_int q
end
noncomputable def LQ:V->V->Bool
 | .Xi,.Xi=>true | .Xi,.int _=>true | .int _,.Xi=>true | .Xi,.bl _=>true | .bl _,.Xi=>true | .Xi,.str _=>true | .str _,.Xi=>true
 | .int _,.int _=>true | .bl _,.bl _=>true | .str _,.str _=>true | .byt _,.byt _=>true
 | .int _,.str _=>true | .str _,.int _=>true | .bl _,.str _=>true | .str _,.bl _=>true
 |_,_=>false
noncomputable def rEq:R2:=λx y H Q=>LQ x y=true/\Q (.bl (decide (x=y))) H
noncomputable def rNe:R2:=λx y H Q=>LQ x y=true/\Q (.bl (!decide (x=y))) H
theorem BK:decide (V.int i=V.int j)=(i==j):=by rw[WB];simp
theorem Ef:decide (V.bl i=V.bl j)=(i==j):=by rw[WB];simp
theorem BL:decide (V.str i=V.str j)=(i==j):=by rw[WB];simp
theorem BJ:decide (V.byt i=V.byt j)=(i.toList==j.toList):=by rw[WB];cases i;cases j;simp
section
variable{b:Expr}{ta tb tc:TE}
theorem cE{X:Cx}{a:qd}{c:St}{H:Hp}{s:Shared}{Q:VK}{k d:Bool}(I:Inv X a c H s)(q:Q (.bl k) H)(e:k=d):EP X a c Q (.bool d) s:=by subst e;exact⟨.bl k,H,I,rfl,q⟩
theorem cM:Ye X (compareOp .Eq) rEq:=by
 intro f s g H x y v u Q I e a h;obtain⟨d,q⟩:=h
 cases x with
 |Xi =>
  cases e
  cases y with
  |Xi=>cases a;exact PySem.EqNone.eq_none_none (cE I q (by simp))
  |bl j=>cases a;exact PySem.EqNone.eq_none_bool (cE I q (by simp))
  |int j=>obtain⟨c,rfl⟩:=a;exact PySem.EqNone.eq_none_int (cE I q (by simp))
  |str j=>obtain⟨c,rfl⟩:=a;exact PySem.EqNone.eq_none_str (cE I q (by simp))
  |_=>exact absurd (show false=true from d) TH
 |bl i =>
  cases e
  cases y with
  |Xi=>cases a;exact PySem.EqNone.eq_bool_none (cE I q (by simp))
  |bl j=>cases a;exact eq_bool (cE I q Ef)
  |str j=>obtain⟨c,rfl⟩:=a;exact PySem.EqMixed.eq_bool_str (cE I q (by simp))
  |_=>exact absurd (show false=true from d) TH
 |int i =>
  obtain⟨t,rfl⟩:=e
  cases y with
  |Xi=>cases a;exact PySem.EqNone.eq_int_none (cE I q (by simp))
  |int j=>obtain⟨c,rfl⟩:=a;exact eq_int (cE I q BK)
  |str j=>obtain⟨c,rfl⟩:=a;exact PySem.EqMixed.eq_int_str (cE I q (by simp))
  |_=>exact absurd (show false=true from d) TH
 |str i =>
  obtain⟨t,rfl⟩:=e
  cases y with
  |Xi=>cases a;exact PySem.EqNone.eq_str_none (cE I q (by simp))
  |bl j=>cases a;exact PySem.EqMixed.eq_str_bool (cE I q (by simp))
  |int j=>obtain⟨c,rfl⟩:=a;exact PySem.EqMixed.eq_str_int (cE I q (by simp))
  |str j=>obtain⟨c,rfl⟩:=a;exact eq_str (cE I q BL)
  |_=>exact absurd (show false=true from d) TH
 |byt i =>
  obtain⟨t,rfl⟩:=e
  cases y with
  |byt j=>obtain⟨c,rfl⟩:=a;exact W.eq_bytes (cE I q BJ)
  |_=>exact absurd (show false=true from d) TH
 |_=>cases y<;>exact absurd (show false=true from d) TH
theorem pq:Ye X (compareOp .NotEq) rNe:=by
 intro f s g H x y v u Q I e a h;obtain⟨d,q⟩:=h
 cases x with
 |Xi =>
  cases e
  cases y with
  |Xi=>cases a;exact PySem.EqNone.ne_none_none (cE I q (by simp))
  |bl j=>cases a;exact PySem.EqNone.ne_none_bool (cE I q (by simp))
  |int j=>obtain⟨c,rfl⟩:=a;exact PySem.EqNone.ne_none_int (cE I q (by simp))
  |str j=>obtain⟨c,rfl⟩:=a;exact PySem.EqNone.ne_none_str (cE I q (by simp))
  |_=>exact absurd (show false=true from d) TH
 |bl i =>
  cases e
  cases y with
  |Xi=>cases a;exact PySem.EqNone.ne_bool_none (cE I q (by simp))
  |bl j=>cases a;exact ne_bool (cE I q (Up not Ef))
  |str j=>obtain⟨c,rfl⟩:=a;exact PySem.EqMixed.ne_bool_str (cE I q (by simp))
  |_=>exact absurd (show false=true from d) TH
 |int i =>
  obtain⟨t,rfl⟩:=e
  cases y with
  |Xi=>cases a;exact PySem.EqNone.ne_int_none (cE I q (by simp))
  |int j=>obtain⟨c,rfl⟩:=a;exact ne_int (cE I q (Up not BK))
  |str j=>obtain⟨c,rfl⟩:=a;exact PySem.EqMixed.ne_int_str (cE I q (by simp))
  |_=>exact absurd (show false=true from d) TH
 |str i =>
  obtain⟨t,rfl⟩:=e
  cases y with
  |Xi=>cases a;exact PySem.EqNone.ne_str_none (cE I q (by simp))
  |bl j=>cases a;exact PySem.EqMixed.ne_str_bool (cE I q (by simp))
  |int j=>obtain⟨c,rfl⟩:=a;exact PySem.EqMixed.ne_str_int (cE I q (by simp))
  |str j=>obtain⟨c,rfl⟩:=a;exact ne_str (cE I q (Up not BL))
  |_=>exact absurd (show false=true from d) TH
 |byt i =>
  obtain⟨t,rfl⟩:=e
  cases y with
  |byt j=>obtain⟨c,rfl⟩:=a;exact W.ne_bytes (cE I q (Up not BJ))
  |_=>exact absurd (show false=true from d) TH
 |_=>cases y<;>exact absurd (show false=true from d) TH
theorem pj:Ye X (compareOp .Lt) (rI0 λi j=>.bl (decide (i<j))):=Hz λ_ _ _ _ _ _ _ q=>lt_int q
theorem kS:Ye X (compareOp .LtE) (rI0 λi j=>.bl (decide (i<=j))):=Hz λ_ _ _ _ _ _ _ q=>le_int q
theorem rD:Ye X (compareOp .Gt) (rI0 λi j=>.bl (decide (j<i))):=Hz λ_ _ _ _ _ _ _ q=>gt_int q
theorem y9:Ye X (compareOp .GtE) (rI0 λi j=>.bl (decide (j<=i))):=Hz λ_ _ _ _ _ _ _ q=>ge_int q
theorem xf:Ye X (compareOp .Is) (λx y H Q=>y=.Xi/\Q (.bl (decide (x=.Xi))) H):=by
 intro a s e H x y v u Q I c d h;obtain⟨rfl,q⟩:=h;cases d;refine is_none_gen (cE I q ?_)
 cases x<;>first
  | (cases c;rfl)
  | (obtain⟨t,rfl⟩:=c;rfl)
theorem B7:Ye X (compareOp .IsNot) (λx y H Q=>y=.Xi/\Q (.bl (!decide (x=.Xi))) H):=by
 intro a s e H x y v u Q I c d h;obtain⟨rfl,q⟩:=h;cases d;refine isnot_none_gen (cE I q ?_)
 cases x<;>first
  | (cases c;rfl)
  | (obtain⟨t,rfl⟩:=c;rfl)
theorem Ye.or(h:Ye X f r)(g:Ye X f i):Ye X f (λx y H Q=>r x y H Q\/i x y H Q):=by
 intro a s c H x y v u Q I d e q;rcases q with q|q
 ·exact h a s c H x y v u Q I d e q
 ·exact g a s c H x y v u Q I d e q
theorem fC(b:Expr)(h:a≠.In:=by decide)(c:a≠.NotIn:=by decide):behindInMarks a b=false:=by
 have e1:(a==CmpOp.In)=false:=by cases a<;>first|rfl|exact absurd rfl h
 have e2:(a==CmpOp.NotIn)=false:=by cases a<;>first|rfl|exact absurd rfl c
 cases b<;>simp[behindInMarks,e1,e2]
theorem dM(e:Ye X (compareOp d) r)(f:PE X a ta)(g:PE X b tb)(i:behindInMarks d b=false):PE X (.Compare a [d] [b] j) (Yn r ta tb):=by intro c s l H Q I h;exact wpAny_Compare1 (JI f g I h λv u m x y n p t w q=>e c m l n x y v u Q p t w q) i
noncomputable def nO(t:TE):TT:=λa H Q=>t a H λx c=>∃k,x=.bl k/\Q k c
theorem HP(i:Ye X (compareOp g) r)(j:PE X a ta)(l:PE X b tb)(m:behindInMarks g b=false):PT X (.Compare a [g] [b] n) (nO (Yn r ta tb)):=by
 intro d s f H Q I h
 refine wpAny_isTrue_Compare1 (Xl (j d s f H _ I h) λv p ⟨x,q,t,w,A⟩=>Xl (l d p f q _ t A) λu B ⟨y,C,E,G,J⟩ =>
  Xl (i d B f C x y v u _ E w G J) λc T ⟨z,L,M,N,k,e,O⟩=>?_) m
 subst e;cases N;exact UH ⟨L,M,O⟩
noncomputable def xS(r d:R2)(ta tb tc:TE):TE:=λa H Q=>ta a H λx e=>tb a e λy f=>r x y f λz c=>∃k,z=.bl k /\
 (if k=true then tc a c λg i=>d y g i Q else Q (.bl false) c)
theorem zj(t:Ye X (compareOp l) r)(j:Ye X (compareOp g) w)(A:PE X a ta)(B:PE X b tb)(C:PE X c tc)
  (E:lastMarks [l,g] [b,c]=false:=by with_unfolding_all rfl):PE X (.Compare a [l,g] [b,c] G) (xS r w ta tb tc):=by
 intro f s i H Q I h
 refine Compare_chain (Xl (A f s i H _ I h) λv J ⟨x,L,M,N,O⟩=>chain_link (Xl (B f J i L _ M O) λu T ⟨y,U,Y,m,q2⟩ =>
  Xl (t f T i U x y v u _ Y N m q2) λd s3 ⟨z,n,p,r3,k,e,q⟩=>?_)) E
 subst e;cases r3;refine UH ?_
 cases k with
 |false=>exact ite_ff ⟨.bl false,n,p,rfl,q⟩
 |true=>exact ite_tt (chain_last (Xl (C f s3 i n _ p q) λw' s4 ⟨z',H4,I4,r4,q4⟩=>j f s4 i H4 y z' u w' Q I4 m r4 q4))
theorem rJ(t:Ye X (compareOp l) r)(j:Ye X (compareOp g) w)(A:PE X a ta)(B:PE X b tb)(C:PE X c tc)
  (E:lastMarks [l,g] [b,c]=false:=by with_unfolding_all rfl):PT X (.Compare a [l,g] [b,c] G) (nO (xS r w ta tb tc)):=by
 intro f s i H Q I h
 refine isTrue_chain (Xl (A f s i H _ I h) λv J ⟨x,L,M,N,O⟩=>test_link (Xl (B f J i L _ M O) λu T ⟨y,U,Y,m,q2⟩ =>
  Xl (t f T i U x y v u _ Y N m q2) λd s3 ⟨z,n,p,r3,k,e,q⟩=>?_)) E
 subst e;cases r3;refine UH ?_
 cases k with
 |false =>obtain⟨k',e',q'⟩:=q;cases e';exact ite_ff ⟨n,p,q'⟩
 |true =>refine ite_tt (test_last (Xl (C f s3 i n _ p q) λw' s4 ⟨z',H4,I4,r4,q4⟩=>Xl (j f s4 i H4 y z' u w' _ I4 m r4 q4) λd' s5 ⟨z2,H5,I5,r5,k2,e2,q5⟩=>?_));subst e2;cases r5;exact UH ⟨H5,I5,q5⟩
def CF(K:vc)(x:V)(H:Hp)(k:Bool):Prop :=
 match x with
 | .Xi=>k=false
 | .bl b=>k=b
 | .int i=>k=(i != 0)
 | .str y=>y.length<=sizeLine/\k=((y.length:Int) != 0)
 | .byt y=>y.size<=sizeLine/\k=((y.size:Int) != 0)
 | .ref p=>(∃a,Xm K H p a/\k=!a.isEmpty)\/(∃a,XG K H p a/\k=!a.isEmpty)\/∃c,H p=some (.dK c)/\k=!c.isEmpty
 |_=>False
theorem Aw{κ:Type}{a:List (κ×V)}{c:List (κ×Value)}(r:KV a c):(!c.isEmpty)=!a.isEmpty:=by cases r<;>rfl
theorem qS(r:Vals c a):(!a.toArray.isEmpty)=!c.isEmpty:=by cases r<;>simp
theorem mz:(sizeLine:Nat)<2 ^ 63:=by rw[VP];decide
theorem K1:Ma X (λx H Q=>∃k,CF X.K x H k/\Q k H):=by
 intro z s E H x v Q I g h;obtain⟨k,e,q⟩:=h;have G:=mz;have J:sizeLine=16777216:=VP
 cases x with
 |Xi =>cases g;have a:k=false:=e;subst a;exact truthy_none ⟨H,I,q⟩
 |bl b =>cases g;have a:k=b:=e;subst a;exact UH ⟨H,I,q⟩
 |int i =>obtain⟨t,rfl⟩:=g;have a:k=(i != 0):=e;subst a;exact PySem.P.truthy_int ⟨H,I,q⟩
 |str y =>obtain⟨t,rfl⟩:=g;obtain⟨B,a⟩:y.length<=sizeLine/\k=((y.length:Int) != 0):=e;subst a;exact PySem.P.truthy_str ⋯ ⟨H,I.tok _,q⟩
 |byt y =>obtain⟨t,rfl⟩:=g;obtain⟨B,a⟩:y.size<=sizeLine/\k=((y.size:Int) != 0):=e;subst a;exact W.truthy_bytes ⋯ ⟨H,I.tok _,q⟩
 |ref p =>
  cases g;have a:(∃f,Xm X.K H p f/\k=!f.isEmpty)\/(∃f,XG X.K H p f/\k=!f.isEmpty)\/∃c,H p=some (.dK c)/\k=!c.isEmpty:=e;rcases a with⟨f,j,a⟩|⟨f,j,a⟩|⟨c,j,a⟩
  ·subst a;obtain⟨n,r,u,A⟩:=I.list j;have d:=r.length;exact wpAny_truthy_list u.isList (by simp only[TJ];lia) ⟨H,I.tok _,by rw[qS r];exact q⟩
  ·subst a;obtain⟨n,r,u,A⟩:=I.tuple j;have d:=r.length;exact truthy_tuple u (by simp only[TJ];lia) ⟨H,I.tok _,by rw[qS r];exact q⟩
  ·subst a;obtain⟨A,C,l,r,m⟩:c.length<=sizeLine/\(p==sysModules)=false/\∃l,KV c l/\s.heap.DictOf (cK X.prog X.w) p l:=I.hok p _ j;have d:c.length=l.length:=W2 r;exact wpAny_truthy_dict C m ⋯ ⟨H,I.tok _,by rw[Aw r];exact q⟩
 |_=>exact(show False from e).elim
theorem bN(g:PE X a ta)(i:∀c,isTrue a X.env c=(do let v <- c;standAt a.pos;holding [v] (truthy v))) :
  PT X a (λe H Q=>ta e H λx f=>∃k,CF X.K x f k/\Q k f):=by
 intro d s e H Q I h;exact isTrue_plain (Xl (g d s e H _ I h) λv j ⟨x,l,m,n,p⟩=>K1 d j e l x v Q m n p) (i _)
theorem fP(r:Vals [x] a):∃u,a=[u]/\RelV x u:=by
 cases r with
 |cons c d=>cases d;exact⟨_,rfl,c⟩
theorem L6(r:Vals [x,y] c):∃u a,c=[u,a]/\RelV x u/\RelV y a:=by
 cases r with
 |cons d e =>
  cases e with
  |cons f g=>cases g;exact⟨_,_,rfl,d,f⟩
end
structure ObjM(h:Heap)(x dx C:Addr)(mA:cL):Prop where
 obj:h.get? x=some (W.instObj C dx)
 ns:h.Ns1 dx mA
 ne:dx≠x
theorem C6{h:Heap}(n:h.Ns1 d f):∃od,h.get? d=some od/\∀name,W.lookIn name od=some (f name):=by
 obtain⟨o,c,p,g,i,hk,_,j⟩:=n;refine⟨o,g,λname=>?_⟩;have e:=j name;unfold nsFind findBy at e;rw[<- Array.find?_toList]at e;unfold W.lookIn;rw[i];dsimp only;split
 ·rename_i y q;rw[q]at e;exact Up some e
 ·rename_i q;rw[q]at e
  have a:c.toList.any (·.refKey)=false:=by rw[W5];intro y l;obtain⟨z,t,b⟩:=hk y (Array.mem_toList_iff.mp l);simp[DictEntry.refKey,b]
  have m:¬ c.toList.any (·.refKey)=true:=by rw[a];exact TH
  rw[TN m];exact Up some e
theorem ObjM.look(I:ObjM h x a C b):∃od,W.InstAt h x (W.instObj C a) C (some od)/\∀name,W.lookIn name od=some (b name) :=
 let⟨od,c,d⟩:=C6 I.ns
 ⟨od,⟨I.obj,rfl,rfl,c⟩,d⟩
section
variable{K:vc}
theorem Hh{s:Shared}(X:K.In s.heap)(I:ObjM s.heap x j C c)(d:W.plainGet K C name=true)(e:W.hasDictIn K C=true)
  (f:W.findIn K (.ref C) name=some none) (g:c name=some v) (a:W.handedIn v=true) (h:Q v {s with toks:=s.toks+1}) :
  wpAny (model prog w) A (getAttr (.ref x) name b) Q E s:=by
 obtain⟨od,J,i⟩:=I.look;exact W.get_value X J (W.plainGet_of d).1 (W.findObj_own e f rfl (by rw[i,g])) a h
theorem Ew{s:Shared}(X:K.In s.heap)(I:ObjM s.heap x i C b)(a:W.plainGet K C name=true)
  (c:W.findIn K (.ref C) name=some (some (.ref f))) (d:W.isFn K (.ref f)=true) (e:b name=none) (h:Q (.ref f,[.ref x]) s) :
  wpAny (model prog w) A (getMethod (.ref x) name j) Q E s:=by
 obtain⟨od,J,g⟩:=I.look;exact W.method_fn X J (W.plainGet_of a).1 (W.plainGet_of a).2 c (VC.mp d) (by show(W.lookIn name od).map (·.isSome)=some false;rw[g,e];rfl) h
theorem Ip{s:Shared}(X:K.In s.heap)(I:ObjM s.heap x e C m)
  (n:W.findIn K (.ref C) "__setattr__"=some (some (.builtin "object.__setattr__"))) (p:W.plainOver K C=true) (q:W.takerIn K C name=some none) (t:W.hasDictIn K C=true)
  (u:PySem.Within m z) (B:z.length<=sizeLine)
  (h:∀f,ObjM f x e C (λy=>if y=name then some v else m y)->Heap.SameBut e s.heap f->Q () {s with heap:=f,toks:=s.toks+2}) :
  wpAny (model prog w) A (setAttr (.ref x) name v) Q E s:=by
 obtain⟨od,J,N⟩:=I.look;refine W.set_plain X J n (W.osa_open (s:={s with toks:=s.toks+1}) (r:=none) X J p q λb=>?_);obtain⟨cd,G,g⟩:=W.any_some t;have H:s.heap.get? x=some ⟨.ref C,some e,.plain,#[]⟩:=I.obj;refine Tn (Tz (Tn (Tn (wpAny_loadPart H (Tn (W.Looks.here (s:={s with toks:=s.toks+1}) (W.looks_clsIn X G) ?_))))));rw[g];refine Tz (a:=some e) (Tn (Tz (Tn ?_)));refine wpAny_nsSet1 (s:={s with toks:=s.toks+1}) I.ns λf c d=>?_;obtain⟨oD,L,M,i,j,l⟩:=c.count (PySem.Within.cons name v u);refine Tn (wpAny_lookBehind i (by rw[j];exact pastItsLine_dict (T8 l (by rw[TQ];lia))) ?_);exact Tz (h _ ⟨(d.2 _ (Tt I.ne)).trans I.obj,c,I.ne⟩ d)
theorem E5{A:Around}{s:Shared}(X:K.In s.heap)(c:W.makesIn K C=true)
  (e:W.findIn K (.ref C) "__init__"=some (some (.ref f))) (i:W.typeIn K (.ref f)=some (.type "function"))
  (h:codeAny (model prog w) (A.under (.builtin "type.__call__" ⟨.ref C::a,b⟩)) (.call (.ref f) ⟨.ref (s.heap.objs.size+1)::a,b⟩) (W.InitBack (s.heap.objs.size+1) R)
   {s with heap:=(s.heap.push W.emptyDict).push (W.instObj C s.heap.objs.size)}) :
  codeAny (model prog w) A (.call (.ref C) ⟨a,b⟩) R s:=by
 obtain⟨j,g,d,t,os⟩:=s;exact W.make_core (W.makes_of X c) (W.looks_findIn X e) (λself=>W.bind_fn X self i) (.inl rfl) h
end
noncomputable def f9(f:Str)(v:V):List (Str×V)->List (Str×V)
 |[]=>[(f,v)]
 | (g,x)::r=>if g=f then (g,v)::r else (g,x)::f9 f v r
theorem pf(f g:Str)(v:V):∀fs:List (Str×V),(f9 f v fs).lookup g=if g=f then some v else fs.lookup g
 |[]=>by
  show List.lookup g [(f,v)]=_;by_cases h:g=f
  ·have a:(g==f)=true:=VC.mpr h;simp only[List.lookup,a,TR h]
  ·have a:(g==f)=false:=Vo.mpr h;simp only[List.lookup,a,TN h]
 | (k,x)::r=>by
  have b:=pf f g v r;rw[show f9 f v ((k,x)::r)=(if k=f then (k,v)::r else (k,x)::f9 f v r) from rfl];by_cases hk:k=f
  ·rw[TR hk];by_cases h:g=k
   ·have a:(g==k)=true:=VC.mpr h;simp only[List.lookup,a,TR (h.trans hk)]
   ·have a:(g==k)=false:=Vo.mpr h;simp only[List.lookup,a,TN (λe:g=f=>h (e.trans hk.symm))]
  ·rw[TN hk];by_cases h:g=k
   ·have a:(g==k)=true:=VC.mpr h;simp only[List.lookup,a,TN (λe:g=f=>hk (h.symm.trans e))]
   ·have a:(g==k)=false:=Vo.mpr h;simp only[List.lookup,a];exact b
theorem oj(f:Str)(v:V):∀fs:List (Str×V),f∈(f9 f v fs).map (·.1)/\∀g,g∈fs.map (·.1)->g∈(f9 f v fs).map (·.1)
 |[]=>⟨by simp[f9],λg h=>by simp at h⟩
 | (k,x)::r=>by
  obtain⟨a,b⟩:=oj f v r;rw[show f9 f v ((k,x)::r)=(if k=f then (k,v)::r else (k,x)::f9 f v r) from rfl];by_cases hk:k=f
  ·rw[TR hk];subst hk;exact⟨by simp,λg h=>by simpa using h⟩
  ·rw[TN hk];refine⟨?_,λg h=>?_⟩
   ·rw[T7];exact Ug _ a
   ·rw[T7]at h ⊢;rcases TY.mp h with e|e
    ·exact TY.mpr (.inl e)
    ·exact Ug _ (b g e)
theorem pe(f:Str)(v:V):∀fs:List (Str×V),(f9 f v fs).length<=fs.length+1
 |[]=>by simp[f9]
 | (k,x)::r=>by
  have a:=pe f v r;rw[show f9 f v ((k,x)::r)=(if k=f then (k,v)::r else (k,x)::f9 f v r) from rfl];by_cases hk:k=f
  ·rw[TR hk,TQ,TQ];lia
  ·rw[TN hk,TQ,TQ];lia
theorem YI.some_of(r:YI (some v) o):∃u,o=some u/\RelV v u:=by
 cases o with
 |none=>exact(show False from r).elim
 |some u=>exact⟨u,rfl,r⟩
theorem YI.none_of(r:YI none o):o=none:=by
 cases o with
 |none=>rfl
 |some u=>exact(show False from r).elim
theorem CZ(r:RelV v u):W.handedIn u=true:=by
 cases v with
 |Xi=>cases (show u=Value.none from r);rfl
 |bl b=>cases (show u=Value.bool b from r);rfl
 |int i=>obtain⟨t,e⟩:=(show ∃t,u=Value.int i t from r);cases e;rfl
 |str x=>obtain⟨t,e⟩:=(show ∃t,u=Value.str x t from r);cases e;rfl
 |byt b=>obtain⟨t,e⟩:=(show ∃t,u=Value.bytes b t from r);cases e;rfl
 |flt b=>obtain⟨t,e⟩:=(show ∃t,u=Value.float b t from r);cases e;rfl
 |ref a=>cases (show u=Value.ref a from r);rfl
 |ty n=>cases (show u=Value.type n from r);rfl
section
theorem qg(c:Yh P w H h)(e:H a=some (.ins C g fs)):∃b,ObjM h a g C b/\(∀f,YI (fs.lookup f) (b f))/\PySem.Within b (fs.map (·.1))/\fs.length<=1000/\H g=some (.own a):=by
 obtain⟨d,z,ne,ob,b,n,r,q⟩:=(show Xr P w H h a (.ins C g fs) from c a _ e)
 exact⟨b,⟨ob,n,ne⟩,r,q,z,d⟩
end
structure Z9(K:vc)(C:Addr):Prop where
 pg:W.plainGet K C Str.empty=true
 hd:W.hasDictIn K C=true
 po:W.plainOver K C=true
 sa:W.findIn K (.ref C) "__setattr__"=some (some (.builtin "object.__setattr__"))
theorem Z9.get(c:Z9 K C)(f:Str):W.plainGet K C f=true:=c.pg
def XE(K:vc)(C:Addr)(f:Str):Prop:=W.findIn K (.ref C) f=some none
theorem XE.taker(n:XE K C f):W.takerIn K C f=some none:=by unfold W.takerIn;rw[show W.findIn K (.ref C) f=some none from n];rfl
structure Meth(K:vc)(C:Addr)(m:Str)(f:Addr):Prop where
 at_:W.findIn K (.ref C) m=some (some (.ref f))
 fn:W.isFn K (.ref f)=true
 kp:W.keepIn K (.ref f)=true
section
theorem Au{X:Cx}{d:qd}{g:St}{H:Hp}{s:Shared}{a C m:Addr}{fs:List (Str×V)}{f:Str}{v:V}{A:Around}{E:qf}{b:Bool}{Q:qf}(I:Inv X d g H s)(e:H a=some (.ins C m fs))(c:Z9 X.K C)(n:XE X.K C f)(l:fs.lookup f=some v)
  (h:∀u i,Inv X d g H i->RelV v u->Q u i):wpAny (model X.prog X.w) A (getAttr (.ref a) f b) Q E s:=by
 obtain⟨p,O,r,_,_,_⟩:=qg I.hok e;obtain⟨u,q,j⟩:=YI.some_of (v:=v) (o:=p f) (by rw[<- l];exact r f);exact Hh I.Yg O (c.get f) c.hd n q (CZ j) (h u _ (I.tok _) j)
theorem mx{X:Cx}{b:qd}{d:St}{H:Hp}{s:Shared}{a C f:Addr}{fs:List (Str×V)}{A:Around}{E:qf}{m:Str}{g:Addr}{i:Sem Bool}{Q:Value×List Value->Shared->Prop}(I:Inv X b d H s)(e:H a=some (.ins C f fs))(c:Z9 X.K C)(k:Meth X.K C m g)(l:fs.lookup m=none)
  (h:Q (.ref g,[.ref a]) s):wpAny (model X.prog X.w) A (getMethod (.ref a) m i) Q E s:=by
 obtain⟨j,O,r,_,_,_⟩:=qg I.hok e;have n:j m=none:=YI.none_of (by rw[<- l];exact r m);exact Ew I.Yg O (c.get m) k.at_ k.fn n h
theorem Bk{X:Cx}{d:qd}{l:St}{H:Hp}{s:Shared}{a C i:Addr}{fs:List (Str×V)}{f:Str}{A:Around}{E:qf}{y:V}{u:Value}{Q:Unit->Shared->Prop}(I:Inv X d l H s)(e:H a=some (.ins C i fs))(c:Z9 X.K C)(n:XE X.K C f)(Y:fs.length<1000)(B:RelV y u)
  (h:∀m,Inv X d l (upd H a (.ins C i (f9 f y fs))) m->Q () m):wpAny (model X.prog X.w) A (setAttr (.ref a) f u) Q E s:=by
 obtain⟨p,O,r,t,_,v⟩:=qg I.hok e;have G:(fs.map (·.1)).length<=sizeLine:=by rw[To,VP];lia
 refine Ip I.Yg O c.sa c.po n.taker c.hd t G λJ j L=>h _ ?_;have M:∃o,J.get? i=some o:=let⟨o,_,_,N,_⟩:=j.ns;⟨o,N⟩;refine I.write (x:=a) (e:=i) (by rw[e];exact True.intro) (.inr v) (λb q T z=>(L.2 b T).trans z) M ?_;refine⟨by rw[aI O.ne];exact v,?_,O.ne,j.obj,_,j.ns,λg=>?_,λg U=>?_⟩
 ·have:=pe f y fs;lia
 ·show YI ((f9 f y fs).lookup g) (if g=f then some u else p g);rw[pf];by_cases q:g=f
  ·rw[TR q,TR q];exact B
  ·rw[TN q,TN q];exact r g
 ·by_cases q:g=f
  ·rw[q];exact(oj f y fs).1
  ·refine(oj f y fs).2 g (t g λz=>U ?_);show(if g=f then some u else p g)=none;rw[TN q];exact z
theorem Inv.made{X:Cx}{c:qd}{d:St}{H:Hp}{s:Shared}{C:Addr}(I:Inv X c d H s):Inv X c d (upd (upd H s.heap.objs.size (.own (s.heap.objs.size+1))) (s.heap.objs.size+1) (.ins C s.heap.objs.size []))
  {s with heap:=(s.heap.push W.emptyDict).push (W.instObj C s.heap.objs.size)}:=by
 have e1:(s.heap.push W.emptyDict).get? s.heap.objs.size=some W.emptyDict:=T3 s.heap rfl
 have e2:((s.heap.push W.emptyDict).push (W.instObj C s.heap.objs.size)).get? (s.heap.objs.size+1)=some (W.instObj C s.heap.objs.size):=by
  have:=T3 (s.heap.push W.emptyDict) (o:=W.instObj C s.heap.objs.size) rfl
  rwa [Uy]at this
 have e3:(s.heap.push W.emptyDict).Ns s.heap.objs.size (λ_=>none):=⟨W.emptyDict,#[],_,e1,rfl,(λe f=>absurd f (by simp)),λ_=>rfl⟩
 have g:=I.laid (a:=s.heap.objs.size) (o:=.own (s.heap.objs.size+1)) (h':=s.heap.push W.emptyDict) (t':=s.toks) (λb u q=>Tp _ q) (Tu _) ⟨_,e1⟩;refine g.laid (a:=s.heap.objs.size+1) (o:=.ins C s.heap.objs.size []) (t':=s.toks) (λb u q=>Tp _ q) (Vt (Uy _ _)) ?_;have ne:s.heap.objs.size≠s.heap.objs.size+1:=Ud (VE _);refine⟨by rw[aI ne,aD],Us _,ne,e2,λ_=>none,(Heap.Ns1.of_empty e3).at λo q=>Tp _ q,λ_=>True.intro,λy i=>absurd rfl i⟩
theorem GM(b:attributeBase e f env (eval e env)=eval e env)
  (h:wpAny (model prog w) A (eval e env) (λo a=>wpAny (model prog w) A (getAttr o f true) Q E a) E s):wpAny (model prog w) A (eval (.Attribute e f c) env) Q E s :=
 Attribute_any_ h (by rw[arm_eval_Attribute,b])
end
noncomputable def zU(K:vc)(c:TE)(f:Str):TE:=λd H Q=>c d H λx b=>∃a C e fs v,x=.ref a/\b a=some (.ins C e fs)/\Z9 K C/\XE K C f/\fs.lookup f=some v/\Q v b
noncomputable def LO(K:vc)(e g:TE)(f:Str):TS:=λD b H=>g b H λy i=>e b i λx c=>∃a C d fs,x=.ref a/\c a=some (.ins C d fs)/\Z9 K C/\XE K C f/\fs.length<1000 /\
 D.nx b (upd c a (.ins C d (f9 f y fs)))
section
theorem dF(d:PE X e g)(i:attributeBase e f X.env (eval e X.env)=eval e X.env):PE X (.Attribute e f j) (zU X.K g f):=by intro b s m H Q I h;refine GM i (Xl (d b s m H _ I h) λu A ⟨x,p,r,t,a,C,B,fs,v,ex,w,c,n,l,q⟩=>?_);subst ex;obtain rfl:u=Value.ref a:=t;exact Au r w c n l λE G y z=>⟨v,p,y,z,q⟩
theorem iD{e:Pos}(j:PE X o m)(p:PE X b r)(t:swapsWith b (some (.Attribute o f g)) e.line X.env=pure false):PS X (.Assign [.Attribute o f g] b e) (LO X.K m r f):=by intro d s i H D I h;refine plainObj_wpAny_Assign_Attribute (Xl (p d s i H _ I h) λu v ⟨y,w,z,A,q⟩=>Xl (j d v i w _ z q) λB N ⟨x,O,E,G,a,C,Q,fs,ex,J,c,n,l,L⟩=>?_) t;subst ex;obtain rfl:B=Value.ref a:=G;exact Bk E J c n l A λT M=>⟨i,_,M,L⟩
end
structure Xy(k:Nat)(A:Around):Prop where
 hd:A.handled=none
 dp:A.depth+3*k+5<recursionLimit
 un:A.units+16*k+200<cLine
theorem Xy.mono(r:Xy k A)(h:j<=k):Xy j A:=⟨r.hd,by have:=r.dp;lia,by have:=r.un;lia⟩
theorem Xy.deeper(r:Xy (k+1) A)(env:Env):Xy k (A.deeper env) :=
 ⟨r.hd,by have:=r.dp;show A.depth+1+3*k+5<_;lia,by have:=r.un;show A.units+3+16*k+200<_;lia⟩
theorem Xy.in1(r:Xy (k+1) A):Xy k A.in1 :=
 ⟨r.hd,by have:=r.dp;show A.depth+3*k+5<_;lia,by have:=r.un;show A.units+1+16*k+200<_;lia⟩
theorem AC{A:Around}:(A.under (.builtin "type.__call__" ⟨.ref C::a,b⟩)).depth=A.depth+1:=by
 first|rfl|simp[Around.under,Code.weight,Code.isCreation,Code.isGuard,Code.isCaller,Code.frames,Code.isFrame,guardIds]
theorem AD{A:Around}:(A.under (.builtin "type.__call__" ⟨.ref C::a,b⟩)).units=A.units+1:=by
 first|rfl|simp[Around.under,Code.cUnits,Code.frames,Code.isFrame]
theorem Xy.make(r:Xy (k+1) A)(C:Addr)(a:yw)(b:List (Str×Value)):Xy k (A.under (.builtin "type.__call__" ⟨.ref C::a,b⟩)) :=
 ⟨r.hd,by have:=r.dp;rw[AC];lia,by have:=r.un;rw[AD];lia⟩
theorem Xy.depth(r:Xy k A):A.depth<recursionLimit:=by have:=r.dp;lia
theorem Xy.units(r:Xy k A):A.units+64<cLine:=by have:=r.un;lia
noncomputable def dC:TA:=λ_ H Q=>Q [] H
noncomputable def bM(b:TE)(c:TA):TA:=λa H Q=>b a H λx d=>c a d λe f=>Q (x::e) f
section
variable{t:TA}
theorem aQ:PA X [] dC:=λ_ _ _ _ H Q I h=>Calls.spliced_nil ⟨[],H,I,.nil,h⟩
theorem bF(f:PE X e g)(i:PA X c t)(j:starEach (e::c) X.env=(false,eval e X.env)::starEach c X.env:=by rfl):PA X (e::c) (bM g t):=by intro b a s d H Q I h;rw[j];show wpAny _ _ (spliced ((false,eval e X.env)::backTo b (starEach c X.env))) _ _ s;refine WW (Xl (f a s d H _ I h) λu l ⟨x,m,n,p,q⟩=>?_);exact Xl (i b a l d m _ n q) λA B ⟨r,v,w,y,z⟩=>⟨x::r,v,w,.cons p y,z⟩
noncomputable def Gq(t:TA):TE:=λc H Q=>t c H λa b=>a.length<=sizeLine/\∀p,b p=none->Q (.ref p) (upd b p (.tup a))
noncomputable def Iw(t:TA):TE:=λc H Q=>t c H λa b=>a.length<=sizeLine/\∀p,b p=none->Q (.ref p) (upd b p (.lst a))
theorem aX{i}(h:PA X j t):PE X (.Tuple j i d) (Gq t):=by intro a s l H Q I m;refine wpAny_Tuple_spliced (Xl (h d a s l H _ I m) λn c ⟨p,f,g,r,z,q⟩=>⟨by rw[<- r.length];exact z,?_⟩);have v:f c.heap.objs.size=none:=g.hok.fresh (Tu _);refine⟨.ref c.heap.objs.size,upd f c.heap.objs.size (.tup p),g.laid (t':=c.toks) (λb u e=>Tp _ e) (Tu _) ?_,rfl,q _ v⟩;exact⟨z,n,r,⟨_,T3 _ rfl,rfl,_,rfl⟩⟩
theorem bZ(h:PA X i t):PE X (.List i d) (Iw t):=by intro a s j H Q I l;refine wpAny_List_spliced (Xl (h d a s j H _ I l) λm c ⟨n,f,g,r,z,q⟩=>⟨by rw[<- r.length];exact z,?_⟩);have p:f c.heap.objs.size=none:=g.hok.fresh (Tu _);refine⟨.ref c.heap.objs.size,upd f c.heap.objs.size (.lst n),g.laid (t':=c.toks) (λb u e=>Tp _ e) (Tu _) ?_,rfl,q _ p⟩;exact⟨z,m,0,r,T3 _ rfl⟩
end
abbrev Sp:=List V->Hp->VK->XK->Prop
abbrev CXT:=List Env->Hp->Shared->XK->Value->Shared->Prop
structure Zs(P:Program)(w:World)(K:vc)(mg:cL)(base:Heap)(A:Around)(outer:List Env)(s:Shared)(H:Hp):Prop where
 frames:A.frames=some outer
 mod:Mod K mg base
 bs:∀b o,base.get? b=some o->s.heap.get? b=some o/\H b=none
 bsz:base.objs.size<=s.heap.objs.size
 YD:s.heap.FunFrames base outer
 frf:∀b∈frs outer,H b=none
 hok:Yh P w H s.heap
 bare:AllBare s.gens
def CE(outer:List Env)(P:Program)(w:World)(H:Hp)(s:Shared)(Q:VK)(u:Value)(a:Shared):Prop :=
 ∃v b,a.os=s.os/\AllBare a.gens/\Un (frs outer) [] H b s.heap a.heap/\Yh P w b a.heap/\RelV v u/\Q v b
def CR(b:CXT)(outer:List Env)(P:Program)(w:World)(H:Hp)(s:Shared)(Q:VK)(E:XK)(r:Result)(a:Shared):Prop :=
 match r with
 | .ok (.ret u)=>CE outer P w H s Q u a
 | .ok _=>False
 | .error e=>b outer H s E e a
structure Xj(P:Program)(w:World)(K:vc)(mg:cL)(base:Heap)(CX:CXT)(k:Nat)(f:Addr)(fd:FuncData)(ps:e9)(sp:Sp):Prop where
 len:∀vs H Q E,sp vs H Q E->vs.length=ps.length
 run:∀(A:Around)(outer:List Env)(s:Shared)(H:Hp)(args:Args)(us:yw)(vs:List V)(Q:VK)(E:XK),Xy k A->Zs P w K mg base A outer s H->BindsTo s fd args (ps.zip us)->Vals vs us->sp vs H Q E ->
  codeAny (model P w) A (.call (.ref f) args) (CR CX outer P w H s Q E) s
theorem Xj.mono(F:Xj P w K mg base a j f b c d)(h:j<=k) :
  Xj P w K mg base a k f b c d:=⟨F.len,λA outer s H args e g Q E i=>F.run A outer s H args e g Q E (i.mono h)⟩
theorem Zs.make(e:Zs P w K mg base A outer s H)(C:Addr)(a:yw)(b:List (Str×Value)) :
  Zs P w K mg base (A.under (.builtin "type.__call__" ⟨.ref C::a,b⟩)) outer s H:=⟨by first|exact e.frames | (simpa[Around.under,Code.envs,Code.isFrame,pushEnvs]using e.frames),e.mod,e.bs,e.bsz,e.YD,e.frf,e.hok,e.bare⟩
theorem Zs.in1(e:Zs P w K mg base A outer s H) :
  Zs P w K mg base A.in1 outer s H:=⟨e.frames,e.mod,e.bs,e.bsz,e.YD,e.frf,e.hok,e.bare⟩
section
theorem Inv.env0{X:Cx}{a:qd}{b:St}{H:Hp}{s:Shared}(I:Inv X a b H s):Zs X.prog X.w X.K X.mg X.base X.A X.stack s H :=
 ⟨I.ok.frames,I.ok.mod,I.bs,T8 I.ok.bsz I.sz,I.stack,I.YZ,I.hok,I.bare⟩
theorem Inv.after{X:Cx}{a:qd}{j:St}{H:Hp}{s e:Shared}{Q:VK}{u:Value}(I:Inv X a j H s)(h:CE X.stack X.prog X.w H s Q u e):EP X a j Q u e:=by obtain⟨v,l,os,c,un,f,r,q⟩:=h;obtain⟨m,g,d,t,i⟩:=e;obtain rfl:i=s.os:=os;exact⟨v,l,I.call (h':=m) (g':=g) (d':=d) (t':=t) (ch:=[]) un f c (λb z=>absurd z (by simp)),r,q⟩
end
def f6(a:Sp)(b:List V)(E:XK)(t:TA):TE:=λc H Q=>t c H λd e=>a (d++b) e Q E
def sW(C:Addr)(m:Str)(d:Sp)(e:List V)(E:XK)(f:TE)(t:TA):TE:=λb H Q=>f b H λx c=>∃a g fs,x=.ref a/\c a=some (.ins C g fs)/\fs.lookup m=none /\
 t b c λi j=>d (x::(i++e)) j Q E
def LX(C:Addr)(c:Sp)(d:List V)(E:XK)(t:TA):TE:=λe H Q=>t e H λf b=>∀x a,b x=none->b a=none->a≠x ->
 c (.ref x::(f++d)) (upd (upd b a (.own x)) x (.ins C a [])) (λv g=>v=.Xi/\Q (.ref x) g) E
def Binds(K:vc)(d:FuncData)(b:e9)(c:yw):Prop :=
 ∀(s:Shared)(a:yw),K.In s.heap->(a++c).length=b.length->BindsTo s d ⟨a,[]⟩ (b.zip (a++c))
theorem Binds.all{b:e9}(h:∀a:List Value,a.length=b.length->bindArgs d ⟨a,[]⟩=pure (b.zip a)):Binds K d b []:=λs a _ c=>by rw[Ub]at c ⊢;exact .of_eq (h a c)
def gU(c:CXT)(X:Cx)(E:XK):Prop:=∀(a:qd)(d:St)(H:Hp)(s:Shared)(e:Value)(b:Shared),Inv X a d H s->c X.stack H s E e b->X.xe e b
section
variable{f C:Addr}
theorem xB{X:Cx}{j:CXT}{k:Nat}{l:FuncData}{g:e9}{m:Sp}{d:List V}{b:yw}{E:XK}{a:qd}{i:St}{H:Hp}{s:Shared}{Q:VK}{us:yw}{vs:List V}(F:Xj X.prog X.w X.K X.mg X.base j k f l g m)(p:Xy k X.A)(q:Binds X.K l g b)(t:Vals d b)(v:gU j X E)
  (I:Inv X a i H s) (r:Vals vs us) (h:m (vs++d) H Q E):wpAny (model X.prog X.w) X.A (call (.ref f) us) (EP X a i Q) X.xe s:=by
 have n:Vals (vs++d) (us++b):=r.append t;have x:(us++b).length=g.length:=by rw[<- n.length];exact F.len _ _ _ _ h
 refine VM (UT (F.run X.A X.stack s H ⟨us,[]⟩ (us++b) (vs++d) Q E p I.env0 (q s us I.Yg x) n h) λr y c=>?_)
 cases r with
 |error e=>exact v a i H s e y I c
 |ok fl =>
  cases fl with
  |ret u=>exact I.after c
  |next=>exact False.elim c
  |brk=>exact False.elim c
  |cont=>exact False.elim c
theorem lK{X:Cx}(F:Xj X.prog X.w X.K X.mg X.base j k f l m n)(u:Xy k X.A)(v:Gl X x)(y:X.mg x=some (.ref f))(hk:W.keepIn X.K (.ref f)=true)(z:Binds X.K l m B)(G:Vals J B)(L:gU j X E)
  (M:PA X (e::c) t) (d:(x==("__debug__":Str))=false:=by decide) (N:starEach (e::c) X.env=(false,eval e X.env)::starEach c X.env:=by rfl) (g:(backTo a (starEach c X.env)).any (·.1)=false:=by rfl) :
  PE X (.Call (.Name x p) (e::c) [] a) (f6 n J E t):=by
 intro b s O H Q I h;refine U0 (gH I v y ?_ d);refine Wb (h₀:=X.base) I.ok.mod.kin hk (Xl (M a b s O H _ I h) λT U ⟨Y,H1,i,r,q⟩=>⟨i.Yg,?_⟩) N g;exact xB F u z G L i r q
theorem Fu{X:Cx}(F:Xj X.prog X.w X.K X.mg X.base c k f d e g)(i:Xy k X.A)(j:Gl X x)(l:X.mg x=some (.ref f))(hk:W.keepIn X.K (.ref f)=true)(m:Binds X.K d e n)(q:Vals r n)(t:gU c X E)
  (a:(x==("__debug__":Str))=false:=by decide):PE X (.Call (.Name x p) [] [] u) (f6 g r E dC):=by
 intro b s v H Q I h;refine U0 (gH I j l ?_ a);exact W.callWith_K0 I.Yg hk (xB (us:=[]) F i m q t I .nil h)
theorem gL(G:PE X o J)(c:Z9 X.K C)(p:Meth X.K C m f)(F:Xj X.prog X.w X.K X.mg X.base L k f M N O)(T:Xy k X.A)(U:Binds X.K M N Y)(hd:Vals Yz Y)(hx:gU L X E)(ha:PA X (e::i) t)
  (j:starEach (e::i) X.env=(false,eval e X.env)::starEach i X.env:=by rfl) (n:(backTo b (starEach i X.env)).any (·.1)=false:=by rfl)
  (ht:eval (.Call (.Attribute o m d) (e::i) [] b) X.env=(do
   let v <- eval o X.env
   standAt d.atName
   let(f,first) <- holding [v] (getMethod v m pl)
   callWith b f first (backTo b (starEach (e::i) X.env)) (backToKw b (keywordEach [] X.env))):=by rfl) :
  PE X (.Call (.Attribute o m d) (e::i) [] b) (sW C m O Yz E J t):=by
 intro g s y H Q I h;refine W.methodCall_KW (pl:=pl) (Xl (G g s y H _ I h) λu s1 ⟨x,H1,z,rx,a,dx,fs,ex,ea,l,q⟩=>?_) ht;subst ex;obtain rfl:u=Value.ref a:=rx;refine mx z ea c p l ?_;refine Wb (first:=[.ref a]) (h₀:=X.base) I.ok.mod.kin p.kp (Xl (ha b g s1 y H1 _ z q) λus s2 ⟨vs,H2,B,r,q2⟩=>⟨B.Yg,?_⟩) j n;exact xB (us:=.ref a::us) (vs:=.ref a::vs) F T U hd hx B (.cons rfl r) q2
theorem hZ(n:PE X o p)(c:Z9 X.K C)(i:Meth X.K C m f)(F:Xj X.prog X.w X.K X.mg X.base r k f t v y)(z:Xy k X.A)(B:Binds X.K t v G)(J:Vals L G)(M:gU r X E)
  (N:eval (.Call (.Attribute o m d) [] [] b) X.env=(do
   let j <- eval o X.env
   standAt d.atName
   let(f,first) <- holding [j] (getMethod j m O)
   callWith b f first (backTo b (starEach [] X.env)) (backToKw b (keywordEach [] X.env))):=by rfl) :
  PE X (.Call (.Attribute o m d) [] [] b) (sW C m y L E p dC):=by
 intro e s T H Q I h;refine W.methodCall_KW (pl:=O) (Xl (n e s T H _ I h) λu s1 ⟨x,H1,g,U,a,dx,fs,ex,Y,l,q⟩=>?_) N;subst ex;obtain rfl:u=Value.ref a:=U;refine mx g Y c i l ?_;exact W.callWith_K0 (first:=[.ref a]) g.Yg i.kp (xB (us:=[.ref a]) (vs:=[.ref a]) F z B J M g (.cons rfl .nil) q)
structure Mk(K:vc)(C f:Addr):Prop where
 makes:W.makesIn K C=true
 init:W.findIn K (.ref C) "__init__"=some (some (.ref f))
 fn:W.isFn K (.ref f)=true
 kp:W.keepIn K (.ref C)=true
theorem F5{X:Cx}{p:CXT}{k:Nat}{q:FuncData}{j:e9}{t:Sp}{l:List V}{d:yw}{E:XK}{a:qd}{m:St}{H:Hp}{s:Shared}{Q:VK}{c:yw}{n:List V}(M:Mk X.K C f)(F:Xj X.prog X.w X.K X.mg X.base p k f q j t)(B:Xy (k+1) X.A)(G:Binds X.K q j d)(J:Vals l d)
  (L:gU p X E) (I:Inv X a m H s) (r:Vals n c)
  (h:∀x g,H x=none->H g=none->g≠x->t (.ref x::(n++l)) (upd (upd H g (.own x)) x (.ins C g [])) (λv N=>v=.Xi/\Q (.ref x) N) E) :
  wpAny (model X.prog X.w) X.A (call (.ref C) c) (EP X a m Q) X.xe s:=by
 have y:=h (s.heap.objs.size+1) s.heap.objs.size (I.hok.fresh (V5 _)) (I.hok.fresh (Tu _)) (Ud (VE _));have i:=Inv.made (C:=C) I;have z:Vals (V.ref (s.heap.objs.size+1)::(n++l)) (Value.ref (s.heap.objs.size+1)::(c++d)):=.cons rfl (r.append J)
 have O:(Value.ref (s.heap.objs.size+1)::c++d).length=j.length:=by have e:=z.length;rw[F.len _ _ _ _ y]at e;exact e.symm
 refine VM (E5 (f:=f) I.Yg M.makes M.init (VC.mp M.fn) (UT (F.run _ X.stack _ _ ⟨Value.ref (s.heap.objs.size+1)::c,[]⟩ (Value.ref (s.heap.objs.size+1)::(c++d)) _ _ E (B.make C c [])
  (i.env0.make C c []) (G _ (Value.ref (s.heap.objs.size+1)::c) i.Yg O) z y) λr T b=>?_))
 cases r with
 |error e=>exact L a m _ _ e T i b
 |ok fl =>
  cases fl with
  |ret u =>obtain⟨v,U,Y,rv,ev,q3⟩:=i.after b;subst ev;exact⟨rv,⟨V.ref (s.heap.objs.size+1),U,Y,rfl,q3⟩⟩
  |next=>exact False.elim b
  |brk=>exact False.elim b
  |cont=>exact False.elim b
theorem xj{X:Cx}(M:Mk X.K C f)(F:Xj X.prog X.w X.K X.mg X.base j k f l m n)(u:Xy (k+1) X.A)(v:Gl X x)(y:X.mg x=some (.ref C))(z:Binds X.K l m B)(G:Vals J B)(L:gU j X E)
  (N:PA X (e::c) t) (d:(x==("__debug__":Str))=false:=by decide) (O:starEach (e::c) X.env=(false,eval e X.env)::starEach c X.env:=by rfl) (g:(backTo a (starEach c X.env)).any (·.1)=false:=by rfl) :
  PE X (.Call (.Name x p) (e::c) [] a) (LX C n J E t):=by
 intro b s T H Q I h;refine U0 (gH I v y ?_ d);refine Wb (h₀:=X.base) I.ok.mod.kin M.kp (Xl (N a b s T H _ I h) λU Y ⟨vs,H1,i,r,q⟩=>⟨i.Yg,?_⟩) O g;exact F5 M F u z G L i r q
end
def PK(X:Cx)(b:List Keyword)(t:TA):Prop :=
 ∀(c:Pos)(a:qd)(s:Shared)(d:St)(H:Hp)(Q:List V->Hp->Prop),Inv X a d H s->t d H Q->wpAny (model X.prog X.w) X.A (evalAll ((backToKw c (keywordEach b X.env)).map (·.2))) (AP X a d Q) X.xe s
section
variable{fd:FuncData}{ps ks:e9}{sp:Sp}{E:XK}{t tk:TA}
theorem Kr:PK X [] dC:=λ_ _ _ _ H Q I h=>wpAny_evalAll_nil ⟨[],H,I,.nil,h⟩
theorem HI(g:PE X e i)(j:PK X c t):PK X (⟨B,e,d⟩::c) (bM i t):=by intro b a s f H Q I h;show wpAny _ _ (evalAll ((do let v <- eval e X.env;standAt b;pure v)::(backToKw b (keywordEach c X.env)).map (·.2))) _ _ s;refine wpAny_evalAll_cons (Tn (Xl (g a s f H _ I h) λu l ⟨x,m,n,p,q⟩=>Tn (U5 (Tz ?_))));exact Xl (j b a l f m _ n q) λC G ⟨r,w,y,z,A⟩=>⟨x::r,w,y,.cons p z,A⟩
structure Ab(K:vc)(fd:FuncData)(ps ks:e9)(g:List Value->List Value->List Value)(gV:List V->List V->List V):Prop where
 to:∀(s:Shared)(us ws:yw),K.In s.heap->(g us ws).length=ps.length->BindsTo s fd ⟨us,ks.zip ws⟩ (ps.zip (g us ws))
 rel:∀{vs:List V}{us:yw}{zs:List V}{ws:yw},Vals vs us->Vals zs ws->Vals (gV vs zs) (g us ws)
def Gi(sp:Sp)(b:List V->List V->List V)(E:XK)(t tk:TA):TE:=λa H Q=>t a H λc d=>tk a d λzs e=>sp (b c zs) e Q E
theorem Im{X:Cx}{m:CXT}{k:Nat}{f:Addr}{g:List Value->List Value->List Value}{i:List V->List V->List V}{a:qd}{j:St}{H:Hp}{s:Shared}{Q:VK}{b c:yw}{l zs:List V}(F:Xj X.prog X.w X.K X.mg X.base m k f fd ps sp)(q:Xy k X.A)(n:Ab X.K fd ps ks g i)(v:gU m X E)
  (I:Inv X a j H s) (r:Vals l b) (x:Vals zs c) (h:sp (i l zs) H Q E):wpAny (model X.prog X.w) X.A (call (.ref f) b (ks.zip c)) (EP X a j Q) X.xe s:=by
 have p:=n.rel r x;have y:(g b c).length=ps.length:=by rw[<- p.length];exact F.len _ _ _ _ h
 refine VM (UT (F.run X.A X.stack s H ⟨b,ks.zip c⟩ (g b c) (i l zs) Q E q I.env0 (n.to s b c I.Yg y) p h) λr z d=>?_)
 cases r with
 |error e=>exact v a j H s e z I d
 |ok fl =>
  cases fl with
  |ret u=>exact I.after d
  |next=>exact False.elim d
  |brk=>exact False.elim d
  |cont=>exact False.elim d
theorem Fw{X:Cx}(F:Xj X.prog X.w X.K X.mg X.base y k f fd ps sp)(z:Xy k X.A)(B:Gl X x)(C:X.mg x=some (.ref f))(hk:W.keepIn X.K (.ref f)=true)(G:Ab X.K fd ps ks g J)(L:gU y X E)
  (M:PA X (e::i) t) (j:PK X b tk) (d:(backToKw a (keywordEach b X.env)).all (·.1.isSome)=true:=by rfl) (l:(backToKw a (keywordEach b X.env)).filterMap (·.1)=ks:=by rfl)
  (m:(x==("__debug__":Str))=false:=by decide) (N:starEach (e::i) X.env=(false,eval e X.env)::starEach i X.env:=by rfl)
  (n:((backTo a (starEach (e::i) X.env)).any (·.1)||(backToKw a (keywordEach b X.env)).any (·.1.isNone))=false:=by rfl) :
  PE X (.Call (.Name x p) (e::i) b a) (Gi sp J E t tk):=by
 intro c s u H Q I h;refine U0 (gH I B C ?_ m);refine W.callWith_KW (h₀:=X.base) I.ok.mod.kin hk d (Xl (M a c s u H _ I h) λus O ⟨vs,T,U,r,q⟩=>?_) n N;refine Xl (j a c O u T _ U q) λws s2 ⟨zs,H2,v,Y,q2⟩=>⟨v.Yg,?_⟩
 rw[l];exact Im F z G L v r Y q2
end
structure Xf(N P:e9)(sc:Scope):Prop where
 kind:sc.kind=.function
 co:sc.isCoroutine=false
 gen:sc.isGenerator=false
 nd:N.Nodup
 pre:N.take P.length=P
 par:∀x∈P,sc.names.lookup x=some .local\/sc.names.lookup x=some .cell
 nofree:∀y∈sc.names,y.2≠.free
theorem Xf.XQ{N P:e9}{i:Scope}(a:i.kind=.function:=by rfl)(b:i.isCoroutine=false:=by rfl)(c:i.isGenerator=false:=by rfl)(d:N.Nodup:=by decide +kernel)(e:N.take P.length=P:=by rfl)(f:∀x∈P,i.names.lookup x=some .local\/i.names.lookup x=some .cell:=by decide +kernel)(g:∀y∈i.names,y.2≠.free:=by decide +kernel):Xf N P i:=⟨a,b,c,d,e,f,g⟩
variable{kindOf:Str->Option NameKind}
theorem uC:∀{binds:List (Str×Value)}{m:cL},(∀v,(x,v)∉binds)->bindL kindOf binds m x=m x
 |[],_,_=>rfl
 | (n,v)::r,m,h=>by
  unfold bindL;rw[uC λw a=>h w (Ug _ a)];split
  ·have:x≠n:=by rintro rfl;exact h v Uq
   simp[this]
  ·rfl
theorem uA:∀{binds:List (Str×Value)}{m:cL},(∀v,(x,v)∉binds)->bindC kindOf binds m x=m x
 |[],_,_=>rfl
 | (n,v)::r,m,h=>by
  unfold bindC;rw[uA λw a=>h w (Ug _ a)];split
  ·rfl
  ·have:x≠n:=by rintro rfl;exact h v Uq
   simp[this]
theorem uB:∀{P:e9}{a:yw}{i:Nat}{m:cL},P.Nodup->P[i]?=some x->a[i]?=some v->kindOf x=some .local ->
  bindL kindOf (P.zip a) m x=some v
 |[],_,_,_,_,h,_,_=>by simp at h
 |_::_,[],_,_,_,_,h,_=>by simp at h
 |p::P,w::a,0,m,d,b,c,hk=>by simp at b c;subst b;subst c;show bindL kindOf ((p,w)::P.zip a) m p=_;unfold bindL;rw[uC λv e=>(Vw.mp d).1 (WC e).1,TR hk];simp
 |p::P,w::a,i+1,m,d,b,c,hk=>by show bindL kindOf ((p,w)::P.zip a) m x=_;unfold bindL;exact uB (i:=i) (Vw.mp d).2 (by simpa using b) (by simpa using c) hk
theorem uz:∀{P:e9}{a:yw}{i:Nat}{m:cL},P.Nodup->P[i]?=some x->a[i]?=some v->kindOf x≠some .local ->
  bindC kindOf (P.zip a) m x=some v
 |[],_,_,_,_,h,_,_=>by simp at h
 |_::_,[],_,_,_,_,h,_=>by simp at h
 |p::P,w::a,0,m,d,b,c,hk=>by simp at b c;subst b;subst c;show bindC kindOf ((p,w)::P.zip a) m p=_;unfold bindC;rw[uA λv e=>(Vw.mp d).1 (WC e).1,TN hk];simp
 |p::P,w::a,i+1,m,d,b,c,hk=>by show bindC kindOf ((p,w)::P.zip a) m x=_;unfold bindC;exact uz (i:=i) (Vw.mp d).2 (by simpa using b) (by simpa using c) hk
noncomputable def fK(N:e9)(a:List V):St:=a.map some++List.replicate (N.length - a.length) none
noncomputable def kF(c:CXT)(P:Program)(w:World)(K:vc)(mg:cL)(base:Heap)(N:e9)(a:Str)(scope:Scope)(f:Addr)(cd:Value)(A:Around)(outer:List Env)(s:Shared)(H:Hp)(E:XK):Cx where
 prog:=P
 w:=w
 K:=K
 mg:=mg
 base:=base
 A:=A.deeper (envOfC a scope s.heap.objs.size f cd)
 N:=N
 s₀:=s
 H₀:=H
 env:=envOfC a scope s.heap.objs.size f cd
 outer:=outer
 stack:=envOfC a scope s.heap.objs.size f cd::outer
 ex:=[]
 calm:=true
 fn:=λ_=>true
 pn:=[]
 xe:=λe d=>wpAny (model P w) (A.deeper (envOfC a scope s.heap.objs.size f cd)) (leaving (envOfC a scope s.heap.objs.size f cd) e) (λ_ b=>c outer H s E e b) (λg b=>c outer H s E g b) d
theorem yk{a:Scope}(h:a.names.lookup x=some .cell):∃c,(cellsFrom n a.names []).lookup x=some c:=by have q:=W.cellsFrom_some a.names n [] (.inl h);exact Option.isSome_iff_exists.mp q
theorem uO{A:Around}{l:List V}
  (S:Xf N t scope) (M:A.handled=none) (j:Zs P w K mg base A outer s H) (hl:l.length=t.length) (r:Vals l J)
  (x:InCallC s s.heap.objs.size (bindL (envOfC g scope s.heap.objs.size f cd).kindOf (t.zip J) λ_=>none) (cellsFrom (s.heap.objs.size+1) scope.names []) (bindC (envOfC g scope s.heap.objs.size f cd).kindOf (t.zip J) λ_=>none) O) :
  Inv (kF Q P w K mg base N g scope f cd A outer s H E) [] (fK N l) H O:=by
 have T:t.length<=N.length:=by have:=Up List.length S.pre;rw[Uk]at this;lia
 obtain⟨G,tk,rfl,hk⟩:=x.done;have m:∀b:Addr,b∉(kF Q P w K mg base N g scope f cd A outer s H E).ex:=λb z=>absurd (show b∈([]:nt) from z) (by simp)
 refine⟨⟨j.mod,S.kind,rfl,rfl,Tu _,λy z c G d=>?_,λy hy=>?_,λy c _ h=>?_,λ_=>M,Around.frames_deeper j.frames,.inr ⟨rfl,rfl⟩,λb z=>absurd z (m b),j.bs,j.bsz,λb _ _=>m b,λb z=>absurd z (m b),j.YD,j.frf⟩,
  rfl,j.bare,Un.kept hk,⟨_,x.toInCall.ns,λi y v G d h3=>?_⟩,λy c h=>⟨_,x.cell y c h⟩,j.hok.fresh (Tu _),λy c h=>?_,λp B=>absurd (show p∈([]:qd) from B) (by simp),j.hok.kept hk,?_⟩
 ·exact name_of_addr x.apart (UL G) (UL d)
 ·have hy:scope.names.lookup y=some .cell\/scope.names.lookup y=some .free:=hy;rcases hy with hy|hy
  ·exact yk hy
  ·exact absurd rfl (S.nofree _ (UL hy))
 ·exact UJ (x.above y c (UL h))
 ·have I:i<l.length:=by
   unfold fK at d;by_cases I:i<l.length
   ·exact I
   ·rw[UD (by simpa using I)]at d;rw[List.getElem?_replicate]at d;split at d<;>cases d
  have U:l[i]?=some v:=by
   unfold fK at d;rw[UY (by simpa using I),Tv]at d
   cases e:l[i]? with
   |none=>rw[e]at d;cases d
   |some a=>rw[e]at d;cases d;rfl
  obtain⟨u,L,Y⟩:=r.get U
  have B:t[i]?=some y:=by rw[<- S.pre,List.getElem?_take_of_lt ⋯];exact G
  have C:t.Nodup:=by rw[<- S.pre];exact S.nd.sublist (List.take_sublist _ _)
  refine⟨u,Y,?_⟩;rcases S.par y (Ui B)with k|k
  ·exact .inl ⟨k,uB C B L k⟩
  ·obtain⟨c,e⟩:=yk (n:=s.heap.objs.size+1) k;refine .inr ⟨.inl k,c,e,?_⟩;have q:=x.cell y c e;rw[uz C B L (by show scope.names.lookup y≠_;rw[k];decide)]at q;exact q
 ·exact j.hok.fresh (UJ (x.above y c (UL h)))
 ·unfold fK;show _=N.length;rw[Tq,To,List.length_replicate];lia
theorem Ep{P:Program}{kV doc:Value}(lk:K.lookup f=some ⟨oc,od,.func (W.fnOf name a d body scope dV kV doc pm an c ct),osl⟩)(C:W.codeIn K c a=true)(S:Xf N G scope)
  (len:∀g H Q E,Y g H Q E->g.length=G.length)
  (l:∀(A:Around)(outer:List Env)(s:Shared)(H:Hp)(g:List V)(Q:VK)(E:XK),Xy k (A.deeper (envOfC a scope s.heap.objs.size f c))->Y g H Q E ->
   ∃t,Y0 (kF L P w K mg base N a scope f c A outer s H E) body t/\t {nx:=λ_ j=>Q .Xi j,rt:=Q} (fK N g) H) :
  Xj P w K mg base L (k+1) f (W.fnOf name a d body scope dV kV doc pm an c ct) G Y:=by
 refine⟨len,λA outer s H args us g Q E M z hb r B=>?_⟩;have hl:=len _ _ _ _ B;have KX:K.In s.heap:=z.mod.kin.keeps λb o e=>(z.bs b o e).1;have O:s.heap.NoLimit:=z.mod.nolimit.keeps λb o e=>(z.bs b o e).1
 have m:∀y∈G.zip us,scope.names.lookup y.1=some .local\/(scope.names.lookup y.1=some .cell/\((cellsFrom (s.heap.objs.size+1) scope.names []).lookup y.1).isSome=true):=λ⟨n,v⟩ hy=>by
  rcases S.par n (WC hy).1 with q|q
  ·exact .inl q
  ·exact .inr ⟨q,W.cellsFrom_some _ _ _ (.inl q)⟩
 refine codeAny_call_function M.depth (KX _ _ lk) rfl S.co S.gen rfl (W.codeRec_of KX C) (hb _ _ _ _ ?_);refine wpAny_newFunctionEnv_cells S.kind m λenv he s1 x=>?_;subst he;refine⟨O.keeps x.toInCall.keep,codeAny_func ?_⟩;obtain⟨t,ht,hq⟩:=l A outer s H g Q E (M.deeper _) B;have I:Inv (kF L P w K mg base N a scope f c A outer s H E) [] (fK N g) H s1:=uO S M.hd z hl r x;refine UC (ht [] s1 (fK N g) H _ I hq) (λfl T p=>?_) λe T p=>p
 have fin:∀{i:St}{j:Hp}{v:V}{u:Value},Inv (kF L P w K mg base N a scope f c A outer s H E) [] i j T->RelV v u->Q v j->CE outer P w H s Q u T :=
  λ{i j v u} J U q=>⟨v,j,J.os,J.bare,J.base,J.hok,U,q⟩
 cases fl with
 |ret u =>obtain⟨v,i,j,J,U,q⟩:=p;exact fin J U q
 |next =>obtain⟨i,j,J,q⟩:=p;exact fin (v:=V.Xi) (u:=Value.none) J rfl q
 |brk =>obtain⟨_,_,_,q⟩:=p;exact False.elim q
 |cont =>obtain⟨_,_,_,q⟩:=p;exact False.elim q
section
variable{t:TA}{r:List V->Hp->VK->Prop}
def Zm(r:List V->Hp->VK->Prop)(t:TA):TE:=λa H Q=>t a H λb c=>r b c Q
theorem aL{X:Cx}{id:String}(i:gB X (.builtin id) r)(j:Gl X x)(l:X.mg x=none)(m:bootBuiltins x=some (.builtin id))(n:PA X (e::c) t)(q:x≠"__name__":=by decide)(d:(x==("__debug__":Str))=false:=by decide)
  (u:starEach (e::c) X.env=(false,eval e X.env)::starEach c X.env:=by rfl) (f:(backTo b (starEach c X.env)).any (·.1)=false:=by rfl):PE X (.Call (.Name x p) (e::c) [] b) (Zm r t):=by
 intro a s g H Q I h;refine U0 (my I j l m ?_ q d);exact PyProof.Rows.callWith_builtin1 (Xl (n b a s g H _ I h) λv w ⟨y,z,A,B,C⟩=>i a w g z y v Q A B C) u f
theorem bR(i:gB X (.type T) r)(j:Gl X x)(l:X.mg x=none)(m:bootBuiltins x=some (.type T))(n:PA X (e::c) t)(q:x≠"__name__":=by decide)(d:(x==("__debug__":Str))=false:=by decide)
  (u:starEach (e::c) X.env=(false,eval e X.env)::starEach c X.env:=by rfl) (f:(backTo b (starEach c X.env)).any (·.1)=false:=by rfl):PE X (.Call (.Name x p) (e::c) [] b) (Zm r t):=by
 intro a s g H Q I h;refine U0 (my I j l m ?_ q d);exact U8 (Xl (n b a s g H _ I h) λv w ⟨y,z,A,B,C⟩=>i a w g z y v Q A B C) u f
end
end L2
namespace HT
open PySem PyProof.Rows
section
open PySem.SeqAt
open PySem.AutoSeq1 (wpAny_loadPart')
open PySem.MeetsSeq PySem.MeetsSeq2 PySem.MeetsSeq3
end
section
theorem cat_tup{s:Shared}{d a:yw}(z:IsTup s.heap t d.toArray)(B:IsTup s.heap b a.toArray)(q:d≠[])
  (C:a=[]->Q (.ref t) s) (G:a≠[]->Q (.ref s.heap.objs.size) {s with heap:=s.heap.push {cls:=.type "tuple",data:=.seq (d++a).toArray}})
  (p:d.length+a.length<=sizeLine):wpAny (model prog w) A (binaryOp .Add (.ref t) (.ref b)) Q E s:=by
 obtain⟨⟨cls,r,data,u⟩,l,v,n,x⟩:=id z;obtain⟨⟨y,f,data2,g⟩,c,i,n2,j⟩:=id B;simp only at v x i j;subst v x i j;have e:d.toArray++a.toArray=(d++a).toArray:=by simp
 by_cases m:a=[]
 ·exact concat_meets ⟨_,l,rfl⟩ ⟨_,c,rfl⟩ noFill_tuple_add seq_tuple_add F.slot_tuple_add W6 (WX _ _)
   (tuple_addW1 t b d.toArray a.toArray n n2 r f u g (by simpa using q) (by simp[m])) ⟨l,c,C m⟩
 ·refine concat_meets ⟨_,l,rfl⟩ ⟨_,c,rfl⟩ noFill_tuple_add seq_tuple_add F.slot_tuple_add W6 (WX _ _)
   (tuple_addW2 t b d.toArray a.toArray n n2 r f u g (by simpa using q) (by simpa using m) (by rw[TJ,TJ];exact p)) ⟨l,c,?_⟩
  rw[e];exact G m
noncomputable def XZ(n d:Nat):Option Int->Nat
 |none=>d
 |some v=>if v<0 then (v+(n:Int)).toNat else min v.toNat n
theorem sIx_none(n d:Nat):XZ n d none=d:=rfl
theorem Zy(n d k:Nat):XZ n d (some (k:Int))=min k n:=by show(if (k:Int)<0 then ((k:Int)+(n:Int)).toNat else min (k:Int).toNat n)=min k n;rw[TN ⋯,VT]
theorem KP(n d:Nat)(b:d<=n)(o:Option Int):XZ n d o<=n:=by
 cases o with
 |none=>exact b
 |some v =>
  show(if v<0 then (v+(n:Int)).toNat else min v.toNat n)<=n;by_cases a:v<0
  ·rw[TR a];lia
  ·rw[TN a];exact Nat.min_le_right _ _
theorem BG(v:Int)(n d:Nat):(if v<0 then max (v+(n:Int)) 0 else min v (n:Int))=((XZ n d (some v):Nat):Int):=by
 show(if v<0 then max (v+(n:Int)) 0 else min v (n:Int))=(((if v<0 then (v+(n:Int)).toNat else min v.toNat n):Nat):Int)
 by_cases a:v<0
 ·simp only[TR a];lia
 ·simp only[TN a];lia
theorem Ae(lo a:Option Int)(n:Nat):Builtin.Slice.sliceAdjust lo a 1 (n:Int)=(((XZ n 0 lo:Nat):Int),((XZ n n a:Nat):Int)):=by
 have b:¬ ((1:Int)<0):=by lia
 unfold Builtin.Slice.sliceAdjust;simp only[b,Xa];refine V0 ?_ ?_
 ·cases lo with
  |none=>rfl
  |some v=>exact BG v n 0
 ·cases a with
  |none=>rfl
  |some v=>exact BG v n n
theorem AW(i j:Nat):Builtin.Slice.slicePlaces (i:Int) (j:Int) 1=j - i:=by
 unfold Builtin.Slice.slicePlaces;have a:(1:Int)>0:=by lia
 simp only[a,VX,Int.ediv_one];split<;>lia
theorem sQ(p:IsPart v o)(h:Q o s):wpAny (model prog w) A (Builtin.Slice.slicePartIndex v) Q E s:=by
 cases p with
 |none=>exact slicePart_none h
 |int i t=>exact slicePart_int h
variable{lo:Option Int}
theorem oR{s:Shared}{Q:Int×Int×Nat->Shared->Prop}(f:s.heap.IsSliceOf g d e .none)(i:IsPart d lo)(j:IsPart e c)
  (h:Q (((XZ n 0 lo:Nat):Int),1,XZ n n c - XZ n 0 lo) s):wpAny (model prog w) A (Builtin.Slice.sliceApplied (.ref g) (pure (n:Int))) Q E s:=by
 obtain⟨os,a,l,b⟩:=id f;unfold Builtin.Slice.sliceApplied Builtin.Slice.sliceFields;refine Tn (Tn (Vf a b (x:=d) rfl (Tn (Vf a b (x:=e) rfl (Tn (Vf a b (x:=.none) rfl (Tz ?_)))))));refine Tn (slicePart_none ?_);show wpAny _ _ (if ((1:Int)==0)=true then _ else _) _ _ s;rw[TN ⋯];refine Tn (sQ i (Tn (sQ j (Tn (Tz ?_)))));show wpAny _ _ (match Builtin.Slice.sliceAdjust lo c 1 (n:Int)with | (lo,c)=>pure (lo,(1:Int),Builtin.Slice.slicePlaces lo c 1)) _ _ s;rw[Ae lo c n];show wpAny _ _ (pure (((XZ n 0 lo:Nat):Int),(1:Int),Builtin.Slice.slicePlaces ((XZ n 0 lo:Nat):Int) ((XZ n n c:Nat):Int) 1)) _ _ s;rw[AW];exact Tz h
theorem FJ(a:Array Value)(i k:Nat):((List.range k).filterMap λ(m:Nat)=>a[((i:Int)+(m:Int)*1).toNat]?).toArray=((a.toList.drop i).take k).toArray:=by
 have e:(λ(m:Nat)=>a[((i:Int)+(m:Int)*1).toNat]?)=λm=>a[i+m]?:=by
  funext m
  have:((i:Int)+(m:Int)*1).toNat=i+m:=by lia
  rw[this]
 rw[e];have:=pick_run a i k;rw[List.filterMap_map]at this;have e2:((λx=>a[x]?)∘λx=>i+x)=λm=>a[i+m]?:=rfl;rw[e2]at this;rw[this]
theorem Y3{s:Shared}(d:IsTup s.heap t a)(j:s.heap.IsSliceOf l n p .none)(r:IsPart n lo)(u:IsPart p c)
  (v:¬ (XZ a.size 0 lo=0/\XZ a.size a.size c=a.size))
  (h:Q (.ref s.heap.objs.size) {s with heap:=s.heap.push {cls:=.type "tuple",data:=.seq ((a.toList.drop (XZ a.size 0 lo)).take (XZ a.size a.size c - XZ a.size 0 lo)).toArray}})
  (x:a.size<=sizeLine):wpAny (model prog w) A (getItem (.ref t) (.ref l)) Q E s:=by
 have b:sizeOk (.seq ((a.toList.drop (XZ a.size 0 lo)).take (XZ a.size a.size c - XZ a.size 0 lo)).toArray):=by show((a.toList.drop (XZ a.size 0 lo)).take (XZ a.size a.size c - XZ a.size 0 lo)).toArray.size<=sizeLine;rw[TJ,Uk,Wq,V6];lia
 have z:XZ a.size a.size c<=a.size:=KP _ _ (Tu _) c;obtain⟨os,e,f,y⟩:=id j;have g:s.TypeIs (.ref l) "slice":=⟨os,e,f⟩
 unfold getItem
 try with_reducible refine US ?_
 first|refine Tn (Tz ?_)|skip
 refine Tn (wpAny_sequenceKey d.typeIs ⋯ ?_)
 refine Tn (UQ (name:=Str.ofString "__getitem__") d.typeIs VJ
  (Vb VJ d.typeIs entry_tuple_getitem ?_ (args_tuple_getitem _ _)))
 show wpAny _ _ (Builtin.Tuple.tupleItemsOf (.ref t) >>= _) _ _ s;refine Tn (tupleItemsOf_ d ?_);refine Tn (wpAny_typeOf g ?_);rw[TR ⋯];refine Tn (oR j r u ?_)
 have i:¬ ((((XZ a.size 0 lo:Nat):Int)==0&&(1:Int)==1&&(XZ a.size a.size c - XZ a.size 0 lo)==a.size)=true):=by intro q;rw[Tw,Tw]at q;have B:((XZ a.size 0 lo:Nat):Int)=0:=eq_of_beq q.1.1;have C:XZ a.size a.size c - XZ a.size 0 lo=a.size:=eq_of_beq q.2;exact v ⟨⋯,⋯⟩
 show wpAny _ _ (if (((XZ a.size 0 lo:Nat):Int)==0&&(1:Int)==1&&(XZ a.size a.size c - XZ a.size 0 lo)==a.size)=true then _ else _) _ _ s;rw[TN i,FJ]
 first
  |exact Tn (m:=Builtin.Tuple.tupleExact _) (Vl (Tz ⟨_,rfl,Tz h⟩) b)
  |exact Tn (m:=Builtin.Tuple.tupleExact _) (Vl (Tn (Tz (Tz ⟨_,rfl,Tz h⟩))) b)
  |exact Tn (Tn (m:=Builtin.Tuple.tupleExact _) (Vl (Tz (Tz ⟨_,rfl,Tz h⟩)) b))
  |exact Tn (Tn (m:=Builtin.Tuple.tupleExact _) (Vl (Tz ⟨_,rfl,Tz h⟩) b))
end
end HT
namespace L2
open PySem PySem.Spec PyProof.Rows
abbrev TO:=St->Hp->(Option Int->Hp->Prop)->Prop
def PO(X:Cx)(e:Option Expr)(t:TO):Prop :=
 ∀(a:qd)(s:Shared)(b:St)(H:Hp)(Q:Option Int->Hp->Prop),Inv X a b H s->t b H Q ->
  wpAny (model X.prog X.w) X.A (evalPart e X.env) (λu d=>∃o c,Inv X a b c d/\IsPart u o/\Q o c) X.xe s
noncomputable def CC:TO:=λ_ H Q=>Q none H
noncomputable def vM(t:TE):TO:=λa H Q=>t a H λx b=>∃i,x=.int i/\Q (some i) b
section
variable{X:Cx}{te:TE}{lo hi:Option Expr}{tl th:TO}
theorem xk:PO X none CC:=by intro a s b H Q I h;rw[evalPart_none];exact Tz ⟨none,H,I,.none,h⟩
theorem jW(h:PE X e te):PO X (some e) (vM te):=by intro a s b H Q I c;rw[evalPart_some];refine Xl (h a s b H _ I c) λu l ⟨x,d,f,g,j⟩=>?_;obtain⟨i,rfl,q⟩:=j;obtain⟨t,rfl⟩:=g;exact⟨some i,d,f,.int i t,q⟩
def SlR(X:Cx)(r:V->Option Int->Option Int->Hp->VK->Prop):Prop :=
 ∀(a:qd)(s:Shared)(b:St)(H:Hp)(x:V)(v c d:Value)(lo hi:Option Int)(e:Addr)(Q:VK),Inv X a b H s->RelV x v->s.heap.IsSliceOf e c d .none->IsPart c lo->IsPart d hi->r x lo hi H Q ->
  ∃T id,typeLookup (.type T) "__getitem__"=pure (some (.builtin id))/\s.TypeIs v T/\wpAny (model X.prog X.w) X.A (getItem v (.ref e)) (EP X a b Q) X.xe s
def tSl(r:V->Option Int->Option Int->Hp->VK->Prop)(te:TE)(tl th:TO):TE:=λa H Q=>te a H λx b=>tl a b λl c=>th a c λu d=>r x l u d Q
theorem kU(j:SlR X r)(m:PE X e te)(n:PO X lo tl)(p:PO X hi th):PE X (.Subscript e (.Slice lo hi none p2) t) (tSl r te tl th):=by intro a s d H Q I h;refine Subscript_ (Xl (m a s d H _ I h) λv y ⟨x,z,B,C,E⟩=>?_);refine wpAny_Slice (Xl (n a y d z _ B E) λf G ⟨l,J,L,M,N⟩=>Xl (p a G d J _ L N) λg c ⟨u,i,O,U,Y⟩=>?_);rw[evalPart_none];refine Tz ?_;have I4:Inv X a d i {c with heap:=c.heap.push {cls:=.type "slice",data:=.fields #[f,g,.none]}}:=O.kept (t':=c.toks) λb ob q=>Tp _ q;obtain⟨T,id,hT,ht,hg⟩:=j a {c with heap:=c.heap.push {cls:=.type "slice",data:=.fields #[f,g,.none]}} d i x v f g l u c.heap.objs.size Q I4 C (Heap.IsSliceOf.new ..) M U Y;show wpAny (model X.prog X.w) X.A (subscriptTail e (.Slice lo hi none p2) v (.ref c.heap.objs.size)) (EP X a d Q) X.xe {c with heap:=c.heap.push {cls:=.type "slice",data:=.fields #[f,g,.none]}};exact tail_any (ops:=[.ref c.heap.objs.size,v]) ht hT hg (by with_unfolding_all rfl)
noncomputable def tP(a:List V)(lo hi:Option Int):List V:=(a.drop (HT.XZ a.length 0 lo)).take (HT.XZ a.length a.length hi - HT.XZ a.length 0 lo)
theorem o6(a:List V)(lo hi:Option Int):(tP a lo hi).length<=a.length:=by unfold tP;rw[Uk,Wq];lia
def Kx(K:vc):V->Option Int->Option Int->Hp->VK->Prop:=λx lo hi H Q=>∃a b,x=.ref a/\XG K H a b /\
 ¬ (HT.XZ b.length 0 lo=0/\HT.XZ b.length b.length hi=b.length)/\∀p,H p=none->Q (.ref p) (upd H p (.tup (tP b lo hi)))
theorem xP:SlR X (Kx X.K):=by
 intro f s u H x v w y lo hi z Q I j l m n h;obtain⟨a,d,rfl,p,t,q⟩:=h;cases j;obtain⟨e,r,g,i⟩:=I.tuple p;have c:e.toArray.size=d.length:=by rw[TJ];exact r.length.symm
 refine⟨"tuple",_,VJ.lookup,g.typeIs,?_⟩;refine HT.Y3 g l m n (by rw[c];exact t) ?_ (by rw[c];exact i);rw[c];refine⟨.ref s.heap.objs.size,_,I.laid (t':=s.toks) (o:=.tup (tP d lo hi)) (λb ob q=>Tp _ q) (Tu _) ?_,rfl,q _ (I.hok.fresh (Tu _))⟩;exact⟨T8 (o6 d lo hi) i,_,(r.drop (HT.XZ d.length 0 lo)).take (HT.XZ d.length d.length hi - HT.XZ d.length 0 lo),IsTup.new _ _⟩
noncomputable def IV(K:vc):R2:=λx y H Q=>∃a b d c,x=.ref a/\y=.ref b/\XG K H a d/\XG K H b c/\d≠[]/\d.length+c.length<=sizeLine /\
 (c=[]->Q (.ref a) H)/\(c≠[]->∀p,H p=none->Q (.ref p) (upd H p (.tup (d++c))))
theorem Vals.Zz(r:Vals a b):b=[]↔a=[]:=by
 cases r with
 |nil=>simp
 |cons _ _=>simp
theorem B6:Ye X (binaryOp .Add) (IV X.K):=by intro e s C H x y v u Q I i j h;obtain⟨a,b,l,m,rfl,rfl,n,p,r,f,t,A⟩:=h;cases i;cases j;obtain⟨B,d,p1,_⟩:=I.tuple n;obtain⟨g,c,p2,_⟩:=I.tuple p;refine HT.cat_tup p1 p2 (λz=>r (d.Zz.mp z)) (λz=>⟨.ref a,H,I,rfl,t (c.Zz.mp z)⟩) (λz=>?_) (by rw[<- d.length,<- c.length];exact f);refine⟨.ref s.heap.objs.size,_,I.laid (t':=s.toks) (o:=.tup (l++m)) (λb ob q=>Tp _ q) (Tu _) ?_,rfl,A (λw=>z (c.Zz.mpr w)) _ (I.hok.fresh (Tu _))⟩;exact⟨by rw[Tq];exact f,_,d.append c,IsTup.new _ _⟩
end
noncomputable def ixN(n:Nat)(i:Int):Option Nat:=if 0<=i then (if i<n then some i.toNat else none)else if -(n:Int)<=i then some (i+n).toNat else none
noncomputable def atI{α:Type}(a:List α)(i:Int):Option α:=(ixN a.length i).bind λj=>a[j]?
theorem wy(h:ixN n i=some j):seqIndex? i n=some j/\j<n/\-(n:Int)<=i/\i<n:=by
 unfold ixN at h;by_cases b:0<=i
 ·rw[TR b]at h;by_cases a:i<n
  ·rw[TR a]at h;have e:i.toNat=j:=Ur h;exact⟨by rw[seqIndex_of b a,e],⋯,⋯,a⟩
  ·rw[TN a]at h;cases h
 ·rw[TN b]at h;by_cases a:-(n:Int)<=i
  ·rw[TR a]at h;have e:(i+n).toNat=j:=Ur h;exact⟨by rw[seqIndex_neg ⋯ a,e],⋯,a,⋯⟩
  ·rw[TN a]at h;cases h
theorem BE{α:Type}{a:List α}{v:α}(h:atI a i=some v):∃j,seqIndex? i a.length=some j/\a[j]?=some v/\j<a.length/\-(a.length:Int)<=i/\i<a.length:=by
 unfold atI at h
 cases e:ixN a.length i with
 |none=>rw[e]at h;cases h
 |some j =>rw[e]at h;obtain⟨b,c,d,f⟩:=wy e;exact⟨j,b,h,c,d,f⟩
theorem jN{α:Type}{a:List α}{j:Nat}{v:α}(h:a[j]?=some v):atI a (j:Int)=some v:=by
 have b:j<a.length:=(T9.mp h).1
 have e:ixN a.length (j:Int)=some j:=by unfold ixN;rw[TR ⋯,TR ⋯];simp
 unfold atI;rw[e];exact h
theorem DZ(a:List α)(v:α):atI (a++[v]) (-1)=some v:=by
 have b:(a++[v]).length=a.length+1:=by simp
 have e:ixN (a++[v]).length (-1)=some a.length:=by unfold ixN;rw[b,TN ⋯,TR ⋯];congr 1;lia
 unfold atI;rw[e];show(a++[v])[a.length]?=some v;simp
def GH(b:Expr):Prop:=∀o i,subscripted b false o i=operate [o,i] (getItem o i)
def IxR(X:Cx)(r:R2):Prop :=
 ∀(c a:Expr)(b:qd)(s:Shared)(d:St)(H:Hp)(x y:V)(v u:Value)(Q:VK),Inv X b d H s->RelV x v->RelV y u->r x y H Q ->
  subscripted a false v u=operate [v,u] (getItem v u)->wpAny (model X.prog X.w) X.A (subscriptTail c a v u) (EP X b d Q) X.xe s
def MtR(X:Cx)(id:String)(r:V->List V->Hp->VK->Prop):Prop :=
 ∀(a:qd)(s:Shared)(b:St)(H:Hp)(x:V)(c:List V)(v:Value)(d:yw)(Q:VK),Inv X a b H s->RelV x v->Vals c d->r x c H Q ->
  wpAny (model X.prog X.w) X.A (call (.builtin id) (v::d)) (EP X a b Q) X.xe s
section
variable{a b:Expr}
theorem a6(d:IxR X r)(e:PE X a f)(g:PE X b i)(j:GH b:=by exactλ_ _=>rfl):PE X (.Subscript a b l) (Yn r f i):=by intro c s m H Q I h;exact Subscript_ (JI e g I h λv u n x y p t w z q=>d a b c n m p x y v u Q t w z q (j _ _))
noncomputable def HS(K:vc):R2:=λx y H Q=>∃p c i v,x=.ref p/\y=.int i/\Xm K H p c/\atI c i=some v/\Q v H
noncomputable def rK(K:vc):R2:=λx y H Q=>∃p c i v,x=.ref p/\y=.int i/\XG K H p c/\atI c i=some v/\Q v H
theorem cX:IxR X (HS X.K):=by
 intro e f c s A H x y v u Q I G J h B;obtain⟨p,Y,i,z,rfl,rfl,L,M,q⟩:=h;cases G;obtain⟨t,rfl⟩:=J;obtain⟨g,r,l,hz⟩:=I.list L;obtain⟨j,d,N,h3,O,h5⟩:=BE M;obtain⟨w,C,m⟩:=r.get N;have T:=r.length;have hn:=mz;have fin:EP X c A Q w s:=⟨z,H,I,m,q⟩
 by_cases E:0<=i
 ·have n:i.toNat=j:=by
   rw[seqIndex_of E h5]at d;exact Ur d
  exact item_listR l.isList E ⋯ (by rw[n];simpa using C) fin B
 ·have n:(i+(g.toArray.size:Int)).toNat=j:=by
   rw[seqIndex_neg ⋯ O]at d;rw[TJ,<- T];exact Ur d
  exact subscriptTail_builtinR (x:=w) l.isList.typeIs slot_list_getitem.lookup
   (wpAny_getItem_list_neg (Q:=λr U=>r=w/\EP X c A Q r U) l.isList ⋯ (by rw[TJ]<;>lia) ⋯ (by rw[n];simpa using C) ⟨rfl,fin⟩) B
theorem a7:IxR X (rK X.K):=by
 intro d e c s g H x y v u Q I m n h A;obtain⟨p,O,i,z,rfl,rfl,B,C,q⟩:=h;cases m;obtain⟨t,rfl⟩:=n;obtain⟨E,r,l,T⟩:=I.tuple B;obtain⟨j,G,J,U,Y,h5⟩:=BE C;obtain⟨w,L,f⟩:=r.get J;have M:=r.length;have hn:=mz;have fin:EP X c g Q w s:=⟨z,H,I,f,q⟩
 exact subscriptTail_builtinR (x:=w) l.typeIs slot_tuple_getitem.lookup
  (getItem_tuple (j:=j) (Q:=λr N=>r=w/\EP X c g Q r N) l ⋯ ⋯ (by rw[TJ,<- M];exact G) (by simpa using L) ⟨rfl,fin⟩) A
theorem AE(c:yw)(n j:Nat)(u:Value):Obj.mapSeq (·.setIfInBounds j u) {cls:=.type "list",data:=.seq c.toArray n}={cls:=.type "list",data:=.seq (c.set j u).toArray n}:=by simp[Obj.mapSeq]
theorem Inv.lst{X:Cx}{d:qd}{g:St}{H:Hp}{s:Shared}{p:Addr}{f:List V}(I:Inv X d g H s)(h:H p=some (.lst f)) :
  ∃(c:yw)(n:Nat),Vals f c/\s.heap.get? p=some {cls:=.type "list",data:=.seq c.toArray n}/\f.length<=sizeLine:=by
 obtain⟨z,c,n,r,e⟩:=I.hok p _ h;exact⟨c,n,r,e,z⟩
theorem Inv.lstUpd{X:Cx}{d:qd}{l:St}{H:Hp}{s:Shared}{p:Addr}{v i:List V}{g c:yw}{n j:Nat}{f:Obj->Obj}(I:Inv X d l H s)(h:H p=some (.lst v))
  (w:s.heap.get? p=some {cls:=.type "list",data:=.seq g.toArray n}) (m:f {cls:=.type "list",data:=.seq g.toArray n}={cls:=.type "list",data:=.seq c.toArray j}) (r:Vals i c) (y:i.length<=sizeLine) (t:Nat) :
  Inv X d l (upd H p (.lst i)) {s with heap:=s.heap.update p f,toks:=t}:=by
 have e:(s.heap.update p f).get? p=some {cls:=.type "list",data:=.seq c.toArray j}:=by rw[Heap.get?_update_self f w (by rw[m]<;>rfl),m]
 refine I.write (x:=p) (e:=p) (by rw[h];trivial) (.inl rfl) (λb u z q=>(Heap.get?_update_other _ _ (Tt z)).trans q) ⟨_,e⟩ ?_;exact⟨y,c,j,r,e⟩
def LC:V->V->V->Hp->(Hp->Prop)->Prop:=λo i v H Q=>∃p c k j,o=.ref p/\i=.int k/\H p=some (.lst c)/\ixN c.length k=some j/\Q (upd H p (.lst (c.set j v)))
theorem nM:Jl X LC:=by
 intro c s z H o i v L M u Q I A B C h;obtain⟨p,E,k,j,rfl,rfl,l,G,q⟩:=h;cases A;obtain⟨t,rfl⟩:=B;obtain⟨d,n,r,f,J⟩:=I.lst l;obtain⟨e,N,m,w⟩:=wy G;have g:=r.length;have O:=mz
 have x:Inv X c z (upd H p (.lst (E.set j v))) {s with heap:=s.heap.update p (Obj.mapSeq (·.setIfInBounds j u))} :=
  I.lstUpd l f (AE d n j u) (r.set C j) (by rw[List.length_set];exact J) s.toks
 by_cases y:0<=k
 ·have hk:k.toNat=j:=by
   rw[seqIndex_of y w]at e;exact Ur e
  exact W.ki_setAt f y ⋯ (by rw[TJ,<- g];exact w) (by rw[hk];exact⟨_,x,q⟩)
 ·have hk:(k+(d.toArray.size:Int)).toNat=j:=by
   rw[seqIndex_neg ⋯ m]at e;rw[TJ,<- g];exact Ur e
  exact W.ki_setBack f ⋯ (by rw[TJ,<- g];exact m) ⋯ (by rw[hk];exact⟨_,x,q⟩)
theorem xQ(lo c:Option Int)(n:Nat):(sliceBounds lo c none n).1=((HT.XZ n 0 lo:Nat):Int)/\(sliceBounds lo c none n).2.1=((HT.XZ n n c:Nat):Int)/\(sliceBounds lo c none n).2.2=1:=by
 refine⟨?_,?_,rfl⟩
 ·cases lo with
  |none=>simp[sliceBounds,HT.XZ]
  |some i =>
   simp only[sliceBounds,HT.XZ,Option.getD_none,show(1:Int)>0 by decide,VX];by_cases h:i<0
   ·simp only[h,VX]<;>lia
   ·simp only[h,Xa]<;>lia
 ·cases c with
  |none=>simp[sliceBounds,HT.XZ]
  |some i =>
   simp only[sliceBounds,HT.XZ,Option.getD_none,show(1:Int)>0 by decide,VX];by_cases h:i<0
   ·simp only[h,VX]<;>lia
   ·simp only[h,Xa]<;>lia
theorem uj(c:yw)(lo d:Option Int):slicePick c.toArray lo d none=((c.drop (HT.XZ c.length 0 lo)).take (HT.XZ c.length c.length d - HT.XZ c.length 0 lo)).toArray:=by obtain⟨e,f,g⟩:=xQ lo d c.toArray.size;unfold slicePick;rw[e,f,g];simp only[sliceRange_one,pick_run,TJ]<;>rfl
def LF(K:vc):V->Option Int->Option Int->Hp->VK->Prop:=λx lo d H Q=>∃a c,x=.ref a/\Xm K H a c/\∀p,H p=none->Q (.ref p) (upd H p (.lst (tP c lo d)))
theorem Iu:SlR X (LF X.K):=by intro f s u H x v w y lo e z Q I i j l m h;obtain⟨a,c,rfl,n,q⟩:=h;cases i;obtain⟨p,r,g,t⟩:=I.list n;have d:=r.length;refine⟨"list",_,slot_list_getitem.lookup,g.isList.typeIs,?_⟩;refine wpAny_getItem_list_slice g.isList j l m .none (by simp) ?_ (by rw[TJ]<;>lia);rw[uj,<- d];refine⟨.ref s.heap.objs.size,_,I.laid (t':=s.toks) (o:=.lst (tP c lo e)) (λb ob q=>Tp _ q) (Tu _) ?_,rfl,q _ (I.hok.fresh (Tu _))⟩;exact⟨T8 (o6 c lo e) t,_,0,(r.drop (HT.XZ c.length 0 lo)).take (HT.XZ c.length c.length e - HT.XZ c.length 0 lo),T3 _ rfl⟩
noncomputable def lY:V->Bool
 | .Xi=>true
 | .bl _=>true
 | .int _=>true
 | .str _=>true
 |_=>false
noncomputable def eqV:V->V->Bool
 | .Xi,.Xi=>true
 | .bl a,.bl b=>a==b
 | .bl a,.int b=>(if a then 1 else 0)==b
 | .int a,.bl b=>a==(if b then 1 else 0)
 | .int a,.int b=>a==b
 | .str a,.str b=>a==b
 |_,_=>false
theorem JP(e:RelV y u)(c:RelV x v)(g:lY y=true)(f:lY x=true):SeqAt.EqAt A s u v (eqV y x):=by
 cases y with
 |Xi =>
  cases e
  cases x with
  |Xi=>cases c;exact WD _
  |bl b=>cases c;exact SeqAt.EqAt.none_bool b
  |int b=>obtain⟨t,rfl⟩:=c;exact SeqAt.EqAt.none_int b t
  |str b=>obtain⟨t,rfl⟩:=c;exact SeqAt.EqAt.none_str b t
  |_=>exact absurd (show false=true from f) TH
 |bl a =>
  cases e
  cases x with
  |Xi=>cases c;exact SeqAt.EqAt.bool_none a
  |bl b=>cases c;exact SeqAt.EqAt.bool_bool a b
  |int b=>obtain⟨t,rfl⟩:=c;exact SeqAt.EqAt.bool_int a b t
  |str b=>obtain⟨t,rfl⟩:=c;exact SeqAt.EqAt.bool_str a b t
  |_=>exact absurd (show false=true from f) TH
 |int a =>
  obtain⟨d,rfl⟩:=e
  cases x with
  |Xi=>cases c;exact SeqAt.EqAt.int_none a d
  |bl b=>cases c;exact SeqAt.EqAt.int_bool a d b
  |int b=>obtain⟨t,rfl⟩:=c;exact SeqAt.EqAt.int_int a d b t
  |str b=>obtain⟨t,rfl⟩:=c;exact WU a d b t
  |_=>exact absurd (show false=true from f) TH
 |str a =>
  obtain⟨d,rfl⟩:=e
  cases x with
  |Xi=>cases c;exact SeqAt.EqAt.str_none a d
  |bl b=>cases c;exact SeqAt.EqAt.str_bool a d b
  |int b=>obtain⟨t,rfl⟩:=c;exact WV a d b t
  |str b=>obtain⟨t,rfl⟩:=c;exact SeqAt.EqAt.str_str a d b t
  |_=>exact absurd (show false=true from f) TH
 |_=>exact absurd (show false=true from g) TH
noncomputable def eqU(x:V)(u:Value):Bool:=match u with
 | .none=>eqV .Xi x
 | .bool b=>eqV (.bl b) x
 | .int i _=>eqV (.int i) x
 | .str z _=>eqV (.str z) x
 |_=>false
theorem Ei(r:RelV y u)(f:lY y=true):eqU x u=eqV y x:=by
 cases y with
 |Xi=>cases r;rfl
 |bl b=>cases r;rfl
 |int i=>obtain⟨t,rfl⟩:=r;rfl
 |str z=>obtain⟨t,rfl⟩:=r;rfl
 |_=>exact absurd (show false=true from f) TH
theorem mK:∀{c:List V}{d:yw},Vals c d->c.all lY=true->d.any (eqU x)=c.any λy=>eqV y x
 |_,_,.nil,_=>rfl
 |y::c,u::d,.cons r t,f=>by rw[W3,Tw]at f;rw[Vm,Vm,Ei r f.1,mK t f.2]
theorem kP(e:RelV x v)(g:lY x=true):∀{c:List V}{d:yw},Vals c d->c.all lY=true->∀u∈d,SeqAt.EqAt A s u v (eqU x u)
 |_,_,.nil,_=>λu hu=>by cases hu
 |y::c,u::d,.cons r t,f=>λi hu=>by
  rw[W3,Tw]at f;rcases TY.mp hu with rfl|hu
  ·rw[Ei r f.1];exact JP r e f.1 g
  ·exact kP e g t f.2 i hu
noncomputable def inV(x:V)(c:List V):Bool:=c.any λy=>eqV y x
noncomputable def rIn(K:vc)(d:Bool):R2:=λx y H Q=>∃p c,y=.ref p/\(Xm K H p c\/XG K H p c)/\lY x=true/\c.all lY=true/\Q (.bl (if d then !inV x c else inV x c)) H
theorem lJ:Ye X (compareOp .In) (rIn X.K false):=by
 intro f s m H x y v u Q I g j h;obtain⟨p,n,rfl,hq,i,fs,q⟩:=h;cases j;rcases hq with hq|hq
 ·obtain⟨c,r,d,l⟩:=I.list hq;refine SeqAt.in_listAt (eqU x) d.isList (λw e=>kP g i r fs w (by simpa using e)) ⟨.bl _,H,I,rfl,?_⟩;rw[show c.toArray.any (eqU x)=c.any (eqU x) by simp,mK r fs];exact q
 ·obtain⟨c,r,d,l⟩:=I.tuple hq;refine SeqAt.in_tupleAt (eqU x) d (λw e=>kP g i r fs w (by simpa using e)) ⟨.bl _,H,I,rfl,?_⟩;rw[show c.toArray.any (eqU x)=c.any (eqU x) by simp,mK r fs];exact q
theorem xg:Ye X (compareOp .NotIn) (rIn X.K true):=by
 intro f s m H x y v u Q I g j h;obtain⟨p,n,rfl,hq,i,fs,q⟩:=h;cases j;rcases hq with hq|hq
 ·obtain⟨c,r,d,l⟩:=I.list hq;refine SeqAt.notIn_listAt (eqU x) d.isList (λw e=>kP g i r fs w (by simpa using e)) ⟨.bl _,H,I,rfl,?_⟩;rw[show c.toArray.any (eqU x)=c.any (eqU x) by simp,mK r fs];exact q
 ·obtain⟨c,r,d,l⟩:=I.tuple hq;refine SeqAt.notIn_tupleAt (eqU x) d (λw e=>kP g i r fs w (by simpa using e)) ⟨.bl _,H,I,rfl,?_⟩;rw[show c.toArray.any (eqU x)=c.any (eqU x) by simp,mK r fs];exact q
theorem aT:gB X (.builtin "len") (λi H Q=>∃p d,i=[.ref p]/\(Xm X.K H p d\/XG X.K H p d)/\Q (.int d.length) H):=by
 intro j s n H i t Q I r h;obtain⟨p,d,rfl,hq,q⟩:=h;obtain⟨u,rfl,l⟩:=fP r;cases l;have v:=mz;rcases hq with hq|hq
 ·obtain⟨e,f,g,m⟩:=I.list hq;have c:=f.length;exact Calls.call_len_list g.isList (by simp only[TJ]<;>lia) ⟨.int d.length,H,I.tok _,⟨s.toks+1,by rw[TJ,c]⟩,q⟩
 ·obtain⟨e,f,g,m⟩:=I.tuple hq;have c:=f.length;exact len_tuple g (by simp only[TJ]<;>lia) ⟨.int d.length,H,I.tok _,⟨s.toks+1,by rw[TJ,c]⟩,q⟩
theorem vW:gB X (.builtin "len") (λc H Q=>∃z,c=[.str z]/\z.length<=sizeLine/\Q (.int z.length) H):=by intro d s e H c f Q I r h;obtain⟨z,rfl,g,q⟩:=h;obtain⟨u,rfl,t,rfl⟩:=fP r;have i:=mz;exact len_str ⋯ ⟨.int z.length,H,I.tok _,⟨_,rfl⟩,q⟩
theorem eP:gB X (.type "list") (λB H Q=>∃p f,B=[.ref p]/\(Xm X.K H p f\/XG X.K H p f)/\∀l,H l=none->Q (.ref l) (upd H l (.lst f))):=by
 intro j s E H B J Q I r h;obtain⟨p,f,rfl,hq,q⟩:=h;obtain⟨u,rfl,G⟩:=fP r;cases G
 have fin:∀(c:yw),Vals f c->f.length<=sizeLine->∀(d:Heap)(g:Nat),(∀b C,s.heap.get? b=some C->d.get? b=some C) ->
   d.get? s.heap.objs.size=some {cls:=.type "list",dict:=none,data:=.seq c.toArray g,slots:=#[]}->EP X j E Q (.ref s.heap.objs.size) {s with heap:=d}:=λc i m d g t e =>
  ⟨.ref s.heap.objs.size,_,I.laid (t':=s.toks) t (Tu _) (show Xr X.prog X.w _ d _ (.lst f) from ⟨m,c,g,i,e⟩),rfl,q _ (I.hok.fresh (Tu _))⟩
 rcases hq with hq|hq
 ·obtain⟨c,i,x,m⟩:=I.list hq;have v:=i.length;obtain⟨o,y,z,n,A⟩:=x.isList;exact call_list_seq p (.inl rfl) y z A (λd g t e=>fin c i m d g t e) (by simp only[TJ]<;>lia)
 ·obtain⟨c,i,x,m⟩:=I.tuple hq;have v:=i.length;obtain⟨o,y,z,n,A⟩:=x;exact call_list_seq p (.inr rfl) y z A (λd g t e=>fin c i m d g t e) (by simp only[TJ]<;>lia)
theorem dJ:gB X (.type "tuple") (λn H Q=>∃p f,n=[.ref p]/\((Xm X.K H p f/\∀l,H l=none->Q (.ref l) (upd H l (.tup f)))\/(XG X.K H p f/\Q (.ref p) H))):=by
 intro c s t H n C Q I r h;obtain⟨p,f,rfl,h⟩:=h;obtain⟨u,rfl,z⟩:=fP r;cases z;rcases h with⟨i,q⟩|⟨i,q⟩
 ·obtain⟨d,j,m,v⟩:=I.list i;have x:=j.length;refine call_tuple_list m.isList (λg A=>?_) (by simp only[TJ]<;>lia);have y:Inv X c t H {s with heap:=g}:=I.kept (t':=s.toks) A
  have B:Inv X c t (upd H g.objs.size (.tup f)) {s with heap:=g.push {cls:=.type "tuple",data:=.seq d.toArray}} :=
   y.laid (t':=s.toks) (λb o e=>Tp _ e) (Tu _) (show Xr X.prog X.w _ _ _ (.tup f) from ⟨v,d,j,IsTup.new _ _⟩)
  exact⟨.ref g.objs.size,_,B,rfl,q _ (y.hok.fresh (Tu _))⟩
 ·obtain⟨d,j,m,v⟩:=I.tuple i;exact call_tuple_same m ⟨.ref p,H,I,rfl,q⟩
def tyV(K:vc)(T:String)(x:V)(H:Hp):Prop:=match x with
 | .str _=>T="str"
 | .int _=>T="int"
 | .ref p=>(T="list"/\∃d,Xm K H p d)\/(T="tuple"/\∃o,K.lookup p=some o/\o.cls=.type "tuple"/\o.dict=none) \/
   (T="dict"/\((∃c,H p=some (.dK c))\/∃c,H p=some (.dT c)))\/(T="set"/\∃S n,H p=some (.set S n))
 |_=>False
theorem Gx{X:Cx}{d:qd}{l:St}{H:Hp}{s:Shared}{T:String}{x:V}{v:Value}(I:Inv X d l H s)(r:RelV x v)(ty:tyV X.K T x H) :
  s.TypeIs v T/\∀a,v=.ref a->∃ob,s.heap.get? a=some ob/\ob.dict=none:=by
 cases x with
 |str z =>obtain⟨t,rfl⟩:=r;cases (show T="str" from ty);exact⟨typeIs_str s z t,λ_ e=>nomatch e⟩
 |int i =>obtain⟨t,rfl⟩:=r;cases (show T="int" from ty);exact⟨typeIs_int s i t,λ_ e=>nomatch e⟩
 |ref p =>
  cases r;rcases ty with⟨rfl,w,m⟩|⟨rfl,o,hk,q,f⟩|⟨rfl,hk⟩|⟨rfl,S,n,hk⟩
  ·obtain⟨u,_,j,_⟩:=I.list m;refine⟨j.isList.typeIs,λa e=>?_⟩;cases e;obtain⟨o,n,e,c,f,_⟩:=j;exact⟨o,e,f⟩
  ·refine⟨⟨o,I.Yg p o hk,q⟩,λa e=>?_⟩;cases e;exact⟨o,I.Yg _ o hk,f⟩
  ·have z:∃o,s.heap.get? p=some o/\o.ExactDict:=by
    rcases hk with⟨g,hk⟩|⟨g,hk⟩
    ·obtain⟨_,_,_,_,o,_,_,e,ex,_⟩:=I.hok p _ hk;exact⟨o,e,ex⟩
    ·obtain⟨_,_,_,_,o,_,_,e,ex,_⟩:=I.hok p _ hk;exact⟨o,e,ex⟩
   obtain⟨o,e,ex⟩:=z;refine⟨⟨o,e,ex.1⟩,λa e2=>?_⟩;cases e2;exact⟨o,e,ex.2.1⟩
  ·obtain⟨o,_,_,_,e,ex,_⟩:=I.hok p _ hk;refine⟨⟨o,e,ex.1⟩,λa e2=>?_⟩;cases e2;exact⟨o,e,ex.2.1⟩
 |_=>exact False.elim ty
def Mp(K:vc)(T:String)(r:V->List V->Hp->VK->Prop)(to:TE):TE:=λd H Q=>to d H λx c=>tyV K T x c/\r x [] c Q
def tBM(K:vc)(T:String)(r:V->List V->Hp->VK->Prop)(to:TE)(t:TA):TE:=λc H Q=>to c H λx d=>tyV K T x d/\t c d λe f=>r x e f Q
variable{id:String}
theorem Kk{X:Cx}{c d:Pos}(n:PlainAttrs T)(slot:Slot T name id)(i:typeOf (.builtin id)=pure (.type "method_descriptor"))(p:MtR X id r)(q:PE X o to)
  (f:attributeBase o name X.env (eval o X.env)=eval o X.env:=by rfl) (g:(c.endLine==d.line)=true:=by rfl):PE X (.Call (.Attribute o name c) [] [] d) (Mp X.K T r to):=by
 intro e s j H Q I h;refine wpAny_Call_method0_late f g (Xl (q e s j H _ I h) λv t ⟨x,u,l,m,ty,w⟩=>?_);obtain⟨y,z⟩:=Gx l m ty;exact⟨T,id,n,slot,i,y,z,VQ rfl (PySem.evalArgs_none (p e t j u x [] v [] Q l m .nil w))⟩
theorem eB{X:Cx}{g:Pos}(y:PlainAttrs T)(slot:Slot T name id)(n:typeOf (.builtin id)=pure (.type "method_descriptor"))(z:MtR X id r)(A:PE X o to)(B:PA X (e::i) t)
  (j:attributeBase o name X.env (eval o X.env)=eval o X.env:=by rfl)
  (m:((backTo c (starEach (e::i) X.env)).all (λx=>!x.1)&&(backToKw c (keywordEach [] X.env)).all (λx=>x.1.isSome)
   && decide ((e::i).length+([]:List Keyword).length+(if ([]:List Keyword).isEmpty then 0 else 1)<30))=true:=by rfl)
  (l:(g.endLine==c.line)=true:=by rfl) (C:starEach (e::i) X.env=(false,eval e X.env)::starEach i X.env:=by rfl) (f:(backTo c (starEach i X.env)).any (·.1)=false:=by rfl) :
  PE X (.Call (.Attribute o name g) (e::i) [] c) (tBM X.K T r to t):=by
 intro d s p H Q I h;refine wpAny_Call_method_late j m l rfl (Xl (A d s p H _ I h) λv E ⟨x,G,q,u,ty,J⟩=>?_);obtain⟨L,M⟩:=Gx q u ty;refine⟨T,id,y,slot,n,L,M,?_⟩;have w:=B c d E p G _ q J;rw[C]at w ⊢;refine VQ (by show(false||(backTo c (starEach i X.env)).any (·.1))=false;rw[f]<;>rfl) (WE ?_);exact Xl w λN O ⟨U,Y,I2,r2,q2⟩=>z d O p Y x U v N Q I2 u r2 q2
end
def MtM(X:Cx)(id:String)(r:V->List V->Hp->VK->Prop):Prop :=
 ∀(a:qd)(s:Shared)(b:St)(H:Hp)(x:V)(c:List V)(v:Value)(d:yw)(Q:VK),Inv X a b H s->RelV x v->Vals c d->r x c H Q ->
  wpAny (model X.prog X.w) X.A (call (.builtin id) (v::d)) (EP X a b Q) X.xe s
theorem Vals.one:∀{x:V}{a:yw},Vals [x] a->∃u,a=[u]/\RelV x u
 |_,_,.cons r .nil=>⟨_,rfl,r⟩
theorem Vals.zero:∀{a:yw},Vals [] a->a=[]
 |_,.nil=>rfl
theorem Vals.dropLast(h:Vals a b):Vals a.dropLast b.dropLast:=by
 induction h with
 |nil=>exact .nil
 |cons r t c =>
  cases t with
  |nil=>exact .nil
  |cons q d=>exact .cons r c
theorem Ao{α:Type}(l:List α):l.eraseIdx (l.length - 1)=l.dropLast:=by
 induction l with
 |nil=>rfl
 |cons a r c =>
  cases r with
  |nil=>rfl
  |cons b r =>
   have e:(a::b::r).length - 1=((b::r).length - 1)+1:=by have d:(a::b::r).length=r.length+2:=rfl;have f:(b::r).length=r.length+1:=rfl;lia
   rw[e,List.eraseIdx_cons_succ,c]
   all_goals rfl
section
theorem Inv.lset{X:Cx}{a:qd}{d:St}{H:Hp}{s:Shared}{l:Addr}{g c:List V}{b its':yw}{n:Nat}{f:Array Value->Array Value}{i:Nat}(I:Inv X a d H s)(j:H l=some (.lst g))
  (e:s.heap.get? l=some {cls:=.type "list",data:=.seq b.toArray n}) (m:f b.toArray=its'.toArray) (p:Vals c its') (r:c.length<=sizeLine) :
  Inv X a d (upd H l (.lst c)) {s with heap:=s.heap.update l (Obj.mapSeq f),toks:=i}:=by
 have q:=PySem.IsL.update e f;rw[m]at q;refine I.write (x:=l) (e:=l) (by rw[j];exact trivial) (.inl rfl) (λw u t v=>(Heap.get?_update_other s.heap (Obj.mapSeq f) (Tt t)).trans v) ⟨_,q⟩ ?_;exact⟨r,its',_,p,q⟩
theorem Inv.lnew{X:Cx}{a:qd}{d:St}{H:Hp}{s:Shared}{c:List V}{b:yw}{t':Nat}(I:Inv X a d H s)(e:Vals c b)(f:c.length<=sizeLine) :
  Inv X a d (upd H s.heap.objs.size (.lst c)) {s with heap:=s.heap.push {cls:=.type "list",data:=.seq b.toArray},toks:=t'} :=
 I.laid (λ_ _ q=>Tp _ q) (Tu _) ⟨f,b,0,e,T3 _ rfl⟩
theorem Inv.fresh{X:Cx}{a:qd}{b:St}{H:Hp}{s:Shared}(I:Inv X a b H s):H s.heap.objs.size=none:=I.hok.fresh (Tu _)
theorem Inv.lstM{X:Cx}{b:qd}{d:St}{H:Hp}{s:Shared}{l:Addr}{c:List V}(I:Inv X b d H s)(f:H l=some (.lst c)):c.length<=sizeLine/\∃(a:yw)(n:Nat),Vals c a/\c.length=a.length/\s.heap.get? l=some {cls:=.type "list",data:=.seq a.toArray n}:=by obtain⟨z,a,n,r,e⟩:=I.hok l _ f;exact⟨z,a,n,r,r.length,e⟩
theorem Fh(h:n<=sizeLine):Builtin.List.listTooLong n=false:=by unfold Builtin.List.listTooLong;exact TU ⋯
def xm:V->List V->Hp->VK->Prop:=λx b H Q=>∃l a y,x=.ref l/\b=[y]/\H l=some (.lst a)/\a.length<sizeLine/\Q .Xi (upd H l (.lst (a++[y])))
theorem b8:MtM X "list.append" xm:=by intro b s i H x j v m Q I d f h;obtain⟨l,p,y,rfl,rfl,c,t,q⟩:=h;cases d;obtain⟨u,rfl,g⟩:=f.one;obtain⟨z,a,n,r,w,e⟩:=I.lstM c;refine WG Uu ⟨_,e,rfl⟩ F.entry_list_append (F.args_list_append_2 _ _) (PySem.list_append l a.toArray n u (by rw[TJ];lia)) ⟨e,?_⟩;refine⟨.Xi,_,I.lset (its':=a++[u]) c e (by simp) (r.append (.cons g .nil)) ?_,rfl,q⟩;rw[Tq,Wv];lia
def xn:V->List V->Hp->VK->Prop:=λx c H Q=>∃l b a zs,x=.ref l/\c=[.ref b]/\H l=some (.lst a)/\H b=some (.lst zs)/\a.length+zs.length<=sizeLine/\Q .Xi (upd H l (.lst (a++zs)))
theorem fZ:MtM X "list.extend" xn:=by
 intro g s A H x B v C Q I j m h;obtain⟨l,b,E,zs,rfl,rfl,i,p,G,q⟩:=h;cases j;obtain⟨u,rfl,t⟩:=m.one;cases t;obtain⟨z,c,n,r,J,e⟩:=I.lstM i;obtain⟨z2,a,n2,w,y,e2⟩:=I.lstM p;have f:c.toArray.size+a.toArray.size<=sizeLine:=by rw[TJ,TJ];lia
 have d:¬ (!c.toArray.isEmpty&&Builtin.List.listTooLong (c.toArray.size+a.toArray.size))=true:=by rw[Fh f,Uv];exact TH
 refine WG U1 ⟨_,e,rfl⟩ F.entry_list_extend (F.args_list_extend_2 _ _)
  (AutoSeq1.list_extend_list_list_0 l c.toArray n b a.toArray n2 d (by rw[TJ];lia) ⋯) ⟨e,e2,?_⟩
 refine⟨.Xi,_,I.lset (its':=c++a) i e (by simp) (r.append w) ?_,rfl,q⟩;rw[Tq];lia
def Ml:V->List V->Hp->VK->Prop:=λx b H Q=>∃l a y,x=.ref l/\b=[]/\H l=some (.lst a)/\a[a.length - 1]?=some y/\Q y (upd H l (.lst a.dropLast))
theorem Kd:MtM X "list.pop" Ml:=by
 intro d s w H x A v B Q I g i h;obtain⟨l,C,y,rfl,rfl,f,j,q⟩:=h;cases g;have b:=i.zero;subst b;obtain⟨z,a,n,r,m,e⟩:=I.lstM f;obtain⟨u,p,t⟩:=r.get j
 have c:a.toArray[a.toArray.size - 1]?=some u:=by show a.toArray[a.length - 1]?=some u;rw[<- Array.getElem?_toList,<- m];exact p
 refine WG F.slot_list_pop ⟨_,e,rfl⟩ F.entry_list_pop (F.args_list_pop_1 _) (MeetsSeq.list_pop_last l a.toArray n u c (by rw[TJ];lia)) ⟨e,?_⟩;refine⟨y,_,I.lset (its':=a.dropLast) f e ?_ r.dropLast ?_,t,q⟩
 ·show a.toArray.eraseIdxIfInBounds (a.toArray.size - 1)=a.dropLast.toArray;rw[TJ,List.eraseIdxIfInBounds_toArray,Ao]
 ·rw[List.length_dropLast];lia
end
section
variable{κ:Type}[DecidableEq κ]
noncomputable def jw(a:List (κ×V))(k:κ):Option V:=(a.find? λb=>decide (b.1=k)).map (·.2)
noncomputable def kq(a:List (κ×V))(k:κ)(v:V):List (κ×V) :=
 if (a.any λb=>decide (b.1=k))=true then a.map (λb=>if b.1=k then (b.1,v)else b)else a++[(k,v)]
theorem tq{p:κ×V}(e:p.1=k):jw (p::r) k=some p.2:=by simp[jw,UN,e]
theorem tm{p:κ×V}(e:¬ p.1=k):jw (p::r) k=jw r k:=by simp[jw,UN,e]
theorem zX(k:κ):∀a:List (κ×V),(a.any λb=>decide (b.1=k))=(jw a k).isSome
 |[]=>rfl
 |p::r=>by
  rw[Vm];by_cases e:p.1=k
  ·simp only[tq e,TZ e,Bool.true_or,Option.isSome_some]
  ·rw[tm e,TU e,U6];exact zX k r
theorem kM(a:List (κ×V))(k:κ)(v:V):(kq a k v).length<=a.length+1:=by
 unfold kq;split
 ·rw[To];lia
 ·rw[Tq,TQ,Ut];lia
theorem YI.Ze(r:YI o u):o.isSome=u.isSome:=by
 cases o with
 |none=>cases u with
  |none=>rfl
  |some _=>exact(show False from r).elim
 |some _=>cases u with
  |none=>exact(show False from r).elim
  |some _=>rfl
theorem KV.val(r:KV a g)(k:κ):YI (jw a k) (valueAt g k):=by
 unfold KV at r
 induction r with
 |nil=>exact True.intro
 | @cons p q l c h t i =>
  obtain⟨f,j⟩:=h;by_cases e:p.1=k
  ·have d:q.1=k:=f.symm.trans e;have b:valueAt (q::c) k=some q.2:=by simp[valueAt,UN,d]
   rw[tq e,b];exact j
  ·have d:¬ q.1=k:=λz=>e (f.trans z);have b:valueAt (q::c) k=valueAt c k:=by simp[valueAt,UN,d]
   rw[tm e,b];exact i
theorem KV.any(r:KV a c)(k:κ):(a.any λb=>decide (b.1=k))=c.any λb=>decide (b.1=k):=by
 unfold KV at r
 induction r with
 |nil=>rfl
 |cons h t d=>rw[Vm,Vm,d,h.1]
theorem KV.repl(r:KV c d)(k:κ)(f:RelV y u) :
  KV (c.map λa=>if a.1=k then (a.1,y)else a) (d.map λa=>if a.1=k then (a.1,u)else a):=by
 unfold KV at r ⊢
 induction r with
 |nil=>exact .nil
 | @cons p q j l h t g =>
  rw[T7,T7];refine .cons ?_ g;obtain⟨b,i⟩:=h;by_cases e:p.1=k
  ·rw[TR e,TR (b.symm.trans e)];exact⟨b,f⟩
  ·rw[TN e,TN (λz=>e (b.trans z))];exact⟨b,i⟩
theorem KV.put(r:KV a b)(k:κ)(c:RelV y u):KV (kq a k y) (stored b k u):=by
 unfold kq stored;rw[r.any k];by_cases e:(b.any λd=>decide (d.1=k))=true
 ·rw[TR e,TR e];exact r.repl k c
 ·rw[TN e,TN e];exact Paired.snoc r ⟨rfl,c⟩
theorem KV.length{a:List (κ×V)}{b:List (κ×Value)}(r:KV a b):a.length=b.length:=W2 r
end
theorem yG(r:RelV (kV k) u):(cK P w).is k u=true:=by
 cases k with
 |inl i=>obtain⟨t,e⟩:=(show ∃t,u=Value.int i t from r);subst e;exact yM P w i t
 |inr x=>obtain⟨t,e⟩:=(show ∃t,u=Value.str x t from r);subst e;exact yN P w x t
theorem uP:∀{a:List Key}{b:yw},Vals (a.map kV) b->ItemsAre (cK P w) a b
 |[],_,r=>by rw[Wc]at r;cases r;exact .nil
 |k::a,_,r=>by
  rw[T7]at r
  cases r with
  |cons h t=>exact .cons (yG h) (uP t)
abbrev KT(H:Hp):List (List Key×V)->List (List Key×Addr×Value)->Prop:=Paired λp q=>p.1=q.1/\H q.2.1=some (.tup (p.1.map kV))/\RelV p.2 q.2.2
theorem KT.val(r:KT H a g)(k:List Key):YI (jw a k) ((atKey g k).map (·.2)):=by
 induction r with
 |nil=>exact True.intro
 | @cons p q l c h t i =>
  obtain⟨f,_,j⟩:=h;by_cases e:p.1=k
  ·have d:q.1=k:=f.symm.trans e;have b:atKey (q::c) k=some q.2:=by simp[atKey,UN,d]
   rw[tq e,b];exact j
  ·have d:¬ q.1=k:=λz=>e (f.trans z);have b:atKey (q::c) k=atKey c k:=by simp[atKey,UN,d]
   rw[tm e,b];exact i
theorem KT.repl(r:KT H b f)(k:List Key)(g:RelV y u) :
  KT H (b.map λc=>if c.1=k then (c.1,y)else c) (f.map (putAt k u)):=by
 induction r with
 |nil=>exact .nil
 | @cons p q l m h t i =>
  rw[T7,T7];refine .cons ?_ i;obtain⟨a,d,j⟩:=h;unfold putAt;by_cases e:p.1=k
  ·rw[TR e,TR (a.symm.trans e)];exact⟨a,d,g⟩
  ·rw[TN e,TN (λz=>e (a.trans z))];exact⟨a,d,j⟩
theorem KT.put(r:KT H a c)(k:List Key)(f:H b=some (.tup (k.map kV)))(d:RelV y u) :
  KT H (kq a k y) (storedH c k b u):=by
 have e:(a.any λg=>decide (g.1=k))=(atKey c k).isSome:=by rw[zX,(r.val k).Ze,Option.isSome_map]
 unfold kq storedH;rw[e];by_cases q:(atKey c k).isSome=true
 ·rw[TR q,TR q];exact r.repl k d
 ·rw[TN q,TN q];exact Paired.snoc r ⟨rfl,f,d⟩
theorem KT.keeps(r:KT H a d)(e:∀b c,H b=some (.tup c)->f b=some (.tup c)):KT f a d :=
 Paired.mapP r λ_ _ z=>⟨z.1,e _ _ z.2.1,z.2.2⟩
section
theorem IX(ok:Yh P w H h)(e:Rd H a u):Xr P w H h a u:=e.ok ok
theorem uI(ok:Yh P w H h)(e:Rd H a (.dK b)):b.length<=sizeLine/\(a==sysModules)=false/\∃c,KV b c/\h.DictOf (cK P w) a c :=
 show Xr P w H h a (.dK b) from IX ok e
theorem II(ok:Yh P w H h)(e:H a=some (.dK b)):b.length<=sizeLine/\(a==sysModules)=false/\∃c,KV b c/\h.DictOf (cK P w) a c:=uI ok (.inl e)
theorem wA{b:List Key}(ok:Yh P w H h)(e:H a=some (.tup (b.map kV))):(tupleKind (cK P w)).is h b a:=by
 obtain⟨_,c,r,o,d,f,n,g⟩:=(show Xr P w H h a (.tup (b.map kV)) from ok a _ e)
 exact⟨o,c.toArray,n,d,f,g,by simpa using uP r⟩
theorem BO(ok:Yh P w H h)(e:Rd H a (.dT b)):b.length<=sizeLine/\(a==sysModules)=false /\
  ∃c,KT H b c/\h.DictOfH (tupleKind (cK P w)) a c:=by
 obtain⟨z,y,c,r,o,f,g,i,j,n,s,h5⟩:=(show Xr P w H h a (.dT b) from IX ok e)
 refine⟨z,y,c,r,o,f,g,i,j,n,s,λx hx=>?_,h5⟩
 have all:∀{l:List (List Key×V)}{m:List (List Key×Addr×Value)},KT H l m->∀x∈m,(tupleKind (cK P w)).is h x.1 x.2.1:=by
  intro l m q
  induction q with
  |nil=>intro x hx;exact nomatch hx
  | @cons p q v A d t u =>
   intro x hx;rcases TY.mp hx with e|hx
   ·subst e;exact wA ok (by rw[<- d.1];exact d.2.1)
   ·exact u x hx
 exact all r x hx
theorem Li(ok:Yh P w H h)(e:H a=some (.dT b)):b.length<=sizeLine/\(a==sysModules)=false /\
  ∃c,KT H b c/\h.DictOfH (tupleKind (cK P w)) a c:=BO ok (.inl e)
end
def ZL(H:Hp)(a:Addr)(y:V)(r:Option V):Prop :=
 (∃c k,Rd H a (.dK c)/\y=kV k/\r=jw c k)\/∃c k b,Rd H a (.dT c)/\y=.ref b/\H b=some (.tup (k.map kV))/\r=jw c k
def DPut(H:Hp)(a:Addr)(y v:V)(d:Hp):Prop :=
 (∃c k,H a=some (.dK c)/\y=kV k/\c.length<sizeLine/\d=upd H a (.dK (kq c k v))) \/
 ∃c k b,H a=some (.dT c)/\y=.ref b/\H b=some (.tup (k.map kV))/\c.length<sizeLine/\d=upd H a (.dT (kq c k v))
theorem ZL.k{H:Hp}{b:List (Key×V)}{k:Key}(e:H a=some (.dK b)):ZL H a (kV k) (jw b k):=.inl ⟨b,k,.inl e,rfl,rfl⟩
theorem DPut.k{H:Hp}{b:List (Key×V)}{k:Key}(e:H a=some (.dK b))(c:b.length<sizeLine):DPut H a (kV k) v (upd H a (.dK (kq b k v))):=.inl ⟨b,k,e,rfl,c,rfl⟩
section
theorem Inv.big{X:Cx}{a:qd}{b:St}{H:Hp}{s:Shared}(I:Inv X a b H s):sysModules<s.heap.objs.size:=by have h:mainGlobals<s.heap.objs.size:=(I.mod.glob.keeps I.bk).lt;exact U3 ⋯ h
theorem CS{X:Cx}{c:qd}{t:St}{H:Hp}{s:Shared}{a:Addr}{y v:V}{u:Value}{A:Around}{E:qf}{Q:qf}(C:A.units+1<cLine)(I:Inv X c t H s)(g:ZL H a y (some v))(x:RelV y u)(h:∀i B,Inv X c t H B->RelV v i->Q i B) :
  wpAny (model X.prog X.w) A (getItem (.ref a) u) Q E s:=by
 rcases g with⟨j,k,e,m,l⟩|⟨j,k,b,e,m,G,l⟩
 ·subst m;obtain⟨z,J,L,d,n⟩:=uI I.hok e;obtain⟨i,q,f⟩:=YI.some_of (v:=v) (o:=valueAt L k) (by rw[l];exact d.val k);exact wpAny_getItem_of (yG x) n.mapOf q (h i _ (I.tok _) f)
 ·subst m;cases (show u=Value.ref b from x);obtain⟨z,J,M,d,n⟩:=BO I.hok e;obtain⟨i,q,f⟩:=YI.some_of (v:=v) (o:=(atKey M k).map (·.2)) (by rw[l];exact d.val k);obtain⟨p,N,r⟩:=UU.mp q;refine wpAny_getItem_heap (WY C) (wA I.hok G) n N ?_;rw[r];exact h i _ (I.tok _) f
theorem GT{X:Cx}{c:qd}{n:St}{H:Hp}{s:Shared}{a:Addr}{y:V}{u:Value}{o:Option V}{A:Around}{E:qf}{Q:qf}(t:A.units+1<cLine)(I:Inv X c n H s)(g:ZL H a y o)(p:RelV y u)(h:∀r,Inv X c n H r->Q (.bool (!o.isSome)) r) :
  wpAny (model X.prog X.w) A (compareOp .NotIn u (.ref a)) Q E s:=by
 rcases g with⟨f,k,e,i,l⟩|⟨f,k,b,e,i,v,l⟩
 ·subst i;obtain⟨z,j,x,d,m⟩:=uI I.hok e;refine wpAny_notIn_of (yG p) j m.mapOf ?_;rw[<- (d.val k).Ze,<- l];exact h _ (I.tok _)
 ·subst i;cases (show u=Value.ref b from p);obtain⟨z,j,B,d,m⟩:=BO I.hok e;refine wpAny_notIn_heap (WY t) (wA I.hok v) j m ?_;have q:=(d.val k).Ze;rw[Option.isSome_map]at q;rw[<- q,<- l];exact h _ (I.tok _)
theorem wa{X:Cx}{c:qd}{g:St}{H:Hp}{s:Shared}{a:Addr}{d:Heap}{i:Nat}{ob:HO}(I:Inv X c g H s)(j:Mut (H a))(l:Heap.SameBut a s.heap d)(m:∃q,d.get? a=some q)(f:Xr X.prog X.w (upd H a ob) d a ob) :
  Inv X c g (upd H a ob) {s with heap:=d,toks:=i} :=
 I.write (x:=a) (e:=a) j (.inl rfl) (λb q n z=>(l.2 b n).trans z) m f
theorem Eg{d:Heap}{b:List (Key×V)}(z:b.length<=sizeLine)(f:(a==sysModules)=false)(c:KV b e)(g:d.DictOf (cK P w) a e) :
  Xr P w i d a (.dK b):=⟨z,f,e,c,g⟩
theorem CT{X:Cx}{j:qd}{J:St}{H:Hp}{s:Shared}{a:Addr}{y v:V}{u r:Value}{A:Around}{E:qf}{L:Hp}{Q:Unit->Shared->Prop}(hu:A.units+1<cLine)(I:Inv X j J H s)(g:DPut H a y v L)(M:RelV y u)(N:RelV v r)(h:∀O,Inv X j J L O->Q () O) :
  wpAny (model X.prog X.w) A (setItem (.ref a) u r) Q E s:=by
 rcases g with⟨d,k,e,n,l,p⟩|⟨d,k,b,e,n,T,l,p⟩
 ·subst n p;obtain⟨z,t,vs,f,x⟩:=II I.hok e;have B:vs.length<=sizeLine:=by rw[<- f.length];exact z
  have C:(kq d k v).length<=sizeLine:=by have:=kM d k v;lia
  refine wpAny_setItem_pairs (hsz:=B) (yG M) x λU i G=>h _ ?_;have he:∃q,U.get? a=some q:=let⟨q,_,_,m,_⟩:=i;⟨q,m⟩;exact wa I (by rw[e];exact True.intro) G he (Eg C t (f.put k N) i)
 ·subst n p;cases (show u=Value.ref b from M);obtain⟨z,t,xs,f,x⟩:=Li I.hok e;have B:xs.length<=sizeLine:=by rw[<- W2 f];exact z
  have C:(kq d k v).length<=sizeLine:=by have:=kM d k v;lia
  refine wpAny_setItem_heap (hsz:=B) (WY hu) (wA I.hok T) x λU i G=>h _ ?_;obtain⟨q,es,ep,m,h2,h3,h4,_,h5⟩:=i;refine wa I (by rw[e];exact True.intro) G ⟨q,m⟩ ⟨C,t,_,(f.put k T N).keeps λc ys Y=>?_,q,es,ep,m,h2,h3,h4,h5⟩;rw[aI (Lu Y e (λz=>nomatch z))];exact Y
theorem Lf{X:Cx}{b:qd}{f:St}{H:Hp}{s:Shared}{a:Addr}{c:List (Key×V)}{A:Around}{E:qf}{Q:qf}(I:Inv X b f H s)(e:Rd H a (.dK c))(h:∀t g,Inv X b f H g->Q (.int c.length t) g):wpAny (model X.prog X.w) A (call (.builtin "len") [.ref a]) Q E s:=by obtain⟨z,i,l,d,j⟩:=uI I.hok e;refine call_len_dict i j (by rw[<- d.length];rw[VP]at z;lia) ?_;rw[<- d.length];exact h _ _ (I.tok _)
end
def K5(i:Expr):Prop:=∀a b,subscripted i false a b=operate [a,b] (getItem a b)
theorem Iv{id:String}
  (m:typeLookup (.type T) "__getitem__"=pure (some (.builtin id))) (n:K5 a)
  (h:wpAny (model prog w) A (eval c env) (λo e=>wpAny (model prog w) A (eval a env) (λi b=>b.TypeIs o T/\wpAny (model prog w) A (getItem o i) Q E b) E e) E s) :
  wpAny (model prog w) A (eval (.Subscript c a p) env) Q E s:=by
 refine Subscript_ (UC h (λo e g=>UC g (λi b d=>?_) λ_ _ x=>x) λ_ _ x=>x);obtain⟨l,d⟩:=d;unfold subscriptTail;refine Tn ?_;rw[getitemInPython_of_ne l.not_modules];refine Tn (wpAny_specialOf l m ?_)
 have fin:wpAny (model prog w) A (subscripted a false o i) (λr f=>wpAny (model prog w) A (letTemporaryGo c o r >>= λ_=>pure r) Q E f) E b:=by rw[n o i];exact wpAny_operating (UC d (λr f j=>Tn (wpAny_letTemporaryGo (Tz j))) λ_ _ x=>x)
 first
  |exact Tz (Tn fin)
  |exact Tn (Tz (Tn fin))
  |exact Tn fin
theorem yq{X:Cx}{c:qd}{i:St}{H:Hp}{s:Shared}{a:Addr}{y:V}{o:Option V}(I:Inv X c i H s)(g:ZL H a y o):s.TypeIs (.ref a) "dict":=by
 rcases g with⟨d,k,e,_,_⟩|⟨d,k,b,e,_,_,_⟩
 ·obtain⟨_,_,j,_,f⟩:=uI I.hok e;exact f.typeIs
 ·obtain⟨_,_,l,_,f⟩:=BO I.hok e;exact f.typeIs
noncomputable def Gk(d ty:TE):TE:=λb H Q=>d b H λx e=>ty b e λy c=>∃a v,x=.ref a/\ZL c a y (some v)/\Q v c
noncomputable def CB(ty d:TE):TE:=λb H Q=>ty b H λy e=>d b e λx c=>∃a o,x=.ref a/\ZL c a y o/\Q (.bl (!o.isSome)) c
noncomputable def LN(d ty e:TE):TS:=λD b H=>e b H λv f=>d b f λx g=>ty b g λy i=>∃a c,x=.ref a/\DPut i a y v c/\D.nx b c
section
theorem ng{X:Cx}(f:X.A.units+1<cLine)(j:PE X o l)(m:PE X i ty)(n:K5 i):PE X (.Subscript o i p) (Gk l ty):=by intro b s d H Q I h;refine Iv F.slot_dict_getitem.lookup n (Xl (j b s d H _ I h) λu q ⟨x,r,t,w,z⟩=>Xl (m b q d r _ t z) λJ L ⟨y,B,e,C,a,v,ex,g,E⟩=>?_);subst ex;obtain rfl:u=Value.ref a:=w;exact⟨yq e g,CS f e g C λM N G c=>⟨v,B,G,c,E⟩⟩
theorem Dn{X:Cx}(d:X.A.units+1<cLine)(e:PE X i ty)(f:PE X o j):PC X .NotIn i o (CB ty j):=by intro b s c H Q I h;refine Xl (e b s c H _ I h) λC l ⟨y,m,n,p,q⟩=>Xl (f b l c m _ n q) λu E ⟨x,r,t,v,a,w,ex,g,z⟩=>?_;subst ex;obtain rfl:u=Value.ref a:=v;exact GT d t g p λG B=>⟨.bl (!w.isSome),r,B,rfl,z⟩
theorem HK{X:Cx}{d:Pos}(j:X.A.units+1<cLine)(l:PE X o m)(n:PE X i ty)(p:PE X b q)(t:swapsWith b (some (.Subscript o i e)) d.line X.env=pure false) :
  PS X (.Assign [.Subscript o i e] b d) (LN m ty q):=by
 intro c s f H D I h;refine wpAny_Assign_Subscript (Xl (p c s f H _ I h) λr w ⟨v,z,B,C,E⟩=>Xl (l c w f z _ B E) λu G ⟨x,J,L,M,N⟩=>Xl (n c G f J _ L N) λiv s3 ⟨y,H3,O,Q,a,T,ex,g,U⟩=>?_) t;subst ex;obtain rfl:u=Value.ref a:=M;exact CT j O g Q C λs4 Y=>⟨f,T,Y,U⟩
end
theorem yr(h:Heap)(a:sysModules<h.objs.size):Xr P w H (h.push {cls:=.type "dict",data:=.dict #[]}) h.objs.size (.dK []) :=
 ⟨Us _,Vo.mpr (Tt (Ud a)),[],.nil,Heap.DictOf.new h⟩
noncomputable def KY:TE:=λ_ H Q=>∀p,H p=none->Q (.ref p) (upd H p (.dK []))
section
theorem Fz:PE X (.Dict [] [] c) KY:=λb s d H Q I h =>
 wpAny_Dict_empty ⟨.ref s.heap.objs.size,_,I.laid (a:=s.heap.objs.size) (o:=.dK []) (t':=s.toks) (λ_ _ q=>Tp _ q) (Tu _) (yr s.heap I.big),rfl,h _ (I.hok.fresh (Tu _))⟩
end
def Bs:List (TE×TE)->St->Hp->(List (V×V)->Hp->Prop)->Prop
 |[],_,H,Q=>Q [] H
 | (b,c)::r,a,H,Q=>b a H λx d=>c a d λy e=>Bs r a e λf g=>Q ((x,y)::f) g
abbrev VV:List (V×V)->List (Value×Value)->Prop:=Paired λp q=>RelV p.1 q.1/\RelV p.2 q.2
def PPs(X:Cx)(d:Pos)(c:List (Option Expr))(a:List Expr)(e:List (TE×TE)):Prop :=
 ∀(b:qd)(s:Shared)(f:St)(H:Hp)(Q:List (V×V)->Hp->Prop),Inv X b f H s->Bs e f H Q ->
  wpAny (model X.prog X.w) X.A (evalPairs (pairTrees c a X.env d)) (λj l=>∃g i,Inv X b f i l/\VV g j/\Q g i) X.xe s
theorem HJ:PPs X b [] [] []:=λa s c H Q I h=>pairTrees_nil_walk ⟨[],H,I,.nil,h⟩
theorem rF(hk:PE X k f)(g:PE X v i)(j:PPs X b l m c) :
  PPs X b (some k::l) (v::m) ((f,i)::c):=λa s d H Q I h =>
 pairTrees_cons_walk (Xl (hk a s d H _ I h) λu n ⟨x,p,q,r,t⟩=>Xl (g a n d p _ q t) λM w ⟨y,z,A,B,C⟩ =>
  Xl (j a w d z _ A C) λN O ⟨E,G,J,e,L⟩=>⟨(x,y)::E,G,J,.cons ⟨r,B⟩ e,L⟩)
noncomputable def oq(b a:List (Key×V)):List (Key×V):=a.foldl (λc d=>kq c d.1 d.2) b
theorem KV.merge:∀{a:List (Key×V)}{rs:List (Key×Value)}{b:List (Key×V)}{c:List (Key×Value)},KV a rs->KV b c->KV (oq b a) (merged c rs):=by
 intro a rs b c r;unfold KV at r
 induction r generalizing b c with
 |nil=>intro q;exact q
 | @cons p q g i h t d =>
  intro f
  have e:KV (kq b p.1 p.2) (stored c q.1 q.2):=by have:=f.put p.1 h.2;rw[<- h.1];exact this
  exact d e
theorem lZ:∀(b a:List (Key×V)),(oq a b).length<=a.length+b.length
 |[],a=>by show a.length<=a.length+0;lia
 |p::r,a=>by have c:=lZ r (kq a p.1 p.2);have d:=kM a p.1 p.2;show(oq (kq a p.1 p.2) r).length<=_;rw[TQ];lia
theorem qE:∀{d:List (Key×V)}{e:List (Value×Value)},VV (d.map λf=>(kV f.1,f.2)) e->∃rs,Carries (cK P w) e rs/\KV d rs
 |[],_,r=>by rw[Wc]at r;cases r;exact⟨[],True.intro,.nil⟩
 |p::d,_,r=>by
  rw[T7]at r
  cases r with
  | @cons a b as bs h t =>obtain⟨rs,c,q⟩:=qE (P:=P) (w:=w) t;obtain⟨i,g⟩:=b;exact⟨(p.1,g)::rs,⟨yG h.1,rfl,c⟩,.cons ⟨rfl,h.2⟩ q⟩
noncomputable def LW(b:List (TE×TE)):TE:=λe H Q=>∀p,H p=none->Bs b e (upd H p (.dK [])) λf c=>c p=some (.dK [])/\∃a:List (Key×V),f=a.map (λd=>(kV d.1,d.2))/\a.length<=15/\Q (.ref p) (upd c p (.dK (oq [] a)))
theorem HC(h:PPs X l b d m)(f:b.all (·.isSome)=true)(t:b.length=d.length)(u:b≠[])
  (n:b.length<=15):PE X (.Dict b d l) (LW m):=by
 intro g s v H Q I q;have x:=I.hok.fresh (Tu s.heap.objs.size);have y:=I.laid (a:=s.heap.objs.size) (o:=.dK []) (h':=s.heap.push {cls:=.type "dict",data:=.dict #[]}) (t':=s.toks) (λ_ _ q=>Tp _ q) (Tu _) (yr s.heap I.big);refine wpAny_Dict_walk (knd:=cK X.prog X.w) f t u n (Xl (h g _ v _ _ y (q _ x)) λY s2 ⟨ps,H2,r,p,e,i,A,lk,B⟩=>?_);subst A;obtain⟨rs,c,rk⟩:=qE (P:=X.prog) (w:=X.w) p;obtain⟨z,C,E,G,J⟩:=II r.hok e;cases G;refine⟨rs,c,J,λL j M=>⟨.ref s.heap.objs.size,_,?_,rfl,B⟩⟩
 have N:(oq [] i).length<=sizeLine:=by have O:=lZ i [];rw[Ut]at O;rw[VP];lia
 have T:∃q,L.get? s.heap.objs.size=some q:=let⟨q,_,_,U,_⟩:=j;⟨q,U⟩;exact wa r (by rw[e];exact True.intro) M T (Eg N C (rk.merge .nil) j)
structure M2(X:Cx)(o:Expr)(m:Str)(apos:Pos)(e f:Expr)(cpos:Pos):Prop where
 base:attributeBase o m X.env (eval o X.env)=eval o X.env
 few:((backTo cpos (starEach [e,f] X.env)).all (λx=>!x.1)&&(backToKw cpos (keywordEach [] X.env)).all (λx=>x.1.isSome)
  && decide (([e,f]:List Expr).length+([]:List Keyword).length+(if ([]:List Keyword).isEmpty then 0 else 1)<30))=true
 line:(apos.endLine==cpos.line)=true
 trees:backTo cpos (starEach [e,f] X.env)=[(false,eval e X.env),(false,eval f X.env)]
section
end
end L2
namespace Att
open PySem PySem.W PySem.Calls PyProof.Rows
theorem pP:∀(c:eH)(d:yw),WellAll P h d (c.map WData.int)->IntsAre d c:=by
 intro c
 induction c with
 |nil =>intro d w;rw[Wc]at w;cases w;exact .nil
 |cons n c e =>
  intro d w;rw[T7]at w
  cases w with
  |cons a b =>cases a;exact .cons _ _ (e _ b)
theorem DA{l:OpenLaw}(t:l.most=some n)
  (c:l.row.toRowW.claim.pre args=true) (j:WellAll P h e args) :
  ∃a p b,e=[Value.ref a]/\args=[WData.list (b.map WData.int)]/\h.get? a=some {cls:=.type "list",data:=.seq p.toArray}/\IntsAre p b/\b.length<=n:=by
 have m:WShape.hasAll [] args [.list .int]=true:=(pre_splitW c).1;have s:l.pre.holds [] {args:=args}=true:=(pre_splitW c).2;obtain⟨d,r,rfl,u,v⟩:=hasAllW_cons m;obtain rfl:=hasAllW_nil v;obtain⟨B,rfl,w⟩:=hasW_list u;obtain⟨b,rfl⟩:=items_int w
 have f:b.length<=n:=by
  unfold OpenLaw.pre at s
  have i:(WTm.not (.lt (.lit (.int (n:Int))) (.len (.arg 0)))).holds [] {args:=[.list (b.map .int)]}=true:=by have i:=(holds_andW s).1;rw[t]at i;exact i
  have h5:=condW_of i (w_not (w_lt w_lit (w_len_list (w_arg rfl))));rw[To]at h5;refine Nat.le_of_not_lt λq=>?_;have x:(n:Int)<((b.length:Nat):Int):=by lia
  first
   | (rw[TZ x]at h5;exact absurd h5 ⋯)
   | (simp at h5;lia)
 cases j with
 |cons y z =>
  cases z
  cases y with
  |list A g=>exact⟨_,_,b,rfl,rfl,A,pP b _ g,f⟩
theorem Do(l:OpenLaw)(args:List WData):l.row.toRowW.claim.post args (.bool true) args=true :=
 postW_of (r:=l.row.toRowW) (X:=(true==true))
  (show WShape.has [] (.bool true) .bool=true by first|rfl|decide|simp[WShape.has,WShape.arms,WShape.armsAll])
  (show(WTm.eq .res (.lit (.bool true))).value [] {args:=args,res:=some (.bool true),after:=args}=some (.bool (true==true)) from w_eq_bool (w_res rfl) w_lit) rfl
theorem attach_call{l:OpenLaw}{d:DefRec}
  (E:l.most=some n) (t:d.params.defaults=[])
  (call:∀(w:World)(s₀ b:Shared)(mg u:cL)(g:Addr)(o:Obj)(v cd doc:Value)(a:Addr)(e:yw)(p:eH),
   Ground q loose [] H w s₀ mg u b.heap->I w b.heap ->
   b.heap.get? g=some o->o.data=.func (docDef d.name d.params d.body d.scope v cd doc)->b.heap.CodeRec cd d.name->mg d.name=some (.ref g) ->
   b.heap.get? a=some {cls:=.type "list",data:=.seq e.toArray}->IntsAre e p->p.length<=n->b.gens=#[] ->
   codeAny (model l.prog w) callerA (.call (.ref g) ⟨[.ref a],[]⟩) (λr s=>r=.ok (.ret (.bool true))/\OldK b.heap s.heap/\s.os=b.os/\AllBare s.gens) b) :
  WalkO q loose H I l.row.toRowW d [] (λf e=>PySem.call f e):=by
 intro w s₀ b mg u G Y g o v cd doc J kV L M x A y N args B as i C O z Q;obtain rfl:J=.none:=Dflts.none A t;obtain rfl:kV=.none:=Dflts.noKw A;obtain⟨a,e,p,rfl,rfl,j,c,m⟩:=DA E i z;refine enter_call (UT (call w s₀ b mg u g o v cd doc a e p G Y L (fd_plain M) x y j c m N) λr s T=>?_);obtain⟨rfl,U,h3,h4⟩:=T;exact⟨.inl ⟨.bool true,.bool true,[],rfl,λ_=>rfl,.bool true,Do l _,λ_=>⟨List.Pairwise.nil,λ_ hm=>(nomatch hm)⟩⟩,U,h3,h4⟩
section
end
end Att
namespace L2
open PySem PySem.Spec PyProof.Rows
theorem vO:∀{a:yw}{b:eH},IntsAre a b->Vals (b.map V.int) a
 |_,_,.nil=>.nil
 |_,_,.cons n t h=>.cons ⟨t,rfl⟩ (vO h)
def GG(H:Hp):Prop:=∀b,H b=none\/∃o a,H b=some (.Yx o (.lst a))
variable{K:vc}
theorem EX{c:Shared}{p:yw}
  (KX:K.In c.heap) (y:c.heap.Ns mainGlobals mg) (g:c.heap.Ns builtinsNs mb) (Q:∀x:Str,x≠"__name__"->mb x=bootBuiltins x) (A:c.heap.NoLimit) (hg:c.gens=#[])
  (N:c.heap.get? a=some {cls:=.type "list",data:=.seq p.toArray}) (hi:IntsAre p O) (hl:O.length<=sizeLine) (hr:Xy k callerA)
  (F:∀base:Heap,K.In base->base.Ns mainGlobals mg->Xj P w K mg base CX k fa fd [x] sp) (t:∀(s:Shared)(u:Value),BindsTo s fd ⟨[u],[]⟩ [(x,u)])
  (T:∀H:Hp,GG H->Xm K H a (O.map V.int)->sp [.ref a] H (λv _=>v=.bl true) λ_ _ _=>False)
  (U:∀H e i,CX [] H c (λ_ _ _=>False) e i->False) :
  codeAny (model P w) callerA (.call (.ref fa) ⟨[.ref a],[]⟩) (λr i=>r=.ok (.ret (.bool true))/\OldK c.heap i.heap/\i.os=c.os/\AllBare i.gens) c:=by
 have rv:=vO hi;have B:=hi.length
 have l:∀H:Hp,GG H->Xm K H a (O.map V.int)->Yh P w H c.heap->(∀b,H b≠none->b=a)->(H a≠none->K.lookup a=none) ->
   codeAny (model P w) callerA (.call (.ref fa) ⟨[.ref a],[]⟩) (λr i=>r=.ok (.ret (.bool true))/\OldK c.heap i.heap/\i.os=c.os/\AllBare i.gens) c:=by
  intro H hO hS C hA hK;have f:∀{b:Addr}{o:Obj},c.heap.get? b=some o->H b=none->(wt c.heap H).get? b=some o:=λe n=>EH e n
  have Y:∀{b:Addr}{o:Obj}{E:Array DictEntry}{G:Nat},c.heap.get? b=some o->o.data=.dict E G->H b=none:=λ{b o E G} e d=>by
   cases q:H b with
   |none=>rfl
   |some u =>have e':b=a:=hA b (by rw[q];simp);subst e';rw[N]at e;cases e;have d':Data.seq p.toArray _=Data.dict E G:=d;cases d'
  have j:∀{b:Addr}{m:cL},c.heap.Ns b m->(wt c.heap H).Ns b m:=λ{b m} ⟨o,E,G,e,d,r⟩=>⟨o,E,G,f e (Y e d),d,r⟩
  have I:K.In (wt c.heap H):=λb o e=>f (KX b o e) (by
   cases q:H b with
   |none=>rfl
   |some u =>have e':b=a:=hA b (by rw[q];simp);subst e';rw[hK (by rw[q];simp)]at e;cases e)
  have hM:Mod K mg (wt c.heap H):=⟨I,j y,⟨mb,j g,Q⟩,let⟨mc,h1,h2⟩:=A;⟨mc,j h1,h2⟩⟩
  have e0:Zs P w K mg (wt c.heap H) callerA [] c H:=⟨rfl,hM,λb o e=>Hw e,Vt (C0 _ _),trivial,λb g=>absurd (show b∈([]:nt) from g) (by simp),C,.of_eq hg⟩
  refine UT ((F _ I (j y)).run callerA [] c H ⟨[.ref a],[]⟩ [.ref a] [.ref a] _ _ hr e0 (t c (.ref a)) (.cons rfl .nil) (T H hO hS)) λr i h=>?_
  cases r with
  |error e=>exact(U H e i h).elim
  |ok fl =>
   cases fl with
   |next=>exact False.elim h
   |brk=>exact False.elim h
   |cont=>exact False.elim h
   |ret u =>
    obtain⟨v,H',os,J,un,L,r',q⟩:=h;have q':v=.bl true:=q;subst q';obtain rfl:u=Value.bool true:=r';refine⟨rfl,OldK.of_keep λb o e=>?_,os,J⟩
    cases q:H b with
    |none=>exact un.keep b o e q (by intro z;exact absurd (show b∈([]:nt) from z) (by simp)) (by simp)
    |some u =>
     rcases hO b with z|⟨ob,xs,z⟩
     ·rw[q]at z;cases z
     ·have z2:=un.YY b ob _ z;obtain⟨e1,_⟩:=C b _ z;obtain⟨e2,_⟩:=L b _ z2;rw[e]at e1;cases e1;exact e2
 cases hk:K.lookup a with
 |some o =>have e:=KX a o hk;rw[N]at e;cases e;refine l (λ_=>none) (λ_=>.inl rfl) (.inr ⟨_,p.toArray,_,hk,rfl,rfl,rfl,by rw[TJ,B];exact hl,by simpa using rv⟩) (λb u z=>by have M:(none:Option HO)=some u:=z;cases M) (λb z=>absurd rfl z) λz=>absurd rfl z
 |none =>
  refine l (λb=>if b=a then some (.Yx {cls:=.type "list",data:=.seq p.toArray} (.lst (O.map V.int)))else none) (λb=>?_) (.inl (.inr ⟨{cls:=.type "list",data:=.seq p.toArray},TR rfl⟩)) (λb u z=>?_) (λb z=>?_) λ_=>hk
  ·by_cases g:b=a
   ·exact .inr ⟨_,_,TR g⟩
   ·exact .inl (TN g)
  ·by_cases g:b=a
   ·have M:=(TR g).symm.trans z;cases M;subst g;exact⟨N,by rw[To];exact hl,p,_,rv,N⟩
   ·have M:=(TN g).symm.trans z;cases M
  ·by_cases g:b=a
   ·exact g
   ·exact absurd (TN g) z
theorem walk_of{l:W.OpenLaw}{loose:e9}{I:World->Heap->Prop}{d:DefRec}{K:Params->W.Frag}{CX:World->CXT}{sp:World->Sp}
  (M:l.most=some n) (t:n<=sizeLine) (y:d.params.defaults=[]) (N:Xy k callerA)
  (O:∀(w:World)(h:Heap),I w h->(K w.params).In h)
  (F:∀(w:World)(mg:cL)(p:Addr)(h:Heap),(K w.params).In h->h.Ns mainGlobals mg->mg d.name=some (.ref p) ->
   ∃z:FuncData,(∀(s:Shared)(u:Value),BindsTo s z ⟨[u],[]⟩ [(x,u)]) /\
    ∀base:Heap,(K w.params).In base->base.Ns mainGlobals mg->Xj l.prog w (K w.params) mg base (CX w) k p z [x] (sp w))
  (A:∀(w:World)(H:Hp)(a:Addr)(r:eH),r.length<=n->GG H->Xm (K w.params) H a (r.map V.int)->sp w [.ref a] H (λv _=>v=.bl true) λ_ _ _=>False)
  (B:∀(w:World)(H:Hp)(s:Shared)(e:Value)(C:Shared),CX w [] H s (λ_ _ _=>False) e C->False) :
  W.WalkO q loose XP I l.row.toRowW d [] (λf J=>PySem.call f J):=by
 refine Att.attach_call M y λw s₀ j mg mb p o pm cd doc a J r G Y ho hd Q E m i c U=>?_;have L:=O w _ Y;obtain⟨z,hb,hF⟩:=F w mg p _ L G.T.g E;exact EX L G.T.g G.T.b G.T.builtins G.T.nolimit U m i (T8 c t) N hF hb (λH hO hS=>A w H a r c hO hS) λH e C=>B w H j e C
noncomputable def iI(s:Stmt):Arguments:=match s with
 | .FunctionDef _ a _ _ _ _ _ _ _ _=>a
 |_=>{posonlyargs:=[],args:=[],vararg:=none,kwonlyargs:=[],kw_defaults:=[],kwarg:=none,defaults:=[]}
noncomputable def eY(s:Stmt):List Stmt:=match s with
 | .FunctionDef _ _ b _ _ _ _ _ _ _=>b
 |_=>[]
noncomputable def aG(s:Stmt):Scope:=match s with
 | .FunctionDef _ _ _ _ _ _ a _ _ _=>a
 |_=>{kind:=.function,names:=[],isGenerator:=false,isCoroutine:=false}
noncomputable abbrev X5:CXT:=λ_ _ _ _ _ _=>False
noncomputable abbrev E0:XK:=λ_ _ _=>False
theorem fE:gU X5 X E0:=λ_ _ _ _ _ _ _ h=>h.elim
structure YK(K:vc)(x qual:Str)(st:Stmt)(f:Addr)(fd:FuncData):Prop where
 ex:∃(oc:Value)(od:Option Addr)(kV doc pm:Value)(an:Option Addr)(cdv ct:Value)(osl:Array (Option Value)),
  fd=W.fnOf x qual (iI st) (eY st) (aG st) .none kV doc pm an cdv ct/\K.lookup f=some ⟨oc,od,.func fd,osl⟩/\W.codeIn K cdv qual=true
 kp:W.keepIn K (.ref f)=true
section
variable{K:vc}
theorem YK.ok{P:Program}{st:Stmt}(F:YK K x b st f l)(S:Xf N i (aG st))(len:∀c H Q E,j c H Q E->c.length=i.length)
  (d:∀(a:Value)(A:Around)(outer:List Env)(s:Shared)(H:Hp)(c:List V)(Q:VK)(E:XK),Xy k (A.deeper (envOfC b (aG st) s.heap.objs.size f a))->j c H Q E ->
   ∃t,Y0 (kF X5 P w K mg base N b (aG st) f a A outer s H E).nox (eY st) t/\t {nx:=λ_ m=>Q .Xi m,rt:=Q} (fK N c) H):Xj P w K mg base X5 (k+1) f l i j:=by
 obtain⟨oc,od,kV,doc,r,u,a,ct,n,rfl,lk,e⟩:=F.ex;refine Ep lk e S len λA outer s H c Q E p g=>?_;obtain⟨t,h,q⟩:=d a A outer s H c Q E p g;exact⟨t,h.nox,q⟩
theorem YK.binds{st:Stmt}{c:e9}(F:YK K x b st f i)
  (h:∀(kV doc d:Value)(e:Option Addr)(a ct:Value)(g:yw),g.length=c.length->bindArgs (W.fnOf x b (iI st) (eY st) (aG st) .none kV doc d e a ct) ⟨g,[]⟩=pure (c.zip g)):Binds K i c []:=by
 obtain⟨oc,od,kV,doc,d,e,a,ct,j,rfl,lk,l⟩:=F.ex;exact .all (h kV doc d e a ct)
theorem fun_mk{st:Stmt}{kV doc:Value}(l:K.lookup f=some ⟨oc,od,.func (W.fnOf x a (iI st) (eY st) (aG st) .none kV doc e g b ct),d⟩)
  (c:W.codeIn K b a=true) (k:W.keepIn K (.ref f)=true):YK K x a st f (W.fnOf x a (iI st) (eY st) (aG st) .none kV doc e g b ct):=⟨⟨oc,od,kV,doc,e,g,b,ct,d,rfl,l,c⟩,k⟩
end
theorem qR(a:Xy k A):A.units+1<cLine:=VN (Nat.add_le_add_left (by decide:1<=64) _) a.units
theorem bP(h:n<=1000):n<sizeLine:=VN h ⋯
section
theorem pv{X:Cx}(i:Nat)(hN:X.N[i]?=some x:=by rfl)(b:Vis X.env.scope x:=by first|exact Or.inl rfl|exact Or.inr (Or.inl rfl)|exact Or.inr (Or.inr rfl))(c:(x==("__debug__":Str))=false:=by decide)
  (a:(x==("__classdict__":Str))=false:=by decide):PE X (.Name x d) (cV i):=Kn hN b c a
theorem CI:gB X (.builtin "len") (λc H Q=>∃a b,c=[V.ref a]/\H a=some (.dK b)/\Q (.int b.length) H):=by intro d s i H c j Q I r h;obtain⟨a,b,rfl,e,q⟩:=h;obtain⟨u,rfl,f⟩:=fP r;cases f;exact Lf I (.inl e) λt l g=>⟨.int b.length,H,g,⟨t,rfl⟩,q⟩
end
theorem nZ{A B:Prop}(h:B):if false=true then A else B:=by rw[TN TH];exact h
theorem mU{A B:Prop}(h:A):if true=true then A else B:=by rw[TR rfl];exact h
theorem tQ{c A B:Prop}[Decidable c](a:c->A)(b:¬ c->B):if c then A else B:=by
 by_cases h:c
 ·rw[TR h];exact a h
 ·rw[TN h];exact b h
def Xe(H a:Hp):Prop:=∀b o,H b=some o->a b=some o
theorem Xe.refl(H:Hp):Xe H H:=λ_ _ h=>h
theorem Xe.trans(a:Xe H d)(b:Xe d e):Xe H e:=λc o h=>b c o (a c o h)
theorem Xe.free(e:Xe H a)(h:a l=Option.none):H l=Option.none:=by
 cases q:H l with
 |none=>rfl
 |some o =>rw[e l o q]at h;cases h
theorem Xe.seq(e:Xe H b)(h:Xm K H a c):Xm K b a c:=by
 rcases h with(h|⟨o,h⟩)|h
 ·exact .inl (.inl (e _ _ h))
 ·exact .inl (.inr ⟨o,e _ _ h⟩)
 ·exact .inr h
section
variable{κ:Type}[DecidableEq κ]
end
noncomputable def rk(env:Env)(x:Str)(k:NameKind):NameKind :=
 if (k==NameKind.free&&env.scope.kind==.function&&env.kindOf x==some .cell)=true then .cell else k
theorem nA(b:Scope)(env:Env)(x:Str):(relabel b env).names.lookup x=(b.names.lookup x).map (rk env x):=by
 have all:∀l:List (Str×NameKind),(l.map λ(n,k)=>if (k==NameKind.free&&env.scope.kind==.function&&env.kindOf n==some .cell)then (n,NameKind.cell)else (n,k)).lookup x=(l.lookup x).map (rk env x):=by
  intro l
  induction l with
  |nil=>rfl
  |cons p r d =>
   obtain⟨n,k⟩:=p;rw[T7]
   cases a:x==n with
   |true =>
    have e:x=n:=by simpa using a
    subst e;by_cases c:(k==NameKind.free&&env.scope.kind==.function&&env.kindOf x==some .cell)=true
    ·simp[UK,rk,c]
    ·simp[UK,rk,c]
   |false =>
    have e1:((n,k)::r).lookup x=r.lookup x:=by rw[UK,a]
    rw[e1,<- d];by_cases c:(k==NameKind.free&&env.scope.kind==.function&&env.kindOf n==some .cell)=true
    ·show List.lookup x ((if (k==NameKind.free&&env.scope.kind==.function&&env.kindOf n==some .cell)=true then (n,NameKind.cell)else (n,k))::_)=_;rw[TR c,UK,a]
    ·show List.lookup x ((if (k==NameKind.free&&env.scope.kind==.function&&env.kindOf n==some .cell)=true then (n,NameKind.cell)else (n,k))::_)=_;rw[TN c,UK,a]
 exact all b.names
theorem Cm:rk env x .free=.cell\/rk env x .free=.free:=by
 unfold rk;split
 ·exact .inl rfl
 ·exact .inr rfl
theorem F1(h:k≠.free):rk env x k=k:=by
 unfold rk;rw[TN];intro c
 have:(k==NameKind.free)=true:=by
  cases q:(k==NameKind.free)with
  |true=>rfl
  |false=>rw[q]at c;simp at c
 exact h (by simpa using this)
noncomputable def JY:Option NameKind->Bool
 |some .free=>true
 |_=>false
noncomputable def JX:Option NameKind->Bool
 |some .free=>true
 |some .cell=>true
 |_=>false
noncomputable def JZ:Option NameKind->Bool
 |some .local=>true
 |_=>false
theorem BZ(h:JY o=true):o=some .free:=by
 cases o with
 |none=>cases h
 |some k=>cases k<;>first|rfl|cases h
theorem BY(h:JX o=true):o=some .cell\/o=some .free:=by
 cases o with
 |none=>cases h
 |some k=>cases k<;>first|exact .inl rfl|exact .inr rfl|cases h
theorem B0(h:JZ o=true):o=some .local:=by
 cases o with
 |none=>cases h
 |some k=>cases k<;>first|rfl|cases h
noncomputable def eV(N:e9)(ok:Str->Option NameKind)(names:List (Str×NameKind))(a:e9)(fr:List Nat)(b:e9):Bool :=
 decide (b=a++fr.map λj=>N.getD j "")&&(fr.all λj=>decide (j<N.length)&&JY (names.lookup (N.getD j ""))) &&
  names.all λp=>match p.2 with
   | .free=>JX (ok p.1)
   | .cell=>false
   | .local=>JZ (names.lookup p.1)
   |_=>true
structure Blk(N:e9)(ok:Str->Option NameKind)(names:List (Str×NameKind))(own:e9)(fr:List Nat)(N':e9):Prop where
 eN:N'=own++fr.map λj=>N.getD j ""
 fr:∀j∈fr,j<N.length/\names.lookup (N.getD j "")=some .free
 free:∀p∈names,p.2=.free->ok p.1=some .cell\/ok p.1=some .free
 cell:∀p∈names,p.2≠.cell
 loc:∀p∈names,p.2=.local->names.lookup p.1=some .local
theorem Aj(h:eV N ok names c fr d=true):Blk N ok names c fr d:=by
 unfold eV at h;rw[Tw,Tw]at h;obtain⟨⟨f,g⟩,i⟩:=h;have a:=U4.mp i;refine⟨T4 f,λj l=>?_,λp b e=>?_,λp b e=>?_,λp b e=>?_⟩
 ·have q:=U4.mp g j l;rw[Tw]at q;exact⟨T4 q.1,BZ q.2⟩
 ·have q:=a p b;rw[e]at q;exact BY q
 ·have q:=a p b;rw[e]at q;cases q
 ·have q:=a p b;rw[e]at q;exact B0 q
noncomputable def ZU(a:e9)(fr:List Nat)(b:St):St:=a.map (λ_=>none)++fr.map λj=>(b[j]?).getD none
theorem Ee(i:Scope)(env:Env)(h:∀p∈i.names,p.2=.free->∃c,env.cells.lookup p.1=some c) :
  ∃d,closureFor i env=pure d/\(∀x c,d.lookup x=some c->env.cells.lookup x=some c)/\∀p∈i.names,p.2=.free->d.lookup p.1=env.cells.lookup p.1:=by
 unfold closureFor
 have all:∀(l:List (Str×NameKind))(b:List (Str×Addr)),(∀p∈l,p.2=.free->∃c,env.cells.lookup p.1=some c)->(∀x c,b.lookup x=some c->env.cells.lookup x=some c) ->
   ∃d,(forIn l b λ(p:Str×NameKind)(r:List (Str×Addr))=>(match p with
    | (name,kind)=>if (kind==NameKind.free)=true then (do let a <- cellOf env name;pure (ForInStep.yield ((name,a)::r)))else pure (ForInStep.yield r):Sem (ForInStep (List (Str×Addr)))))=pure d /\
    (∀x c,d.lookup x=some c->env.cells.lookup x=some c)/\(∀p∈l,p.2=.free->d.lookup p.1=env.cells.lookup p.1)/\∀x,b.lookup x=env.cells.lookup x->d.lookup x=env.cells.lookup x:=by
  intro l
  induction l with
  |nil=>intro b _ j;exact⟨b,rfl,j,λp hp=>(by simp at hp),λx e=>e⟩
  |cons p r v =>
   intro b s j;obtain⟨n,k⟩:=p;rw[WH];by_cases hk:k=.free
   ·subst hk;obtain⟨c,m⟩:=s (n,.free) Uq rfl;have u:cellOf env n=pure c:=by unfold cellOf;rw[m]
    obtain⟨d,e1,e2,e3,q⟩:=v ((n,c)::b) (λp hp=>s p (Ug _ hp)) (λx w e=>by
     rw[UK]at e
     cases g:x==n with
     |true =>
      rw[g]at e;have:x=n:=by simpa using g
      subst this;cases e;exact m
     |false=>rw[g]at e;exact j x w e)
    refine⟨d,?_,e2,λp hp e=>?_,λx e=>q x ?_⟩
    ·simp only[beq_self_eq_true,VX,u];exact e1
    ·rcases TY.mp hp with rfl|hp
     ·exact q n (by rw[UK];simp[m])
     ·exact e3 p hp e
    ·rw[UK]
     cases g:x==n with
     |true =>
      have:x=n:=by simpa using g
      subst this;simp[m]
     |false=>exact e
   ·have y:(k==NameKind.free)=false:=by simpa using hk
    obtain⟨d,e1,e2,e3,q⟩:=v b (λp hp=>s p (Ug _ hp)) j;refine⟨d,?_,e2,λp hp e=>?_,q⟩
    ·simp only[y,WZ,Xa];exact e1
    ·rcases TY.mp hp with rfl|hp
     ·exact absurd e hk
     ·exact e3 p hp e
 obtain⟨d,e1,e2,e3,_⟩:=all i.names [] h (λx c e=>by simp at e);refine⟨d,?_,e2,e3⟩;have f:=Up (λt:Sem (List (Str×Addr))=>t >>= λz=>pure z) e1
 first
  |exact f
  | (simp only[pure_bind]at f;exact f)
  | (refine Eq.trans ?_ f;rfl)
  | (dsimp only at f ⊢;exact f)
noncomputable def Cx.X7(X:Cx)(a:Scope)(b:List (Str×Addr))(C:Addr)(N:e9)(s:Shared)(H:Hp)(c:nt):Cx where
 prog:=X.prog
 w:=X.w
 K:=X.K
 mg:=X.mg
 base:=X.base
 A:=X.A
 N:=N
 s₀:=s
 H₀:=H
 env:=compEnvC a b C X.env
 outer:=X.stack
 stack:=X.stack
 ex:=c
 fn:=λ_=>false
 calm:=X.calm
 pn:=[]
 xe:=λ_ _=>False
section
theorem uD{X:Cx}{m:qd}{J:St}{H:Hp}{s:Shared}{f:Scope}{w:List (Str×Addr)}{a:e9}{fr:List Nat}{L:e9}{T:nt}(I:Inv X m J H s)(B:Blk X.N X.env.kindOf f.names a fr L)(hk:f.kind=.function)
  (sub:∀x c,w.lookup x=some c->X.env.cells.lookup x=some c) (has:∀p∈f.names,p.2=.free->w.lookup p.1=X.env.cells.lookup p.1)
  (U:∀b∈T,ko X m H b) (fo:∀b∈T,b<s.heap.objs.size) {Y:Heap} {tk:Nat} {C D:Addr} {n:Nat} (M:D=s.heap.objs.size) (eC:s.heap.objs.size<C)
  (hns:Y.Ns C (λ_=>none)) (g:∀b o,s.heap.get? b=some o->Y.get? b=some o) (hD:Y.get? D=some {cls:=.type "list",data:=.seq ([]:yw).toArray n}) :
  Inv (X.X7 f w C L s H T) [] (ZU a fr J) (upd H D (.lst [])) {s with heap:=Y,toks:=tk}:=by
 have ZE:∀x c,w.lookup x=some c->c<s.heap.objs.size:=λx c e=>by obtain⟨v,q⟩:=I.cell x c (sub x c e);exact q.lt
 have hDn:H D=none:=I.hok.fresh (Vt M.symm);have kind:∀x,(X.X7 f w C L s H T).env.kindOf x=(f.names.lookup x).map (rk X.env x):=λx=>nA f X.env x
 refine⟨⟨I.ok.mod,hk,I.ok.glob,I.ok.blt,UJ eC,λx y c e1 e2=>I.ok.inj x y c (sub x c e1) (sub y c e2),λx hx=>?_,(λx c e=>nomatch (show false=true from e)),I.ok.hd,I.ok.frames,.inl rfl,λb A=>⟨?_,λx c e=>?_⟩,I.bs,T8 I.ok.bsz I.sz,λb o e A=>?_,λb A=>?_,I.stack,I.YZ⟩,
  rfl,I.bare,Un.laid g (Vt M.symm) hDn,⟨_,hns,λi x v e1 e2 e3=>?_⟩,λx c e=>?_,?_,λx c e=>?_,λp hp=>?_,I.hok.laid g (Vt M.symm) ⟨Us _,[],n,.nil,hD⟩,?_⟩
 ·have d:(f.names.lookup x).map (rk X.env x)=some .cell\/(f.names.lookup x).map (rk X.env x)=some .free:=by
   rw[<- kind x];exact hx
  cases q:f.names.lookup x with
  |none=>rw[q]at d;simp at d
  |some k =>
   have G:=UL q;by_cases hf:k=.free
   ·subst hf;show ∃c,w.lookup x=some c;rw[has _ G rfl];have z:=B.free _ G rfl;exact I.ok.has x z
   ·rw[q]at d;simp only[Vh,F1 hf]at d;rcases d with z|z
    ·exact absurd (Ur z) (B.cell _ G)
    ·exact absurd (Ur z) hf
 ·exact Ud (U3 (fo b A) eC)
 ·exact(U b A).2.2.2.2.1 x c (sub x c e)
 ·rcases(U b A).2.2.2.1 with z|z
  ·exact I.ok.ZZ b o e z
  ·exact absurd (TX (TV e) (T8 I.ok.bsz z)) (UI _)
 ·intro z;rcases TY.mp (I.YO b z)with e|e
  ·exact(U b A).2.1 e
  ·exact(U b A).2.2.1 e
 ·
  have O:L[i]?=some x:=e1
  have hi:¬ i<a.length:=λz=>by unfold ZU at e2;rw[UY (by simpa using z),Tv,M1 z]at e2;cases e2
  unfold ZU at e2;rw[UD (by simpa using hi),To,Tv]at e2;rw[B.eN,UD (by simpa using hi),Tv]at O
  cases q:fr[i - a.length]? with
  |none=>rw[q]at e2;cases e2
  |some j =>
   rw[q]at e2 O;simp only[Vh,Option.some.injEq]at e2 O;obtain⟨hj,E⟩:=B.fr j (Ui q)
   have ej:X.N[j]?=some x:=by rw[<- O,Uc,M1 hj];rfl
   have eσ:J[j]?=some (some v):=by
    cases z:J[j]? with
    |none=>rw[z]at e2;cases e2
    |some o=>rw[z]at e2;simp only[Wr]at e2;rw[e2]
   rw[O]at E;have G:=UL E;have Q:=B.free _ G rfl;obtain⟨m0,hn0,Z1⟩:=I.loc
   have hv:Vis X.env.scope x:=by
    rcases Q with z|z
    ·exact .inr (.inl z)
    ·exact .inr (.inr z)
   obtain⟨u,r,l⟩:=Z1 j x v ej eσ hv;refine⟨u,r,?_⟩;rcases l with⟨z,_⟩|⟨_,c,hc,o,ho,hd⟩
   ·have t:X.env.kindOf x=some .cell\/X.env.kindOf x=some .free:=Q;rw[z]at t;rcases t with y|y<;>cases y
   ·refine .inr ⟨?_,c,?_,o,g c o ho,hd⟩
    ·rw[kind x,E];rcases Cm (env:=X.env) (x:=x)with y|y
     ·exact .inl (by rw[Vh,y])
     ·exact .inr (by rw[Vh,y])
    ·show w.lookup x=some c;have z:=has _ G rfl;exact z.trans hc
 ·obtain⟨v,o,ho,hd⟩:=I.cell x c (sub x c e);exact⟨v,o,g c o ho,hd⟩
 ·show upd H D _ C=none;rw[aI (by rw[M];exact UG eC)];exact I.hok.fresh (UJ eC)
 ·show upd H D _ c=none;rw[aI (by rw[M];exact Ud (ZE x c e))];exact I.XY x c (sub x c e)
 ·exact absurd (show p∈([]:qd) from hp) (by simp)
 ·show(ZU a fr J).length=L.length;rw[B.eN];simp[ZU]
theorem vV{X:Cx}{a:qd}{g:St}{H:Hp}{s:Shared}{l:Scope}{m:List (Str×Addr)}{n:e9}{e:nt}{C:Addr}{f:St}{i:Hp}{j:Shared}(I:Inv X a g H s)(c:∀b∈e,ko X a H b)(J:Inv (X.X7 l m C n s H e) [] f i j):Inv X a g i j :=
 I.ZC (ch:=e) J.os J.base J.hok J.bare λb d=>⟨(c b d).2.2.2.1,(c b d).2.1,(c b d).2.2.2.2.1,(c b d).2.2.2.2.2⟩
theorem Inv.young{X:Cx}{a:qd}{i:St}{H:Hp}{s:Shared}{C:Addr}{j:Shared}{m:Hp}{g:St}{l:Heap}(d:Inv X a g m j)(I:Inv X a i H s)(f:j.heap.objs.size<=C)(n:H C=none)(r:Heap.SameBut C s.heap l):Inv X a i H {s with heap:=l} :=
 I.turned (t':=s.toks) (λb o t e=>(r.2 b t).trans e) n (UG (TX d.lt f)) (.inr (T8 d.sz f))
  (λx c e z=>by
   obtain⟨v,q⟩:=d.cell x c e;exact absurd (TX q.lt (by rw[z];exact f)) (UI _))
  (λp u z=>absurd (TX (TV (d.pin p u).1) (by rw[z];exact f)) (UI _))
end
def xW(X:Cx)(b:List Expr)(t:TT):Prop :=
 ∀(a:qd)(s:Shared)(d:St)(H:Hp)(Q:Bool->Hp->Prop),Inv X a d H s->t d H Q ->
  wpAny (model X.prog X.w) X.A (forIn b true λc r=>if r=true then do let ok <- isTrue c X.env (eval c X.env);pure (ForInStep.yield ok)else pure (ForInStep.yield r)) (TP X a d Q) X.xe s
noncomputable def eO:TT:=λ_ H Q=>Q true H
theorem fF:xW X [] eO:=λa s b H Q I h=>wpAny_tests_nil ⟨H,I,h⟩
theorem kW(h:PT X c t):xW X [c] t:=λa s b H Q I d=>wpAny_tests_one (h a s b H Q I d)
section
theorem mQ(J:Nat->Shared->Prop)
  (g:∀n s,J n s->wpAny (model prog w) A (pyNext it) (λr b=>match r with
   |none=>R (.ok .next) b
   |some v=>wpAny (model prog w) A (letOwnedTupleGo a it v) (λ_ d=>wpAny (model prog w) A (assign a env v) (λ_ e =>
     wpAny (model prog w) A (forIn i true λc r=>if r=true then do let ok <- isTrue c env (eval c env);pure (ForInStep.yield ok)else pure (ForInStep.yield r)) (λok s₄ =>
      if ok=true then wpAny (model prog w) A (eval j env) (λx s₅=>wpAny (model prog w) A (call (.builtin "list.append") [l,x]) (λ_ s₆=>∃m,m<n/\J m s₆) (λ_ _=>False) s₅) (λ_ _=>False) s₄
      else ∃m,m<n/\J m s₄) (λ_ _=>False) e) (λ_ _=>False) d) (λ_ _=>False) b) (λ_ _=>False) s)
  (n:Nat) (h:J n s):codeAny (model prog w) A (.compLoop (.ListComp j [⟨a,iter,i,0⟩] scope t) 0 it l env) R s:=by
 refine codeAny_loop rfl J (λn s u=>?_) n h;show wpAny (model prog w) A ((compTurn (.ListComp j [⟨a,iter,i,0⟩] scope t) 0 it l env).onRaise λx=>do noteFrame x env;theTreesLotGoes x) _ _ s;refine wpAny_noted (W4 ?_);rw[compTurn_list];refine Tn (U5 (Tn (Xl (g n s u) λr b f=>?_)))
 cases r with
 |none=>exact Tz f
 |some v =>
  refine Tn (Xl f λ_ d p=>Tn (Xl p λ_ e q=>Tn (Xl q λok s₄ h₄=>?_)))
  cases ok with
  |false=>exact Tz ⟨rfl,h₄⟩
  |true=>exact Tn (Tn (Xl h₄ λx s₅ h₅=>Tn (Xl h₅ λ_ s₆ h₆=>Tz (Tz ⟨rfl,h₆⟩))))
end
def fO(t:TI)(mk:St->St)(g:TG)(u:TT)(w:TE):TE:=λn H Q=>t n H λJ p=>∀D,p D=none->∃W:Nat->Nat->St->Hp->Prop,(∃m,W 0 m (mk n) (upd p D (.lst [])))/\∀i m d e,W i m d e ->
 (J.stop i e/\Q (.ref D) e) \/
 (J.go i e/\∃j:St->Hp->Prop,(∀c f,j c f->∃q,q<m/\W (i+1) q c f)/\∀x f,J.Zd i e x f->g x d f λa y=>u a y λb r =>
  if b=true then w a r λv s=>∃l,s D=some (.lst l)/\l.length<sizeLine/\j a (upd s D (.lst (l++[v])))else j a r)
section
theorem yl{X:Cx}{elt iter tg:Expr}{ifs:List Expr}{t:Scope}{pos:Pos}{own:e9}{fr:List Nat}{N':e9}{g:TG}{tt:TT}{te:TE}{pins:qd}{σ:St}{H:Hp}{s:Shared}{l:List (Str×Addr)}{f:nt}{it:Addr}{J:It}{tn:Nat->Heap->Prop}{E:qf}{Q:VK}{RR:Value->Addr->Result->Shared->Prop}
  (I:Inv X pins σ H s) (B:Blk X.N X.env.kindOf t.names own fr N') (hk:t.kind=.function) (hc:X.calm=true)
  (sub:∀x c,l.lookup x=some c->X.env.cells.lookup x=some c) (has:∀p∈t.names,p.2=.free->l.lookup p.1=X.env.cells.lookup p.1)
  (T:lP X.prog X.w X.K tg J f it tn) (st:tn 0 s.heap) (f2:∀b∈f,ko X pins H b)
  (hg:∀l C s H f,PG (X.X7 t l C N' s H f) tg g) (ht:∀l C s H f,xW (X.X7 t l C N' s H f) ifs tt) (he:∀l C s H f,PE (X.X7 t l C N' s H f) elt te)
  (hw:∀D,H D=none->∃W:Nat->Nat->St->Hp->Prop,(∃m,W 0 m (ZU own fr σ) (upd H D (.lst [])))/\∀i m q L,W i m q L ->
   (J.stop i L/\Q (.ref D) L) \/
   (J.go i L/\∃Nx:St->Hp->Prop,(∀σ'' Xu,Nx σ'' Xu->∃m',m'<m/\W (i+1) m' σ'' Xu)/\∀x Xu,J.Zd i L x Xu->g x q Xu λσ2 H2=>tt σ2 H2 λb H3 =>
    if b=true then te σ2 H3 λv H4=>∃ys,H4 D=some (.lst ys)/\ys.length<sizeLine/\Nx σ2 (upd H4 D (.lst (ys++[v])))else Nx σ2 H3))
  (hRR:∀D C q L s',D=s.heap.objs.size->s.heap.objs.size<=C->Inv (X.X7 t l C N' s H f) [] q L s'->Q (.ref D) L->RR (.ref D) C (.ok .next) s') :
  wpAny (model X.prog X.w) X.A (newList []) (λacc M=>wpAny (model X.prog X.w) X.A (newFunctionEnv t X.env.globals l [] X.env.qual none .none (some X.env)) (λcenv s₄ =>
   codeAny (model X.prog X.w) X.A (.compStart (.ListComp elt [⟨tg,iter,ifs,0⟩] t pos) 0 (.ref it) acc {cenv with scope:=relabel t X.env}) (RR acc cenv.locals) s₄) E M) E s:=by
 have fo:∀b∈f,b<s.heap.objs.size:=λb Y=>by obtain⟨o,e,_⟩:=T.obj _ _ st b Y;exact TV e
 refine Vl (wpAny_newFunctionEnv B.cell (by intro y hy;simp at hy) (λO a j=>?_) hk);dsimp only at a j ⊢;generalize hH2:s.heap.push {cls:=.type "list",dict:=none,data:=.seq ([]:yw).toArray}=G at a j ⊢;have hG:G.objs.size=s.heap.objs.size+1:=by rw[<- hH2,Uy]
 have hlt:s.heap.objs.size<G.objs.size:=by rw[hG];exact VE _
 have old:∀b o,s.heap.get? b=some o->O.get? b=some o:=λb o e =>
  j.extBut b o (Ud (U3 (TV e) hlt)) (Tp _ (hH2▸Tp _ e))
 have hacc:O.get? s.heap.objs.size=some {cls:=.type "list",data:=.seq ([]:yw).toArray} :=
  j.extBut _ _ (Ud hlt) (Tp _ (hH2▸T3 _ rfl))
 obtain⟨W,⟨m0,w0⟩,turn⟩:=hw s.heap.objs.size (I.hok.fresh (Tu _));have st₁:tn 0 O:=T.keep _ _ _ st λb _ o e=>old b o e
 have hns':O.Ns G.objs.size (λ_=>none):=by
  have e:(λx=>([]:List (Str×Value)).reverse.lookup x)=(λ_:Str=>(none:Option Value)):=by funext x;rfl
  first
   |exact a
   | (rw[e]at a;exact a)
 have loop:∀M:Shared,M={s with heap:=O,toks:=s.toks+([]:List (Str×Value)).length} ->
   codeAny (model X.prog X.w) X.A (.compLoop (.ListComp elt [⟨tg,iter,ifs,0⟩] t pos) 0 (.ref it) (.ref s.heap.objs.size) (compEnvC t l G.objs.size X.env)) (RR (.ref s.heap.objs.size) G.objs.size) M:=by
  rintro M rfl;have I0:=uD (tk:=s.toks+([]:List (Str×Value)).length) I B hk sub has f2 fo rfl hlt hns' old hacc
  have Yy:∀{X8:qd}{L:Hp},X8=[]->(∀b∈f,L b=none)->∀b∈f,ko (X.X7 t l G.objs.size N' s H f) X8 L b:=λep hn b Y=>by
   subst ep;refine⟨hn b Y,Ud (U3 (fo b Y) hlt),λz=>?_,.inl Y,λx c e=>(f2 b Y).2.2.2.2.1 x c (sub x c e),λp hp=>absurd (show p∈([]:qd) from hp) (by simp)⟩;rcases TY.mp (I.YO b z)with e|e
   ·exact(f2 b Y).2.1 e
   ·exact(f2 b Y).2.2.1 e
  have fr0:∀b∈f,upd H s.heap.objs.size (.lst []) b=none:=λb Y=>by rw[aI (Ud (fo b Y))];exact(f2 b Y).1
  refine mQ (λn s'=>∃i q L,Inv (X.X7 t l G.objs.size N' s H f) [] q L s'/\tn i s'.heap/\(∀b∈f,L b=none)/\W i n q L) ?_ m0 ⟨0,_,_,I0,st₁,fr0,w0⟩;rintro n s3 ⟨i,σ3,H3,I3,st3,fr3,w3⟩;rcases turn i n σ3 H3 w3 with⟨stop,qn⟩|⟨go,Nx,hN,step⟩
  ·refine Xl (T.done (X.X7 t l G.objs.size N' s H f) rfl rfl rfl hc i [] s3 σ3 H3 _ I3 (Yy rfl fr3) st3 stop) λr s4 ⟨hr,I4⟩=>?_;subst hr;exact hRR _ _ _ _ _ rfl (UJ hlt) I4 qn
  ·refine Xl (T.item (X.X7 t l G.objs.size N' s H f) rfl rfl rfl hc i [] s3 σ3 H3 _ I3 (Yy rfl fr3) st3 go) λr s4 ⟨u,hr,h4⟩=>?_;subst hr;refine Xl h4 λ_ s5 ⟨x,H5,I5,r5,y5,Z0,fr5⟩=>?_;have I5':=I5.pinned (Yy rfl fr5) (T.obj _ _ Z0);refine Xl (hg l G.objs.size s H f _ s5 σ3 H5 x u _ I5' r5 (step x H5 y5)) λ_ s6 ⟨U,H6,I6,q6⟩=>?_;refine Xl (ht l G.objs.size s H f _ s6 U H6 _ I6 q6) λok s7 ⟨H7,I7,q7⟩=>?_
   have again:∀{s8:Shared}{H8:Hp},Inv (X.X7 t l G.objs.size N' s H f) ([]++mC f s5.heap) U H8 s8->Nx U H8 ->
     ∃m,m<n/\∃i q L,Inv (X.X7 t l G.objs.size N' s H f) [] q L s8/\tn i s8.heap/\(∀b∈f,L b=none)/\W i m q L:=λ{s8 H8} I8 n8=>by
    obtain⟨m',hm,w8⟩:=hN U H8 n8;refine⟨m',hm,i+1,U,H8,I8.Yb,T.keep _ _ _ Z0 λb Y o e=>(I8.pin (b,o) (Ua _ (Ua _ (dZ Y e)))).1,λb Y=>?_,w8⟩;obtain⟨o,e,d⟩:=T.obj _ _ Z0 b Y;exact(I8.pin (b,o) (Ua _ (Ua _ (dZ Y e)))).2.1
   cases ok with
   |false =>rw[TN TH]at q7 ⊢;exact again I7 q7
   |true =>rw[TR rfl]at q7 ⊢;refine Xl (he l G.objs.size s H f _ s7 U H7 _ I7 q7) λy s8 ⟨v,H8,I8,rv,ys,hD8,hz,nx⟩=>?_;refine Xl (b8 (X:=X.X7 t l G.objs.size N' s H f) _ s8 U H8 (.ref s.heap.objs.size) [v] (.ref s.heap.objs.size) [y] (λ_ H9=>Nx U H9) I8 rfl (.cons rv .nil) ⟨_,ys,v,rfl,rfl,hD8,hz,nx⟩) λ_ s9 ⟨_,H9,I9,_,n9⟩=>?_;exact again I9 n9
 exact Wn (loop _ rfl) (T.self _ 0 _ _ _ st₁ (loop _ rfl))
theorem iJ{b:Scope}(G:PI X y iter L)(hk:b.kind=.function)(M:eV X.N X.env.kindOf b.names own fr N'=true)(O:X.calm=true)
  (U:∀c C s H d,PG (X.X7 b c C N' s H d) y g) (Y:∀c C s H d,xW (X.X7 b c C N' s H d) f tt) (he:∀c C s H d,PE (X.X7 b c C N' s H d) i te)
  (hs:∀x,foldedSetIterable iter X.env x=pure x:=by intro _;rfl):PE X (.ListComp i [⟨y,iter,f,0⟩] b pos) (fO L (ZU own fr) g tt te):=by
 intro a s z H Q I h;have B:=Aj M;obtain⟨c,j,sub,has⟩:=Ee b X.env λp hp e=>I.ok.has p.1 (B.free p hp e);rw[eval_ListComp];refine Vi (use:=none) rfl hs j hk B.loc (Xl (G a s z H _ I h) λv s1 h1=>Xl h1 λitv s2 h2=>?_);obtain⟨it,d,tn,J,H2,e,l,T,n,E,body⟩:=h2;subst e;refine yl (RR:=λr C=>compPost (model X.prog X.w) X.A X.xe none (EP X a z Q) r C) l B hk O sub has T n E U Y he body ?_;intro D C σ' H' s' eD hC t q;obtain⟨m,hn,_⟩:=t.loc;refine⟨m,hn,λh' u=>⟨.ref D,H',?_,rfl,q⟩⟩;exact Inv.young l (vV l E t) hC t.free u
theorem iW{c:Scope}{d:Pos}(hi:PI X G iter wi)(hk:c.kind=.function)(hb:eV X.N X.env.kindOf c.names own fr N'=true)(hc:X.calm=true)
  (hg:∀l C s H n,PG (X.X7 c l C N' s H n) G g) (ht:∀l C s H n,xW (X.X7 c l C N' s H n) f tt) (he:∀l C s H n,PE (X.X7 c l C N' s H n) j te)
  (hN:X.N.Nodup) (hy:X.N[i]?=some y) (hx:X.env.scope.names.lookup y=some .local)
  (L:swapsWith (.ListComp j [⟨G,iter,f,0⟩] c t) (some (.Name y u)) d.line X.env=pure true)
  (hs:∀x,foldedSetIterable iter X.env x=pure x:=by intro _;rfl):PS X (.Assign [.Name y u] (.ListComp j [⟨G,iter,f,0⟩] c t) d) (lV (fO wi (ZU own fr) g tt te) (bT i)):=by
 intro b s σ H D I h;have B:=Aj hb;obtain⟨l,M,sub,has⟩:=Ee c X.env λp hp e=>I.ok.has p.1 (B.free p hp e);rw[Ww _ _ _ _ L];refine Tn (U5 (Tn ?_));show wpAny _ _ (do let _ <- comprehension (.ListComp j [⟨G,iter,f,0⟩] c t) c X.env _ (newList []) false (eval iter X.env) (some (assign (.Name y u) X.env))) _ _ s
 refine Tn (UC (Vi (use:=some (assign (.Name y u) X.env)) (Q:=λ_ r=>SP X b D .next r) rfl hs M hk B.loc
  (Xl (hi b s σ H _ I h) λv s1 h1=>Xl h1 λitv s2 h2=>?_)) (λ_ r hq=>Tz (Tz hq)) λ_ _ e=>e)
 obtain⟨it,n,tn,J,H2,e,E,T,O,f2,body⟩:=h2;subst e;refine yl (Q:=λv U=>D.nx (σ.set i (some v)) U) (RR:=λY C=>compPost (model X.prog X.w) X.A X.xe (some (assign (.Name y u) X.env)) (λ_ r=>SP X b D .next r) Y C) E B hk hc sub has T O f2 hg ht he body ?_;intro D' C σ' U r eD hC J' q;have I3:=vV E f2 J';show wpAny _ _ (assign (.Name y u) X.env (.ref D')) _ _ r;refine Wj (lO I3 hN hy (.inl hx) (v:=.ref D') rfl (λs4 I4 ⟨a,hsb,ha⟩=>?_) (.inr hx));obtain⟨m,hn,_⟩:=J'.loc
 have hCa:C≠a:=by
  rcases ha with e|e
  ·rw[e];exact UG (TX E.lt hC)
  ·obtain⟨v,z⟩:=E.cell _ _ e;exact UG (TX z.lt hC)
 refine⟨m,hn.sameBut hsb hCa,λh' hs'=>⟨_,U,?_,q⟩⟩;exact Inv.young E I4 hC J'.free hs'
end
inductive D where
 |Xi|bl (b:Bool)|int (i:Int)|str (x:Str)|tup (ds:List D)
 |lst
mutual
def Dat(K:vc)(H:Hp):D->V->Prop
 | .Xi,v=>v=.Xi
 | .bl b,v=>v=.bl b
 | .int i,v=>v=.int i
 | .str x,v=>v=.str x
 | .tup d,v=>∃a c,v=.ref a/\XG K H a c/\Xd K H d c
 | .lst,v=>∃a c,v=.ref a/\Xm K H a c
def Xd(K:vc)(H:Hp):List D->List V->Prop
 |[],a=>a=[]
 |d::b,a=>∃v r,a=v::r/\Dat K H d v/\Xd K H b r
end
section
variable{K:vc}{H H':Hp}
theorem Dat.tupI(h:XG K H a b)(r:Xd K H c b):Dat K H (.tup c) (.ref a):=by unfold Dat;exact⟨a,b,rfl,h,r⟩
theorem Xd.nil:Xd K H [] []:=by unfold Xd;rfl
theorem Xd.cons(h:Dat K H d v)(r:Xd K H b a):Xd K H (d::b) (v::a):=by unfold Xd;exact⟨v,a,rfl,h,r⟩
theorem Dat.Xs(i:Int):Dat K H (.int i) (.int i):=by unfold Dat;rfl
theorem Dat.XN(x:Str):Dat K H (.str x) (.str x):=by unfold Dat;rfl
theorem Dat.YE(b:Bool):Dat K H (.bl b) (.bl b):=by unfold Dat;rfl
theorem Dat.Zt:Dat K H .Xi .Xi:=by unfold Dat;rfl
theorem Dat.lstI(h:Xm K H a b):Dat K H .lst (.ref a):=by unfold Dat;exact⟨a,b,rfl,h⟩
theorem Dat.XC(h:Dat K H (.tup c) v):∃a b,v=.ref a/\XG K H a b/\Xd K H c b:=by unfold Dat at h;exact h
theorem Dat.Xp(h:Dat K H (.int i) v):v=.int i:=by unfold Dat at h;exact h
theorem Dat.Xz(h:Dat K H (.str x) v):v=.str x:=by unfold Dat at h;exact h
theorem Dat.Zf(h:Dat K H (.bl b) v):v=.bl b:=by unfold Dat at h;exact h
theorem Dat.Zg(h:Dat K H .Xi v):v=.Xi:=by unfold Dat at h;exact h
theorem Dat.lstE(h:Dat K H .lst v):∃a b,v=.ref a/\Xm K H a b:=by unfold Dat at h;exact h
theorem Xd.YJ(h:Xd K H [] a):a=[]:=by unfold Xd at h;exact h
theorem Xd.Xx(h:Xd K H (d::a) b):∃v r,b=v::r/\Dat K H d v/\Xd K H a r:=by unfold Xd at h;exact h
structure bW(K:vc)(H H':Hp):Prop where
 tup:∀a xs,XG K H a xs->XG K H' a xs
 lst:∀a xs,Xm K H a xs->∃ys,Xm K H' a ys
mutual
theorem Dat.mono(g:bW K H H'):∀(d:D){v:V},Dat K H d v->Dat K H' d v
 | .Xi,v,h=>by unfold Dat at h ⊢;exact h
 | .bl b,v,h=>by unfold Dat at h ⊢;exact h
 | .int i,v,h=>by unfold Dat at h ⊢;exact h
 | .str x,v,h=>by unfold Dat at h ⊢;exact h
 | .tup c,v,h=>by obtain⟨a,f,e,q,r⟩:=h.XC;subst e;exact Dat.tupI (g.tup _ _ q) (Xd.mono g c r)
 | .lst,v,h=>by obtain⟨a,f,e,q⟩:=h.lstE;subst e;obtain⟨l,j⟩:=g.lst _ _ q;exact Dat.lstI j
theorem Xd.mono(g:bW K H H'):∀(a:List D){b:List V},Xd K H a b->Xd K H' a b
 |[],b,h=>by unfold Xd at h ⊢;exact h
 |d::a,b,h=>by obtain⟨v,r,e,c,f⟩:=h.Xx;subst e;exact Xd.cons (Dat.mono g d c) (Xd.mono g a f)
end
theorem Xd.length:∀{b:List D}{a:List V},Xd K H b a->b.length=a.length
 |[],a,h=>by rw[h.YJ];rfl
 |d::b,a,h=>by obtain⟨v,r,e,f,c⟩:=h.Xx;subst e;rw[TQ,TQ,Xd.length c]
theorem Xd.get:∀{a:List D}{b:List V}{i:Nat}{d:D},Xd K H a b->a[i]?=some d->∃v,b[i]?=some v/\Dat K H d v
 |[],_,i,d,_,e=>by simp at e
 |d0::a,b,0,d,h,e=>by obtain⟨v,r,e1,c,f⟩:=h.Xx;subst e1;simp at e;subst e;exact⟨v,rfl,c⟩
 |d0::a,b,i+1,d,h,e=>by obtain⟨v,r,e1,c,f⟩:=h.Xx;subst e1;obtain⟨u,g,j⟩:=Xd.get (i:=i) (d:=d) f (by simpa using e);exact⟨u,by simpa using g,j⟩
theorem Xd.YQ:∀{b:List D}{a:List V}{i:Nat}{v:V},Xd K H b a->a[i]?=some v->∃d,b[i]?=some d/\Dat K H d v
 |[],a,i,v,h,e=>by rw[h.YJ]at e;simp at e
 |d0::b,a,0,v,h,e=>by obtain⟨u,r,e1,c,f⟩:=h.Xx;subst e1;simp at e;subst e;exact⟨d0,rfl,c⟩
 |d0::b,a,i+1,v,h,e=>by obtain⟨u,r,e1,c,f⟩:=h.Xx;subst e1;obtain⟨d,g,j⟩:=Xd.YQ (i:=i) (v:=v) f (by simpa using e);exact⟨d,by simpa using g,j⟩
theorem Xd.append:∀{f a:List D}{b c:List V},Xd K H f b->Xd K H a c->Xd K H (f++a) (b++c)
 |[],a,b,c,h,g=>by rw[h.YJ];exact g
 |d::f,a,b,c,h,g=>by obtain⟨v,r,e,i,j⟩:=h.Xx;subst e;exact Xd.cons i (Xd.append j g)
end
mutual
noncomputable def XM:D->D->Bool
 | .Xi,.Xi=>true
 | .bl a,.bl b=>a==b
 | .int a,.int b=>a==b
 | .bl a,.int b=>(if a then 1 else 0)==b
 | .int a,.bl b=>a==(if b then 1 else 0)
 | .str a,.str b=>a==b
 | .tup a,.tup b=>XO a b
 |_,_=>false
noncomputable def XO:List D->List D->Bool
 |[],[]=>true
 |a::r,b::q=>XM a b&&XO r q
 |_,_=>false
end
mutual
noncomputable def gE:D->Nat
 | .tup a=>Xn a+1
 |_=>0
noncomputable def Xn:List D->Nat
 |[]=>0
 |d::a=>max (gE d) (Xn a)
end
mutual
noncomputable def Yj:D->Bool
 | .tup a=>XA a
 | .lst=>false
 |_=>true
noncomputable def XA:List D->Bool
 |[]=>true
 |d::a=>Yj d&&XA a
end
noncomputable def eAt(a b:List D)(j:Nat):Bool:=match a[j]?,b[j]? with
 |some x,some y=>XM x y
 |_,_=>false
theorem qw(n:Nat)(e:Nat->Bool):(List.range (n+1)).all e=(e 0&&(List.range n).all λj=>e (j+1)):=by rw[List.range_succ_eq_map,W3,List.all_map];rfl
theorem jS:∀a b:List D,((List.range (min a.length b.length)).all (eAt a b)&&a.length==b.length)=XO a b
 |[],[]=>by unfold XO;rfl
 |[],y::b=>by unfold XO;simp
 |x::a,[]=>by unfold XO;simp
 |x::a,y::b=>by
  have c:=jS a b;unfold XO;rw[<- c,TQ,TQ,Nat.succ_min_succ,qw];have d:eAt (x::a) (y::b) 0=XM x y:=rfl
  have e1:(λj=>eAt (x::a) (y::b) (j+1))=eAt a b:=by
   funext j
   simp[eAt]
  rw[d,e1,Bool.and_assoc];congr 2;simp
theorem yt{a b:List D}(h:a.length=b.length):(List.range a.length).all (eAt a b)=XO a b:=by have q:=jS a b;rw[<- h,Nat.min_self]at q;rw[<- q];simp
mutual
theorem kI:∀d:D,Yj d=true->XM d d=true
 | .Xi,_=>by unfold XM;rfl
 | .bl b,_=>by unfold XM;simp
 | .int i,_=>by unfold XM;simp
 | .str x,_=>by unfold XM;simp
 | .tup a,h=>by unfold XM;unfold Yj at h;exact Zh a h
 | .lst,h=>by unfold Yj at h;cases h
theorem Zh:∀a:List D,XA a=true->XO a a=true
 |[],_=>by unfold XO;rfl
 |d::a,h=>by unfold XA at h;rw[Tw]at h;unfold XO;rw[kI d h.1,Zh a h.2];rfl
end
section
mutual
theorem qb{X:Cx}{m:qd}{p:St}{H:Hp}{s:Shared}(I:Inv X m p H s):∀(d e:D){v:V},Yj d=true->Dat X.K H d v->Dat X.K H e v->Yj e=true->d=e
 | .Xi,e,v,l,h,f,g=>by
  have z:=h.Zg;subst z
  cases e with
  |Xi=>rfl
  |bl b=>exact nomatch f.Zf
  |int i=>exact nomatch f.Xp
  |str x=>exact nomatch f.Xz
  |tup n=>obtain⟨_,_,q,_⟩:=f.XC;exact nomatch q
  |lst=>obtain⟨_,_,q,_⟩:=f.lstE;exact nomatch q
 | .bl b,e,v,l,h,f,g=>by
  have z:=h.Zf;subst z
  cases e with
  |Xi=>exact nomatch f.Zg
  |bl c=>have q:=f.Zf;injection q with q;rw[q]
  |int i=>exact nomatch f.Xp
  |str x=>exact nomatch f.Xz
  |tup n=>obtain⟨_,_,q,_⟩:=f.XC;exact nomatch q
  |lst=>obtain⟨_,_,q,_⟩:=f.lstE;exact nomatch q
 | .int i,e,v,l,h,f,g=>by
  have z:=h.Xp;subst z
  cases e with
  |Xi=>exact nomatch f.Zg
  |bl c=>exact nomatch f.Zf
  |int j=>have q:=f.Xp;injection q with q;rw[q]
  |str x=>exact nomatch f.Xz
  |tup n=>obtain⟨_,_,q,_⟩:=f.XC;exact nomatch q
  |lst=>obtain⟨_,_,q,_⟩:=f.lstE;exact nomatch q
 | .str x,e,v,l,h,f,g=>by
  have z:=h.Xz;subst z
  cases e with
  |Xi=>exact nomatch f.Zg
  |bl c=>exact nomatch f.Zf
  |int j=>exact nomatch f.Xp
  |str y=>have q:=f.Xz;injection q with q;rw[q]
  |tup n=>obtain⟨_,_,q,_⟩:=f.XC;exact nomatch q
  |lst=>obtain⟨_,_,q,_⟩:=f.lstE;exact nomatch q
 | .tup n,e,v,l,h,f,g=>by
  obtain⟨a,C,z,q,r⟩:=h.XC;subst z
  cases e with
  |Xi=>exact nomatch f.Zg
  |bl c=>exact nomatch f.Zf
  |int j=>exact nomatch f.Xp
  |str y=>exact nomatch f.Xz
  |tup t =>obtain⟨E,u,z,w,A⟩:=f.XC;cases z;have B:=I.ZT q w;subst B;unfold Yj at l g;rw[dats_inj I n t l r A g]
  |lst=>unfold Yj at g;cases g
 | .lst,e,v,l,h,f,g=>by unfold Yj at l;cases l
theorem dats_inj{X:Cx}{c:qd}{n:St}{H:Hp}{s:Shared}(I:Inv X c n H s):∀(f a:List D){g:List V},XA f=true->Xd X.K H f g->Xd X.K H a g->XA a=true->f=a
 |[],a,g,_,h,i,_=>by
  have z:=h.YJ;subst z
  cases a with
  |nil=>rfl
  |cons e a=>obtain⟨_,_,q,_⟩:=i.Xx;exact nomatch q
 |d::f,a,g,j,h,i,b=>by
  obtain⟨v,r,z,p,t⟩:=h.Xx;subst z
  cases a with
  |nil=>exact nomatch i.YJ
  |cons e a =>obtain⟨u,w,z,l,m⟩:=i.Xx;injection z with z1 z2;subst z1 z2;unfold XA at j b;rw[Tw]at j b;rw[qb I d e j.1 p l b.1,dats_inj I f a j.2 t m b.2]
end
end
theorem lF(A:Around):A.in1.units=A.units+1:=rfl
section
theorem jR:∀{ds:List D}{j:Nat}{d:D},ds[j]?=some d->gE d<=Xn ds
 |[],_,_,e=>by simp at e
 |d0::ds,0,d,e=>by simp at e;subst e;unfold Xn;exact VO _ _
 |d0::ds,j+1,d,e=>by have q:=jR (ds:=ds) (j:=j) (d:=d) (by simpa using e);unfold Xn;exact T8 q (V1 _ _)
theorem gJ:∀{ds:List D}{j:Nat}{d:D},XA ds=true->ds[j]?=some d->Yj d=true
 |[],_,_,_,e=>by simp at e
 |d0::ds,0,d,h,e=>by simp at e;subst e;unfold XA at h;rw[Tw]at h;exact h.1
 |d0::ds,j+1,d,h,e=>by unfold XA at h;rw[Tw]at h;exact gJ (ds:=ds) (j:=j) (d:=d) h.2 (by simpa using e)
theorem qH{X:Cx}(n:Nat)
  (all:∀(d e:D)(x y:V)(u w:Value),gE d<=n->Yj d=true->Yj e=true->Dat X.K H d x->Dat X.K H e y->RelV x u->RelV y w->SeqAt.EqAt A s u w (XM d e))
  (J:Xn c<=n) (L:XA c=true) (M:XA l=true) (N:Xd X.K H c f) (O:Xd X.K H l g) (B:Vals f a) (C:Vals g b) :
  ∀j (m:j<a.toArray.size) (p:j<b.toArray.size),SeqAt.EqAt A s a.toArray[j] b.toArray[j] (eAt c l j):=by
 intro j m p;have E:j<f.length:=by rw[B.length];simpa using m
 have G:j<g.length:=by rw[C.length];simpa using p
 obtain⟨u,Q,T⟩:=B.get (i:=j) (x:=f[j]) (M1 E);obtain⟨w,U,q⟩:=C.get (i:=j) (x:=g[j]) (M1 G);obtain⟨d,r,Y⟩:=N.YQ (i:=j) (v:=f[j]) (M1 E);obtain⟨e,I,qe⟩:=O.YQ (i:=j) (v:=g[j]) (M1 G)
 have z1:a.toArray[j]=u:=by
  have:a[j]?=some u:=Q;have t:j<a.length:=by simpa using m
  rw[M1 t]at this;simpa using Ur this
 have z2:b.toArray[j]=w:=by
  have:b[j]?=some w:=U;have z:j<b.length:=by simpa using p
  rw[M1 z]at this;simpa using Ur this
 have z3:eAt c l j=XM d e:=by unfold eAt;rw[r,I]
 rw[z1,z2,z3];exact all d e _ _ u w (T8 (jR r) J) (gJ L r) (gJ M I) Y qe T q
theorem FQ{X:Cx}{c:qd}{E:St}{H:Hp}{s:Shared}{A:Around}{ds es:List D}{a b:Addr}{i j:List V}(I:Inv X c E H s)(l:A.units<cLine)(n:Nat)
  (all:∀(d e:D)(x y:V)(u w:Value),gE d<=n->Yj d=true->Yj e=true->Dat X.K H d x->Dat X.K H e y->RelV x u->RelV y w->SeqAt.EqAt A.in1 s u w (XM d e))
  (G:Xn ds<=n) (J:XA ds=true) (L:XA es=true) (m:Xd X.K H ds i) (q:Xd X.K H es j) (M:XG X.K H a i) (N:XG X.K H b j) :
  SeqAt.RcAt A s (.ref a) (.ref b) (XO ds es)/\SeqAt.RcNeAt A s (.ref a) (.ref b) (!XO ds es):=by
 obtain⟨f,r,t,_⟩:=I.tuple M;obtain⟨g,v,z,_⟩:=I.tuple N;have B:=qH (X:=X) (H:=H) (s:=s) n all G J L m q r v;have p:=SeqAt.RcAt.tuples (show s.heap.IsTuple a f.toArray from t) (show s.heap.IsTuple b g.toArray from z) l B;have C:=SeqAt.RcNeAt.tuples (show s.heap.IsTuple a f.toArray from t) (show s.heap.IsTuple b g.toArray from z) l B;have e1:f.toArray.size=ds.length:=by rw[TJ,<- r.length,m.length]
 have e2:g.toArray.size=es.length:=by rw[TJ,<- v.length,q.length]
 rw[e1,e2,jS]at p C;exact⟨p,C⟩
theorem wd{X:Cx}{L:qd}{σ:St}{H:Hp}{s:Shared}(I:Inv X L σ H s):∀(n:Nat)(A:Around)(d e:D)(x y:V)(u w:Value),A.units+n+1<cLine->gE d<=n->Yj d=true->Yj e=true->Dat X.K H d x->Dat X.K H e y->RelV x u->RelV y w->SeqAt.EqAt A s u w (XM d e):=by
 intro n
 induction n with
 |zero =>
  intro A d e x y u w r Y v j B f E g
  exact base I A d e x y u w ⋯ v j B f E g λG l a b O C ed T=>by subst ed;unfold gE at Y;lia
 |succ n ih =>intro A d e x y u w r Y v j B f E g;refine base I A d e x y u w ⋯ v j B f E g λG l a b O C ed T t1 M U m hne=>?_;subst ed T;unfold gE at Y;unfold Yj at v j;have p:=(FQ (A:=A) (ds:=G) (es:=l) I ⋯ n (λd e x y u w k1 k2 k3 k4 k5 k6 k7=>ih A.in1 d e x y u w (by rw[lF];lia) k1 k2 k3 k4 k5 k6 k7) ⋯ v j t1 M U m).1;unfold XM;exact .of_refs hne p
where
 base (I:Inv X L σ H s) (A:Around) (d e:D) (x y:V) (u w:Value) (r:A.units<cLine) (v:Yj d=true) (j:Yj e=true) (B:Dat X.K H d x) (f:Dat X.K H e y) (E:RelV x u) (g:RelV y w)
   (tt:∀(G l:List D)(a b:Addr)(O C:List V),d=.tup G->e=.tup l->Xd X.K H G O->Xd X.K H l C->XG X.K H a O->XG X.K H b C->a≠b->SeqAt.EqAt A s (.ref a) (.ref b) (XM (.tup G) (.tup l))) :
   SeqAt.EqAt A s u w (XM d e):=by
  cases d with
  |lst=>unfold Yj at v;cases v
  |Xi =>
   have z:=B.Zg;subst z;cases E
   cases e with
   |lst=>unfold Yj at j;cases j
   |Xi=>have z:=f.Zg;subst z;cases g;unfold XM;exact WD _
   |bl b=>have z:=f.Zf;subst z;cases g;unfold XM;exact SeqAt.EqAt.none_bool b
   |int i=>have z:=f.Xp;subst z;obtain⟨t,rfl⟩:=g;unfold XM;exact SeqAt.EqAt.none_int i t
   |str i=>have z:=f.Xz;subst z;obtain⟨t,rfl⟩:=g;unfold XM;exact SeqAt.EqAt.none_str i t
   |tup l=>obtain⟨b,C,z,m,M⟩:=f.XC;subst z;cases g;obtain⟨N,v2,p2,_⟩:=I.tuple m;unfold XM;exact SeqAt.EqAt.none_tuple (show s.heap.IsTuple b N.toArray from p2) r
  |bl c =>
   have z:=B.Zf;subst z;cases E
   cases e with
   |lst=>unfold Yj at j;cases j
   |Xi=>have z:=f.Zg;subst z;cases g;unfold XM;exact SeqAt.EqAt.bool_none c
   |bl b=>have z:=f.Zf;subst z;cases g;unfold XM;exact SeqAt.EqAt.bool_bool c b
   |int i=>have z:=f.Xp;subst z;obtain⟨t,rfl⟩:=g;unfold XM;exact SeqAt.EqAt.bool_int c i t
   |str i=>have z:=f.Xz;subst z;obtain⟨t,rfl⟩:=g;unfold XM;exact SeqAt.EqAt.bool_str c i t
   |tup l=>obtain⟨b,C,z,m,M⟩:=f.XC;subst z;cases g;obtain⟨N,v2,p2,_⟩:=I.tuple m;unfold XM;exact SeqAt.EqAt.bool_tuple c (show s.heap.IsTuple b N.toArray from p2) r
  |int c =>
   have z:=B.Xp;subst z;obtain⟨q,rfl⟩:=E
   cases e with
   |lst=>unfold Yj at j;cases j
   |Xi=>have z:=f.Zg;subst z;cases g;unfold XM;exact SeqAt.EqAt.int_none c q
   |bl b=>have z:=f.Zf;subst z;cases g;unfold XM;exact SeqAt.EqAt.int_bool c q b
   |int i=>have z:=f.Xp;subst z;obtain⟨t,rfl⟩:=g;unfold XM;exact SeqAt.EqAt.int_int c q i t
   |str i=>have z:=f.Xz;subst z;obtain⟨t,rfl⟩:=g;unfold XM;exact WU c q i t
   |tup l=>obtain⟨b,C,z,m,M⟩:=f.XC;subst z;cases g;obtain⟨N,v2,p2,_⟩:=I.tuple m;unfold XM;exact SeqAt.EqAt.int_tuple c q (show s.heap.IsTuple b N.toArray from p2) r
  |str c =>
   have z:=B.Xz;subst z;obtain⟨q,rfl⟩:=E
   cases e with
   |lst=>unfold Yj at j;cases j
   |Xi=>have z:=f.Zg;subst z;cases g;unfold XM;exact SeqAt.EqAt.str_none c q
   |bl b=>have z:=f.Zf;subst z;cases g;unfold XM;exact SeqAt.EqAt.str_bool c q b
   |int i=>have z:=f.Xp;subst z;obtain⟨t,rfl⟩:=g;unfold XM;exact WV c q i t
   |str i=>have z:=f.Xz;subst z;obtain⟨t,rfl⟩:=g;unfold XM;exact SeqAt.EqAt.str_str c q i t
   |tup l=>obtain⟨b,C,z,m,M⟩:=f.XC;subst z;cases g;obtain⟨N,v2,p2,_⟩:=I.tuple m;unfold XM;exact SeqAt.EqAt.str_tuple c q (show s.heap.IsTuple b N.toArray from p2) r
  |tup G =>
   have q1':=B
   obtain⟨a,O,z,U,t1⟩:=B.XC;subst z;cases E;obtain⟨us,v1,p1,_⟩:=I.tuple U
   have J:s.heap.IsTuple a us.toArray:=p1
   cases e with
   |lst=>unfold Yj at j;cases j
   |Xi=>have z:=f.Zg;subst z;cases g;unfold XM;exact SeqAt.EqAt.tuple_none J r
   |bl b=>have z:=f.Zf;subst z;cases g;unfold XM;exact SeqAt.EqAt.tuple_bool b J r
   |int i=>have z:=f.Xp;subst z;obtain⟨t,rfl⟩:=g;unfold XM;exact SeqAt.EqAt.tuple_int i t J r
   |str i=>have z:=f.Xz;subst z;obtain⟨t,rfl⟩:=g;unfold XM;exact SeqAt.EqAt.tuple_str i t J r
   |tup l =>
    have q2':=f
    obtain⟨b,C,z,m,M⟩:=f.XC;subst z;cases g
    by_cases Q:a=b
    ·subst Q
     have T:=qb I (.tup G) (.tup l) v q1' q2' j
     rw[<- T,kI _ v]
     exact WD _
    ·exact tt G l a b O C rfl rfl t1 M U m Q
theorem LI{X:Cx}{j:qd}{L:St}{H:Hp}{s:Shared}(I:Inv X j L H s)(n:Nat)(A:Around)(f i:List D)(a b:Addr)(r t:List V)(hu:A.units+n+2<cLine)(M:Xn f<=n)(N:XA f=true)(O:XA i=true)(Q:Xm X.K H a r)(T:Xm X.K H b t)(v:Xd X.K H f r)(B:Xd X.K H i t) :
  SeqAt.RcAt A s (.ref a) (.ref b) (XO f i)/\SeqAt.RcNeAt A s (.ref a) (.ref b) (!XO f i):=by
 have g:A.units<cLine:=by lia
 obtain⟨m,C,p1,_⟩:=I.list Q;obtain⟨q,E,p2,_⟩:=I.list T;have e1:m.toArray.size=f.length:=by rw[TJ,<- C.length,v.length]
 have e2:q.toArray.size=i.length:=by rw[TJ,<- E.length,B.length]
 have G:=qH (X:=X) (H:=H) (s:=s) (A:=A.in1) n (λd e x y u w U Y k3 k4 k5 k6 k7=>wd I n A.in1 d e x y u w (by rw[lF];lia) U Y k3 k4 k5 k6 k7) M N O v B C E;by_cases l:f.length=i.length
 ·have c:m.toArray.size=q.toArray.size:=by rw[e1,e2,l]
  have p:=SeqAt.RcAt.lists p1.isList p2.isList c g G;have J:=SeqAt.RcNeAt.lists p1.isList p2.isList c g G;rw[e1,yt l]at p J;exact⟨p,J⟩
 ·have c:(m.toArray.size != q.toArray.size)=true:=by rw[e1,e2];simpa using l
  have z:XO f i=false:=by
   rw[<- jS];have:(f.length==i.length)=false:=by simpa using l
   rw[this,Uv]
  rw[z];exact⟨SeqAt.RcAt.lists_lengths p1.isList p2.isList c g,SeqAt.RcNeAt.lists_lengths p1.isList p2.isList c g⟩
noncomputable def HR(K:vc)(e:Bool):R2:=λx y H Q=>∃a b f g c d,x=.ref a/\y=.ref b/\Xm K H a f/\Xm K H b g/\Xd K H c f/\Xd K H d g/\XA c=true/\XA d=true/\Xn c<=20/\Q (.bl (if e then !XO c d else XO c d)) H
theorem xc{X:Cx}(d:Xy k X.A):Ye X (compareOp .Eq) (HR X.K false):=by
 intro c s E H x y v u Q I e f h;obtain⟨a,b,g,i,j,l,ex,m,n,p,r,t,w,z,B,q⟩:=h;subst ex m;cases e;cases f;have C:X.A.units+20+2<cLine:=by have:=d.un;lia
 exact(LI I 20 X.A j l a b g i C B w z n p r t).1 _ _ _ _ ⟨.bl _,H,I,rfl,q⟩
theorem Ki{X:Cx}(d:Xy k X.A):Ye X (compareOp .NotEq) (HR X.K true):=by
 intro c s E H x y v u Q I e f h;obtain⟨a,b,g,i,j,l,ex,m,n,p,r,t,w,z,B,q⟩:=h;subst ex m;cases e;cases f;have C:X.A.units+20+2<cLine:=by have:=d.un;lia
 exact(LI I 20 X.A j l a b g i C B w z n p r t).2 _ _ _ _ ⟨.bl _,H,I,rfl,q⟩
noncomputable def tyD:D->String
 | .Xi=>"NoneType"
 | .bl _=>"bool"
 | .int _=>"int"
 | .str _=>"str"
 | .tup _=>"tuple"
 | .lst=>"list"
noncomputable def pQ(d:D)(T:String):Bool:=tyD d==T||(tyD d=="bool"&&T=="int")
theorem gC{X:Cx}(hk:∀d:D,W.kitOne X.K (.type (tyD d)) (.type T)=some (pQ d T)) :
  gB X (.builtin "isinstance") (λp H Q=>∃x d,p=[x,.ty T]/\Dat X.K H d x/\Q (.bl (pQ d T)) H):=by
 intro j s v H p B Q I r h;obtain⟨x,d,e,q,h⟩:=h;subst e;obtain⟨u,c,e,f,w⟩:=L6 r;subst e;cases (show c=Value.type T from w);have fin:∀l,EP X j v Q (.bool (pQ d T)) {s with toks:=l}:=λl=>⟨.bl _,H,I.tok l,rfl,h⟩
 have g:=hk d
 cases d with
 |Xi=>have z:=q.Zg;subst z;cases f;exact W0 W.kitx_none I.Yg True.intro g (λz=>nomatch z) fin
 |bl b=>have z:=q.Zf;subst z;cases f;exact W0 W.kitx_bool I.Yg True.intro g (λz=>nomatch z) fin
 |int i=>have z:=q.Xp;subst z;obtain⟨t,rfl⟩:=f;exact W0 W.kitx_int I.Yg True.intro g (λz=>nomatch z) fin
 |str y=>have z:=q.Xz;subst z;obtain⟨t,rfl⟩:=f;exact W0 W.kitx_str I.Yg True.intro g (λz=>nomatch z) fin
 |tup C =>obtain⟨a,A,z,m,_⟩:=q.XC;subst z;cases f;obtain⟨n,_,⟨o,e1,e2,_⟩,_⟩:=I.tuple m;exact W0 W.kitx_tuple I.Yg ⟨o,e1,e2⟩ g (λz=>nomatch z) fin
 |lst =>obtain⟨a,A,z,m⟩:=q.lstE;subst z;cases f;obtain⟨n,_,⟨o,_,e1,e2,_⟩,_⟩:=I.list m;exact W0 W.kitx_list I.Yg ⟨o,e1,e2⟩ g (λz=>nomatch z) fin
end
def ky(K:vc)(a:Addr)(T:List (Str×KTD.Dat)):Prop:=∀h:Heap,K.In h->KTD.TextTab h a T
section
theorem m9:Ye X (compareOp .In) (λx y H Q=>∃k a T,x=.str k/\y=.ref a/\ky X.K a T/\Q (.bl (KTD.inKeys k T)) H):=by intro b s g H x y v u Q I c d h;obtain⟨k,a,T,ex,f,t,q⟩:=h;subst ex f;obtain⟨i,rfl⟩:=c;cases d;exact KTD.in_text (h₀:=s.heap) ⟨t _ I.Yg,λ_ _ e=>e⟩ ⟨.bl _,H,I.tok _,rfl,q⟩
noncomputable def FN(K:vc):R2:=λx y H Q=>∃a k T i,x=.ref a/\y=.str k/\ky K a T/\(T.all λp=>KTD.plain p.2)=true/\KTD.datumAt k T=some (.flat (.int i))/\Q (.int i) H
theorem EN:IxR X (FN X.K):=by
 intro l m n s G H x y v u Q I p r h w;obtain⟨a,k,T,i,ex,z,t,A,f,q⟩:=h;subst ex z;obtain⟨J,rfl⟩:=r;cases p;have B:KTD.inKeys k T=true:=by rw[<- KTD.isSome_datumAt,f];rfl
 refine KTD.item_textA (h₀:=s.heap) ⟨t _ I.Yg,λ_ _ e=>e⟩ A B ?_ w
 exact c T f λv C=>by obtain⟨E,rfl⟩:=PyProof.V.Flat.int_inv C;exact⟨.int i,H,I.tok _,⟨E,rfl⟩,q⟩
where
 c {h:Heap} {k:Str} {P:Value->Prop} {i:Int}:∀(T:List (Str×KTD.Dat)),KTD.datumAt k T=some (.flat (.int i))->(∀v,PyProof.V.Flat v (.int i)->P v)->KTD.EachL h k P T
  |[],f,_=>by simp[KTD.datumAt]at f
  | (x,d)::T,f,g=>by
   have b:(if decide (k=x)=true then some d else KTD.datumAt k T)=some (.flat (.int i)):=f
   by_cases j:k=x
   ·rw[TR (TZ j)]at b
    cases b
    refine KTD.eachL_hit j ?_
    exact opened g
   ·rw[TN (by simp[j])]at b
    exact KTD.eachL_miss j (c T b g)
 opened {h:Heap} {P:Value->Prop} {i:Int} (g:∀v,PyProof.V.Flat v (.int i)->P v):KTD.Opened h P (.flat (.int i)):=by
  first
   |exact KTD.opened_int λt=>g _ (PyProof.V.Flat.int i t)
   |exactλt=>g _ (PyProof.V.Flat.int i t)
end
section
variable{H H':Hp}
variable{K:vc}
theorem Xe.sqT(e:Xe H H')(h:XG K H a b):XG K H' a b:=by
 rcases h with(h|⟨o,h⟩)|h
 ·exact .inl (.inl (e _ _ h))
 ·exact .inl (.inr ⟨o,e _ _ h⟩)
 ·exact .inr h
theorem Xe.grow(e:Xe H H'):bW K H H':=⟨λ_ _ h=>e.sqT h,λ_ a h=>⟨a,e.seq h⟩⟩
theorem Xe.dat(e:Xe H H')(h:Dat K H d v):Dat K H' d v:=Dat.mono e.grow d h
theorem Xe.Xo(e:Xe H H')(h:Xd K H a b):Xd K H' a b:=Xd.mono e.grow a h
theorem aH(h:H p=none)(o:HO):Xe H (upd H p o):=λb u q=>by rw[aI (aK q h)];exact q
def Xv(t:Addr)(H H':Hp):Prop:=∀b o,b≠t->H b=some o->H' b=some o
theorem Xe.but(e:Xe H H'):Xv t H H':=λb o _ h=>e b o h
theorem Xv.trans(a:Xv t H H')(b:Xv t H' d):Xv t H d:=λc o n h=>b c o n (a c o n h)
theorem Xv.upd(a:Xv t H H'):Xv t H (upd H' t o):=λb u n h=>by rw[aI n];exact a b u n h
theorem Xv.sqT(e:Xv t H H')(b:H t=some (.lst zs))(h:XG K H a c):XG K H' a c:=by
 rcases h with(h|⟨o,h⟩)|h
 ·exact .inl (.inl (e _ _ (λz=>by rw[z,b]at h;cases h) h))
 ·exact .inl (.inr ⟨o,e _ _ (λz=>by rw[z,b]at h;cases h) h⟩)
 ·exact .inr h
theorem Xv.YC(e:Xv t H H')(n:a≠t)(h:Xm K H a b):Xm K H' a b:=by
 rcases h with(h|⟨o,h⟩)|h
 ·exact .inl (.inl (e _ _ n h))
 ·exact .inl (.inr ⟨o,e _ _ n h⟩)
 ·exact .inr h
theorem Xv.grow(e:Xv t H H')(d:H t=some (.lst zs))(b:H' t=some (.lst c)):bW K H H' :=
 ⟨λ_ _ h=>e.sqT d h,λa f h=>by
  by_cases n:a=t
  ·subst n;exact⟨c,Xm.of b⟩
  ·exact⟨f,e.YC n h⟩⟩
end
section
variable{K:vc}
theorem EF(d:D):W.kitOne K (.type (tyD d)) (.type "int")=some (pQ d "int"):=by cases d<;>rfl
theorem Hj(d:D):W.kitOne K (.type (tyD d)) (.type "bool")=some (pQ d "bool"):=by cases d<;>rfl
theorem EG(d:D):W.kitOne K (.type (tyD d)) (.type "str")=some (pQ d "str"):=by cases d<;>rfl
theorem qP(d:D):W.kitOne K (.type (tyD d)) (.type "tuple")=some (pQ d "tuple"):=by cases d<;>rfl
theorem Hk(d:D):W.kitOne K (.type (tyD d)) (.type "list")=some (pQ d "list"):=by cases d<;>rfl
end
def XI(K:vc)(R:List D->D->Prop):Sp:=λc H Q _=>∃b d,Xd K H b c/\R b d/\∀v a,Xe H a->Dat K a d v->Q v a
def jL(K:vc)(R:List D->List D->Prop):Sp:=λe H Q _=>∃b c,Xd K H b e/\R b c/\∀r d a,Xe H a->a r=some (.lst d)->H r=none->Xd K a c d->Q (.ref r) a
theorem fB(h:Xd K H [a] b):∃u,b=[u]/\Dat K H a u:=by obtain⟨u,r,e,c,h⟩:=h.Xx;have z:=h.YJ;subst z e;exact⟨u,rfl,c⟩
theorem gD(h:Xd K H [a,b] c):∃u v,c=[u,v]/\Dat K H a u/\Dat K H b v:=by obtain⟨u,r,e,d,h⟩:=h.Xx;obtain⟨v,q,f⟩:=fB h;subst q e;exact⟨u,v,rfl,d,f⟩
theorem kG(h:Xd K H [a,b,c] d):∃u v w,d=[u,v,w]/\Dat K H a u/\Dat K H b v/\Dat K H c w:=by obtain⟨u,r,e,f,h⟩:=h.Xx;obtain⟨v,w,q,g⟩:=gD h;subst q e;exact⟨u,v,w,rfl,f,g⟩
theorem nN{a:St}:(a.set j z).set j x=a.set j x:=by rw[Wd]
variable{J:It}{item:Nat->V}{σ0:St}
theorem mr{B:TE}{Q:VK}(Ok:Hp->Prop)
  (G:∀i a,Ok a->i<n->J.go i a/\∀x d,J.Zd i a x d->d=a/\x=item i) (stop:∀a,Ok a->J.stop n a) (H:σ0.set j none=σ0)
  (D:Addr) (r:Nat->Hp->Prop) (p0:r 0 (upd I D (.lst []))) (ok:∀i a,i<=n->r i a->Ok a)
  (u:∀i a,i<n->r i a->B (σ0.set j (some (item i))) a λv w=>∃s,w D=some (.lst s)/\s.length<sizeLine/\(∃z,σ0.set j (some (item i))=σ0.set j z)/\r (i+1) (upd w D (.lst (s++[v]))))
  (fin:∀a,r n a->Q (.ref D) a) :
  ∃W:Nat->Nat->St->Hp->Prop,(∃m,W 0 m σ0 (upd I D (.lst [])))/\∀i m f a,W i m f a ->
   (J.stop i a/\Q (.ref D) a) \/
   (J.go i a/\∃A:St->Hp->Prop,(∀c d,A c d->∃C,C<m/\W (i+1) C c d)/\∀x d,J.Zd i a x d->bT j x f d λl L=>eO l L λb E =>
    if b=true then B l E λv w=>∃s,w D=some (.lst s)/\s.length<sizeLine/\A l (upd w D (.lst (s++[v])))else A l E):=by
 refine⟨λi m f a=>m=n - i/\i<=n/\(∃z,f=σ0.set j z)/\r i a,⟨n,⋯,Us _,⟨none,H.symm⟩,p0⟩,?_⟩;rintro i m f a ⟨rfl,M,⟨z,rfl⟩,p⟩;have o:=ok i a M p;by_cases t:i<n
 ·obtain⟨g,y⟩:=G i a o t;refine .inr ⟨g,λc d=>(∃z,c=σ0.set j z)/\r (i+1) d,λc d q=>⟨n - (i+1),⋯,rfl,t,q.1,q.2⟩,λx d N=>?_⟩;obtain⟨e1,e2⟩:=y x d N;subst e1 e2;simp only[bT,eO,VX,nN];exact u i _ t p
 ·have e:i=n:=by lia
  subst e;exact .inl ⟨stop a o,fin a p⟩
theorem Ey(i:Nat)(c:Hp)(h:XG K c a b)(e:i<b.length):(Itt K a).go i c/\∀x d,(Itt K a).Zd i c x d->d=c/\x=b.getD i .Xi:=by refine⟨⟨b,b[i],h,M1 e⟩,λx d y=>⟨y.1,?_⟩⟩;have q:=y.2 b h;rw[Uc,q];rfl
theorem kJ(i:Nat)(c:Hp)(h:Xm K c a b)(e:i<b.length):(Itl K a).go i c/\∀x d,(Itl K a).Zd i c x d->d=c/\x=b.getD i .Xi:=by refine⟨⟨b,b[i],h,M1 e⟩,λx d y=>⟨y.1,?_⟩⟩;have q:=y.2 b h;rw[Uc,q];rfl
theorem Ex(i:Nat)(a:Hp)(c:i<n):(Itr 0 n).go i a/\∀x b,(Itr 0 n).Zd i a x b->b=a/\x=.int i:=by refine⟨c,λx b y=>⟨y.1,?_⟩⟩;have q:=y.2;rw[q];simp
section
def LB(K:vc):V->V->Hp->VK->Prop:=λo i H Q=>∃p a k v,o=.ref p/\i=.int k/\0<=k/\Xm K H p a/\a[k.toNat]?=some v/\Q v H
theorem yE:K6 X (LB X.K):=by intro b s z H o i A B Q I d e h;obtain⟨p,f,k,v,g,j,l,m,c,q⟩:=h;subst g j;cases d;obtain⟨t,rfl⟩:=e;obtain⟨n,r,u,C⟩:=I.list m;obtain⟨w,x,a⟩:=r.get c;have E:=r.length;have y:k.toNat<f.length:=(T9.mp c).1;have G:=mz;exact wpAny_getItem_list u.isList l ⋯ (by simpa using x) ⟨v,H,I,a,q⟩
theorem HB:Ye X (binaryOp .Mult) (rI IntMulOk λi j=>.int (i*j)):=opI λ_ _ _ _ _ _ _ a q=>mul_int q a
end
theorem wx(h:j<n):ixN n (j:Int)=some j:=by unfold ixN;rw[TR ⋯,TR ⋯];simp
theorem at0{α:Type}{x:α}{r:List α}:atI (x::r) 0=some x:=jN (j:=0) rfl
theorem at1{α:Type}{x y:α}{r:List α}:atI (x::y::r) 1=some y:=jN (j:=1) rfl
theorem at2{α:Type}{x y z:α}{r:List α}:atI (x::y::z::r) 2=some z:=jN (j:=2) rfl
theorem ix0:ixN (n+1) 0=some 0:=wx (j:=0) ⋯
theorem ix1:ixN (n+2) 1=some 1:=wx (j:=1) ⋯
theorem ix2:ixN (n+3) 2=some 2:=wx (j:=2) ⋯
theorem gX:∀a:List Int,Xd K H (a.map D.int) (a.map V.int)
 |[]=>Xd.nil
 |n::a=>Xd.cons (Dat.Xs n) (gX a)
theorem uR:∀a:List Int,XA (a.map D.int)=true
 |[]=>by unfold XA;rfl
 |n::a=>by show XA (D.int n::a.map D.int)=true;unfold XA;rw[uR a];unfold Yj;rfl
theorem o8:∀a:List Int,Xn (a.map D.int)=0
 |[]=>by unfold Xn;rfl
 |n::a=>by show Xn (D.int n::a.map D.int)=0;unfold Xn;rw[o8 a];unfold gE;rfl
theorem Eh(a:eH):XO (a.map D.int) []=a.isEmpty:=by
 cases a with
 |nil=>unfold XO;rfl
 |cons n a=>show XO (D.int n::a.map D.int) []=false;unfold XO;rfl
theorem cA(h:n<=1000):n<=sizeLine:=UJ (bP h)
def Scr(K:vc)(H:Hp)(a:Addr)(c:eH):Prop:=(∃o,H a=some (.Yx o (.lst (c.map V.int)))) \/
 ∃(o:Obj)(b:Array Value)(n:Nat),K.lookup a=some o/\o.cls=.type "list"/\o.dict=none/\o.data=.seq b n/\b.size<=sizeLine/\Vals (c.map V.int) b.toList
theorem Scr.YC(h:Scr K H a b):Xm K H a (b.map V.int):=by
 rcases h with⟨o,h⟩|h
 ·exact .inl (.inr ⟨o,h⟩)
 ·exact .inr h
theorem Scr.but(h:Scr K H a b)(e:Xv t H c)(d:H t=some (.lst zs)):Scr K c a b:=by
 rcases h with⟨o,h⟩|h
 ·exact .inl ⟨o,e _ _ (λz=>by rw[z,d]at h;cases h) h⟩
 ·exact .inr h
theorem Scr.same(h:Scr K H a b)(e:Xe H c):Scr K c a b:=by
 rcases h with⟨o,h⟩|h
 ·exact .inl ⟨o,e _ _ h⟩
 ·exact .inr h
theorem KR{b:eH}(c:GG H)(h:Xm K H a (b.map V.int)):Scr K H a b:=by
 rcases h with(h|⟨o,h⟩)|h
 ·rcases c a with z|⟨o,d,z⟩
  ·rw[h]at z;cases z
  ·rw[h]at z;cases z
 ·exact .inl ⟨o,h⟩
 ·exact .inr h
def sR(K:vc):Sp:=λd H Q _=>∃(a t:Addr)(e:eH)(m p q:Int)(rest:List V),d=[.ref a,.ref t,.int m]/\Scr K H a e/\H t=some (.lst (.int p::.int q::rest))/\0<=p/\0<m/\m<=1000000 /\
 ∀(r:Int)(b:Hp)(c f:Int),Xv t H b->b t=some (.lst (.int c::.int f::rest))->0<=c->0<=r->r<m->Q (.int r) b
def RE(K:vc)(t:TE)(c:St)(H:Hp)(d:D):Prop:=∀a,Xe H a->∀Q:VK,(∀v b,Xe a b->Dat K b d v->Q v b)->t c a Q
def RT(t:TT)(d:St)(H:Hp)(b:Bool):Prop:=∀a,Xe H a->∀Q:Bool->Hp->Prop,(∀c,Xe a c->Q b c)->t d a Q
def RA(K:vc)(t:TA)(d:St)(H:Hp)(e:List D):Prop:=∀a,Xe H a->∀Q:List V->Hp->Prop,(∀c b,Xe a b->Xd K b e c->Q c b)->t d a Q
section
variable{K:vc}
theorem RE.mono(h:RE K t a H d)(e:Xe H b):RE K t a b d:=λc s Q q=>h c (e.trans s) Q q
theorem RA.mono(h:RA K tA a H b)(e:Xe H c):RA K tA a c b:=λd s Q q=>h d (e.trans s) Q q
theorem RT.mono(h:RT a c H b)(e:Xe H d):RT a c d b:=λf s Q q=>h f (e.trans s) Q q
theorem RE.as(h:RE K t a H d)(e:d=b):RE K t a H b:=e▸h
theorem RT.as(h:RT a d H b)(e:b=c):RT a d H c:=e▸h
theorem RE.use(h:RE K t b H d)(q:∀v a,Xe H a->Dat K a d v->Q v a):t b H Q:=h H (Xe.refl H) Q q
theorem RT.use(h:RT c d H b)(q:∀a,Xe H a->Q b a):c d H Q:=h H (Xe.refl H) Q q
theorem RA.use(h:RA K tA c H d)(q:∀b a,Xe H a->Xd K a d b->Q b a):tA c H Q:=h H (Xe.refl H) Q q
theorem aF:RE K (tC (.int i)) a H (.int i):=λb _ Q q=>q _ _ (Xe.refl _) (Dat.Xs i)
theorem aY:RE K (tC (.str x)) a H (.str x):=λb _ Q q=>q _ _ (Xe.refl _) (Dat.XN x)
theorem fN:RE K (tC (.bl b)) a H (.bl b):=λc _ Q q=>q _ _ (Xe.refl _) (Dat.YE b)
theorem aB(h:Dat K H d v)(e:σ[k]?=some (some v):=by rfl):RE K (cV k) σ H d:=λa s Q q=>⟨v,e,q _ _ (Xe.refl _) (s.dat h)⟩
theorem aJ:RA K dC a H []:=λb _ Q q=>q _ _ (Xe.refl _) Xd.nil
theorem aA(h:RE K t a H d)(r:RA K tA a H e):RA K (bM t tA) a H (d::e):=λf s Q q =>
 h f s _ λv g b i=>r g (s.trans b) _ λl m c j=>q _ _ (b.trans c) (Xd.cons (c.dat i) j)
theorem a9(h:RA K tA d H a)(e:a.length<=1000:=by simp):RE K (Gq tA) d H (.tup a):=λf s Q q =>
 h f s _ λi j g b=>⟨by rw[<- b.length];exact cA e,λp c=>q _ _ (g.trans (aH c _)) (Dat.tupI (XG.of aD) ((aH c _).Xo b))⟩
theorem FZ{g:Int->Int}(h:RE K t a H (.int i)):RE K (tUn (rU λi=>.int (g i)) t) a H (.int (g i)):=λb s Q q =>
 h b s _ λv e c d=>⟨i,d.Xp,q _ _ c (Dat.Xs _)⟩
theorem A3(c:RE K e a H (.int i))(f:RE K l a H (.int j))(m:∀H,Dat K H d (g i j)):RE K (Yn (rI0 g) e l) a H d:=λn s Q q =>
 c n s _ λv p b r=>f p (s.trans b) _ λw x t u=>⟨i,j,r.Xp,u.Xp,q _ _ (b.trans t) (m _)⟩
theorem A4(c:RE K e a H (.int i))(f:RE K l a H (.int j))(m:C i j)(n:∀H,Dat K H d (g i j)):RE K (Yn (rI C g) e l) a H d:=λp s Q q =>
 c p s _ λv r b t=>f r (s.trans b) _ λw y u x=>⟨i,j,t.Xp,x.Xp,m,q _ _ (b.trans u) (n _)⟩
theorem fI(b:RE K c a H (.int i))(d:RE K e a H (.int j)):RE K (Yn (rI0 λi j=>.int (i+j)) c e) a H (.int (i+j)):=A3 b d λ_=>Dat.Xs _
theorem KL(b:RE K c a H (.int i))(d:RE K e a H (.int j)):RE K (Yn (rI0 λi j=>.int (i - j)) c e) a H (.int (i - j)):=A3 b d λ_=>Dat.Xs _
theorem eR{i:Int}{p:Int->Int->Bool}(b:RE K c a H (.int i))(d:RE K e a H (.int j)):RE K (Yn (rI0 λi j=>.bl (p i j)) c e) a H (.bl (p i j)):=A3 b d λ_=>Dat.YE _
theorem iY(c:RE K d a H (.int i))(f:RE K g a H (.int j)):RE K (Yn rEq d g) a H (.bl (decide (i=j))):=λl s Q q =>
 c l s _ λv m b n=>f m (s.trans b) _ λw t p r=>by
  rw[n.Xp,r.Xp];refine⟨rfl,?_⟩;have e:decide (V.int i=V.int j)=decide (i=j):=by by_cases z:i=j<;>simp[z]
  rw[e];exact q _ _ (b.trans p) (Dat.YE _)
theorem mD(c:RE K d a H (.int i))(f:RE K g a H (.int j)):RE K (Yn rNe d g) a H (.bl (!decide (i=j))):=λl s Q q =>
 c l s _ λv m b n=>f m (s.trans b) _ λw t p r=>by
  rw[n.Xp,r.Xp];refine⟨rfl,?_⟩;have e:decide (V.int i=V.int j)=decide (i=j):=by by_cases z:i=j<;>simp[z]
  rw[e];exact q _ _ (b.trans p) (Dat.YE _)
theorem cC(c:RE K d a H (.str x))(f:RE K g a H (.str y)):RE K (Yn rEq d g) a H (.bl (decide (x=y))):=λi s Q q =>
 c i s _ λv j b l=>f j (s.trans b) _ λw p m n=>by
  rw[l.Xz,n.Xz];refine⟨rfl,?_⟩;have e:decide (V.str x=V.str y)=decide (x=y):=by by_cases z:x=y<;>simp[z]
  rw[e];exact q _ _ (b.trans m) (Dat.YE _)
theorem bK{b:List D}{k:Nat}(i:RE K j c H (.tup b))(l:RE K m c H (.int k))(e:b[k]?=some d):RE K (Yn (rK K) j m) c H d:=λn s Q q =>
 i n s _ λv p f r=>l p (s.trans f) _ λw C g t=>by obtain⟨a,u,y,z,A⟩:=(g.dat r).XC;obtain⟨x,ex,B⟩:=A.get e;exact⟨a,u,k,x,y,t.Xp,z,jN ex,q _ _ (f.trans g) B⟩
theorem eT(h:RE K t c H (.tup d)):RE K (Zm (λe H Q=>∃p b,e=[.ref p]/\(Xm K H p b\/XG K H p b)/\Q (.int b.length) H) (bM t dC)) c H (.int d.length):=λf s Q q =>
 h f s _ λv r g i=>by obtain⟨a,j,l,m,n⟩:=i.XC;subst l;refine⟨a,j,rfl,.inr m,?_⟩;rw[<- n.length];exact q _ _ g (Dat.Xs _)
theorem cP(h:RE K t a H d):RE K (Zm (λb H Q=>∃x d,b=[x,.ty T]/\Dat K H d x/\Q (.bl (pQ d T)) H) (bM t (bM (tC (.ty T)) dC))) a H (.bl (pQ d T)):=λc s Q q =>
 h c s _ λv g e f=>⟨v,d,rfl,f,q _ _ e (Dat.YE _)⟩
theorem a8(h:RA K tA b H a)(e:R a d):RE K (f6 (XI K R) [] E tA) b H d:=λc s Q q =>
 h c s _ λl m f g=>⟨a,d,by rw[Ub];exact g,e,λv n i j=>q _ _ (f.trans i) j⟩
theorem iA(h:RE K t b H (.str k))(c:ky K a T):RE K (Yn (λx y H Q=>∃k a T,x=.str k/\y=.ref a/\ky K a T/\Q (.bl (KTD.inKeys k T)) H) t (tC (.ref a))) b H (.bl (KTD.inKeys k T)):=λd s Q q =>
 h d s _ λv g e f=>⟨k,a,T,f.Xz,rfl,c,q _ _ e (Dat.YE _)⟩
theorem zw(h:RE K t b H (.str k))(c:ky K a T)(d:(T.all λp=>KTD.plain p.2)=true)(e:KTD.datumAt k T=some (.flat (.int i))):RE K (Yn (FN K) (tC (.ref a)) t) b H (.int i):=λf s Q q =>
 h f s _ λv l g j=>⟨a,k,T,i,rfl,j.Xz,c,d,e,q _ _ g (Dat.Xs _)⟩
theorem LP:HT.XZ (n+1) 0 (some 1)=1:=by have:=HT.Zy (n+1) 0 1;simpa using this
theorem Md(v:V)(r:List V):tP (v::r) (some 1) none=r:=by unfold tP;rw[TQ,LP,HT.sIx_none];simp
theorem oH(h:RE K t c H (.tup (u::d))):RE K (tSl (Kx K) t (vM (tC (.int 1))) CC) c H (.tup d):=λe s Q q =>
 h e s _ λv x f g=>by
  obtain⟨a,y,i,j,l⟩:=g.XC;obtain⟨w,r,m,A,n⟩:=l.Xx;subst i m;refine⟨1,rfl,a,w::r,rfl,j,λz=>?_,λp b=>?_⟩
  ·rw[TQ,LP]at z;exact absurd z.1 ⋯
  ·rw[Md];exact q _ _ (f.trans (aH b _)) (Dat.tupI (XG.of aD) ((aH b _).Xo n))
theorem dR(e:RE K f d H (.bl b))(g:b=true->RE K i d H (.bl c)):RE K (Jg f i) d H (.bl (b&&c)):=λj s Q q =>
 e j s _ λv l a m=>⟨b,m.Zf,by
  cases b with
  |true=>rw[TR rfl];exact g rfl l (s.trans a) _ λw r n p=>q _ _ (a.trans n) p
  |false=>rw[TN TH];exact q _ _ a (Dat.YE _)⟩
theorem Ck(e:RE K f d H (.bl b))(g:b=false->RE K i d H (.bl c)):RE K (LY f i) d H (.bl (b||c)):=λj s Q q =>
 e j s _ λv l a m=>⟨b,m.Zf,by
  cases b with
  |true=>rw[TR rfl];exact q _ _ a (Dat.YE _)
  |false=>rw[TN TH];exact g rfl l (s.trans a) _ λw r n p=>q _ _ (a.trans n) p⟩
theorem FX(h:RE K t a H (.bl b)):RE K (Ji t) a H (.bl (!b)):=λc s Q q =>
 h c s _ λv f d e=>⟨b,e.Zf,q _ _ d (Dat.YE _)⟩
theorem nv{i:Int}{p r:Int->Int->Bool}(f:RE K g b H (.int i))(l:RE K m b H (.int j))(n:p i j=true->RE K t b H (.int k)) :
  RE K (xS (rI0 λi j=>.bl (p i j)) (rI0 λi j=>.bl (r i j)) g m t) b H (.bl (p i j&&r j k)):=λu s Q q =>
 f u s _ λv x a y=>l x (s.trans a) _ λw A c e=>by
  refine⟨i,j,y.Xp,e.Xp,p i j,rfl,?_⟩
  cases d:p i j with
  |true =>simp only[VX,Va];exact n d A (s.trans (a.trans c)) _ λz E B C=>⟨j,k,e.Xp,C.Xp,q _ _ (a.trans (c.trans B)) (by rw[d];exact Dat.YE _)⟩
  |false =>simp only[WZ,Xa,VD];exact q _ _ (a.trans c) (by rw[d];exact Dat.YE _)
theorem FV(h:RT i c H b)(j:b=true->RE K l c H d)(m:b=false->RE K n c H d):RE K (tIf i l n) c H d:=λp s Q q =>
 h p s _ λg a=>by
  cases b with
  |true=>rw[TR rfl];exact j rfl g (s.trans a) _ λw r e f=>q _ _ (a.trans e) f
  |false=>rw[TN TH];exact m rfl g (s.trans a) _ λw r e f=>q _ _ (a.trans e) f
theorem aM(h:RE K t a H (.bl b)):RT (nO t) a H b:=λc s Q q=>h c s _ λv f d e=>⟨b,e.Zf,q _ d⟩
theorem bC(h:RE K t a H (.bl b)):RT (λa H Q=>t a H λx c=>∃k,CF K x c k/\Q k c) a H b:=λd s Q q=>h d s _ λv g e f=>by rw[f.Zf];exact⟨b,rfl,q _ e⟩
theorem bV(h:RT a c H b):RT (KZ a) c H (!b):=λd s Q q=>h d s _ λf e=>q _ e
theorem dO(h:RT e d H b)(f:b=false->RT g d H c):RT (tOr e g) d H (b||c):=λi s Q q=>h i s _ λj a=>by
 cases b with
 |true=>rw[TR rfl];exact q _ a
 |false=>rw[TN TH];exact f rfl j (s.trans a) _ λm l=>q _ (a.trans l)
theorem bL{b:Ends}(h:RE K t σ H d)(q:∀v a,Xe H a->Dat K a d v->b.rt v a):Gp t b σ H:=h.use q
theorem KN{b:Ends}(h:RE K t c H d)(q:∀v a,Xe H a->Dat K a d v->b.nx (c.set k (some v)) a):lV t (bT k) b c H:=h.use q
theorem i4(h:RT e c H b)(f:b=true->∀a,Xe H a->g d c a)(i:b=false->∀a,Xe H a->j d c a):sV e g j d c H:=h.use λa s=>by
 cases b with
 |true=>rw[TR rfl];exact f rfl a s
 |false=>rw[TN TH];exact i rfl a s
end
theorem bY:bootBuiltins "len"=some (.builtin "len"):=⋯
theorem bB:bootBuiltins "isinstance"=some (.builtin "isinstance"):=⋯
theorem qD:bootBuiltins "all"=some (.builtin "all"):=⋯
theorem JJ:bootBuiltins "any"=some (.builtin "any"):=⋯
theorem D3:bootBuiltins "sum"=some (.builtin "sum"):=⋯
theorem CH:bootBuiltins "sorted"=some (.builtin "sorted"):=⋯
theorem D1:bootBuiltins "int"=some (.type "int"):=⋯
theorem GP:bootBuiltins "bool"=some (.type "bool"):=⋯
theorem D2:bootBuiltins "str"=some (.type "str"):=⋯
theorem fA:bootBuiltins "tuple"=some (.type "tuple"):=⋯
theorem fW:bootBuiltins "list"=some (.type "list"):=⋯
theorem mO:bootBuiltins "range"=some (.type "range"):=⋯
theorem JK:bootBuiltins "set"=some (.type "set"):=⋯
theorem GQ:bootBuiltins "dict"=some (.type "dict"):=⋯
theorem JL:bootBuiltins "zip"=some (.type "zip"):=⋯
theorem o5:bootBuiltins "reversed"=some (.type "reversed"):=⋯
theorem tO:bootBuiltins "ValueError"=some (.type "ValueError"):=⋯
theorem oJ(h:RA K tA e H c)(q:∀p b a,Xe H a->a p=none->Xd K a c b->Q (.ref p) (upd a p (.lst b)))(f:c.length<=1000:=by simp):Iw tA e H Q :=
 h.use λb a g d=>⟨by rw[<- d.length];exact cA f,λp i=>q p b a g i d⟩
theorem jB{K:PySem.W.Frag}{e:Hp}{Q:VK}(O:∀i a,Xe e a->i<n->J.go i a/\∀x q,J.Zd i a x q->q=a/\x=item i)(stop:∀a,Xe e a->J.stop n a)
  (T:σ0.set j none=σ0) (s:List D) (hn:s.length=n) (C:n<=1000) (w:∀i d,s[i]?=some d->RE K U (σ0.set j (some (item i))) e d)
  (fin:∀l c a,e l=none->Xe e a->a l=some (.lst c)->Xd K a s c->Q (.ref l) a) (l:Addr) (E:e l=none) :
  ∃W:Nat->Nat->St->Hp->Prop,(∃m,W 0 m σ0 (upd e l (.lst [])))/\∀i m y a,W i m y a ->
   (J.stop i a/\Q (.ref l) a) \/
   (J.go i a/\∃G:St->Hp->Prop,(∀r q,G r q->∃L,L<m/\W (i+1) L r q)/\∀x q,J.Zd i a x q->bT j x y q λf Y=>eO f Y λb M =>
    if b=true then U f M λv u=>∃c,u l=some (.lst c)/\c.length<sizeLine/\G f (upd u l (.lst (c++[v])))else G f M):=by
 refine mr (λa=>Xe e a) O stop T l (λi a=>Xe e a/\∃c,a l=some (.lst c)/\Xd K a (s.take i) c) ?_ ?_ ?_ ?_
 ·exact⟨aH E _,[],aD,by rw[UM];exact Xd.nil⟩
 ·intro i a _ p;exact p.1
 ·intro i a hi ⟨B,c,H,z⟩;have A:i<s.length:=by lia
  refine((w i s[i] (M1 A)).mono B).use λv u I q4=>?_;have N:=I _ _ H;have lys:c.length=i:=by rw[<- z.length,Uk];lia
  refine⟨c,N,bP ⋯,⟨_,rfl⟩,λb o C=>?_,c++[v],aD,?_⟩
  ·rw[aI (aK C E)];exact I _ _ (B _ _ C)
  ·have g:bW K u (upd u l (.lst (c++[v]))):=Xv.grow (t:=l) (Xv.upd (Xe.refl u).but) N aD;rw[Um,M1 A];exact Xd.append (Xd.mono g _ (I.Xo z)) (Xd.cons (Dat.mono g _ q4) Xd.nil)
 ·intro a ⟨B,c,H,z⟩;rw[Vq ⋯]at z;exact fin l c a E B H z
theorem aS{K:vc}(h:RT f c H b)(g:b=true->∀a,Xe H a->i {d with nx:=e d} c a)(j:b=false->∀a,Xe H a->e d c a):bA (sV f i zV) e d c H :=
 i4 h g j
theorem cY(h:RE K t b H d)(q:∀v a,Xe H a->Dat K a d v->c e (b.set k (some v)) a):bA (lV t (bT k)) c e b H:=h.use q
theorem dS(h:b a H λx c=>d e (a.set k (some x)) c):bA (lV b (bT k)) d e a H:=h
theorem fJ(h:b a H λ_ c=>d e a c):bA (vK b) d e a H:=h
theorem F4(h:Q v H):tC v a H Q:=h
theorem gS{a:Ends}(h:b c H a.rt):Gp b a c H:=h
theorem cQ(h:b {a with nx:=c a} d H):bA b c a d H:=h
theorem uZ(h:RE K B p H (.tup cs))(Y:cs.length<=1000)(f:List D)(hl:f.length=cs.length)(C:(mk p).set j none=mk p)
  (g:∀w (i:Nat) c v d,Xe H w->cs[i]?=some c->f[i]?=some d->Dat K w c v->RE K E ((mk p).set j (some v)) w d)
  (fin:∀l r b,H l=none->Xe H b->b l=some (.lst r)->Xd K b f r->Q (.ref l) b):fO (EL K B) mk (bT j) eO E p H Q:=by
 refine h.use λv4 G x I=>?_;obtain⟨a,t,e,y,A⟩:=I.XC;subst e;have l4:=A.length;refine⟨a,rfl,⟨t,y⟩,?_⟩;refine jB (K:=K) (Q:=Q) (n:=t.length) (item:=λi=>t.getD i .Xi) (λi b s u=>Ey i b (s.sqT y) u) (λb s=>⟨t,s.sqT y,Tu _⟩) C f ⋯ ⋯ (λi d u=>?_) (λl r L z M=>fin l r L (x.free z) (x.trans M));have N:i<f.length:=(T9.mp u).1;have m:i<cs.length:=by lia
 obtain⟨O,T,U⟩:=A.get (M1 m);have q:=g G i cs[i] O d x (M1 m) u U;rw[Uc,T];exact q
theorem iK{a:St}(h:Q (a.set j (some v)) H):bT j v a H Q:=h
theorem xx(M:St->Hp->Prop)(e:∀a b,M a b->d c a b)(h:(∀a b,M a b->d c a b)->f {c with nx:=d c} g H):bA f d c g H:=h e
theorem jC(b:∀a H Q E,¬ c a H Q E):Xj P w K mg base d k f e g c :=
 ⟨λa H Q E h=>absurd h (b a H Q E),λA outer s H args i a Q E _ _ _ _ h=>absurd h (b a H Q E)⟩
theorem A0(n:Nat)(h:∀R:List V->Hp->Prop,R [.int n] H->tA a H R)(s:n<=1000)(q:(mk a).set j none=mk a)(b:Addr->Nat->Hp->Prop)
  (p0:∀l,H l=none->b l 0 (upd H l (.lst [])))
  (c:∀l i G,H l=none->i<n->b l i G->r ((mk a).set j (some (.int i))) G λv g=>∃d,g l=some (.lst d)/\d.length<sizeLine/\(∃z,(mk a).set j (some (.int i))=(mk a).set j z)/\b l (i+1) (upd g l (.lst (d++[v]))))
  (fin:∀l G,H l=none->b l n G->Q (.ref l) G):fO (EK tA) mk (bT j) eO r a H Q:=by
 refine h _ ⟨n,rfl,⋯,⋯,λl e=>?_⟩;rw[VT];exact mr (λ_=>True) (item:=λi=>.int i) (λi m _ f=>Ex i m f) (λm _=>Tu _) q l (b l) (p0 l e) (λ_ _ _ _=>trivial) (λi G f p=>c l i G e f p) (λG p=>fin l G e p)
theorem iX(h:a b H λx c=>r [x] c Q):Zm r (bM a dC) b H Q:=h
theorem lN(h:RA K tA i G t)(m:G l=some (.lst c))(z:c.length<=900)
  (q:∀u f,Xv l G f->f l=some (.lst (c++u))->Xd K f t u->w x i f) (y:i[j]?=some (some (.ref l)):=by rfl) (A:t.length<=100:=by simp):bA (vK (tBM K "list" xn (cV j) (bM (Iw tA) dC))) w x i G:=by
 refine⟨_,y,.inl ⟨rfl,_,Xm.of m⟩,?_⟩;refine oJ h (λp a d n r v=>?_) ⋯;have s:l≠p:=aK (n _ _ m) r;have e:upd d p (.lst a) l=some (.lst c):=by rw[aI s];exact n _ _ m
 have B:=v.length;refine⟨l,p,c,a,rfl,rfl,e,aD,cA ⋯,?_⟩;have b:Xv l (upd d p (.lst a)) (upd (upd d p (.lst a)) l (.lst (c++a))):=Xv.upd (Xe.refl _).but;have g:bW K (upd d p (.lst a)) (upd (upd d p (.lst a)) l (.lst (c++a))):=b.grow e aD;exact q a _ ((n.trans (aH r _)).but.trans b) aD (Xd.mono g _ ((aH r _).Xo v))
theorem jl(h:RE K f c H (.tup [d,e]))(q:∀v w b,Xe H b->Dat K b d v->Dat K b e w->g l ((c.set i (some v)).set j (some w)) b) :
  bA (lV f (As K 2 (iQ (bT i) (iQ (bT j) CW)))) g l c H :=
 h.use λx m n p=>by obtain⟨a,y,e1,r,s⟩:=p.XC;obtain⟨v,w,e2,t,u⟩:=gD s;subst e1 e2;exact⟨a,_,rfl,r,rfl,v,_,rfl,w,_,rfl,rfl,q v w m n t u⟩
noncomputable def ph:Expr->Bool
 | .Starred ..=>false
 |_=>true
theorem DD(h:ph e=true):starEach (e::a) env=(false,eval e env)::starEach a env:=by cases e<;>first|rfl|cases h
theorem aU(a:PE X e b)(c:PA X d t)(h:ph e=true:=by rfl):PA X (e::d) (bM b t):=bF a c (DD h)
theorem tE{bs:List Bool}:Vals (bs.map V.bl) a->a=bs.map Value.bool:=by
 intro h
 induction bs generalizing a with
 |nil=>cases h;rfl
 |cons b bs c =>
  cases h with
  |cons r t=>cases r;rw[c t];rfl
theorem FO(bs:List Bool)(d:Bool):(List.range bs.length).map (λi=>(bs[i]?).getD d)=bs:=by
 apply List.ext_getElem
 ·simp
 ·intro i a b;simp at a;simp[a]
section
theorem kD{X:Cx}(w:X.calm=true):gB X (.builtin "all") (λj H Q=>∃(l:Addr)(bs:List Bool),j=[.ref l]/\Xm X.K H l (bs.map V.bl)/\Q (.bl (bs.all id)) H):=by
 intro m s L H j M Q I r h;obtain⟨l,bs,rfl,y,q⟩:=h;obtain⟨u,rfl,z⟩:=fP r;cases z;obtain⟨c,B,p,N⟩:=I.list y;have n:=tE B;have d:=p.isList;have f:l<s.heap.objs.size:=by obtain⟨_,e,_⟩:=d;exact TV e
 refine call_all_walk (VS d ?_)
 refine⟨s.heap.objs.size,[s.heap.objs.size,l],[s.heap.objs.size],c.toArray.size,_,_,λi=>(bs[i]?).getD true,rfl,Walks.list (A:=X.A.in1) (I.ok.hd w) _ l (Ud f) c.toArray,
  ⟨⟨_,T3 _ rfl,rfl,rfl⟩,d.push _⟩,λi v O T U C t=>?_,λY E hk=>?_⟩
 ·subst n;have a:(bs.map Value.bool)[i]?=some v:=by simpa using C
  rw[Tv]at a
  cases g:bs[i]? with
  |none=>rw[g]at a;cases a
  |some b =>rw[g]at a;cases a;simp only[g,Wr]at t;exact UH t
 ·have e:((List.range c.toArray.size).all λi=>(bs[i]?).getD true)=bs.all id:=by
   subst n;rw[TJ,To]
   conv=>rhs;rw[<- FO bs true]
   rw[List.all_map];rfl
  rw[e];exact⟨.bl _,H,I.kept (t':=E) λb x e=>hk b x (λG=>by rw[Uj.mp G]at e;exact UI _ (TV e)) (Tp _ e),rfl,q⟩
theorem D7{X:Cx}(w:X.calm=true):gB X (.builtin "any") (λj H Q=>∃(l:Addr)(bs:List Bool),j=[.ref l]/\Xm X.K H l (bs.map V.bl)/\Q (.bl (bs.any id)) H):=by
 intro m s L H j M Q I r h;obtain⟨l,bs,rfl,y,q⟩:=h;obtain⟨u,rfl,z⟩:=fP r;cases z;obtain⟨c,B,p,N⟩:=I.list y;have n:=tE B;have d:=p.isList;have f:l<s.heap.objs.size:=by obtain⟨_,e,_⟩:=d;exact TV e
 refine call_any_walk (VS d ?_)
 refine⟨s.heap.objs.size,[s.heap.objs.size,l],[s.heap.objs.size],c.toArray.size,_,_,λi=>(bs[i]?).getD false,rfl,Walks.list (A:=X.A.in1) (I.ok.hd w) _ l (Ud f) c.toArray,
  ⟨⟨_,T3 _ rfl,rfl,rfl⟩,d.push _⟩,λi v O T U C t=>?_,λY E hk=>?_⟩
 ·subst n;have a:(bs.map Value.bool)[i]?=some v:=by simpa using C
  rw[Tv]at a
  cases g:bs[i]? with
  |none=>rw[g]at a;cases a
  |some b =>rw[g]at a;cases a;simp only[g,Wr]at t;exact UH t
 ·have e:((List.range c.toArray.size).any λi=>(bs[i]?).getD false)=bs.any id:=by
   subst n;rw[TJ,To]
   conv=>rhs;rw[<- FO bs false]
   rw[Xb];rfl
  rw[e];exact⟨.bl _,H,I.kept (t':=E) λb x e=>hk b x (λG=>by rw[Uj.mp G]at e;exact UI _ (TV e)) (Tp _ e),rfl,q⟩
end
structure FunD(K:vc)(x qual:Str)(st:Stmt)(f:Addr)(fd:FuncData)(T:Addr)(ds:yw):Prop where
 ex:∃(oc:Value)(od:Option Addr)(kV doc pm:Value)(an:Option Addr)(cdv ct:Value)(osl:Array (Option Value)),
  fd=W.fnOf x qual (iI st) (eY st) (aG st) (.ref T) kV doc pm an cdv ct/\K.lookup f=some ⟨oc,od,.func fd,osl⟩/\W.codeIn K cdv qual=true
 kp:W.keepIn K (.ref f)=true
 df:∃(o:Obj)(n:Nat),K.lookup T=some o/\o.data=.seq ds.toArray n
section
variable{K:vc}
theorem FunD.ok{P:Program}{st:Stmt}(F:FunD K x b st f l T r)(S:Xf N i (aG st))(len:∀c H Q E,j c H Q E->c.length=i.length)
  (d:∀(a:Value)(A:Around)(outer:List Env)(s:Shared)(H:Hp)(c:List V)(Q:VK)(E:XK),Xy k (A.deeper (envOfC b (aG st) s.heap.objs.size f a))->j c H Q E ->
   ∃t,Y0 (kF X5 P w K mg base N b (aG st) f a A outer s H E).nox (eY st) t/\t {nx:=λ_ m=>Q .Xi m,rt:=Q} (fK N c) H):Xj P w K mg base X5 (k+1) f l i j:=by
 obtain⟨oc,od,kV,doc,u,v,a,ct,n,rfl,lk,e⟩:=F.ex;refine Ep lk e S len λA outer s H c Q E p g=>?_;obtain⟨t,h,q⟩:=d a A outer s H c Q E p g;exact⟨t,h.nox,q⟩
theorem xo(b:RE K c a H (.int i))(d:RE K e a H (.int j))(f:0<j):RE K (Yn (rI (λ_ j=>0<j) λi j=>.int (i%j)) c e) a H (.int (i%j)):=A4 b d f λ_=>Dat.Xs _
theorem KJ(b:RE K c a H (.int i))(d:RE K e a H (.int j))(f:CMul i j):RE K (Yn (rI CMul λi j=>.int (i*j)) c e) a H (.int (i*j)):=A4 b d f λ_=>Dat.Xs _
theorem Cj(b:RE K c a H (.int i))(d:RE K e a H (.int j))(f:Jk i j):RE K (Yn (rI Jk λi j=>.int (i / j)) c e) a H (.int (i / j)):=A4 b d f λ_=>Dat.Xs _
theorem yo:∀{bs:List Bool}{a:List V},Xd K H (bs.map D.bl) a->a=bs.map V.bl
 |[],a,h=>by rw[Xd.YJ h];rfl
 |b::bs,a,h=>by obtain⟨v,r,e,c,d⟩:=h.Xx;rw[e,c.Zf,yo d];rfl
theorem BI:∀{b:e9}{a:List V},Xd K H (b.map D.str) a->a=b.map V.str
 |[],a,h=>by rw[Xd.YJ h];rfl
 |x::b,a,h=>by obtain⟨v,r,e,c,d⟩:=h.Xx;rw[e,c.Xz,BI d];rfl
theorem GW(x y:Str):eqV (.str x) (.str y)=decide (x=y):=by unfold eqV;by_cases h:x=y<;>simp[h]
theorem wu(x:Str):∀a:List Str,inV (.str x) (a.map V.str)=decide (x∈a)
 |[]=>by simp[inV]
 |y::a=>by
  have b:=wu x a;unfold inV at b ⊢;rw[T7,Vm,b,GW];by_cases h:y=x
  ·subst h;simp
  ·have c:¬ x=y:=λz=>h z.symm;simp[h,c]
theorem uL(a:e9):(a.map V.str).all lY=true:=by rw[U4];intro v b;obtain⟨y,_,rfl⟩:=UB.mp b;rfl
theorem A2{ys:e9}(d:RE K f b H (.str x))(g:RE K i b H (.tup (ys.map D.str))):RE K (Yn (rIn K false) f i) b H (.bl (decide (x∈ys))):=λj s Q q =>
 d j s _ λv l c m=>g l (s.trans c) _ λw y n p=>by obtain⟨a,z,r,t,u⟩:=p.XC;have e:=BI u;subst e;rw[m.Xz];refine⟨a,_,r,.inr t,rfl,uL ys,?_⟩;rw[wu];exact q _ _ (c.trans n) (Dat.YE _)
theorem Ds{ys:e9}(d:RE K f b H (.str x))(g:RE K i b H (.tup (ys.map D.str))):RE K (Yn (rIn K true) f i) b H (.bl (!decide (x∈ys))):=λj s Q q =>
 d j s _ λv l c m=>g l (s.trans c) _ λw y n p=>by obtain⟨a,z,r,t,u⟩:=p.XC;have e:=BI u;subst e;rw[m.Xz];refine⟨a,_,r,.inr t,rfl,uL ys,?_⟩;rw[wu];exact q _ _ (c.trans n) (Dat.YE _)
theorem xq(c:RE K d a H (.str x))(f:RE K g a H (.str y)):RE K (Yn rNe d g) a H (.bl (!decide (x=y))):=λi s Q q =>
 c i s _ λv j b l=>f j (s.trans b) _ λw p m n=>by
  rw[l.Xz,n.Xz];refine⟨rfl,?_⟩;have e:decide (V.str x=V.str y)=decide (x=y):=by by_cases z:x=y<;>simp[z]
  rw[e];exact q _ _ (b.trans m) (Dat.YE _)
theorem Ca(g:Y0 X body t)(i:X.xe=(λ_ _=>False):=by rfl):PS X (.Try body (h::r) [] [] j) t:=by
 intro a s l H D I q;have w:=g a s l H D I q;rw[i]at w;refine wpAny_Try_except (UC w (λf d b=>?_) λe d z=>z.elim)
 cases f with
 |next =>obtain⟨c,m,n,p⟩:=b;exact aO a d c m D n p
 |ret u=>exact b
 |brk=>exact b
 |cont=>exact b
theorem Fo:Ye X (compareOp .LtE) (λx y H Q=>∃i j:Str,x=.str i/\y=.str j/\Q (.bl (!decide (j.cps.toList<i.cps.toList))) H):=by intro a s d H x y v u Q I b c h;obtain⟨i,j,rfl,rfl,q⟩:=h;obtain⟨t,rfl⟩:=b;obtain⟨e,rfl⟩:=c;refine PySem.P.le_str ?_;exact⟨.bl _,H,I,rfl,q⟩
noncomputable def Its(x:Str):It:=⟨λi _=>i<x.cps.size,λi H v a=>a=H/\∃c,x.cps[i]?=some c/\v=.str ⟨#[c]⟩,λi _=>i=x.cps.size⟩
theorem vN{K:PySem.W.Frag}{x:Str}(U:["enumerate","zip","dict_itemiterator","dict_reverseitemiterator","odict_iterator","itertools.zip_longest","itertools.pairwise"].contains n=false)
  (W:∀A:Around,A.handled=none->Walks P w A it [it] [it] x.cps.size (SignAt x) (λi h=>h.IsStrIter it n x t i))
  (self:∀(A:Around)(i:Nat)(s:Shared)(Q:qf)(E:qf),s.heap.IsStrIter it n x t i->Q (.ref it) s->wpAny (model P w) A (pyIter (.ref it)) Q E s) :
  lP P w K tg (Its x) [it] it (λi h=>h.IsStrIter it n x t i) where
 mem:=by simp
 obj:=λi h st b f=>by
  have e:b=it:=by simpa using f
  subst e;obtain⟨o,e,c,d⟩:=st;exact⟨o,e,λv z=>by rw[d]at z;cases z⟩
 keep:=λi h j st k=>by obtain⟨o,e,r⟩:=st;exact⟨o,k it (by simp) o e,r⟩
 item:=by intro X m p q y i a s T H E I l st B;subst m p q;obtain⟨C,G,Y,L,M,f5⟩:=l it (by simp);refine(W X.A (I.ok.hd y)).item i s _ _ B st λv j N hv g kk=>?_;obtain⟨c,u,hx,rfl⟩:=hv;have I1:Inv X a T H {s with heap:=j,toks:=N}:=I.turned (λb o f e=>kk b o (by simpa using f) e) C G L M f5;obtain⟨o,e,cc,d⟩:=id g;exact⟨_,rfl,qM (s:={s with heap:=j,toks:=N}) e cc d U ⟨.str ⟨#[c]⟩,H,I1,⟨u,rfl⟩,⟨rfl,c,hx,rfl⟩,g,λb f=>(l b f).1⟩⟩
 done:=by intro X m p q y i a s T H E I l st B;subst m p q;obtain⟨C,G,Y,L,M,f5⟩:=l it (by simp);have O:i=x.cps.size:=B;subst O;exact(W X.A (I.ok.hd y)).done s _ _ st λj N eb=>⟨rfl,I.turned (λb o f e=>eb b o (by simpa using f) e) C G L M f5⟩
 self:=self
noncomputable def Lm(a:TE):TI:=λb H R=>a b H λv c=>∃x,v=.str x/\R (Its x) c
theorem Kp(p:PE X l r):PI X g l (Lm r):=by
 intro c s j H R I h;refine Xl (p c s j H _ I h) λv a ⟨C,u,d,y,z⟩=>?_;obtain⟨x,e,q⟩:=z;subst e;obtain⟨t,rfl⟩:=y
 have fin:∀(o:Obj)(n:String),lP X.prog X.w X.K g (Its x) [a.heap.objs.size] a.heap.objs.size (λi h=>h.IsStrIter a.heap.objs.size n x t i)->(a.heap.push o).IsStrIter a.heap.objs.size n x t 0->PIE X c j g R (.ref a.heap.objs.size) {a with heap:=a.heap.push o}:=by
  intro o n T st;refine⟨a.heap.objs.size,[a.heap.objs.size],_,_,u,rfl,d.kept (t':=a.toks) λb o e=>Tp _ e,T,st,λb B=>?_,q⟩;have e:b=a.heap.objs.size:=by simpa using B
  subst e;exact d.ZK (Tu _) (d.hok.fresh (Tu _))
 cases m:x.cps.all (·<128)
 ·exact wpAny_pyIter_wide m (fin _ "str_iterator" (vN ⋯ (λA f=>Walks.strWide f _ x t) λA i s Q E st q=>wpAny_pyIter_striter_wide st q) ⟨_,T3 _ rfl,rfl,rfl⟩)
 ·exact wpAny_pyIter_ascii m (fin _ "str_ascii_iterator" (vN ⋯ (λA f=>Walks.strAscii f _ x t) λA i s Q E st q=>wpAny_pyIter_striter_ascii st q) ⟨_,T3 _ rfl,rfl,rfl⟩)
theorem zi:Ye X (compareOp .NotIn) (λx y H Q=>∃k a T,x=.str k/\y=.ref a/\ky X.K a T/\Q (.bl (!KTD.inKeys k T)) H):=by intro b s g H x y v u Q I c d h;obtain⟨k,a,T,ex,f,t,q⟩:=h;subst ex f;obtain⟨i,rfl⟩:=c;cases d;exact KTD.notin_text (h₀:=s.heap) ⟨t _ I.Yg,λ_ _ e=>e⟩ ⟨.bl _,H,I.tok _,rfl,q⟩
noncomputable def Cf(K:vc):R2:=λx y H Q=>∃a k T z,x=.ref a/\y=.str k/\ky K a T/\(T.all λp=>KTD.plain p.2)=true/\KTD.datumAt k T=some (.flat (.str z))/\Q (.str z) H
theorem Hm:IxR X (Cf X.K):=by
 intro i j l s E H x y v u Q I n p h r;obtain⟨a,k,T,z,ex,w,t,A,f,q⟩:=h;subst ex w;obtain⟨G,rfl⟩:=p;cases n;have B:KTD.inKeys k T=true:=by rw[<- KTD.isSome_datumAt,f];rfl
 refine KTD.item_textA (h₀:=s.heap) ⟨t _ I.Yg,λ_ _ e=>e⟩ A B ?_ r;exact c T f λC=>⟨.str z,H,I.tok _,⟨C,rfl⟩,q⟩
where
 c {h:Heap} {k:Str} {P:Value->Prop} {z:Str}:∀(T:List (Str×KTD.Dat)),KTD.datumAt k T=some (.flat (.str z))->(∀t,P (.str z t))->KTD.EachL h k P T
  |[],f,_=>by simp[KTD.datumAt]at f
  | (x,d)::T,f,m=>by
   have b:(if decide (k=x)=true then some d else KTD.datumAt k T)=some (.flat (.str z)):=f
   by_cases g:k=x
   ·rw[TR (TZ g)]at b
    cases b
    exact KTD.eachL_hit g (KTD.opened_str m)
   ·rw[TN (by simp[g])]at b
    exact KTD.eachL_miss g (c T b m)
noncomputable def CD(K:vc)(c ty d:TE):TE:=λb H Q=>c b H λx e=>∃a T,x=.ref a/\ky K a T/\ty b e λy f=>d b f λz g=>∃k i,y=.str k/\z=.int i/\(∀p∈T,∃j,p.2=.flat (.int j)) /\
 Q (.int (match KTD.datumAt k T with|some (.flat (.int j))=>j|_=>i)) g
theorem uV(ho:PE X o td)(he:PE X e ty)(hf:PE X f tx)(m:M2 X o "get" l e f n):PE X (.Call (.Attribute o "get" l) [e,f] [] n) (CD X.K td ty tx):=by
 intro c s r H Q I h;refine wpAny_Call_method m.base m.few m.line F.plainAttrs_dict F.slot_dict_get F.type_dict_get (Xl (ho c s r H _ I h) λu s1 ⟨x,H1,M,rx,a,T,ex,N,q1⟩=>?_);subst ex;obtain rfl:u=Value.ref a:=rx;have t1:=N _ M.Yg;obtain⟨lo,ob,es,ep,w,hex,O,C⟩:=id t1;refine⟨⟨ob,w,hex.1⟩,λb eb=>?_,?_⟩
 ·cases eb;exact⟨ob,w,hex.2.1⟩
 rw[m.trees]
 refine VQ rfl (WE (WW (Xl (he c s1 r H1 _ M q1) λiv s2 ⟨y,H2,I2,ry,q2⟩ =>
  WW (Xl (hf c s2 r H2 _ I2 q2) λfv g ⟨z,E,G,rz,k,i,ey,ez,hT,q3⟩=>Calls.spliced_nil ?_))))
 subst ey ez;obtain⟨U,rfl⟩:=ry;obtain⟨A,rfl⟩:=rz;refine KTD.get2_text (h₀:=g.heap) ⟨N _ G.Yg,λ_ _ e=>e⟩ ?_
 have fin:∀(D:List (Str×KTD.Dat)),(∀p∈D,∃j,p.2=.flat (.int j))->Q (.int (match KTD.datumAt k D with|some (.flat (.int j))=>j|_=>i)) E ->
   KTD.Each g.heap k (λv=>EP X c r Q v {g with toks:=g.toks+1}) (EP X c r Q (.int i A) {g with toks:=g.toks+1}) D:=by
  intro D
  induction D with
  |nil=>intro _ q;exact KTD.each_nil ⟨.int i,E,G.tok _,⟨_,rfl⟩,q⟩
  |cons p D ih =>
   intro Y q;obtain⟨x,d⟩:=p;obtain⟨j,ej⟩:=Y (x,d) Uq;have L:d=.flat (.int j):=ej;subst L;have ed:KTD.datumAt k ((x,KTD.Dat.flat (.int j))::D)=if decide (k=x)=true then some (.flat (.int j))else KTD.datumAt k D:=rfl;rw[ed]at q;by_cases B:k=x
   ·rw[TR (TZ B)]at q;exact KTD.each_hit B (KTD.opened_int λt=>⟨.int j,E,G.tok _,⟨t,rfl⟩,q⟩)
   ·rw[TN (by simp[B])]at q;exact KTD.each_miss B (ih (λp hp=>Y p (Ug _ hp)) q)
 exact fin T hT q3
end
structure BA(P:Program)(w:World)(K:vc)(a:Addr)(ks:e9):Prop where
 lk:∃o,K.lookup a=some o
 tb:∀h:Heap,K.In h->∃D,StrTab P w h a D/\D.map (·.1)=ks.map PyData.str
noncomputable def Itk(a:e9):It:=⟨λi _=>i<a.length,λi H v b=>b=H/\∃k,a[i]?=some k/\v=.str k,λi _=>i=a.length⟩
theorem CV{D:List (PyData×PyData)}{a:e9}(h:PyProof.V.FlatPairs PyData.str b D)(e:D.map (·.1)=a.map PyData.str):b.map (·.1)=a:=by
 induction h generalizing a with
 |nil =>
  cases a with
  |nil=>rfl
  |cons k a=>simp at e
 |cons _ _ c =>
  cases a with
  |nil=>simp at e
  |cons k a =>simp only[T7,List.cons.injEq]at e;obtain⟨e1,e2⟩:=e;injection e1 with e1;rw[T7,c e2,<- e1]
theorem Gv(M:∀h:Heap,K.In h->h.DictAt (strKind P w) d a T) :
  lP P w K tg (Itk (a.map (·.1))) [it] it (λi h=>h.IsKeyIter it d i a.length T) where
 mem:=by simp
 obj:=λi h st b g=>by
  have e:b=it:=by simpa using g
  subst e;obtain⟨o,e,c,d⟩:=st;exact⟨o,e,λv z=>by rw[d]at z;cases z⟩
 keep:=λi h l st k=>by obtain⟨o,e,r⟩:=st;exact⟨o,k it (by simp) o e,r⟩
 item:=by
  intro X p u x N i f s O H E I m st y;subst p u x;obtain⟨B,C,U,G,L,f5⟩:=m it (by simp);have n:i<a.length:=by have z:i<(a.map (·.1)).length:=y;simpa using z
  refine wpAny_pyNext_dict_item st (M _ I.Yg) (M1 n) λY l hk j sb=>?_;obtain⟨t,rfl⟩:=WL hk;have I1:Inv X f O H {s with heap:=l}:=I.turned (t':=s.toks) (λb o g e=>(sb.2 b g).trans e) B C G L f5;refine⟨_,rfl,PyProof.Rows.letGo_keyiter (s':={s with heap:=l}) j ⟨.str (a[i]).1,H,I1,⟨t,rfl⟩,⟨rfl,(a[i]).1,?_,rfl⟩,j,λb g=>(m b g).1⟩⟩;rw[Tv,M1 n];rfl
 done:=by
  intro X p u x N i f s O H E I m st y;subst p u x;obtain⟨B,C,U,G,L,f5⟩:=m it (by simp);have n:i=a.length:=by have z:i=(a.map (·.1)).length:=y;simpa using z
  exact wpAny_pyNext_dict_end (I.ok.hd N) st (M _ I.Yg) (by simp[n]) λl eb=>⟨rfl,I.turned (t':=s.toks) (λb o g e=>eb b o g e) B C G L f5⟩
 self:=λA i s Q E st q=>wpAny_pyIter_keyiter st q
section
noncomputable def Ln(P:Program)(w:World)(K:vc)(c:TE):TI:=λd H R=>c d H λv e=>∃a b,v=.ref a/\BA P w K a b/\R (Itk b) e
theorem Kq(t:PE X l u):PI X Q l (Ln X.prog X.w X.K u):=by
 intro c s y H R I h;refine Xl (t c s y H _ I h) λv i ⟨U,A,d,B,C⟩=>?_;obtain⟨a,Y,e,n,q⟩:=C;subst e;cases B;obtain⟨D,T,E⟩:=n.tb _ d.Yg;obtain⟨o,p⟩:=n.lk;obtain⟨lo,j,m,G⟩:=T;obtain⟨L,f⟩:=m.dictAt;have M:=CV G E;subst M
 have g:∀h:Heap,X.K.In h->h.DictAt (strKind X.prog X.w) a j L:=λh x=>by obtain⟨o',N,e1,r⟩:=f;have z:=d.Yg _ _ p;rw[e1]at z;cases z;exact⟨_,N,x _ _ p,r⟩
 refine wpAny_pyIter_dict lo f ?_;refine⟨i.heap.objs.size,[i.heap.objs.size],_,_,A,rfl,d.kept (t':=i.toks) λb o e=>Tp _ e,Gv g,⟨_,T3 _ rfl,rfl,rfl⟩,λb O=>?_,q⟩;have e:b=i.heap.objs.size:=by simpa using O
 subst e;exact d.ZK (Tu _) (d.hok.fresh (Tu _))
end
def RC(K:vc)(t:TE)(d:St)(H:Hp)(e:List D):Prop:=∀a,Xe H a->∀Q:VK,(∀l c b,a l=none->Xe a b->b l=some (.lst c)->Xd K b e c->Q (.ref l) b)->t d a Q
section
variable{i j:Int}
variable{K:vc}
theorem RC.mono(h:RC K t a H b)(e:Xe H c):RC K t a c b:=λd s Q q=>h d (e.trans s) Q q
theorem RC.as(h:RC K t a H b)(e:b=c):RC K t a H c:=e▸h
theorem RC.use(h:RC K t c H es)(q:∀l b a,H l=none->Xe H a->a l=some (.lst b)->Xd K a es b->Q (.ref l) a):t c H Q:=h H (Xe.refl H) Q q
theorem iE(h:RA K tA c H es)(d:es.length<=1000:=by simp):RC K (Iw tA) c H es:=λg s Q q =>
 oJ (h.mono s) (λp e l b a f=>q p e _ (b.free a) (b.trans (aH a _)) aD ((aH a _).Xo f)) d
theorem rP(h:RE K r b H (.tup cs))(t:cs.length<=1000)(e:List D)(g:e.length=cs.length)(u:(mk b).set p none=mk b)
  (a:∀f (i:Nat) c v d,Xe H f->cs[i]?=some c->e[i]?=some d->Dat K f c v->RE K w ((mk b).set p (some v)) f d):RC K (fO (EL K r) mk (bT p) eO w) b H e:=λf s Q q =>
 uZ (K:=K) (h.mono s) t e g u (λm i c v d n=>a m i c v d (s.trans n)) (λl x m g n y z=>q l x m g n y z)
theorem KB(h:RE K w g H (.str x))(a:x.cps.size<=1000)(b:List D)(z:b.length=x.cps.size)(A:(mk g).set u none=mk g)
  (f:∀p (i:Nat) c d,Xe H p->x.cps[i]?=some c->b[i]?=some d->RE K B ((mk g).set u (some (.str ⟨#[c]⟩))) p d):RC K (fO (Lm w) mk (bT u) eO B) g H b:=λp s Q q=>by
 refine(h.mono s).use λO C r E=>?_;have e:=E.Xz;subst e;refine⟨x,rfl,?_⟩;refine jB (K:=K) (Q:=Q) (n:=x.cps.size) (item:=λi=>.str ⟨#[x.cps.getD i 0]⟩) (λi G s m=>⟨m,λv T y=>⟨y.1,?_⟩⟩) (λG s=>rfl) A b z a (λi d m=>?_) (λl I L t M=>q l I L (r.free t) (r.trans M))
 ·obtain⟨_,c,a,e⟩:=y;rw[e,Array.getD_eq_getD_getElem?,a];rfl
 ·have N:i<b.length:=(T9.mp m).1
  have a:x.cps[i]?=some (x.cps.getD i 0):=by rw[Array.getD_eq_getD_getElem?,Array.getElem?_eq_getElem ⋯];rfl
  exact f C i _ d (s.trans r) a m
theorem KC(r:BA P w K a b)(t:b.length<=1000)(c:List D)(u:c.length=b.length)(x:(mk m).set p none=mk m)
  (f:∀g (i:Nat) k d,Xe H g->b[i]?=some k->c[i]?=some d->RE K z ((mk m).set p (some (.str k))) g d):RC K (fO (Ln P w K (tC (.ref a))) mk (bT p) eO z) m H c:=λg s Q q=>by
 refine⟨a,b,rfl,r,?_⟩;refine jB (K:=K) (Q:=Q) (n:=b.length) (item:=λi=>.str (b.getD i "")) (λi A s l=>⟨l,λv C y=>⟨y.1,?_⟩⟩) (λA s=>rfl) x c u t (λi d l=>?_) q
 ·obtain⟨_,k,hk,e⟩:=y;rw[e,Uc,hk];rfl
 ·have B:i<c.length:=(T9.mp l).1
  have hk:b[i]?=some (b.getD i ""):=by rw[Uc,M1 ⋯];rfl
  exact f g i _ d s hk l
theorem HW(h:RC K z g H cs)(Y:cs.length<=1000)(a:List D)(hl:a.length=cs.length)(A:(mk g).set x none=mk g)
  (b:∀m (i:Nat) c v d,Xe H m->cs[i]?=some c->a[i]?=some d->Dat K m c v->RE K B ((mk g).set x (some v)) m d):RC K (fO (kh K z) mk (bT x) eO B) g H a:=λm s Q q=>by
 refine(h.mono s).use λC p E G t u e=>?_;have ll:=e.length;refine⟨C,rfl,⟨p,Xm.of u⟩,?_⟩;refine jB (K:=K) (Q:=Q) (n:=p.length) (item:=λi=>p.getD i .Xi) (λi y s r=>kJ i y (Xm.of (s _ _ u)) r) (λy s=>⟨p,Xm.of (s _ _ u),Tu _⟩) A a ⋯ ⋯ (λi d r=>?_) (λl I L w M=>q l I L (t.free w) (t.trans M));have N:i<a.length:=(T9.mp r).1;have f:i<cs.length:=by lia
 obtain⟨O,T,U⟩:=e.get (M1 f);have q:=b E i cs[i] O d (s.trans t) (M1 f) r U;rw[Uc,T];exact q
theorem jZ(h:RA K tA f H b)(e:R b c):RC K (f6 (jL K R) [] E tA) f H c:=λg s Q q =>
 h g s _ λv w d l=>⟨b,c,by rw[Ub];exact l,e,λr m n p t a u=>q r m n (d.free a) (d.trans p) t u⟩
theorem nq{bs:List Bool}(h:RC K t a H (bs.map D.bl)):RE K (Zm (λb H Q=>∃(l:Addr)(bs:List Bool),b=[.ref l]/\Xm K H l (bs.map V.bl)/\Q (.bl (bs.all id)) H) (bM t dC)) a H (.bl (bs.all id)):=λf s Q q =>
 iX ((h.mono s).use λl g m _ c d e=>⟨l,bs,rfl,by rw[<- yo e];exact Xm.of d,q _ _ c (Dat.YE _)⟩)
theorem HZ{bs:List Bool}(h:RC K t a H (bs.map D.bl)):RE K (Zm (λb H Q=>∃(l:Addr)(bs:List Bool),b=[.ref l]/\Xm K H l (bs.map V.bl)/\Q (.bl (bs.any id)) H) (bM t dC)) a H (.bl (bs.any id)):=λf s Q q =>
 iX ((h.mono s).use λl g m _ c d e=>⟨l,bs,rfl,by rw[<- yo e];exact Xm.of d,q _ _ c (Dat.YE _)⟩)
theorem vj(h:RC K t c H es):RE K (Zm (λd H Q=>∃p a,d=[.ref p]/\((Xm K H p a/\∀l,H l=none->Q (.ref l) (upd H l (.tup a)))\/(XG K H p a/\Q (.ref p) H))) (bM t dC)) c H (.tup es):=λm s Q q =>
 iX ((h.mono s).use λl a n _ e f g=>⟨l,a,rfl,.inl ⟨Xm.of f,λp b=>q _ _ (e.trans (aH b _)) (Dat.tupI (XG.of aD) ((aH b _).Xo g))⟩⟩)
theorem Dt(h:RE K t f H (.tup g)):RE K (Zm (λm H Q=>∃p b,m=[.ref p]/\((Xm K H p b/\∀l,H l=none->Q (.ref l) (upd H l (.tup b)))\/(XG K H p b/\Q (.ref p) H))) (bM t dC)) f H (.tup g):=λw s Q q =>
 iX ((h.mono s).use λv x n r=>by
  obtain⟨a,u,e,d,c⟩:=r.XC;subst e;exact⟨a,u,rfl,.inr ⟨d,q _ _ n (Dat.tupI d c)⟩⟩)
theorem Ic(h:RC K t b H c):RE K (Zm (λd H Q=>∃p a,d=[.ref p]/\(Xm K H p a\/XG K H p a)/\Q (.int a.length) H) (bM t dC)) b H (.int c.length):=λm s Q q =>
 iX ((h.mono s).use λl a n _ e f g=>⟨l,a,rfl,.inl (Xm.of f),by rw[<- g.length];exact q _ _ e (Dat.Xs _)⟩)
theorem Ie(h:RE K t a H (.str x))(b:x.length<=sizeLine):RE K (Zm (λc H Q=>∃z:Str,c=[.str z]/\z.length<=sizeLine/\Q (.int z.length) H) (bM t dC)) a H (.int x.length):=λf s Q q =>
 iX ((h.mono s).use λv g d e=>by
  rw[e.Xz];exact⟨x,rfl,b,q _ _ d (Dat.Xs _)⟩)
theorem jk(h:RC K t b H es)(q:∀l c a,H l=none->Xe H a->a l=some (.lst c)->Xd K a es c->d e (b.set k (some (.ref l))) a):bA (lV t (bT k)) d e b H:=h.use q
theorem Dp{p q':Str->Str->Bool}(f:RE K g b H (.str x))(l:RE K m b H (.str y))(n:p x y=true->RE K r b H (.str z)) :
  RE K (xS (λu v H Q=>∃i j:Str,u=.str i/\v=.str j/\Q (.bl (p i j)) H) (λu v H Q=>∃i j:Str,u=.str i/\v=.str j/\Q (.bl (q' i j)) H) g m r) b H (.bl (p x y&&q' y z)):=λt s Q q =>
 f t s _ λv A a B=>l A (s.trans a) _ λw C c e=>by
  refine⟨x,y,B.Xz,e.Xz,p x y,rfl,?_⟩
  cases d:p x y with
  |true =>simp only[VX,Va];exact n d C (s.trans (a.trans c)) _ λI L E G=>⟨y,z,e.Xz,G.Xz,q _ _ (a.trans (c.trans E)) (by rw[d];exact Dat.YE _)⟩
  |false =>simp only[WZ,Xa,VD];exact q _ _ (a.trans c) (by rw[d];exact Dat.YE _)
theorem zx(h:RE K t b H (.str k))(c:ky K a T):RE K (Yn (λx y H Q=>∃k a T,x=.str k/\y=.ref a/\ky K a T/\Q (.bl (!KTD.inKeys k T)) H) t (tC (.ref a))) b H (.bl (!KTD.inKeys k T)):=λd s Q q =>
 h d s _ λv g e f=>⟨k,a,T,f.Xz,rfl,c,q _ _ e (Dat.YE _)⟩
theorem Dq(h:RE K t b H (.str k))(c:ky K a T)(d:(T.all λp=>KTD.plain p.2)=true)(e:KTD.datumAt k T=some (.flat (.str z))):RE K (Yn (Cf K) (tC (.ref a)) t) b H (.str z):=λf s Q q =>
 h f s _ λv m g l=>⟨a,k,T,z,rfl,l.Xz,c,d,e,q _ _ g (Dat.XN _)⟩
noncomputable def sY(k:Str)(T:List (Str×KTD.Dat))(i:Int):Int:=match KTD.datumAt k T with|some (.flat (.int j))=>j|_=>i
theorem vi(e:ky K a T)(f:RE K g b H (.str k))(l:RE K m b H (.int i))(n:∀p∈T,∃j,p.2=.flat (.int j)):RE K (CD K (tC (.ref a)) g m) b H (.int (sY k T i)):=λr s Q q =>
 ⟨a,T,rfl,e,f r s _ λv t c u=>l t (s.trans c) _ λw y d x=>⟨k,i,(d.dat u).Xz,x.Xp,n,q _ _ (c.trans d) (Dat.Xs _)⟩⟩
variable{lo:Nat}
theorem BH{a:List V}{b:Nat}:tP a (some (lo:Int)) (some (b:Int))=(a.drop lo).take (b - lo):=by
 unfold tP;rw[HT.Zy,HT.Zy];apply List.ext_getElem?;intro i;simp only[List.getElem?_take,List.getElem?_drop];by_cases c:i<b - lo
 ·rw[TR c];by_cases d:i<min b a.length - min lo a.length
  ·rw[TR d];congr 1;lia
  ·rw[TN d,VY ⋯]
 ·rw[TN c,TN ⋯]
theorem Xd.dropN:∀{n:Nat}{a:List D}{b:List V},Xd K H a b->Xd K H (a.drop n) (b.drop n)
 |0,_,_,h=>h
 |n+1,[],_,h=>by rw[h.YJ];exact Xd.nil
 |n+1,d::a,_,h=>by obtain⟨v,r,e,f,c⟩:=h.Xx;subst e;exact Xd.dropN (n:=n) c
theorem Xd.takeN:∀{n:Nat}{a:List D}{b:List V},Xd K H a b->Xd K H (a.take n) (b.take n)
 |0,_,_,h=>by rw[UM,UM];exact Xd.nil
 |n+1,[],_,h=>by rw[h.YJ];exact Xd.nil
 |n+1,d::a,_,h=>by obtain⟨v,r,e,c,f⟩:=h.Xx;subst e;exact Xd.cons c (Xd.takeN (n:=n) f)
theorem KG{c:List D}{hi:Nat}(h:RE K t d H (.tup c))(m:RE K n d H (.int lo))(r:RE K u d H (.int hi))(L:1<=lo)(M:0<c.length):RE K (tSl (Kx K) t (vM n) (vM u)) d H (.tup ((c.drop lo).take (hi - lo))):=λw s Q q =>
 h w s _ λv x e y=>m x (s.trans e) _ λN A f B=>⟨lo,B.Xp,r A (s.trans (e.trans f)) _ λO T g C=>⟨hi,C.Xp,by
  obtain⟨a,E,G,I,b⟩:=((f.trans g).dat y).XC;have U:=b.length;refine⟨a,E,G,I,λz=>?_,λp l=>?_⟩
  ·rw[HT.Zy]at z;lia
  ·rw[BH];exact q _ _ (e.trans (f.trans (g.trans (aH l _)))) (Dat.tupI (XG.of aD) ((aH l _).Xo (Xd.takeN (Xd.dropN b))))⟩⟩
end
mutual
noncomputable def iF(K:vc):D->Value->Bool
 | .Xi,u=>(match u with | .none=>true|_=>false)
 | .bl b,u=>(match u with | .bool c=>b==c|_=>false)
 | .int i,u=>(match u with | .int j _=>i==j|_=>false)
 | .str x,u=>(match u with | .str y _=>x==y|_=>false)
 | .tup e,u=>(match u with | .ref a=>(match K.lookup a with|some ⟨.type "tuple",_,.seq d _,_⟩=>decide (d.size<=1000)&&Zi K e d.toList|_=>false)|_=>false)
 | .lst,_=>false
noncomputable def Zi(K:vc):List D->List Value->Bool
 |[],a=>a.isEmpty
 |d::b,a=>(match a with|u::r=>iF K d u&&Zi K b r |[]=>false)
end
mutual
variable{K:vc}
theorem o7(H:Hp):∀(d:D)(u:Value),iF K d u=true->∃v,RelV v u/\Dat K H d v
 | .Xi,u,h=>by unfold iF at h;cases u<;>first | (exact⟨.Xi,rfl,Dat.Zt⟩)|cases h
 | .bl b,u,h=>by
  unfold iF at h;cases u<;>first|cases h|skip
  rename_i c;have e:b=c:=by simpa using h
  subst e;exact⟨.bl b,rfl,Dat.YE _⟩
 | .int i,u,h=>by
  unfold iF at h;cases u<;>first|cases h|skip
  rename_i j t;have e:i=j:=by simpa using h
  subst e;exact⟨.int i,⟨t,rfl⟩,Dat.Xs _⟩
 | .str x,u,h=>by
  unfold iF at h;cases u<;>first|cases h|skip
  rename_i y t;have e:x=y:=by simpa using h
  subst e;exact⟨.str x,⟨t,rfl⟩,Dat.XN _⟩
 | .tup g,u,h=>by
  unfold iF at h;cases u<;>first|cases h|skip
  rename_i a;dsimp only at h;split at h
  ·rename_i od f n m e;rw[Tw]at h;obtain⟨p,r,l⟩:=YA H g f.toList h.2;refine⟨.ref a,rfl,Dat.tupI (.inr ⟨_,f,n,e,rfl,rfl,?_,r⟩) l⟩;exact T8 (T4 h.1) ⋯
  ·cases h
 | .lst,u,h=>by unfold iF at h;cases h
theorem YA(H:Hp):∀(b:List D)(a:yw),Zi K b a=true->∃c,Vals c a/\Xd K H b c
 |[],a,h=>by
  unfold Zi at h
  cases a with
  |nil=>exact⟨[],.nil,Xd.nil⟩
  |cons u r=>cases h
 |d::b,a,h=>by
  unfold Zi at h
  cases a with
  |nil=>cases h
  |cons u r =>dsimp only at h;rw[Tw]at h;obtain⟨v,e,f⟩:=o7 H d u h.1;obtain⟨c,g,i⟩:=YA H b r h.2;exact⟨v::c,.cons e g,Xd.cons f i⟩
end
theorem Me(h:iF K (.tup d) (.ref a)=true)(H:Hp):Dat K H (.tup d) (.ref a):=by obtain⟨v,r,c⟩:=o7 H _ _ h;obtain⟨b,f,e,_⟩:=id c.XC;subst e;have z:Value.ref a=.ref b:=r;cases z;exact c
theorem kX(h:iF K (.tup b) (.ref a)=true):RE K (tC (.ref a)) d H (.tup b):=λc _ Q q=>q _ _ (Xe.refl _) (Me h c)
section
theorem mP:gB X (.type "range") (λa H Q=>∃n:Nat,a=[.int n]/\∀p,H p=none->Q (.ref p) (upd H p (.rng 0 n))):=by intro c s f H a g Q I r h;obtain⟨n,rfl,q⟩:=h;obtain⟨u,rfl,d⟩:=fP r;obtain⟨t,rfl⟩:=d;refine call_range_1 ⟨.ref s.heap.objs.size,_,I.laid (λb o e=>Tp _ e) (Tu _) (show Xr X.prog X.w _ _ _ (.rng 0 n) from ⟨_,_,_,T3 _ rfl⟩),rfl,q _ (I.hok.fresh (Tu _))⟩
theorem GB(h:ItemsOf (λi v=>∃t,v=.int ((0:Int)+(i:Nat)*1) t) a n):Vals ((List.range n).map λi:Nat=>V.int i) a.toList:=by
 obtain⟨c,d⟩:=h
 have all:∀(l:yw)(k:Nat),(∀(j:Nat)(v:Value),l[j]?=some v->∃t,v=Value.int ((0:Int)+((k+j:Nat):Int)*1) t)->Vals ((List.range' k l.length).map λi:Nat=>V.int i) l:=by
  intro l
  induction l with
  |nil=>intro k _;exact .nil
  |cons u l f =>
   intro k b;rw[TQ,List.range'_succ,T7];refine .cons ?_ (f (k+1) λj v e=>?_)
   ·obtain⟨t,e⟩:=b 0 u rfl;refine⟨t,?_⟩;rw[e];congr 1;simp
   ·obtain⟨t,g⟩:=b (j+1) v (by simpa using e);refine⟨t,?_⟩;rw[g];congr 1;have:k+(j+1)=k+1+j:=by lia
    rw[this]
 have q:=all a.toList 0 λj v e=>by rw[Nat.zero_add];exact d j v (by simpa using e)
 rw[List.range_eq_range'];rw[V6,c]at q;exact q
theorem hE{X:Cx}(g:X.calm=true):gB X (.type "list") (λc H Q=>∃(p:Addr)(n:Nat),c=[.ref p]/\H p=some (.rng 0 n)/\n<=1000/\∀l,H l=none->Q (.ref l) (upd H l (.lst ((List.range n).map λi:Nat=>V.int i)))):=by
 intro d s C H c E Q I r h;obtain⟨p,n,rfl,j,m,q⟩:=h;obtain⟨u,rfl,x⟩:=fP r;cases x;obtain⟨t,u,v,e⟩:=(show Xr X.prog X.w H s.heap p (.rng 0 n) from I.hok p _ j)
 refine call_list_range (n:=n) (I.ok.hd g) (show IsRange s.heap p 0 n 1 t u v from e) (small_one ⋯ ⋯ ⋯ ⋯) ?_ ⋯ λy G a z A B b=>?_
 ·rw[rangeSize_one];split<;>lia
 ·have f:=GB b;have L:=f.length;refine⟨.ref s.heap.objs.size,_,I.laid A (Tu _) (show Xr X.prog X.w _ y _ (.lst _) from ⟨?_,a.toList,z,f,by simpa using B⟩),rfl,q _ (I.hok.fresh (Tu _))⟩;simp only[To,W7];exact T8 m ⋯
def K4(K:vc)(a:Addr)(c:List V):Prop:=∃(b:Array Value)(n:Nat),K.lookup a=some ⟨.type "list",none,.seq b n,#[]⟩/\b.size<=1000/\Vals c b.toList
def YS(K:vc)(H:Hp)(a:Addr)(b:List V):Prop:=H a=some (.lst b)\/K4 K a b
theorem YS.YC{K:vc}(h:YS K H a c):Xm K H a c:=by
 rcases h with h|⟨b,n,e,d,r⟩
 ·exact Xm.of h
 ·exact .inr ⟨_,b,n,e,rfl,rfl,rfl,T8 d ⋯,r⟩
theorem YS.at{X:Cx}{c:qd}{f:St}{H:Hp}{s:Shared}{a:Addr}{d:List V}(I:Inv X c f H s)(h:YS X.K H a d):∃(b:yw)(n:Nat),Vals d b/\s.heap.get? a=some {cls:=.type "list",data:=.seq b.toArray n}:=by
 rcases h with h|⟨b,n,e,g,r⟩
 ·obtain⟨z,b,n,r,i,e⟩:=I.lstM h;exact⟨b,n,r,e⟩
 ·exact⟨b.toList,n,r,by simpa using I.Yg _ _ e⟩
noncomputable def IU(K:vc):R2:=λx y H Q=>∃l b a zs,x=.ref l/\y=.ref b/\YS K H l a/\YS K H b zs/\a.length+zs.length<=1000/\∀p,H p=none->Q (.ref p) (upd H p (.lst (a++zs)))
theorem jf:Ye X (binaryOp .Add) (IU X.K):=by
 intro d s A H x y v u Q I g i h;obtain⟨l,b,j,zs,rfl,rfl,m,p,t,q⟩:=h;cases g;cases i;obtain⟨c,n,r,e⟩:=m.at I;obtain⟨a,n2,f,e2⟩:=p.at I;have B:=r.length;have C:=f.length;have w:j.length+zs.length<=sizeLine:=T8 t ⋯;refine PySem.P.add_list e e2 ?_ (by rw[TJ,TJ];lia);have z:c.toArray++a.toArray=(c++a).toArray:=by simp
 rw[z];exact⟨.ref _,_,I.lnew (t':=s.toks) (r.append f) (by rw[Tq];lia),rfl,q _ I.fresh⟩
end
section
variable{K:vc}
noncomputable def wB(K:vc)(c:List D)(a:Addr):Bool:=match K.lookup a with
 |some ⟨.type "list",none,.seq b _,d⟩=>decide (b.size<=1000)&&(d.isEmpty&&Zi K c b.toList)
 |_=>false
theorem wC{K:vc}(h:wB K d a=true)(H:Hp):∃c,K4 K a c/\Xd K H d c:=by
 unfold wB at h;split at h
 ·rename_i b n f e;rw[Tw,Tw]at h;obtain⟨c,r,g⟩:=YA H d b.toList h.2.2;have i:f=#[]:=by simpa using h.2.1
  subst i;exact⟨c,⟨b,n,e,T4 h.1,r⟩,g⟩
 ·cases h
theorem nj{H:Hp}{n:Nat}(h:RE K t f H (.int n))(g:n<=1000):RC K (Zm (λb H Q=>∃(p:Addr)(n:Nat),b=[.ref p]/\H p=some (.rng 0 n)/\n<=1000/\∀l,H l=none->Q (.ref l) (upd H l (.lst ((List.range n).map λi:Nat=>V.int i))))
  (bM (Zm (λb H Q=>∃n:Nat,b=[.int n]/\∀p,H p=none->Q (.ref p) (upd H p (.rng 0 n))) (bM t dC)) dC)) f H ((List.range n).map λi:Nat=>D.int i):=λx s Q q =>
 iX (iX ((h.mono s).use λv j c r=>by
  rw[r.Xp];refine⟨n,rfl,λp d=>⟨p,n,rfl,aD,g,λl e=>?_⟩⟩;have u:=c.trans ((aH d (.rng 0 n)).trans (aH e (.lst ((List.range n).map λi:Nat=>V.int i))));refine q l _ _ ((c.trans (aH d _)).free e) u aD ?_
  have z:∀m:List Nat,Xd K (upd (upd j p (.rng 0 n)) l (.lst ((List.range n).map λi:Nat=>V.int i))) (m.map λi:Nat=>D.int i) (m.map λi:Nat=>V.int i):=by
   intro m
   induction m with
   |nil=>exact Xd.nil
   |cons a m w=>exact Xd.cons (Dat.Xs _) w
  exact z _))
end
structure ZW(l0 l1 l2:Addr)(H:Hp)(a b c:List V):Prop where
 h0:H l0=some (.lst a)
 h1:H l1=some (.lst b)
 h2:H l2=some (.lst c)
 n01:l0≠l1
 n02:l0≠l2
 n12:l1≠l2
def Zj(a c d:Addr)(H e:Hp):Prop:=∀b o,b≠a->b≠c->b≠d->H b=some o->e b=some o
section
theorem Xe.ZM(e:Xe H a):Zj c d f H a:=λb o _ _ _ h=>e b o h
theorem Zj.trans(x:Zj a c d H e)(y:Zj a c d e f):Zj a c d H f:=λb o n0 n1 n2 h=>y b o n0 n1 n2 (x b o n0 n1 n2 h)
theorem ZW.same(t:ZW d f g H a b c)(e:Xe H i):ZW d f g i a b c:=⟨e _ _ t.h0,e _ _ t.h1,e _ _ t.h2,t.n01,t.n02,t.n12⟩
variable{K:vc}
theorem Zj.grow(e:Zj g i j H l)(t:ZW g i j H a b c)(m:ZW g i j l q r s):bW K H l:=by
 have d:∀(x:Addr)(o:HO),H x=some o->(∀f,o≠.lst f)->l x=some o:=λx o h n =>
  e x o (λz=>by rw[z,t.h0]at h;cases h;exact n _ rfl) (λz=>by rw[z,t.h1]at h;cases h;exact n _ rfl) (λz=>by rw[z,t.h2]at h;cases h;exact n _ rfl) h
 refine⟨λx f h=>?_,λx f h=>?_⟩
 ·rcases h with(h|⟨o,h⟩)|h
  ·exact .inl (.inl (d _ _ h (λ_ z=>by cases z)))
  ·exact .inl (.inr ⟨o,d _ _ h (λ_ z=>by cases z)⟩)
  ·exact .inr h
 ·by_cases p:x=g
  ·rw[p];exact⟨_,Xm.of m.h0⟩
  by_cases z1:x=i
  ·rw[z1];exact⟨_,Xm.of m.h1⟩
  by_cases z2:x=j
  ·rw[z2];exact⟨_,Xm.of m.h2⟩
  refine⟨f,?_⟩;rcases h with(h|⟨o,h⟩)|h
  ·exact .inl (.inl (e _ _ p z1 z2 h))
  ·exact .inl (.inr ⟨o,e _ _ p z1 z2 h⟩)
  ·exact .inr h
theorem ZW.p0(t:ZW d e f H a b c):ZW d e f (upd H d (.lst (a++[v]))) (a++[v]) (b++[]) (c++[])/\Zj d e f H (upd H d (.lst (a++[v]))):=by rw[Ub,Ub];exact⟨⟨aD,by rw[aI (Tt t.n01)];exact t.h1,by rw[aI (Tt t.n02)];exact t.h2,t.n01,t.n02,t.n12⟩,λx o n0 _ _ h=>by rw[aI n0];exact h⟩
theorem ZW.p1(t:ZW e d f H a b c):ZW e d f (upd H d (.lst (b++[v]))) (a++[]) (b++[v]) (c++[])/\Zj e d f H (upd H d (.lst (b++[v]))):=by rw[Ub,Ub];exact⟨⟨by rw[aI t.n01];exact t.h0,aD,by rw[aI (Tt t.n12)];exact t.h2,t.n01,t.n02,t.n12⟩,λx o _ n1 _ h=>by rw[aI n1];exact h⟩
theorem ZW.p2(t:ZW e f d H a b c):ZW e f d (upd H d (.lst (c++[v]))) (a++[]) (b++[]) (c++[v])/\Zj e f d H (upd H d (.lst (c++[v]))):=by rw[Ub,Ub];exact⟨⟨by rw[aI t.n02];exact t.h0,by rw[aI t.n12];exact t.h1,aD,t.n01,t.n02,t.n12⟩,λx o _ _ n2 h=>by rw[aI n2];exact h⟩
theorem ZW.nil(t:ZW d e f H a b c):ZW d e f H (a++[]) (b++[]) (c++[]):=by rw[Ub,Ub,Ub];exact t
theorem ji(h:RE K n f G d)(g:G l=some (.lst c))(u:c.length<=900)
  (q:∀y e,Xv l G e->e l=some (.lst (c++[y]))->Dat K e d y->p r f e) (s:f[j]?=some (some (.ref l)):=by rfl):bA (vK (tBM K "list" xm (cV j) (bM n dC))) p r f G:=by
 refine⟨_,s,.inl ⟨rfl,_,Xm.of g⟩,h.use λy i m t=>?_⟩;have a:=m _ _ g;refine⟨l,c,y,rfl,rfl,a,bP ⋯,?_⟩;have b:Xv l i (upd i l (.lst (c++[y]))):=Xv.upd (Xe.refl _).but;exact q y _ (m.but.trans b) aD (Dat.mono (b.grow a aD) _ t)
theorem Du(c:H l=some (.lst a))(d:Xd K H e a)(f:g[k]?=some (some (.ref l)):=by rfl):RE K (Zm (λi H Q=>∃p a,i=[.ref p]/\((Xm K H p a/\∀l,H l=none->Q (.ref l) (upd H l (.tup a)))\/(XG K H p a/\Q (.ref p) H))) (bM (cV k) dC)) g H (.tup e):=λj s Q q =>
 ⟨_,f,l,a,rfl,.inl ⟨Xm.of (s _ _ c),λp b=>q _ _ (aH b _) (Dat.tupI (XG.of aD) ((aH b _).Xo (s.Xo d)))⟩⟩
theorem oI{H:Hp}(d:H f=some (.dK b))(hk:jw b (Sum.inr x)=some (.ref l))(e:H l=some (.lst a))(i:Xd K H m a)(n:r[j]?=some (some (.ref f)):=by rfl) :
  RE K (Zm (λt H Q=>∃p a,t=[.ref p]/\((Xm K H p a/\∀l,H l=none->Q (.ref l) (upd H l (.tup a)))\/(XG K H p a/\Q (.ref p) H))) (bM (Gk (cV j) (tC (.str x))) dC)) r H (.tup m):=λu s Q q =>
 ⟨_,n,f,.ref l,rfl,by have g:=ZL.k (k:=Sum.inr x) (s _ _ d);rw[hk]at g;exact g,l,a,rfl,.inl ⟨Xm.of (s _ _ e),λp c=>q _ _ (aH c _) (Dat.tupI (XG.of aD) ((aH c _).Xo (s.Xo i)))⟩⟩
end
theorem BX:∀{b:eH}{a:yw},Vals (b.map V.int) a->IntsAre a b
 |[],a,h=>by cases h;exact .nil
 |n::b,a,h=>by
  cases h with
  |cons r t =>obtain⟨c,rfl⟩:=r;exact .cons n c (BX t)
section
theorem yi{X:Cx}(g:X.calm=true):gB X (.builtin "sum") (λd H Q=>∃(l:Addr)(a:eH),d=[.ref l]/\Xm X.K H l (a.map V.int)/\Q (.int a.sum) H):=by
 intro e s x H d y Q I r h;obtain⟨l,a,rfl,i,q⟩:=h;obtain⟨u,rfl,j⟩:=fP r;cases j;obtain⟨c,m,p,A⟩:=I.list i;have f:=BX m;obtain⟨zs,b⟩:=f.allInts.items;refine sum_intListG (I.ok.hd g) (show s.heap.IsList l (intItems zs) from b▸p.isList) λB n t hk=>?_
 have v:zs.toList.map (·.1)=a:=by have z:=f.numsOf;rw[show c=(intItems zs).toList by rw[<- b]]at z;rw[<- z,nums_intItems]
 have w:preSum (numAt zs) zs.size=a.sum:=by rw[preSum_eq,<- v,Vq (by simp)]
 rw[w];exact⟨.int a.sum,H,I.kept (t':=n) hk,⟨t,rfl⟩,q⟩
noncomputable def Itv(K:vc)(a:Addr)(b:List V):It:=⟨λi H=>i<b.length/\Xm K H a b,λi H x c=>c=H/\b[b.length - 1 - i]?=some x,λi _=>i=b.length⟩
theorem Gu{K:vc}(a it:Addr)(f:List V):lP P w K tg (Itv K a f) [it] it (λi h=>h.IsRevIter it a ((f.length:Int) - 1 - (i:Int))) where
 mem:=by simp
 obj:=λi h st b j=>by
  have e:b=it:=by simpa using j
  subst e;obtain⟨o,e,c,d⟩:=st;exact⟨o,e,λv z=>by rw[d]at z;cases z⟩
 keep:=λi h m st k=>by obtain⟨o,e,r⟩:=st;exact⟨o,k it (by simp) o e,r⟩
 item:=by
  intro X t y B U i g s Y H E I n st C;subst t y B;obtain⟨hi,hq⟩:=C;obtain⟨its,rv,p,hz⟩:=I.list hq;obtain⟨G,L,f2,M,N,f5⟩:=n it (by simp);have lr:=rv.length;have hx:f[f.length - 1 - i]?=some (f[f.length - 1 - i]'(by lia)):=M1 ⋯;obtain⟨u,hu,ru⟩:=rv.get hx;have e1:(f.length:Int) - 1 - (i:Int)=((f.length - 1 - i:Nat):Int):=by lia
  have O:s.heap.IsRevIter it a ((f.length - 1 - i:Nat):Int):=by rw[<- e1];exact st
  refine wpAny_pyNext_rev_item O p.isList (x:=u) (by simpa using hu) λm l sb=>?_;have e2:((f.length - 1 - i:Nat):Int) - 1=(f.length:Int) - 1 - ((i+1:Nat):Int):=by lia
  rw[e2]at l;have I1:Inv X g Y H {s with heap:=m}:=I.turned (t':=s.toks) (λb o j e=>(sb.2 b j).trans e) G L M N f5;obtain⟨o,e,c,d⟩:=id l;exact⟨u,rfl,qM (s:={s with heap:=m}) e c d ⋯ ⟨_,H,I1,ru,⟨rfl,hx⟩,l,λb j=>(n b j).1⟩⟩
 done:=by
  intro X t y B U i g s Y H E I n st C;subst t y B;obtain⟨G,L,f2,M,N,f5⟩:=n it (by simp);have T:i=f.length:=C;subst T;have e1:(f.length:Int) - 1 - (f.length:Int)=-1:=by lia
  rw[e1]at st;exact wpAny_pyNext_rev_end (I.ok.hd U) st λm eb=>⟨rfl,I.turned (t':=s.toks) (λb o j e=>eb b o j e) G L M N f5⟩
 self:=λA i s Q E st q=>wpAny_pyIter_revIter st q
noncomputable def Lk(K:vc)(d:TA):TI:=λe H R=>d e H λf b=>∃a c,f=[.ref a]/\Xm K b a c/\R (Itv K a c) b
theorem Ko(m:Gl X "reversed")(n:X.mg "reversed"=none)(r:PA X [a] t)(v:starEach [a] X.env=[(false,eval a X.env)]:=by rfl):PI X L (.Call (.Name "reversed" p) [a] [] i) (Lk X.K t):=by
 intro d s w H R I h;refine Call_ (my I m n o5 (U8 (Xl (r i d s w H _ I h) λM c ⟨N,x,g,y,z⟩=>?_) v rfl));obtain⟨l,j,e,A,q⟩:=z;subst e;obtain⟨u,rfl,B⟩:=fP y;cases B;obtain⟨f,C,E,O⟩:=g.list A;have lr:=C.length;refine call_reversed_list E.isList ?_;have st:(c.heap.push (revObj l ((f.toArray.size:Int) - 1))).IsRevIter c.heap.objs.size l ((j.length:Int) - 1 - ((0:Nat):Int)):=⟨_,T3 _ rfl,rfl,by simp[revObj,lr]⟩
 refine wpAny_pyIter_revIter (s:={c with heap:=c.heap.push (revObj l ((f.toArray.size:Int) - 1))}) st ?_;refine⟨c.heap.objs.size,[c.heap.objs.size],_,_,x,rfl,g.kept (t':=c.toks) λb o e=>Tp _ e,Gu l _ j,st,λb G=>?_,q⟩;have e:b=c.heap.objs.size:=by simpa using G
 subst e;exact g.ZK (Tu _) (g.hok.fresh (Tu _))
end
noncomputable def met(f:Nat->Str)(i:Nat):List Str:=((List.range i).map f).foldl step_dedup []
theorem kQ(f:Nat->Str)(i:Nat):met f (i+1)=step_dedup (met f i) (f i):=by unfold met;rw[List.range_succ,Uh,W8];rfl
theorem wc(l:e9)(x:Str):(step_dedup l x).length=if l.any (·==x)then l.length else l.length+1:=by unfold step_dedup;split<;>simp
theorem BM(l:e9)(x y:Str):(step_dedup l x).any (·==y)=(l.any (·==y)||decide (y=x)):=by
 unfold step_dedup;split
 ·rename_i h;by_cases e:y=x
  ·subst e;rw[h];rfl
  ·rw[TU e,Bool.or_false]
 ·rw[List.any_append];congr 1;by_cases e:y=x
  ·subst e;simp
  ·have a:¬ x=y:=λz=>e z.symm;simp[e,a]
theorem wD(f:Nat->Str):∀i,(met f i).length<=i
 |0=>by simp[met]
 |i+1=>by rw[kQ,wc];have:=wD f i;split<;>lia
theorem Gz{P:Program}{A:Around}{R:Result->Shared->Prop}{Pv:Nat->Value->Prop}{St:Nat->Shared->Prop}
  (W:WalksS P w A.in1 it Q j G n Pv St) (sa:Addr) (d:sa∉Q) (f:Nat->Str) (T:∀i v,Pv i v->∃t,v=.str (f i) t) (U:n+1<scanBound) :
  ∀(m i:Nat)(s:Shared),n - i=m->i<=n->St i s->s.heap.SetOf (strKind P w) sa (λy=>(met f i).any (·==y)) (met f i).length ->
   (∀l,Moved (sa::j) G s l->l.heap.SetOf (strKind P w) sa (λy=>(met f n).any (·==y)) (met f n).length->R (.ok (.ret .none)) l)->codeAny (model P w) A (.builtin "set.update.loop" ⟨[.ref sa,.ref it],[]⟩) R s:=by
 have M:sa∉j:=λz=>d (W.sub _ z);have a:∀b∈j,b∈sa::j:=λb z=>Ug _ z;intro m
 induction m with
 |zero =>
  intro i s e1 e2 st p fin;obtain rfl:i=n:=by lia
  refine WI We ?_;rw[Around.under_plainId Vu _];show wpAny _ A.in1 (pyNext (.ref it) >>= _) _ _ s;refine Tn (W.done s _ _ st λc e=>?_);show wpAny _ A.in1 (ret Value.none) _ _ c;obtain⟨o,r,u,x,g,rest⟩:=p;exact Tz (fin c (e.mono a) ⟨o,r,u,x,e.heap sa _ M g,rest⟩)
 |succ m Y =>
  intro i s e1 e2 st p fin;have lt:i<n:=by lia
  refine WI We ?_;rw[Around.under_plainId Vu _];show wpAny _ A.in1 (pyNext (.ref it) >>= _) _ _ s;refine Tn (W.item i s _ _ lt st λv c pv B e=>?_);obtain⟨N,rfl⟩:=T i v pv;have C:c.heap.SetOf (strKind P w) sa (λy=>(met f i).any (·==y)) (met f i).length:=let⟨o,r,u,x,g,rest⟩:=p;⟨o,r,u,x,e.heap sa _ M g,rest⟩;show wpAny _ A.in1 (holding [Value.str (f i) N] (setAdd sa (.str (f i) N)) >>= _) _ _ c;refine Tn (US ?_);unfold setAdd;refine US (Tn ((strKind P w).pyHash (k:=f i) (strKind_is P w _ _) ?_));have rm:(met f i).length+1<scanBound:=by have:=wD f i;lia
  refine wpAny_setAddHashed_of (knd:=strKind P w) (s:={c with toks:=c.toks+1}) (strKind_is P w _ _) rfl C rm λh' O E=>?_;have H:h'.SetOf (strKind P w) sa (λy=>(met f (i+1)).any (·==y)) (met f (i+1)).length:=SetOf_congr E (λy=>by rw[kQ,BM]) (by rw[kQ,wc]);refine Tz ⟨plainId_quiet Vu _,Y (i+1) _ ⋯ lt (W.frame _ c _ _ B (V5 _) λb z o g=>?_) H λs3 I L=>?_⟩
  ·rw[O.2 b (λq:b=sa=>d (by rw[<- q];exact z))];exact g
  ·refine fin s3 (Moved.trans W.gtrans ((e.mono a).then_heap (V5 _) λb o z g=>?_) I) L;rw[O.2 b (λq:b=sa=>z (by rw[q];exact Uq))];exact g
noncomputable abbrev xO(a:Bool):Obj:={cls:=.type "set",dict:=none,data:=.set #[] 0 (.fresh 0 0 a)}
theorem CL{A:Around}{s:Shared}(O:A.handled=none)(T:s.heap.IsList l a)
  (U:∀(i:Nat)(v:Value),a[i]?=some v->∃t,v=.str (f i) t) (q:a.size+1<scanBound)
  (fin:∀(j:Heap)(n:Nat),j.SetOf (strKind P w) s.heap.objs.size (λy=>(met f a.size).any (·==y)) (met f a.size).length->(∀b o,b<s.heap.objs.size->s.heap.get? b=some o->j.get? b=some o)->Q (.ref s.heap.objs.size) {s with heap:=j,toks:=n}) :
  wpAny (model P w) A (call (.type "set") [.ref l]) Q E s:=by
 obtain⟨c,tl,Y⟩:=VF.mro;have made:=VF.made;have sub:=VF.sub;refine VM (codeAny_of_tree ?_);show wpAny _ _ (callAny (.type "set") _) _ _ _;refine Tz ⟨Code.quiet_builtin _ ⋯,WI F.entry_type_call ?_⟩;rw[Around.under_plain (weight_type_call_type "set" [.ref l] []) rfl];have k1:=VF.notType;have k2:=VF.canCreate;have k3:=F.typeCall_set_1 (.ref l)
 repeat (any_goals (first|assumption|wp_step))
 refine UT (code_set_new_1 (.ref l) (E:=E) (Q₁:=λobj H=>∃d:Bool,obj=.ref s.heap.objs.size/\H={s with heap:=s.heap.push (xO d)}) λd=>⟨d,rfl,rfl⟩) λr H u=>?_
 cases r with
 |error e=>exact u
 |ok fl =>
  cases fl with
  |ret obj =>
   obtain⟨d,rfl,rfl⟩:=u;have g0:(s.heap.push (xO d)).get? s.heap.objs.size=some (xO d):=T3 _ rfl;have ty:Shared.TypeIs {s with heap:=s.heap.push (xO d)} (.ref s.heap.objs.size) "set":=⟨_,g0,rfl⟩
   have k4:=VF.init.lookup;have k5:=VF.init.bind (.ref s.heap.objs.size)
   repeat (any_goals (first|assumption|wp_step))
   refine UT (WJ (R:=wants (λr I=>r=.none/\∃j n,I={s with heap:=j,toks:=n}/\j.SetOf (strKind P w) s.heap.objs.size (λy=>(met f a.size).any (·==y)) (met f a.size).length /\
     (∀b o,b<s.heap.objs.size->s.heap.get? b=some o->j.get? b=some o)) E) VF.init.plain F.entry_set_init (check_set_init_1 ty ?_)) λr2 I m=>?_
   ·obtain⟨ol,g1,g2,L,g3⟩:=T;obtain⟨oc,od,ob,os⟩:=ol;simp only at g2 g3;subst g2;subst g3;have g4:(s.heap.push (xO d)).get? l=some {cls:=.type "list",dict:=od,data:=.seq a L,slots:=os}:=Tp _ g1;have m1:=F.sub_list_set;have m2:=F.sub_list_frozenset;have m3:(Value.type "list"==Value.type "dict")=false:=by decide
    have M:(s.heap.push (xO d)).IsList l a:=⟨_,g4,rfl,L,rfl⟩
    unfold Builtin.«set.__init__» noKeywords Builtin.Frozenset.updateFrom;generalize x:pyIter=PI
    wp_walk
    subst x;refine VS M (Tn (wpAny_runValue ?_));have N:l<s.heap.objs.size:=TV g1;have h3:A.in1.in1.in1.handled=none:=by simp[O]
    have n1:l≠(s.heap.push (xO d)).objs.size:=by rw[Uy];exact Ud (Wk N)
    have n2:s.heap.objs.size∉[(s.heap.push (xO d)).objs.size,l]:=by rw[Uy];simp only[TY,Uj,Ul,UX,not_or];exact⟨Ud (VE _),UG N⟩
    refine Gz ((Walks.list h3 _ l n1 a).toS) s.heap.objs.size n2 f U q (a.size - 0) 0 _ ⋯ (Us _) ⟨⟨_,T3 _ rfl,rfl,rfl⟩,(M.push _)⟩ ?so ?fi
    case so=>exact SetOf_congr ((setObjOf_fresh (knd:=strKind P w) d).setOf (Tp _ g0) (by unfold scanBound;lia)) (λ_=>rfl) rfl
    case fi =>
     intro s' p so;obtain⟨j,g',d',B,C⟩:=s';obtain rfl:g'=s.gens:=p.gens;obtain rfl:d'=s.drawn:=p.drawn;obtain rfl:C=s.os:=p.os;show wpAny _ _ _ _ _ _;refine Tz ?_;show wpAny _ _ (ret Value.none) _ _ _;refine Tz ⟨rfl,j,B,rfl,so,λb o z g=>?_⟩;have z1:b≠s.heap.objs.size:=Ud z;have z2:b≠(s.heap.push (xO d)).objs.size:=by rw[Uy];exact Ud (Wk z)
     exact p.heap b o (by simp only[TY,Uj,Ul,UX,not_or];exact⟨z1,z2⟩) (Tp _ (Tp _ g))
   ·cases r2 with
    |error e=>exact m
    |ok G =>
     cases G with
     |ret r =>
      obtain⟨rfl,j,n,rfl,so,kp⟩:=m
      repeat (any_goals (first|assumption|wp_step))
      exact fin _ _ so kp
     |_=>exact m.elim
  |_=>exact u.elim
def Bj(a:Addr)(n:Nat)(h:Heap):Prop:=∃o b c t,h.get? a=some o/\o.ExactSet/\o.data=.set b c t/\t.fits b.size=true/\b.size=n
section
theorem Cz:∀{zs:e9}{a:yw}(i:Nat)(v:Value),Vals (zs.map V.str) a->a[i]?=some v->∃t,v=.str (zs.getD i "") t
 |[],a,i,v,h,e=>by cases h;simp at e
 |z::zs,a,i,v,h,e=>by
  cases h with
  |cons r t =>
   obtain⟨c,rfl⟩:=r
   cases i with
   |zero =>
    have b:Value.str z c=v:=by simpa using e
    exact⟨c,b.symm⟩
   |succ i =>obtain⟨d,b⟩:=Cz (zs:=zs) i v t (by simpa using e);exact⟨d,by simpa using b⟩
noncomputable def wb(zs:e9):Nat:=(met (λi=>zs.getD i "") zs.length).length
theorem CM{X:Cx}(y:X.calm=true):gB X (.type "set") (λj H Q=>∃(l:Addr)(zs:e9),j=[.ref l]/\Xm X.K H l (zs.map V.str)/\zs.length<=100/\∀p,H p=none->Q (.ref p) (upd H p (.ext (Bj p (wb zs))))):=by
 intro m s T H j U Q I r h;obtain⟨l,zs,rfl,A,Y,q⟩:=h;obtain⟨u,rfl,B⟩:=fP r;cases B;obtain⟨C,n,p,_⟩:=I.list A;have lr:=n.length;rw[To]at lr;refine CL (f:=λi=>zs.getD i "") (I.ok.hd y) p.isList (λi v e=>Cz i v n (by simpa using e)) (by unfold scanBound;simp;lia) λx E G L=>?_
 have a:Bj s.heap.objs.size (wb zs) x:=by obtain⟨o,d,g,t,c,M,N,_,_,_,a4,O⟩:=G;refine⟨o,d,g,t,c,M,N,a4,?_⟩;rw[O];unfold wb;rw[lr];simp
 refine⟨.ref s.heap.objs.size,_,I.laid (t':=E) (λb o e=>L b o (TV e) e) (Tu _) (show Xr X.prog X.w _ x _ (.ext (Bj s.heap.objs.size (wb zs))) from ⟨a,?_,λh1 h2 z k=>?_⟩),rfl,q _ (I.hok.fresh (Tu _))⟩
 ·obtain⟨o,_,_,_,c,_⟩:=a;exact⟨o,c⟩
 ·obtain⟨o,d,g,t,c,rest⟩:=z;exact⟨o,d,g,t,k _ c,rest⟩
theorem yh:gB X (.builtin "len") (λa H Q=>∃(p:Addr)(n:Nat),a=[.ref p]/\H p=some (.ext (Bj p n))/\n<=1000/\Q (.int n) H):=by
 intro b s l H a m Q I r h;obtain⟨p,n,rfl,c,v,q⟩:=h;obtain⟨u,rfl,d⟩:=fP r;cases d;obtain⟨⟨o,e,x,t,f,g,i,a4,j⟩,_⟩:=(show Xr X.prog X.w H s.heap p (.ext (Bj p n)) from I.hok p _ c)
 subst j;exact call_len_set f g i a4 ⋯ ⟨.int (e.size:Nat),H,I.tok _,⟨_,rfl⟩,q⟩
end
theorem Xe.YS(e:Xe H b)(h:YS K H a c):YS K b a c:=h.elim (λz=>.inl (e _ _ z)) .inr
def LD(K:vc)(H:Hp)(c:List D)(v:V):Prop:=∃a b,v=.ref a/\YS K H a b/\Xd K H c b
theorem Xe.ld(e:Xe H b)(h:LD K H c v):LD K b c v:=by obtain⟨a,d,e1,f,g⟩:=h;exact⟨a,d,e1,e.YS f,e.Xo g⟩
theorem LD.lst(h:LD K H c v):Dat K H .lst v:=by obtain⟨a,d,rfl,b,_⟩:=h;exact Dat.lstI b.YC
theorem LD.of(h:H a=some (.lst b))(c:Xd K H d b):LD K H d (.ref a):=⟨a,b,rfl,.inl h,c⟩
inductive Ar where
 |d (x:D)
 |l (ds:List D)
def ArI(K:vc)(H:Hp):Ar->V->Prop
 | .d x,v=>Dat K H x v
 | .l a,v=>LD K H a v
inductive Ars(K:vc)(H:Hp):List Ar->List V->Prop
 |nil:Ars K H [] []
 |cons {a v as vs}:ArI K H a v->Ars K H as vs->Ars K H (a::as) (v::vs)
theorem Xe.ari(e:Xe H b)(h:ArI K H a v):ArI K b a v:=by
 cases a with
 |d x=>exact e.dat h
 |l c=>exact e.ld h
theorem Ars.length(h:Ars K H as a):as.length=a.length:=by
 induction h with
 |nil=>rfl
 |cons _ _ b=>simp[b]
theorem JG(h:Ars K H [a] b):∃u,b=[u]/\ArI K H a u:=by
 cases h with
 |cons c d=>cases d;exact⟨_,rfl,c⟩
theorem tN(h:Ars K H [a,b] c):∃u v,c=[u,v]/\ArI K H a u/\ArI K H b v:=by
 cases h with
 |cons d e=>obtain⟨v,rfl,q⟩:=JG e;exact⟨_,v,rfl,d,q⟩
theorem La(h:Ars K H [a,b,c] d):∃u v w,d=[u,v,w]/\ArI K H a u/\ArI K H b v/\ArI K H c w:=by
 cases h with
 |cons e f=>obtain⟨v,w,rfl,q,g⟩:=tN f;exact⟨_,v,w,rfl,e,q,g⟩
theorem GL(h:Ars K H [a,b,c,d] f):∃u v w x,f=[u,v,w,x]/\ArI K H a u/\ArI K H b v/\ArI K H c w/\ArI K H d x:=by
 cases h with
 |cons g i=>obtain⟨v,w,x,rfl,q,j,e⟩:=La i;exact⟨_,v,w,x,rfl,g,q,j,e⟩
def spA(K:vc)(R:List Ar->D->Prop):Sp:=λb H Q _=>∃as d,Ars K H as b/\R as d/\∀v a,Xe H a->Dat K a d v->Q v a
def oU(K:vc)(R:List Ar->List D->Prop):Sp:=λd H Q _=>∃as b,Ars K H as d/\R as b/\∀r c a,Xe H a->a r=some (.lst c)->H r=none->Xd K a b c->Q (.ref r) a
def RL(K:vc)(t:TE)(c:St)(H:Hp)(d:List D):Prop:=∀a,Xe H a->∀Q:VK,(∀v b,Xe a b->LD K b d v->Q v b)->t c a Q
def RB(K:vc)(t:TA)(d:St)(H:Hp)(as:List Ar):Prop:=∀a,Xe H a->∀Q:List V->Hp->Prop,(∀c b,Xe a b->Ars K b as c->Q c b)->t d a Q
section
variable{K:vc}
theorem RL.mono(h:RL K t a H b)(e:Xe H c):RL K t a c b:=λd s Q q=>h d (e.trans s) Q q
theorem RL.use(h:RL K t b H es)(q:∀v a,Xe H a->LD K a es v->Q v a):t b H Q:=h H (Xe.refl H) Q q
theorem RB.use(h:RB K tA c H d)(q:∀b a,Xe H a->Ars K a d b->Q b a):tA c H Q:=h H (Xe.refl H) Q q
theorem dB:RB K dC a H []:=λb _ Q q=>q _ _ (Xe.refl _) .nil
theorem gQ(h:RE K t b H d)(r:RB K tA b H f):RB K (bM t tA) b H (.d d::f):=λg s Q q =>
 h g s _ λv i c j=>r i (s.trans c) _ λm n e l=>q _ _ (c.trans e) (.cons (e.ari (a:=.d d) j) l)
theorem fH(h:RL K t b H ds)(r:RB K tA b H e):RB K (bM t tA) b H (.l ds::e):=λf s Q q =>
 h f s _ λv g c i=>r g (s.trans c) _ λm n d j=>q _ _ (c.trans d) (.cons (d.ari (a:=.l ds) i) j)
theorem bI(h:LD K H a v)(e:σ[k]?=some (some v):=by rfl):RL K (cV k) σ H a:=λb s Q q=>⟨v,e,q _ _ (Xe.refl _) (s.ld h)⟩
theorem iZ(h:RC K t a H b):RL K t a H b:=λc s Q q=>h c s _ λl g i _ d e f=>q _ _ d (LD.of e f)
theorem KM(h:wB K b a=true):RL K (tC (.ref a)) g H b:=λc _ Q q=>by obtain⟨d,e,f⟩:=wC h c;exact q _ _ (Xe.refl _) ⟨a,d,rfl,.inr e,f⟩
theorem gO(h:RB K tA b H a)(e:R a d):RE K (f6 (spA K R) [] E tA) b H d:=λc s Q q =>
 h c s _ λl m f g=>⟨a,d,by rw[Ub];exact g,e,λv n i j=>q _ _ (f.trans i) j⟩
theorem iz(h:RB K tA f H b)(e:R b c):RC K (f6 (oU K R) [] E tA) f H c:=λg s Q q =>
 h g s _ λt u d i=>⟨b,c,by rw[Ub];exact i,e,λr j l m n a p=>q r j l (d.free a) (d.trans m) n p⟩
theorem oE{ds:List D}{k:Nat}(g:RL K i b H ds)(j:RE K l b H (.int k))(e:ds[k]?=some d):RE K (Yn (HS K) i l) b H d:=λm s Q q =>
 g m s _ λv n c p=>j n (s.trans c) _ λw B f r=>by obtain⟨a,t,u,y,z⟩:=f.ld p;obtain⟨x,ex,A⟩:=z.get e;exact⟨a,t,k,x,u,r.Xp,y.YC,jN ex,q _ _ (c.trans f) A⟩
theorem Xd.snocE:∀{as:List D}{c:List V},Xd K H (as++[b]) c->∃d v,c=d++[v]/\Xd K H as d/\Dat K H b v
 |[],c,h=>by obtain⟨v,rfl,q⟩:=fB h;exact⟨[],v,rfl,Xd.nil,q⟩
 |a::as,c,h=>by obtain⟨v,r,rfl,e,f⟩:=h.Xx;obtain⟨d,w,rfl,g,i⟩:=Xd.snocE (as:=as) f;exact⟨v::d,w,rfl,Xd.cons e g,i⟩
theorem oF(f:RL K g b H (A++[d]))(i:RE K j b H (.int (-1))):RE K (Yn (HS K) g j) b H d:=λl s Q q =>
 f l s _ λv m c n=>i m (s.trans c) _ λw B e p=>by obtain⟨a,C,r,t,u⟩:=e.ld n;obtain⟨y,x,rfl,E,z⟩:=u.snocE;exact⟨a,_,-1,x,r,p.Xp,t.YC,DZ y x,q _ _ (c.trans e) z⟩
theorem gP(h:RL K t c H d):RE K (Zm (λe H Q=>∃p a,e=[.ref p]/\(Xm K H p a\/XG K H p a)/\Q (.int a.length) H) (bM t dC)) c H (.int d.length):=λi s Q q =>
 iX ((h.mono s).use λv j f b=>by
  obtain⟨l,a,rfl,g,b⟩:=b;exact⟨l,a,rfl,.inl g.YC,by rw[<- b.length];exact q _ _ f (Dat.Xs _)⟩)
theorem yp:∀{ns:eH}{a:List V},Xd K H (ns.map D.int) a->a=ns.map V.int
 |[],a,h=>by rw[Xd.YJ h];rfl
 |n::ns,a,h=>by obtain⟨v,r,e,b,c⟩:=h.Xx;rw[e,b.Xp,yp c];rfl
theorem Ih{a:eH}(h:RL K t c H (a.map D.int)):RE K (Zm (λd H Q=>∃(l:Addr)(a:eH),d=[.ref l]/\Xm K H l (a.map V.int)/\Q (.int a.sum) H) (bM t dC)) c H (.int a.sum):=λg s Q q =>
 iX ((h.mono s).use λv i e b=>by
  obtain⟨l,j,rfl,f,b⟩:=b;exact⟨l,a,rfl,by rw[<- yp b];exact f.YC,q _ _ e (Dat.Xs _)⟩)
noncomputable def isN:D->Bool
 | .Xi=>true
 |_=>false
theorem B1(h:Dat K H d v):decide (v=.Xi)=isN d:=by
 cases d with
 |Xi=>rw[h.Zg];rfl
 |bl b=>rw[h.Zf];rfl
 |int i=>rw[h.Xp];rfl
 |str x=>rw[h.Xz];rfl
 |tup f=>obtain⟨a,c,e,_⟩:=h.XC;rw[e];rfl
 |lst=>obtain⟨a,c,e,_⟩:=h.lstE;rw[e];rfl
theorem rQ(h:RE K a b H d):RE K (Yn (λx y H Q=>y=.Xi/\Q (.bl (decide (x=.Xi))) H) a (tC .Xi)) b H (.bl (isN d)):=λc s Q q =>
 h c s _ λv g e f=>⟨rfl,by rw[B1 f];exact q _ _ e (Dat.YE _)⟩
theorem xr(h:RE K a b H d):RE K (Yn (λx y H Q=>y=.Xi/\Q (.bl (!decide (x=.Xi))) H) a (tC .Xi)) b H (.bl (!isN d)):=λc s Q q =>
 h c s _ λv g e f=>⟨rfl,by rw[B1 f];exact q _ _ e (Dat.YE _)⟩
theorem jF(h:RL K z j H a)(Y:a.length<=1000)(b:List D)(hl:b.length=a.length)(A:(mk j).set x none=mk j)
  (e:∀m (i:Nat) c v d,Xe H m->a[i]?=some c->b[i]?=some d->Dat K m c v->RE K B ((mk j).set x (some v)) m d):RC K (fO (kh K z) mk (bT x) eO B) j H b:=λm s Q q=>by
 refine(h.mono s).use λv4 C t E=>?_;obtain⟨G,p,rfl,u,f⟩:=E;have ll:=f.length;refine⟨G,rfl,⟨p,u.YC⟩,?_⟩;refine jB (K:=K) (Q:=Q) (n:=p.length) (item:=λi=>p.getD i .Xi) (λi y s r=>kJ i y (s.seq u.YC) r) (λy s=>⟨p,s.seq u.YC,Tu _⟩) A b ⋯ ⋯ (λi d r=>?_) (λl I L w M=>q l I L (t.free w) (t.trans M));have N:i<b.length:=(T9.mp r).1;have g:i<a.length:=by lia
 obtain⟨O,T,U⟩:=f.get (M1 g);have q:=e C i a[i] O d (s.trans t) (M1 g) r U;rw[Uc,T];exact q
theorem rN(h:RL K t e H f):RC K (Zm (λg H Q=>∃p a,g=[.ref p]/\(Xm K H p a\/XG K H p a)/\∀l,H l=none->Q (.ref l) (upd H l (.lst a))) (bM t dC)) e H f:=λj s Q q =>
 iX ((h.mono s).use λv m d b=>by
  obtain⟨p,a,rfl,i,b⟩:=b;exact⟨p,a,rfl,.inl i.YC,λl c=>q l a _ (d.free c) (d.trans (aH c _)) aD ((aH c _).Xo b)⟩)
theorem jh(m:RL K n f H g)(r:RL K t f H i)(G:g.length+i.length<=1000):RC K (Yn (IU K) n t) f H (g++i):=λu s Q q =>
 m u s _ λv x c y=>r x (s.trans c) _ λw I d z=>by obtain⟨a,A,rfl,B,j⟩:=d.ld y;obtain⟨b,C,rfl,E,l⟩:=z;have L:=j.length;have M:=l.length;exact⟨a,b,A,C,rfl,rfl,B,E,⋯,λp e=>q p _ _ ((c.trans d).free e) (c.trans (d.trans (aH e _))) aD ((aH e _).Xo (Xd.append j l))⟩
theorem Dr{zs:e9}(h:RC K t b H (zs.map D.str))(c:zs.length<=100):RE K (Zm (λa H Q=>∃(p:Addr)(n:Nat),a=[.ref p]/\H p=some (.ext (Bj p n))/\n<=1000/\Q (.int n) H)
  (bM (Zm (λa H Q=>∃(l:Addr)(zs:e9),a=[.ref l]/\Xm K H l (zs.map V.str)/\zs.length<=100/\∀p,H p=none->Q (.ref p) (upd H p (.ext (Bj p (wb zs))))) (bM t dC)) dC)) b H (.int (wb zs)):=λj s Q q =>
 iX (iX ((h.mono s).use λl m r _ d e f=>by
  refine⟨l,zs,rfl,by rw[<- BI f];exact Xm.of e,c,λp g=>⟨p,wb zs,rfl,aD,?_,q _ _ (d.trans (aH g _)) (Dat.Xs _)⟩⟩;have:=wD (λi=>zs.getD i "") zs.length;unfold wb;lia))
theorem BN(zs:e9):∀i,i<=zs.length->((∀y,(met (λi=>zs.getD i "") i).any (·==y)=decide (y∈zs.take i))/\((met (λi=>zs.getD i "") i).length=i↔(zs.take i).Nodup))
 |0,_=>⟨λy=>by simp[met],by simp[met]⟩
 |i+1,h=>by
  obtain⟨d,e⟩:=BN zs i ⋯;have m:=wD (λi=>zs.getD i "") i;have f:i<zs.length:=h;have g:zs.take (i+1)=zs.take i++[zs[i]]:=by rw[Um,M1 f];rfl
  have j:zs.getD i ""=zs[i]:=by rw[Uc,M1 f];rfl
  refine⟨λy=>?_,?_⟩
  ·rw[kQ,BM,d,g];simp only[j,Uw,Uj];by_cases n:y∈zs.take i<;>by_cases p:y=zs[i]<;>simp[n,p]
  ·rw[kQ,wc,d,g];simp only[j];rw[List.nodup_append];by_cases c:zs[i]∈zs.take i
   ·rw[TR (TZ c)];constructor
    ·intro z;lia
    ·rintro⟨_,_,z⟩;exact absurd rfl (z _ c _ (Uj.mpr rfl))
   ·rw[TN (by simpa using c)];constructor
    ·intro z;refine⟨e.mp ⋯,by simp,?_⟩;rintro a l b q rfl;rw[Uj.mp q]at l;exact c l
    ·rintro⟨z,_⟩;have:=e.mpr z;lia
theorem GU(zs:e9):wb zs=zs.length↔zs.Nodup:=by have h:=(BN zs zs.length (Tu _)).2;rw[UE]at h;exact h
end
def qi(K:vc):V->List V->Hp->VK->Prop:=λx c H Q=>∃l b y a d j,x=.ref l/\c=[y]/\YS K H l b/\Xd K H a b/\Dat K H d y/\XA a=true/\Yj d=true/\Xn a<=20/\b.length<=1000 /\
 (∃e,a[j]?=some e/\XM e d=true)/\(∀(m:Nat) e,m<j->a[m]?=some e->XM e d=false)/\Q (.int (j:Nat)) H
section
theorem Dc{X:Cx}(hr:Xy k X.A):MtM X "list.index" (qi X.K):=by
 intro pins s σ H x vs v us Q I rx rv h;obtain⟨l,xs,y,N,d,j,rfl,rfl,hH,B,hd,n1,n2,dp,hx,⟨e0,C,T⟩,U,q⟩:=h;cases rx;obtain⟨u,rfl,ru⟩:=fP rv;obtain⟨a,n,r,e⟩:=hH.at I;have hl:=r.length;have ll:=B.length
 have item:∀(m:Nat)(w:Value),a[m]?=some w->∃g,N[m]?=some g/\∃E,RelV E w/\Dat X.K H g E:=λm w b=>by have O:m<a.length:=(T9.mp b).1;obtain⟨g,f,dg⟩:=B.YQ (i:=m) (v:=xs[m]'(by lia)) (M1 ⋯);obtain⟨w',p,rr⟩:=r.get (i:=m) (x:=xs[m]'(by lia)) (M1 ⋯);rw[b]at p;cases p;exact⟨g,f,_,rr,dg⟩
 have z:∀{Y x2:V}{w:Value},RelV Y w->RelV x2 w->Y=x2:=λ{Y x2 w} h1 h2=>RelV.inj h1 h2
 classical
 let eq:Value->Bool:=λw=>if b:∃m:Nat,a[m]?=some w then (match N[Classical.choose b]? with|some g=>XM g d|none=>false)else false
 have t:∀(m:Nat)(w:Value)(g:D),a[m]?=some w->N[m]?=some g->eq w=XM g d:=λm w g b f=>by
  have p:∃m:Nat,a[m]?=some w:=⟨m,b⟩
  show(if b:∃m:Nat,a[m]?=some w then _ else false)=_;rw[dif_pos p];have hc:=Classical.choose_spec p;obtain⟨g',G,xv',r1,d1⟩:=item _ w hc;obtain⟨g2,L,E,r2,d2⟩:=item m w b;rw[f]at L;cases L;rw[G];have ex:=z r1 r2;subst ex;have:=qb I g' g (gJ n1 G) d1 d2 (gJ n1 f);rw[this]
 have hj:j<N.length:=(T9.mp C).1
 have hu:X.A.in1.units+20+1<cLine:=by have:=hr.un;show X.A.units+1+20+1<cLine;lia
 refine WG Wl ⟨_,e,rfl⟩ F.entry_list_index (F.args_list_index_2 _ _) (SeqAt.list_indexAt l a.toArray n none #[] u eq j (by simp;lia) ⋯ ?_ ?_) ⟨e,?_,?_⟩
 ·have b:a[j]?=some (a[j]'(by lia)):=M1 ⋯;have:=t j _ e0 b C;simpa[this]using T
 ·intro m O hmj;have c:m<a.length:=by simpa using O
  have b:a[m]?=some (a[m]'c):=M1 c;obtain⟨g,f,_⟩:=item m _ b;have:=t m _ g b f;simpa[this]using U m g hmj f
 ·intro w b;obtain⟨m,O,rfl⟩:=Array.getElem_of_mem b;have c:m<a.length:=by simpa using O
  have M:a[m]?=some (a[m]'c):=M1 c;obtain⟨g,f,E,r1,d1⟩:=item m _ M;have z1:a.toArray[m]=a[m]'c:=by simp
  rw[z1,t m _ g M f];exact wd I 20 X.A.in1 g d E y _ u hu (T8 (jR f) dp) (gJ n1 f) n2 d1 hd r1 ru
 ·exact⟨.int (j:Nat),H,I.tok _,⟨_,rfl⟩,q⟩
theorem Dd{X:Cx}(a:Xy k X.A):MtR X "list.index" (qi X.K):=Dc a
theorem FW{K:vc}(l:LD K H b v)(h:RE K n f H d)(n1:XA b=true)(n2:Yj d=true)(p:Xn b<=20)(z:b.length<=1000)(r:∃e,b[j]?=some e/\XM e d=true)(t:∀(m:Nat) e,m<j->b[m]?=some e->XM e d=false)(e:f[k]?=some (some v):=by rfl) :
  RE K (tBM K "list" (qi K) (cV k) (bM n dC)) f H (.int (j:Nat)):=λu s Q q=>by
 obtain⟨a,w,rfl,g,i⟩:=s.ld l;have A:=i.length;refine⟨_,e,.inl ⟨rfl,_,g.YC⟩,h u s _ λy B c x=>?_⟩;exact⟨a,w,y,b,d,j,rfl,rfl,c.YS g,c.Xo i,x,n1,n2,p,⋯,r,t,q _ _ c (Dat.Xs _)⟩
end
theorem Hc{K:PySem.W.Frag}{a:Addr}{xs:List V}{g:TG}{n:TS}{D:Ends}{b:St}{H:Hp}(Pv:Nat->St->Hp->Prop)(s:Pv 0 b H)(t:∀i b H,i<=xs.length->Pv i b H->Xm K H a xs)
  (u:∀i x b H,i<xs.length->xs[xs.length - 1 - i]?=some x->Pv i b H->g x b H λc l=>n {D with nx:=Pv (i+1),ct:=Pv (i+1),bk:=D.nx} c l) (v:∀b H,Pv xs.length b H->D.nx b H) :
  ∃W:Nat->Nat->St->Hp->Prop,(∃m,W 0 m b H)/\∀i m b H,W i m b H ->
   ((Itv K a xs).stop i H/\D.nx b H)\/((Itv K a xs).go i H/\∃N:St->Hp->Prop,(∀d f,N d f->∃r,r<m/\W (i+1) r d f)/\∀x f,(Itv K a xs).Zd i H x f->g x b f λc l=>n {D with nx:=N,ct:=N,bk:=D.nx} c l):=by
 refine⟨λi m b H=>m=xs.length - i/\i<=xs.length/\Pv i b H,⟨xs.length,by simp,Us _,s⟩,?_⟩;rintro i m b H ⟨rfl,w,p⟩;have q:=t i b H w p;by_cases j:i<xs.length
 ·refine .inr ⟨⟨j,q⟩,Pv (i+1),λd f z=>⟨xs.length - (i+1),⋯,rfl,j,z⟩,λx f y=>?_⟩;obtain⟨e,y⟩:=y;subst e;exact u i x b _ j y p
 ·have e:i=xs.length:=by lia
  subst e;exact .inl ⟨rfl,v b H p⟩
theorem kE{n:Nat}{j:Nat}{C:TT}{E:TE}{G:Hp}{Q:VK}(Ok:Hp->Prop)
  (I:∀i a,Ok a->i<n->J.go i a/\∀x d,J.Zd i a x d->d=a/\x=item i) (stop:∀a,Ok a->J.stop n a) (L:σ0.set j none=σ0)
  (D:Addr) (r:Nat->Hp->Prop) (p0:r 0 (upd G D (.lst []))) (ok:∀i a,i<=n->r i a->Ok a)
  (u:∀i a,i<n->r i a->C (σ0.set j (some (item i))) a λb w=>if b=true then E (σ0.set j (some (item i))) w λv A=>∃s,A D=some (.lst s)/\s.length<sizeLine/\(∃z,σ0.set j (some (item i))=σ0.set j z)/\r (i+1) (upd A D (.lst (s++[v])))else (∃z,σ0.set j (some (item i))=σ0.set j z)/\r (i+1) w)
  (fin:∀a,r n a->Q (.ref D) a) :
  ∃W:Nat->Nat->St->Hp->Prop,(∃m,W 0 m σ0 (upd G D (.lst [])))/\∀i m f a,W i m f a ->
   (J.stop i a/\Q (.ref D) a) \/
   (J.go i a/\∃B:St->Hp->Prop,(∀c d,B c d->∃H,H<m/\W (i+1) H c d)/\∀x d,J.Zd i a x d->bT j x f d λl M=>C l M λb w =>
    if b=true then E l w λv A=>∃s,A D=some (.lst s)/\s.length<sizeLine/\B l (upd A D (.lst (s++[v])))else B l w):=by
 refine⟨λi m f a=>m=n - i/\i<=n/\(∃z,f=σ0.set j z)/\r i a,⟨n,⋯,Us _,⟨none,L.symm⟩,p0⟩,?_⟩;rintro i m f a ⟨rfl,N,⟨z,rfl⟩,p⟩;have o:=ok i a N p;by_cases t:i<n
 ·obtain⟨g,y⟩:=I i a o t;refine .inr ⟨g,λc d=>(∃z,c=σ0.set j z)/\r (i+1) d,λc d q=>⟨n - (i+1),⋯,rfl,t,q.1,q.2⟩,λx d O=>?_⟩;obtain⟨e1,e2⟩:=y x d O;subst e1 e2;simp only[bT,nN];exact u i _ t p
 ·have e:i=n:=by lia
  subst e;exact .inl ⟨stop a o,fin a p⟩
theorem Kl{X:Cx}{c:Pos}{id:String}(K:vc)(l:X.K=K)(m:PlainAttrs T)(slot:Slot T name id)(j:typeOf (.builtin id)=pure (.type "method_descriptor"))(n:MtR X id r)(p:PE X o to)(q:PA X (e::g) t)
  (d:attributeBase o name X.env (eval o X.env)=eval o X.env:=by rfl)
  (i:((backTo a (starEach (e::g) X.env)).all (λx=>!x.1)&&(backToKw a (keywordEach [] X.env)).all (λx=>x.1.isSome)
   && decide ((e::g).length+([]:List Keyword).length+(if ([]:List Keyword).isEmpty then 0 else 1)<30))=true:=by rfl)
  (f:(c.endLine==a.line)=true:=by rfl) (s:starEach (e::g) X.env=(false,eval e X.env)::starEach g X.env:=by rfl) (b:(backTo a (starEach g X.env)).any (·.1)=false:=by rfl) :
  PE X (.Call (.Attribute o name c) (e::g) [] a) (tBM K T r to t):=by
 subst l;exact eB m slot j n p q d i f s b
theorem cO(a b:D)(r q:List D):XO (a::r) (b::q)=(XM a b&&XO r q):=by rw[XO]
theorem eI:XO [] []=true:=by rw[XO]
theorem eF(b:D)(q:List D):XO [] (b::q)=false:=by unfold XO;rfl
theorem eE(a:D)(r:List D):XO (a::r) []=false:=by unfold XO;rfl
theorem fS(a b:List D):XM (.tup a) (.tup b)=XO a b:=by rw[XM]
theorem fR(a b:Str):XM (.str a) (.str b)=decide (a=b):=by unfold XM;by_cases h:a=b<;>simp[h]
theorem fQ(a b:Int):XM (.int a) (.int b)=decide (a=b):=by unfold XM;by_cases h:a=b<;>simp[h]
theorem zu(M:Addr->List V->Hp->Prop)(h:∀R:VK,(∀r a c,c r=some (.lst a)->M r a c->R (.ref r) c)->q d H R)(s:(mk d).set j none=mk d)
  (body:∀r a c l,c r=some (.lst a)->M r a c->c l=none->∃e:Nat->Hp->Prop,e 0 (upd c l (.lst []))/\(∀i G,i<=a.length->e i G->Xm K G r a) /\
   (∀i G,i<a.length->e i G->t ((mk d).set j (some (a.getD i .Xi))) G λb g=>if b=true then u ((mk d).set j (some (a.getD i .Xi))) g λv m=>∃f,m l=some (.lst f)/\f.length<sizeLine/\(∃z,(mk d).set j (some (a.getD i .Xi))=(mk d).set j z)/\e (i+1) (upd m l (.lst (f++[v])))else (∃z,(mk d).set j (some (a.getD i .Xi))=(mk d).set j z)/\e (i+1) g) /\
   ∀G,e a.length G->Q (.ref l) G):fO (kh K q) mk (bT j) t u d H Q:=by
 refine h _ λr a c p w=>⟨r,rfl,⟨a,Xm.of p⟩,λl x=>?_⟩
 obtain⟨e,y,A,B,C⟩:=body r a c l p w x;exact kE (J:=Itl K r) (n:=a.length) (item:=λi=>a.getD i .Xi) (λG=>Xm K G r a) (λi G o E=>kJ i G o E) (λG o=>⟨a,o,Tu _⟩) s l e y A B C
section
variable{P:Program}{w:World}{H H':Hp}{h:Heap}{a T:Addr}
theorem Xr.has(x:Xr P w H h a o):∃u,h.get? a=some u:=by
 cases o with
 |lst c=>obtain⟨_,_,_,_,e⟩:=x;exact⟨_,e⟩
 |tup c=>obtain⟨_,_,_,ob,e,_⟩:=x;exact⟨ob,e⟩
 |dK b=>obtain⟨_,_,_,_,o,_,_,e,_⟩:=x;exact⟨_,e⟩
 |dT b=>obtain⟨_,_,_,_,o,_,_,e,_⟩:=x;exact⟨_,e⟩
 |set S n=>obtain⟨o,_,_,_,e,_⟩:=x;exact⟨_,e⟩
 |ins C d fs=>obtain⟨_,_,_,e,_⟩:=x;exact⟨_,e⟩
 |own y=>exact x
 |xd fs=>obtain⟨_,⟨_,_,_,e,_⟩,_⟩:=x;exact⟨_,e⟩
 |rng lo g=>obtain⟨_,_,_,e⟩:=x;exact⟨_,e⟩
 |Yx ob u=>obtain⟨e,_⟩:=x;exact⟨_,e⟩
 |tbl i=>exact⟨_,(show h.get? a=some _ from x)⟩
 |met f y=>exact⟨_,(show h.get? a=some _ from x)⟩
 |ext φ=>obtain⟨_,e,_⟩:=x;exact e
theorem Yh.empty(x:Yh P w H h)(e:h.get? a=none):H a=none:=by
 cases q:H a with
 |none=>rfl
 |some u =>obtain⟨v,r⟩:=(x a u q).has;rw[e]at r;cases r
def Trc(h:Heap)(e T:Addr)(cls g:Value):Prop :=
 ∃b c d f,h.get? e=some b/\(b.cls=cls/\c[0]?=some g)/\b.data=.fields c/\c[1]?=some (.ref T)/\T≠e/\h.get? T=some d/\d.data=.fields f/\f[3]?=some .none
noncomputable def CX1(P:Program)(w:World):CXT:=λouter H s E e b =>
 ∃a T cls c H',e=.ref a/\b.os=s.os/\AllBare b.gens/\Un (frs outer) [] H H' s.heap b.heap/\Yh P w H' b.heap /\
  (s.heap.get? a=none/\s.heap.get? T=none/\H' a=none/\H' T=none)/\Trc b.heap a T cls c/\E cls none H'
theorem Gy{f:Heap}(U:Un fs [] H H' h g)(p:h.get? a=none)(r:h.get? T=none)(k:∀b o,g.get? b=some o->b≠a->b≠T->b∉fs->f.get? b=some o)
  (e:∀b o,g.get? b=some o->b∈fs->∃e,f.get? b=some {o with slots:=e}):Un fs [] H H' h f:=by
 have i:∀b o,h.get? b=some o->b≠a:=λb o q z=>by rw[z,p]at q;cases q
 have j:∀b o,h.get? b=some o->b≠T:=λb o q z=>by rw[z,r]at q;cases q
 refine⟨λb o q n c d=>k b o (U.keep b o q n c d) (i b o q) (j b o q) c,λb o q n c d=>?_,U.free,λb o q d=>?_,U.tups,U.YY,U.Zr⟩
 ·obtain⟨s,e1⟩:=U.slot b o q n c d;obtain⟨l,e2⟩:=e b _ e1 c;exact⟨l,e2⟩
 ·obtain⟨m,e1⟩:=U.there b o q d;by_cases c:b∈fs
  ·obtain⟨l,e2⟩:=e b _ e1 c;exact⟨_,e2⟩
  ·exact⟨m,k b m e1 (i b o q) (j b o q) c⟩
theorem EI{f:Heap}{fs:nt}(O:Yh P w H g)(i:H a=none)(j:H T=none)(l:∀b∈fs,H b=none)(k:∀b o,g.get? b=some o->b≠a->b≠T->b∉fs->f.get? b=some o):Yh P w H f:=λc u e =>
 (O c u e).stay (λb v m q=>by
  have d:H b≠none:=by
   rcases m with z|z
   ·rw[z,e];exactλy=>nomatch y
   ·rw[z];exactλy=>nomatch y
  exact k b v q (λz=>d (by rw[z];exact i)) (λz=>d (by rw[z];exact j)) λz=>d (l b z)) (λ_ q=>q) λ_ _ q=>q
theorem JT(F:h.FunFrames base l)(t:Trc h a T cls e):Heap.FlyingW (W.hideAll h (a::T::frs l)) l a cls e h:=by
 obtain⟨f,g,i,j,m,n,p,r,c,s,d,u⟩:=t
 exact⟨λb o q=>W.of_hideAll _ q,Wg _ (.head _),W.funFrames_hide F λenv v b x=>.tail _ (.tail _ (UZ.mpr ⟨env,v,x⟩)),
  f,g,T,i,j,m,n,p,r,Wg _ (.tail _ (.head _)),c,s,d,u⟩
theorem yC(F:h.FunFrames base l)(x:Heap.FlyingW (W.hideAll h (a::T::frs l)) M a cls s g)(U:h.UpToSlots g) :
  ∃d,Trc g a d cls s/\(d=T\/h.get? d=none)/\(∀b o,h.get? b=some o->b≠a->b≠T->b∉frs l->g.get? b=some o)/\(∀b o,h.get? b=some o->b∈frs l->∃f,g.get? b=some {o with slots:=f}):=by
 obtain⟨t,N,O,u,v,d,y,n,A,B,C,E,p,i,r,j,G⟩:=x
 have f:∀b o,h.get? b=some o->b∈frs l->∃f,g.get? b=some {o with slots:=f}:=λb o q I=>by obtain⟨_,L,c,e⟩:=F.mem I;rw[q]at c;cases c;exact U b o q e
 refine⟨d,⟨u,v,y,n,A,B,C,E,i,r,j,G⟩,?_,λb o q n1 n2 n3=>t b o (W.hideAll_get _ q λz=>?_),f⟩
 ·cases q:h.get? d with
  |none=>exact .inr rfl
  |some o =>
   refine .inl ?_;by_cases m:d∈a::T::frs l
   ·rcases TY.mp m with z|m
    ·exact absurd z i
    ·rcases TY.mp m with z|m
     ·exact z
     ·obtain⟨_,L,c,e⟩:=F.mem m;rw[q]at c;cases c;obtain⟨Q,e2⟩:=f d o q m;rw[r]at e2;cases e2;exact absurd j (e n)
   ·rw[W.hideAll_get _ q m]at p;cases p
 ·rcases TY.mp z with z|z
  ·exact n1 z
  ·rcases TY.mp z with z|z
   ·exact n2 z
   ·exact n3 z
end
section
theorem CX1.behind{X:Cx}{c:qd}{t:St}{H:Hp}{s f:Shared}{E:XK}{e:Value}(I:Inv X c t H s)(x:CX1 X.prog X.w X.stack H s E e f):∃a T cls m d,e=.ref a/\E cls none d/\s.heap.get? a=none/\d a=none/\Inv X c t d f /\
  Heap.FlyingW (W.hideAll f.heap (a::T::frs X.stack)) X.stack a cls m f.heap /\
  ∀j B,Heap.FlyingW (W.hideAll f.heap (a::T::frs X.stack)) B a cls m j->f.heap.UpToSlots j ->
   ∃g,Inv X c t d {f with heap:=j}/\Trc j a g cls m/\s.heap.get? g=none/\d g=none/\Un (frs X.stack) [] H d s.heap j:=by
 obtain⟨a,T,cls,m,d,L,os,i,un,l,⟨sa,u,C,G⟩,M,q⟩:=x;have J:Inv X c t d f:=I.ZC (ch:=[]) os un l i (λb z=>absurd z (by simp));refine⟨a,T,cls,m,d,L,q,sa,C,J,JT J.stack M,λj B fl N=>?_⟩;obtain⟨g,O,n,v,p⟩:=yC J.stack fl N
 have y:d g=none:=by
  rcases n with z|z
  ·rw[z];exact G
  ·exact l.empty z
 have A:s.heap.get? g=none:=by
  rcases n with z|z
  ·rw[z];exact u
  ·cases q:s.heap.get? g with
   |none=>rfl
   |some o =>obtain⟨Q,r⟩:=un.there g o q (by simp);rw[z]at r;cases r
 exact⟨g,I.ZC (s':={f with heap:=j}) (ch:=[]) os (Gy un sa u v p) (EI l C G J.YZ v) i (λb z=>absurd z (by simp)),O,A,y,Gy un sa u v p⟩
end
def Fre(h:Heap)(e:Addr)(cls c:Value):Prop:=∃a b,h.get? e=some a/\(a.cls=cls/\b[0]?=some c)/\a.data=.fields b/\b[1]?=some .none
noncomputable def uJ(K:vc)(C:Addr)(b:yw)(a:String)(c:Option Value):Bool:=match K.lookup C with
 |some ⟨.type "type",_,.cls cd,slots⟩=>(match cd.mro,slots.toList with
  | .ref d::e,[_,_,_,_,some (.builtin n),_]=>d==C&&n==a&&!cd.hasDel&&W.tailIn K b e&&W.nsOkIn K cd.ns&&W.nsIn K cd.ns "__init__"==some c
  |_,_=>false)
 |_=>false
theorem AG(X:K.In h)(G:h.Ns N mg)(e:W.nsIn K N n=some (some v)):mg n=some v:=by
 obtain⟨o,j,l,a,b,_,f⟩:=G;unfold W.nsIn at e;split at e
 ·rename_i c d g m p q;have:=X _ _ q;rw[a]at this;cases this;cases b;split at e
  ·rename_i en i;rw[<- f];unfold nsFind findBy;rw[<- Array.find?_toList,i];cases e;rfl
  ·split at e<;>cases e
 ·cases e
theorem JQ(X:K.In h)(q:uJ K C j c e=true) :
  ∃bm N nm B bs E sn sub ab col dd k0 k1 k2 k3 k5 mN,h.get? C=some (excClassObj nm B C N bs bm E sn sub ab col dd k0 k1 k2 k3 k5 c)/\h.Ns N mN/\mN "__init__"=e/\OwnTail h j bm:=by
 unfold uJ at q;split at q
 ·rename_i dd cd G H;split at q
  ·rename_i I bm k0 k1 k2 k3 n k5 l L;rw[Tw,Tw,Tw,Tw,Tw]at q;obtain⟨⟨⟨⟨⟨e1,e2⟩,b⟩,M⟩,m⟩,a⟩:=q;obtain rfl:=VC.mp e1;obtain rfl:=VC.mp e2;have a:=VC.mp a;obtain⟨p,r,s,t,u,w,x,f,y,g,d⟩:=cd;have i:G.toList.toArray=[k0,k1,k2,k3,some (.builtin n),k5].toArray:=by rw[L]
   rw[Array.toArray_toList]at i;subst i;have l:s=.ref I::bm:=l
   have A:d=false:=by
    have z:(!d)=true:=b
    cases d with
    |true=>cases z
    |false=>rfl
   clear b;subst l A;have hN:h.Ns t (h.nsMap t):=.of_isNs (W.isNs_of_in X m);refine⟨bm,t,p,u,r,w,x,f,y,g,dd,k0,k1,k2,k3,k5,_,X _ _ H,hN,?_,W.tail_of_in X M⟩
   cases e with
   |none=>exact W.ns_none_of X hN a
   |some v=>exact AG X hN a
  ·cases q
 ·cases q
def lC(d:CXT)(X:Cx)(E:St->XK):Prop:=∀(a:qd)(b:St)(H:Hp)(s:Shared)(e:Value)(c:Shared),Inv X a b H s->d X.stack H s (E b) e c->X.xe e c
section
theorem Cq{X:Cx}{j:CXT}{k:Nat}{f:Addr}{l:FuncData}{i:e9}{m:Sp}{g:List V}{b:yw}{E:St->XK}{a:qd}{c:St}{H:Hp}{s:Shared}{Q:VK}{us:yw}{vs:List V}(F:Xj X.prog X.w X.K X.mg X.base j k f l i m)(p:Xy k X.A)(q:Binds X.K l i b)(t:Vals g b)(v:lC j X E)
  (I:Inv X a c H s) (r:Vals vs us) (h:m (vs++g) H Q (E c)):wpAny (model X.prog X.w) X.A (call (.ref f) us) (EP X a c Q) X.xe s:=by
 have n:Vals (vs++g) (us++b):=r.append t;have x:(us++b).length=i.length:=by rw[<- n.length];exact F.len _ _ _ _ h
 refine VM (UT (F.run X.A X.stack s H ⟨us,[]⟩ (us++b) (vs++g) Q (E c) p I.env0 (q s us I.Yg x) n h) λr y d=>?_)
 cases r with
 |error e=>exact v a c H s e y I d
 |ok fl =>
  cases fl with
  |ret u=>exact I.after d
  |next=>exact False.elim d
  |brk=>exact False.elim d
  |cont=>exact False.elim d
theorem Fx{X:Cx}(F:Xj X.prog X.w X.K X.mg X.base l k f m n u)(v:Xy k X.A)(y:Gl X x)(z:X.mg x=some (.ref f))(hk:W.keepIn X.K (.ref f)=true)(B:Binds X.K m n C)(G:Vals L C)(M:lC l X E)
  (N:PA X (e::c) t) (g:(x==("__debug__":Str))=false:=by decide) (O:starEach (e::c) X.env=(false,eval e X.env)::starEach c X.env:=by rfl) (i:(backTo a (starEach c X.env)).any (·.1)=false:=by rfl) :
  PE X (.Call (.Name x p) (e::c) [] a) (λd=>f6 u L (E d) t d):=by
 intro b s d H Q I h;refine U0 (gH I y z ?_ g);refine Wb (h₀:=X.base) I.ok.mod.kin hk (Xl (N a b s d H _ I h) λT U ⟨Y,H1,j,r,q⟩=>⟨j.Yg,?_⟩) O i;exact Cq F v B G M j r q
end
noncomputable def Cx.hand(X:Cx)(e:Value):Cx:={X with A:=X.A.mark (some e),calm:=false,xe:=λ_ _=>False}
theorem Cx.Ok.hand{X:Cx}(o:X.Ok):(X.hand e).Ok :=
 ⟨o.mod,o.kind,o.glob,o.blt,o.above,o.inj,o.has,o.cab,(λz=>nomatch z),o.frames,o.stk,o.exf,o.bs,o.bsz,o.ZZ,o.exfs,o.YD,o.frf⟩
section
theorem Inv.hand{X:Cx}{a:qd}{b:St}{H:Hp}{s:Shared}{e:Value}(I:Inv X a b H s):Inv (X.hand e) a b H s:=⟨I.ok.hand,I.os,I.bare,I.base,I.loc,I.cell,I.free,I.XY,I.pin,I.hok,I.len⟩
theorem Inv.X6{X:Cx}{a:qd}{b:St}{H:Hp}{s:Shared}{e:Value}(o:X.Ok)(I:Inv (X.hand e) a b H s):Inv X a b H s:=⟨o,I.os,I.bare,I.base,I.loc,I.cell,I.free,I.XY,I.pin,I.hok,I.len⟩
theorem Inv.inTry{X:Cx}{a:qd}{b:St}{H:Hp}{s:Shared}{xe:qf}(I:Inv X a b H s):Inv {X with pn:=X.pn++a,xe:=xe} [] b H s :=
 ⟨⟨I.ok.mod,I.ok.kind,I.ok.glob,I.ok.blt,I.ok.above,I.ok.inj,I.ok.has,I.ok.cab,I.ok.hd,I.ok.frames,I.ok.stk,I.ok.exf,I.ok.bs,I.ok.bsz,I.ok.ZZ,I.ok.exfs,I.ok.YD,I.ok.frf⟩,I.os,I.bare,I.base,I.loc,I.cell,I.free,I.XY,
  λp c=>I.pin p (by simpa using c),I.hok,I.len⟩
theorem Inv.Yl{X:Cx}{a c:qd}{b:St}{H:Hp}{s:Shared}{xe:qf}(o:X.Ok)(I:Inv {X with pn:=X.pn++a,xe:=xe} c b H s):Inv X a b H s :=
 ⟨o,I.os,I.bare,I.base,I.loc,I.cell,I.free,I.XY,λp d=>I.pin p (Vg _ d),I.hok,I.len⟩
end
end L2
namespace L2
open PySem PySem.Spec PySem.Calls PyProof.Rows PySem.W PySem.Builtin PySem.Builtin.ObjectAttr PySem.Builtin.Getset_descriptor
section
variable{K:Frag}{D:Addr}
theorem D0(o:Value):bindSpecial (.builtin "BaseException.__getattribute__") o=pure (.builtin "BaseException.__getattribute__",[o]):=F.attr_ValueError.ga.bind o
structure tJ(K:Frag)(D:Addr):Prop where
 ga:findIn K (.ref D) "__getattribute__"=some (some (.builtin "BaseException.__getattribute__"))
 gt:findIn K (.ref D) "__getattr__"=some none
 dct:hasDictIn K D=true
 a:findIn K (.ref D) "__class__"=some (some (.builtin "object.__class__"))
 n:specialIn K (.builtin "object.__class__") "__get__"=some (some (.builtin "getset_descriptor.__get__"))
 tk:takesIn K (.builtin "object.__class__")=some true
 m:mroIn K D (.type "object")=some true
 b:mroIn K D (.type "BaseException")=some true
theorem Hn{s:Shared}(X:K.In s.heap)(b:Looks (model prog w) s.heap (typeOf (.ref x)) (.ref D))(a:mroIn K D (.type "object")=some true)
  (h:R (.ok (.ret (.ref D))) s):codeAny (model prog w) A (.call (.builtin "getset_descriptor.__get__") ⟨[.builtin "object.__class__",.ref x,c],[]⟩) R s:=by
 obtain⟨d,g,e,t,os⟩:=s;have f:=looks_mroIn (M:=model prog w) X a;refine WJ KF.slot_gs.plain KF.entry_gs ?_;refine KF.slot_gs.check _ _ _ _ _ _ _ _ KF.type_class (KF.args_gs _ _ _) ?_;unfold «getset_descriptor.__get__»;unfold descrGet;rw[dga_obj];refine Tn (Tz ?_);unfold descrGetter descrCheckInstance;unfold descrNameAndClass isInstance;simp only[KF.owner_class]
 repeat lk
 refine⟨Code.quiet_builtin _ ⋯,?_⟩;refine WI KF.entry_class ?_;unfold Builtin.«object.__class__» shownTypeOf
 repeat lk
 exact h
theorem ER(X:K.In h)(b:tJ K D):Looks M h (Builtin.ObjectAttr.find (.ref x) (.ref D) "__class__") (.bind (.builtin "getset_descriptor.__get__") (.builtin "object.__class__")):=by have c:=looks_findIn (M:=M) X b.a;have L2:Looks M h (Builtin.ObjectAttr.getOf (some (.builtin "object.__class__"))) (some (.builtin "getset_descriptor.__get__")):=looks_specialIn X b.n;have d:=looks_takesIn (M:=M) X b.tk;unfold Builtin.ObjectAttr.find;refine c.andThen (L2.andThen ?_);unfold Builtin.ObjectAttr.dataDescriptor?;refine Looks.andThen (a:=some (.builtin "getset_descriptor.__get__",.builtin "object.__class__")) (d.andThen .now) ?_;exact Looks.tag .now
theorem C2{s:Shared}(X:K.In s.heap)(c:Looks (model prog w) s.heap (typeOf (.ref x)) (.ref D))(a:tJ K D)
  (h:Q (some (.ref D)) {s with toks:=s.toks+1}):wpAny (model prog w) A (getAttr? (.ref x) "__class__") Q E s:=by
 obtain⟨e,g,d,t,os⟩:=s;have f:=looks_findIn (M:=model prog w) X a.ga;have L2:=looks_findIn (M:=model prog w) X a.gt;have i:=ER (M:=model prog w) (x:=x) X a;have j:Looks (model prog w) e (isInstance (.ref x) (.type "BaseException")) true:=c.andThen (looks_mroIn X a.b);unfold getAttr? getAttrBy? getAttrBy;refine Tn (wpAny_mkText (Tn (VL (US ?_))));refine Tn (c.at ?_);refine Tn (f.at ?_);show wpAny _ _ (getAttrByItsOwn _ _ _ _ _ _) _ _ _;unfold getAttrByItsOwn hookBefore;refine Tn ?_;show wpAny _ _ (typeLookup (.ref D) "__getattr__") _ _ _;refine L2.at (Tn (VL (US ?_)));show wpAny _ _ (boundAndCalled _ _ _) _ _ _;unfold boundAndCalled;rw[D0];refine Tn (Tz (VM ?_));refine WJ F.attr_ValueError.ga.plain F.entry_bexc_ga (@check_slot (model prog w) _ _ _ "BaseException.__getattribute__" "BaseException" "__getattribute__" (.ref x) _ [] _ ⋯ ⋯ j (F.args_bexc_ga _ _) ?_);refine Tn (Tz (Tn (Tz (Tn (c.at (Tn (i.at ?_)))))));show wpAny _ _ (holding [Value.builtin "object.__class__"] (call (.builtin "getset_descriptor.__get__") [.builtin "object.__class__",.ref x,.ref D]) >>= ret) _ _ _;refine Tn (US (VM (Hn (s:=⟨e,g,d,t+1,os⟩) X c a.m ?_)));refine Tz ?_;refine handed_on rfl ?_;exact Tz h
end
noncomputable def pL(x:Addr)(D:Addr):HO:=.ext λh=>∃a,h.get? x=some a/\a.cls=.ref D
theorem Ek{h:Heap}{D:Addr}(q:∃a,h.get? x=some a/\a.cls=.ref D):Looks M h (typeOf (.ref x)) (.ref D):=by obtain⟨a,b,c⟩:=q;rw[<- c];exact(Looks.ld b).andThen .now
theorem ES{K:Frag}{D:Addr}(b:tJ K D):KitX K (.ref x) (.ref D) (λh=>∃j,h.get? x=some j/\j.cls=.ref D) where
 ty:=λ_ _ _ q=>Ek q
 it:=λ_ _ X _=>by
  obtain⟨c,a,_⟩:=any_some b.dct;unfold clsIn at a;split at a
  ·rename_i l m d e f;intro r s t u k q;unfold isType loadHead;have g:=k _ _ (X _ _ f);exact Tn (wpAny_loadPart g (Tz q))
  ·cases a
 ne:=λh v w p n y X i=>by
  obtain⟨c,a,_⟩:=any_some b.dct;refine VU.mpr λq=>?_;cases VC.mp q;unfold clsIn at a;split at a
  ·rename_i l m d e f;have z:=(X _ _ f).symm.trans i;cases z
  ·cases a
 ca:=λX q k=>C2 X (Ek q) b k
theorem AA{X:Cx}{a:qd}{d:St}{H:Hp}{s:Shared}{A:Around}{E:qf}{Q:qf}{c:Value}{b:Bool}{x D:Addr}(I:Inv X a d H s)(f:H x=some (pL x D))(g:tJ X.K D)
  (e:kitOne X.K (.ref D) c=some b) (h:∀i,Q (.bool b) {s with toks:=i}):wpAny (model X.prog X.w) A (call (.builtin "isinstance") [.ref x,c]) Q E s:=by
 obtain⟨q,_,_⟩:=(show Xr X.prog X.w H s.heap x (pL x D) from I.hok x _ f)
 exact kia_one (ES g) I.Yg q e (λz=>nomatch z) h
section
theorem Yh.track(d:Yh P w H h)(g:H a=none)(f:Xr P w (upd H a o) h a o):Yh P w (upd H a o) h:=λb u e=>by
 by_cases i:b=a
 ·subst i;rw[aD]at e;cases e;exact f
 ·rw[aI i]at e;exact(d b u e).stay (λ_ _ _ q=>q) (λc q=>by rw[aI (aK q g)];exact q) λc j q=>by rw[aI (aK q g)];exact q
theorem Inv.track{X:Cx}{c:qd}{g:St}{H d:Hp}{s e:Shared}{a:Addr}{o:HO}(I:Inv X c g H s)(J:Inv X c g d e)(un:Un (frs X.stack) [] H d s.heap e.heap)(sa:s.heap.get? a=none)(f:d a=none)(i:Xr X.prog X.w (upd d a o) e.heap a o):Inv X c g (upd d a o) e:=by
 have l:∀b u,s.heap.get? b=some u->b≠a:=λb u q z=>by rw[z,sa]at q;cases q
 refine I.ZC (ch:=[]) (J.os.trans I.os.symm) ⟨un.keep,un.slot,λb u q n p=>by rw[aI (l b u q)];exact un.free b u q n p,un.there,λb j q=>?_,λb u j q=>?_,λb r q=>?_⟩ (J.hok.track f i) J.bare (λb z=>absurd z (by simp))
 ·have z:=un.tups b j q;rw[aI (aK z f)];exact z
 ·have z:=un.YY b u j q;rw[aI (aK z f)];exact z
 ·obtain⟨m,z⟩:=un.Zr b r q;exact⟨m,by rw[aI (aK z f)];exact z⟩
theorem Inv.gone{X:Cx}{a:qd}{C:St}{H:Hp}{s:Shared}{M:Model}{A:Around}{E:qf}{i:Nat}{n:Str}{l:Pos}{Q:Unit->Shared->Prop}(I:Inv X a C H s)(hN:X.N.Nodup)(O:X.N[i]?=some n)(T:X.env.kindOf n=some .local)
  (h:∀G,Inv X a (C.set i none) H G->Q () G):wpAny M A (do bindName X.env n .none;unbindBehindTheSuite X.env n l) Q E s:=by
 obtain⟨m,J,r⟩:=id I.loc;obtain⟨oL,_,_,U,_⟩:=id J;have cne:=I.cne;refine wpAny_nameGoes_keeps T J (by rw[I.ok.kind];rfl) λY v t f=>h _ ?_
 have u:Yh X.prog X.w H Y:=λb ob e=>by
  refine(I.hok b ob e).stay (λc L hc q=>(f.2 c ?_).trans q) (λ_ q=>q) λ_ _ q=>q;rintro rfl;rcases hc with z|z
  ·rw[<- z,I.free]at e;cases e
  ·rw[I.free]at z;cases z
 refine⟨I.ok,I.os,I.bare,⟨λb o e n x g=>?_,λb o e n x g=>?_,I.base.free,λb o e g=>?_,I.base.tups,I.base.YY,I.base.Zr⟩,⟨_,t,λj y v' e1 e2 e3=>?_⟩,λy c e=>?_,I.free,I.XY,λp hp=>?_,u,by simpa using I.len⟩
 ·exact(f.2 b (Ud (TX (TV e) I.ok.above))).trans (I.base.keep b o e n x g)
 ·obtain⟨sl,e1⟩:=I.base.slot b o e n x g;exact⟨sl,(f.2 b (Ud (TX (TV e) I.ok.above))).trans e1⟩
 ·obtain⟨o',e1⟩:=I.base.there b o e g;exact⟨o',(f.2 b (Ud (TX (TV e) I.ok.above))).trans e1⟩
 ·by_cases B:j=i
  ·subst B;rw[List.getElem?_set]at e2;simp at e2
  ·rw[VB (Tt B)]at e2;obtain⟨u',r',q⟩:=r j y v' e1 e2 e3;refine⟨u',r',?_⟩;rcases q with⟨k,e⟩|⟨k,c,e,z⟩
   ·refine .inl ⟨k,?_⟩;have:y≠n:=λe=>B (rg hN e1 (e▸O));simp[this,e]
   ·exact .inr ⟨k,c,e,z.sameBut f (cne y c e)⟩
 ·obtain⟨L,z⟩:=I.cell y c e;exact⟨L,z.sameBut f (cne y c e)⟩
 ·obtain⟨e,n,ne,nf,d⟩:=I.pin p hp;exact⟨(f.2 p.1 ne).trans e,n,ne,nf,d⟩
end
noncomputable def Ends.gone(D:Ends)(i:Nat):Ends:={nx:=λa H=>D.nx (a.set i none) H,rt:=D.rt,bk:=λa H=>D.bk (a.set i none) H,ct:=λa H=>D.ct (a.set i none) H}
end L2
namespace L2
open PySem PySem.Spec PySem.Calls PyProof.Rows
section
variable{P:Program}{w:World}{K:vc}{mg:cL}{base:Heap}
structure YL(k:Nat)(A:Around):Prop where
 dp:A.depth+3*k+5<recursionLimit
 un:A.units+16*k+200<cLine
theorem Xy.h(r:Xy k A):YL k A:=⟨r.dp,r.un⟩
theorem YL.mark(r:YL k A):YL k (A.mark e):=⟨r.dp,r.un⟩
theorem YL.deeper(r:YL (k+1) A)(env:Env):YL k (A.deeper env) :=
 ⟨by have:=r.dp;show A.depth+1+3*k+5<_;lia,by have:=r.un;show A.units+3+16*k+200<_;lia⟩
structure Bz(P:Program)(w:World)(K:vc)(mg:cL)(base:Heap)(k:Nat)(f:Addr)(fd:FuncData)(ps:e9)(sp:Sp):Prop where
 len:∀vs H Q E,sp vs H Q E->vs.length=ps.length
 run:∀(A:Around)(outer:List Env)(s:Shared)(H:Hp)(args:Args)(us:yw)(vs:List V)(Q:VK)(E:XK),YL k A->Zs P w K mg base A outer s H->BindsTo s fd args (ps.zip us)->Vals vs us->sp vs H Q E ->
  codeAny (model P w) A (.call (.ref f) args) (CR X5 outer P w H s Q E) s
noncomputable def Cx.uncalm(X:Cx):Cx:={X with calm:=false,xe:=λ_ _=>False}
theorem YK.okH{st:Stmt}(F:YK K x c st f fd)(S:Xf N G (aG st))(len:∀i H Q E,Y i H Q E->i.length=G.length)
  (m:∀(d:Value)(A:Around)(outer:List Env)(s:Shared)(H:Hp)(i:List V)(Q:VK)(E:XK),YL k (A.deeper (envOfC c (aG st) s.heap.objs.size f d))->Y i H Q E ->
   ∃t,Y0 (kF X5 P w K mg base N c (aG st) f d A outer s H E).uncalm (eY st) t/\t {nx:=λ_ l=>Q .Xi l,rt:=Q} (fK N i) H):Bz P w K mg base (k+1) f fd G Y:=by
 obtain⟨oc,od,kV,doc,pm,an,d,ct,osl,rfl,lk,L⟩:=F.ex;refine⟨len,λA outer s H args us i Q E hr g hb r C=>?_⟩;have hl:=len _ _ _ _ C;have KX:K.In s.heap:=g.mod.kin.keeps λb o e=>(g.bs b o e).1;have M:s.heap.NoLimit:=g.mod.nolimit.keeps λb o e=>(g.bs b o e).1
 have p:∀y∈G.zip us,(aG st).names.lookup y.1=some .local\/((aG st).names.lookup y.1=some .cell/\((cellsFrom (s.heap.objs.size+1) (aG st).names []).lookup y.1).isSome=true):=λ⟨n,v⟩ hy=>by
  rcases S.par n (WC hy).1 with q|q
  ·exact .inl q
  ·exact .inr ⟨q,W.cellsFrom_some _ _ _ (.inl q)⟩
 refine codeAny_call_function (by have:=hr.dp;lia) (KX _ _ lk) rfl S.co S.gen rfl (W.codeRec_of KX L) (hb _ _ _ _ ?_);refine wpAny_newFunctionEnv_cells S.kind p λenv he O x=>?_;subst he;refine⟨M.keeps x.toInCall.keep,codeAny_func ?_⟩;obtain⟨t,ht,hq⟩:=m d A outer s H i Q E (hr.deeper _) C;have e1:Zs P w K mg base {A with handled:=none} outer s H:=⟨g.frames,g.mod,g.bs,g.bsz,g.YD,g.frf,g.hok,g.bare⟩
 have a:Inv (kF X5 P w K mg base N c (aG st) f d {A with handled:=none} outer s H E) [] (fK N i) H O:=uO S rfl e1 hl r x
 have I:Inv (kF X5 P w K mg base N c (aG st) f d A outer s H E).uncalm [] (fK N i) H O :=
  ⟨⟨a.ok.mod,a.ok.kind,a.ok.glob,a.ok.blt,a.ok.above,a.ok.inj,a.ok.has,a.ok.cab,(λz=>nomatch z),Around.frames_deeper g.frames,a.ok.stk,a.ok.exf,a.ok.bs,a.ok.bsz,a.ok.ZZ,a.ok.exfs,a.ok.YD,a.ok.frf⟩,
   a.os,a.bare,a.base,a.loc,a.cell,a.free,a.XY,a.pin,a.hok,a.len⟩
 refine UC (ht [] O (fK N i) H _ I hq) (λfl T B=>?_) λe T B=>B.elim
 have fin:∀{j:St}{l:Hp}{v:V}{u:Value},Inv (kF X5 P w K mg base N c (aG st) f d A outer s H E).uncalm [] j l T->RelV v u->Q v l->CE outer P w H s Q u T :=
  λ{j l v u} J U q=>⟨v,l,J.os,J.bare,J.base,J.hok,U,q⟩
 cases fl with
 |ret u =>obtain⟨v,j,l,J,U,q⟩:=B;exact fin J U q
 |next =>obtain⟨j,l,J,q⟩:=B;exact fin (v:=V.Xi) (u:=Value.none) J rfl q
 |brk =>obtain⟨_,_,_,q⟩:=B;exact False.elim q
 |cont =>obtain⟨_,_,_,q⟩:=B;exact False.elim q
end
section
theorem Fv{X:Cx}(F:Bz X.prog X.w X.K X.mg X.base k f C v G)(J:YL k X.A)(L:Gl X x)(M:X.mg x=some (.ref f))(hk:W.keepIn X.K (.ref f)=true)(N:Binds X.K C v g)(O:Vals l g)
  (T:PA X (e::i) t) (m:(x==("__debug__":Str))=false:=by decide) (U:starEach (e::i) X.env=(false,eval e X.env)::starEach i X.env:=by rfl) (n:(backTo a (starEach i X.env)).any (·.1)=false:=by rfl) :
  PE X (.Call (.Name x p) (e::i) [] a) (f6 G l E t):=by
 intro b s Y H Q I h;refine U0 (gH I L M ?_ m);refine Wb (h₀:=X.base) I.ok.mod.kin hk (Xl (T a b s Y H _ I h) λc y ⟨z,H1,j,r,q⟩=>⟨j.Yg,?_⟩) U n;have B:Vals (z++l) (c++g):=r.append O;have hl:(c++g).length=v.length:=by rw[<- B.length];exact F.len _ _ _ _ q
 refine VM (UT (F.run X.A X.stack y H1 ⟨c,[]⟩ (c++g) (z++l) Q E J j.env0 (N y c j.Yg hl) B q) λr s' d=>?_)
 cases r with
 |error e=>exact False.elim d
 |ok fl =>
  cases fl with
  |ret u=>exact j.after d
  |next=>exact False.elim d
  |brk=>exact False.elim d
  |cont=>exact False.elim d
end
noncomputable def blV(bs:List Bool):List V:=bs.map V.bl
theorem xT:∀{bs:List Bool}{a:yw},Vals (blV bs) a->a=bs.map Value.bool
 |[],_,.nil=>rfl
 |b::bs,_,.cons r t=>by have e:=xT (bs:=bs) t;rw[e,show _=Value.bool b from r];rfl
theorem rR:∀(bs:List Bool),∃as,ReadsAll h (bs.map Value.bool) (bs.map PyData.bool) as
 |[]=>⟨_,.nil⟩
 |b::bs=>let⟨_,r⟩:=rR bs;⟨_,.cons (.bool b) r⟩
theorem Af:∀(bs:List Bool),(bs.map PyData.bool).all Shape.bool.has=true
 |[]=>rfl
 |b::bs=>by rw[T7,W3,Af bs];rfl
theorem ym:∀(bs:List Bool),(bs.map Value.bool).countP (isBoolOf true)=bs.count true
 |[]=>rfl
 |b::bs=>by rw[T7,List.countP_cons,ym bs,List.count_cons];cases b<;>rfl
section
theorem C8:MtM X "list.count" (λx a H Q=>∃l bs,x=.ref l/\a=[.bl true]/\H l=some (.lst (blV bs))/\Q (.int (bs.count true:Nat)) H):=by
 intro b s p H x a v t Q I c d h;obtain⟨l,bs,rfl,rfl,f,q⟩:=h;cases c;obtain⟨u,rfl,g⟩:=fP d;obtain rfl:u=Value.bool true:=g;obtain⟨_,i,n,r,e⟩:=(show Xr X.prog X.w H s.heap l (.lst (blV bs)) from I.hok l _ f)
 obtain rfl:=xT r;obtain⟨as,j⟩:=rR (h:=s.heap) bs;refine WG F.slot_list_count ⟨_,e,rfl⟩ F.entry_list_count (F.args_list_count_2 _ _) (SeqAt.list_countAt l (bs.map Value.bool).toArray n none #[] (.bool true) (isBoolOf true)) ⟨e,λy m=>eq_isBoolOf true j (Af bs) y (by simpa using m) _ _,?_⟩;rw[show ∀(x:yw),x.toArray.toList=x from λ_=>rfl,ym];exact⟨.int _,H,I.tok _,⟨_,rfl⟩,q⟩
theorem C9:MtM X "list.index" (λx g H Q=>∃l bs j,x=.ref l/\g=[.bl true]/\H l=some (.lst (blV bs))/\bs.length<=1000/\bs[j]?=some true/\(∀m,m<j->bs[m]?=some false)/\Q (.int (j:Nat)) H):=by
 intro i s M H x g v N Q I t z h;obtain⟨l,bs,j,rfl,rfl,A,p,B,a,q⟩:=h;cases t;obtain⟨u,rfl,C⟩:=fP z;obtain rfl:u=Value.bool true:=C;obtain⟨_,E,n,r,e⟩:=(show Xr X.prog X.w H s.heap l (.lst (blV bs)) from I.hok l _ A)
 obtain rfl:=xT r;obtain⟨as,G⟩:=rR (h:=s.heap) bs;obtain⟨b,c⟩:=T9.mp B;refine WG Wl ⟨_,e,rfl⟩ F.entry_list_index (F.args_list_index_2 _ _) (SeqAt.list_indexAt l (bs.map Value.bool).toArray n none #[] (.bool true) (isBoolOf true) j (by simpa using b) ⋯ ?_ ?_) ⟨e,λy J=>eq_isBoolOf true G (Af bs) y (by simpa using J) _ _,?_⟩
 ·simp[c,isBoolOf]
 ·intro m O d;obtain⟨L,f⟩:=T9.mp (a m d);simp[f,isBoolOf]
 ·exact⟨.int _,H,I.tok _,⟨_,rfl⟩,q⟩
end
noncomputable def clV:V->Value
 | .ref a=>.ref a
 | .ty n=>.type n
 |_=>.none
theorem cG:gB X (.builtin "isinstance") (λd H Q=>∃x D c b,d=[.ref x,c]/\((∃a,c=.ref a)\/∃n,c=.ty n)/\H x=some (pL x D)/\tJ X.K D/\W.kitOne X.K (.ref D) (clV c)=some b/\Q (.bl b) H):=by
 intro f s t H d v Q I r h;obtain⟨x,D,c,b,rfl,i,j,l,e,q⟩:=h
 cases r with
 |cons m rt =>
  obtain⟨u,rfl,g⟩:=fP rt;obtain rfl:=(show _=Value.ref x from m)
  have p:u=clV c:=by
   rcases i with⟨a,rfl⟩|⟨n,rfl⟩
   ·exact g
   ·exact g
  subst p;exact AA I j l e λw=>⟨.bl b,H,I.tok _,rfl,q⟩
section
variable{K:vc}
theorem bQ{D:Addr}(f:H x=some (pL x D))(g:tJ K D)(d:W.kitOne K (.ref D) (clV c)=some b)(j:(∃a,c=.ref a)\/∃n,c=.ty n)(e:l[i]?=some (some (.ref x)):=by rfl) :
  RE K (Zm (λm H Q=>∃x D c b,m=[.ref x,c]/\((∃a,c=.ref a)\/∃n,c=.ty n)/\H x=some (pL x D)/\tJ K D/\W.kitOne K (.ref D) (clV c)=some b/\Q (.bl b) H) (bM (cV i) (bM (tC c) dC))) l H (.bl b):=λp s Q q =>
 ⟨_,e,x,D,c,b,rfl,j,s _ _ f,g,d,q _ _ (Xe.refl _) (Dat.YE _)⟩
theorem va(a:H l=some (.lst (blV bs)))(e:b[i]?=some (some (.ref l)):=by rfl) :
  RE K (tBM K "list" (λx c H Q=>∃l bs,x=.ref l/\c=[.bl true]/\H l=some (.lst (blV bs))/\Q (.int (bs.count true:Nat)) H) (cV i) (bM (tC (.bl true)) dC)) b H (.int (bs.count true:Nat)):=λd s Q q =>
 ⟨_,e,.inl ⟨rfl,_,Xm.of (s _ _ a)⟩,l,bs,rfl,rfl,s _ _ a,q _ _ (Xe.refl _) (Dat.Xs _)⟩
theorem ve(a:H l=some (.lst (blV bs)))(b:bs.length<=1000)(c:bs[j]?=some true)(d:∀m,m<j->bs[m]?=some false)(e:f[i]?=some (some (.ref l)):=by rfl) :
  RE K (tBM K "list" (λx g H Q=>∃l bs j,x=.ref l/\g=[.bl true]/\H l=some (.lst (blV bs))/\bs.length<=1000/\bs[j]?=some true/\(∀m,m<j->bs[m]?=some false)/\Q (.int (j:Nat)) H) (cV i) (bM (tC (.bl true)) dC)) f H (.int (j:Nat)):=λn s Q q =>
 ⟨_,e,.inl ⟨rfl,_,Xm.of (s _ _ a)⟩,l,bs,j,rfl,rfl,s _ _ a,b,c,d,q _ _ (Xe.refl _) (Dat.Xs _)⟩
end
end L2
namespace L2
open PySem PySem.Spec PySem.Calls PyProof.Rows PySem.W PySem.Builtin PySem.Builtin.ObjectAttr
section
end
end L2
namespace L2
open PySem PySem.Spec PySem.Calls PyProof.Rows
abbrev uq(h:Heap)(it t:Addr)(i:Nat):Prop:=h.get? it=some {cls:=.type "tuple_iterator",dict:=none,data:=.fields #[.ref t,rawInt i],slots:=#[]}
section
theorem Bu{s:Shared}(c:uq s.heap it t i)(f:s.heap.IsTuple t a)(g:a[i]?=some x)
  (q:∀b,uq b it t (i+1)->Heap.SameBut it s.heap b->Q x {s with heap:=b}):wpAny (model prog w) A (Builtin.SmallTypes.nextOf (.ref it)) Q E s:=by
 have ty:s.TypeIs (.ref it) "tuple_iterator":=⟨_,c,rfl⟩
 obtain⟨⟨c2,d2,d,r⟩,f,j,n,l⟩:=f;obtain rfl:c2=.type "tuple":=j;obtain rfl:d=.seq a n:=l;unfold Builtin.SmallTypes.nextOf;refine Tn (UQ (name:=Str.ofString "__next__") ty Vz (Vb Vz ty F.entry_tuple_iterator_next ?_ (F.args_tuple_iterator_next_1 _)));obtain⟨u,g0,v,y,z⟩:=s;unfold uq rawInt at c
 wp_walk
 rw[VT,g];refine Tn (Vd c (by simp) λb m p=>Tz ⟨x,rfl,Tz (q b ?_ p)⟩);show b.get? it=some _;have e:((i+1:Nat):Int)=(i:Int)+1:=by lia
 rw[e];exact m
theorem Bt{A:Around}{s:Shared}(g:A.handled=none)(c:uq s.heap it t i)(f:s.heap.IsTuple t a)(j:a[i]?=none)
  (q:∀b e,Heap.ExtBut it s.heap b->(∃o,b.get? e=some o/\o.cls=.type "StopIteration")->E (.ref e) {s with heap:=b}):wpAny (model prog w) A (Builtin.SmallTypes.nextOf (.ref it)) Q E s:=by
 have ty:s.TypeIs (.ref it) "tuple_iterator":=⟨_,c,rfl⟩
 obtain⟨⟨c2,d2,d,r⟩,f,l,n,m⟩:=f;obtain rfl:c2=.type "tuple":=l;obtain rfl:d=.seq a n:=m;unfold Builtin.SmallTypes.nextOf;refine Tn (UQ (name:=Str.ofString "__next__") ty Vz (Vb Vz ty F.entry_tuple_iterator_next ?_ (F.args_tuple_iterator_next_1 _)));obtain⟨u,g0,v,x,y⟩:=s;unfold uq rawInt at c
 wp_walk
 rw[VT,j];refine Tn (wpAny_rule (Tn (Vd c (by simp) λb z p=>?_)));unfold Builtin.SmallTypes.stopIteration
 wp_walk
 exact wpAny_raiseNew_none g (q _ _ ((p.extBut.push _).push _) ⟨_,T3 _ rfl,rfl⟩)
end
theorem Inv.turnedL{X:Cx}{a:qd}{i:St}{H:Hp}{s:Shared}{h':Heap}{t':Nat}{its:nt}(I:Inv X a i H s)(k:∀b o,b∉its->s.heap.get? b=some o->h'.get? b=some o)
  (ok:∀b∈its,H b=none/\b≠X.env.locals/\(b∈X.ex\/X.s₀.heap.objs.size<=b)/\(∀x c,X.env.cells.lookup x=some c->c≠b)/\∀p∈X.pn++a,p.1≠b):Inv X a i H {s with heap:=h',toks:=t'}:=by
 have f:∀b u,H b=some u->b∉its:=λb u e z=>by rw[(ok b z).1]at e;cases e
 refine I.step (g':=s.gens) (d':=s.drawn) (ch:=its) (λb g=>⟨(ok b g).2.2.1,(ok b g).2.1,(ok b g).2.2.2⟩) (λb o _ _ d e _=>k b o d e) (λb o _ _ d e _=>⟨o.slots,k b o d e⟩) (λ_ _ _ _ n=>n)
  (λb o d e=>⟨o,k b o d e⟩) (λ_ _ e=>e) (λ_ _ _ e=>e) (λb y e=>⟨#[],by rw[Array.append_empty];exact e⟩) (λm j=>?_) (λb u e=>?_) I.bare
 ·obtain⟨o,l,t,w,r⟩:=j;exact⟨o,l,t,k _ o (λz=>(ok _ z).2.1 rfl) w,r⟩
 ·refine(I.hok b u e).stay (λc v d q=>k c v ?_ q) (λ_ q=>q) λ_ _ q=>q;rcases d with z|z
  ·rw[z];exact f b u e
  ·exact f c _ z
def XX:Bool->Heap->Addr->Addr->Nat->Prop
 |true,h,i,t,k=>h.IsListIter i t k
 |false,h,i,t,k=>uq h i t k
def X0:Bool->Heap->Addr->Array Value->Prop
 |true,h,t,a=>h.IsList t a
 |false,h,t,a=>h.IsTuple t a
def SqK:Bool->W.Frag->Hp->Addr->List V->Prop
 |true,K,H,a,b=>Xm K H a b
 |false,K,H,a,b=>XG K H a b
noncomputable def Hl:Bool->Addr->Obj
 |true,t=>{cls:=.type "list_iterator",data:=.fields #[.ref t,.int 0 0]}
 |false,t=>{cls:=.type "tuple_iterator",data:=.fields #[.ref t,.int 0 0]}
section
theorem XX.at{a:Heap}(q:XX b h i t k)(e:∀o,h.get? i=some o->a.get? i=some o):XX b a i t k:=by
 cases b with
 |false=>exact e _ q
 |true=>exact Heap.IsListIter.at q e
theorem XX.ob(q:XX b h i t k):∃o,h.get? i=some o/\∀v,o.data≠.cell v:=by
 cases b with
 |false=>exact⟨_,q,λv e=>by cases e⟩
 |true=>obtain⟨o,e,c,d⟩:=q;exact⟨o,e,λv z=>by rw[d]at z;cases z⟩
theorem XX.lt(q:XX b h i t k):i<h.objs.size:=let⟨_,e,_⟩:=q.ob;TV e
theorem XX.mk{h:Heap}(e:h.get? i=some (Hl b t)):XX b h i t 0:=by
 cases b with
 |false=>exact e
 |true=>exact⟨_,e,rfl,rfl⟩
theorem X0.but(l:X0 b h t a)(x:Heap.ExtBut z h c)(n:t≠z):X0 b c t a:=by
 cases b with
 |false=>exact Heap.IsTuple.extBut l x n
 |true=>exact Heap.IsList.extBut l x n
theorem X0.push(l:X0 b h t a)(o:Obj):X0 b (h.push o) t a:=by
 cases b with
 |false=>exact Heap.IsTuple.push l o
 |true=>exact Heap.IsList.push l o
theorem X0.lt(l:X0 b h t a):t<h.objs.size:=by
 cases b with
 |false=>obtain⟨o,e,_⟩:=l;exact TV e
 |true=>obtain⟨o,e,_⟩:=l;exact TV e
theorem IP{s:Shared}(c:XX b s.heap i t k)(d:X0 b s.heap t f)(e:f[k]?=some x)(q:∀a,XX b a i t (k+1)->Heap.SameBut i s.heap a->Q x {s with heap:=a}):wpAny (model prog w) A (Builtin.SmallTypes.nextOf (.ref i)) Q E s:=by
 cases b with
 |false=>exact Bu c d e q
 |true=>exact wpAny_nextOf_list_item c d e q
theorem Lh{A:Around}{s:Shared}(c:A.handled=none)(d:XX b s.heap i t k)(f:X0 b s.heap t j)(g:j[k]?=none)(q:∀a e,Heap.ExtBut i s.heap a->(∃o,a.get? e=some o/\o.cls=.type "StopIteration")->E (.ref e) {s with heap:=a}):wpAny (model prog w) A (Builtin.SmallTypes.nextOf (.ref i)) Q E s:=by
 cases b with
 |false=>exact Bt c d f g q
 |true=>exact wpAny_nextOf_list_end c d f g q
theorem Cd{s:Shared}(l:X0 b s.heap t a)(q:Q (.ref s.heap.objs.size) {s with heap:=s.heap.push (Hl b t)}):wpAny (model prog w) A (pyIter (.ref t)) Q E s:=by
 cases b with
 |false=>exact wpAny_pyIter_tuple l q
 |true=>exact VS l q
theorem Inv.seqK{b:Bool}{t:Addr}{s:Shared}{X:Cx}{a:qd}{g:St}{H:Hp}{f:List V}(I:Inv X a g H s)(e:SqK b X.K H t f):∃c:List Value,Vals f c/\X0 b s.heap t c.toArray:=by
 cases b with
 |false=>obtain⟨d,r,p,_⟩:=I.tuple e;exact⟨d,r,p⟩
 |true=>obtain⟨d,r,p,_⟩:=I.list e;exact⟨d,r,p.isList⟩
theorem DN{s:Shared}{TI TO:Addr}{Q:qf}(C:IsZip s.heap z TI TO .none)(hI:IsPair s.heap TI (.ref d) (.ref c))(hO:IsPair s.heap TO a b)(h1:XX I s.heap d G k)(h2:XX p s.heap c i k)
  (l1:X0 I s.heap G xs) (l2:X0 p s.heap i U) (hx:xs[k]?=some x) (hy:U[k]?=some y) (D:ZipApart z TI TO d c G i)
  (q:∀r,IsZip r z TI TO (rawInt s.heap.objs.size)->IsPair r TO x y->XX I r d G (k+1)->XX p r c i (k+1)->r.get? s.heap.objs.size=some {cls:=.type "tuple",data:=.seq #[x,y]} ->
   (∀b o,b≠z->b≠TO->b≠d->b≠c->s.heap.get? b=some o->r.get? b=some o)->Q (.ref s.heap.objs.size) {s with heap:=r}):wpAny (model prog w) A (Builtin.«zip.__next__» ⟨[.ref z],[]⟩) (λfin s'=>∃v,fin=.done (.ret v)/\Q v s') E s:=by
 show wpAny _ _ (field (.ref z) 2 >>= _) _ _ _;refine Tn (Vf C rfl rfl ?_);show wpAny _ _ (field (.ref z) 3 >>= _) _ _ _;refine Tn (Vf C rfl rfl ?_);refine Tn (Wh hI rfl ?_);refine Tn (Tn (Vf C rfl rfl (Tz ?_)));refine Tn (wpAny_rule ?_);refine Tn (Vf C rfl rfl ?_);refine Tn (Vd C (by simp) λj Y sa=>?_)
 replace Y:IsZip j z TI TO .ellipsis:=Y
 rw[show(#[Value.ref d,Value.ref c]:Array Value).toList.zipIdx=[(.ref d,0),(.ref c,1)] from rfl,WH];have h1a:XX I j d G k:=h1.at λo e=>(sa.2 d D.i1z).trans e;have h2a:XX p j c i k:=h2.at λo e=>(sa.2 c D.i2z).trans e;have l1a:X0 I j G xs:=l1.but sa.extBut D.l1z;have l2a:X0 p j i U:=l2.but sa.extBut D.l2z;have hOa:IsPair j TO a b:=(sa.2 TO D.TOz).trans hO;refine Tn (Tn (Tn (wpAny_onRaise (Tn (IP (s:={s with heap:=j}) h1a l1a hx λJ h1b l=>Tz ?_)))))
 replace l:Heap.SameBut d j J:=l
 have L:IsPair J TO a b:=(l.2 TO D.TOi1).trans hOa;refine Tn (Wh (s:={s with heap:=J}) L rfl ?_);refine Tn (wpAny_updateSeq_pair (s:={s with heap:=J}) L λH t m=>?_)
 replace m:Heap.SameBut TO J H:=m
 replace t:IsPair H TO x b:=t
 refine Tn (wpAny_letGo (Tz ?_));have h2c:XX p H c i k:=h2a.at λo e=>(m.2 c (Tt D.TOi2)).trans ((l.2 c (Tt D.i12)).trans e);have l2c:X0 p H i U:=(l2a.but l.extBut D.l2i1).but m.extBut D.l2TO;show wpAny _ _ (forIn [(Value.ref c,1)] _ _) _ _ _;rw[WH];refine Tn (Tn (wpAny_onRaise (Tn (IP (s:={s with heap:=H}) h2c l2c hy λM h2d u=>Tz ?_))))
 replace u:Heap.SameBut c H M:=u
 have N:IsPair M TO x b:=(u.2 TO D.TOi2).trans t;refine Tn (Wh (s:={s with heap:=M}) N rfl ?_);refine Tn (wpAny_updateSeq_pair (s:={s with heap:=M}) N λf g B=>?_)
 replace B:Heap.SameBut TO M f:=B
 replace g:IsPair f TO x y:=g
 refine Tn (wpAny_letGo (Tz ?_));show wpAny _ _ (forIn [] _ _) _ _ _;rw[List.forIn_nil];refine Tz ?_;show wpAny _ _ (seqItems? (.ref TO) >>= _) _ _ _;refine Tn (Wh (s:={s with heap:=f}) g rfl ?_);refine Tn (wpAny_newTuple ?_);have O:f.objs.size=s.heap.objs.size:=by rw[B.1,u.1,m.1,l.1,sa.1]
 have ze:IsZip f z TI TO .ellipsis:=(B.2 z (Tt D.TOz)).trans ((u.2 z (Tt D.i2z)).trans ((m.2 z (Tt D.TOz)).trans ((l.2 z (Tt D.i1z)).trans Y)));have zf:IsZip (f.push {cls:=.type "tuple",data:=.seq #[x,y]}) z TI TO .ellipsis:=Tp _ ze;have tf:(f.push {cls:=.type "tuple",data:=.seq #[x,y]}).get? s.heap.objs.size=some {cls:=.type "tuple",data:=.seq #[x,y]}:=U7 O.symm rfl;have of:IsPair (f.push {cls:=.type "tuple",data:=.seq #[x,y]}) TO x y:=Tp _ g;have f1:XX I (f.push {cls:=.type "tuple",data:=.seq #[x,y]}) d G (k+1):=h1b.at λo e=>Tp _ ((B.2 d (Tt D.TOi1)).trans ((u.2 d D.i12).trans ((m.2 d (Tt D.TOi1)).trans e)));have f2:XX p (f.push {cls:=.type "tuple",data:=.seq #[x,y]}) c i (k+1):=h2d.at λo e=>Tp _ ((B.2 c (Tt D.TOi2)).trans e)
 have kf:∀b o,b≠z->b≠TO->b≠d->b≠c->s.heap.get? b=some o->(f.push {cls:=.type "tuple",data:=.seq #[x,y]}).get? b=some o:=λb o n1 n2 n3 n4 e =>
  Tp _ ((B.2 b n2).trans ((u.2 b n4).trans ((m.2 b n2).trans ((l.2 b n3).trans ((sa.2 b n1).trans e)))))
 generalize f.push {cls:=.type "tuple",data:=.seq #[x,y]}=hf at zf tf of f1 f2 kf;have lz:z<s.heap.objs.size:=TV C;show wpAny _ _ (Builtin.SmallTypes.ownedTupleHandOut (.ref z) (.ref f.objs.size) >>= _) _ _ _;rw[O];refine Tn (Tn (Vd (s:={s with heap:=hf}) zf (by simp) λhg zg sg=>Vd (s:={s with heap:=hg}) zg (by simp) λhh zh sh=>Tz ⟨_,rfl,?_⟩))
 replace sg:Heap.SameBut z hf hg:=sg
 replace sh:Heap.SameBut z hg hh:=sh
 have T:∀b,b≠z->hh.get? b=hf.get? b:=λb n=>(sh.2 b n).trans (sg.2 b n);refine q hh zh ?_ ?_ ?_ ?_ λb o n1 n2 n3 n4 e=>(T b n1).trans (kf b o n1 n2 n3 n4 e)
 ·exact(T TO D.TOz).trans of
 ·exact f1.at λo e=>(T d D.i1z).trans e
 ·exact f2.at λo e=>(T c D.i2z).trans e
 ·exact(T _ (UG lz)).trans tf
theorem DM{A:Around}{s:Shared}{TI TO:Addr}(I:A.handled=none)(f:IsZip s.heap z TI TO .none)(J:IsPair s.heap TI (.ref c) (.ref m))(Y:IsPair s.heap TO a b)(L:XX n s.heap c j k)
  (M:X0 n s.heap j C) (N:C[k]?=none) (D:ZipApart z TI TO c m j t2)
  (q:∀p e,(∀b o,b≠z->b≠c->s.heap.get? b=some o->p.get? b=some o)->(∃o,p.get? e=some o/\o.cls=.type "StopIteration")->E (.ref e) {s with heap:=p}):wpAny (model prog w) A (Builtin.«zip.__next__» ⟨[.ref z],[]⟩) Q E s:=by
 show wpAny _ _ (field (.ref z) 2 >>= _) _ _ _;refine Tn (Vf f rfl rfl ?_);show wpAny _ _ (field (.ref z) 3 >>= _) _ _ _;refine Tn (Vf f rfl rfl ?_);refine Tn (Wh J rfl ?_);refine Tn (Tn (Vf f rfl rfl (Tz ?_)));refine Tn (wpAny_rule ?_);refine Tn (Vf f rfl rfl ?_);refine Tn (Vd f (by simp) λg r sa=>?_)
 replace r:IsZip g z TI TO .ellipsis:=r
 rw[show(#[Value.ref c,Value.ref m]:Array Value).toList.zipIdx=[(.ref c,0),(.ref m,1)] from rfl,WH];have t:XX n g c j k:=L.at λo e=>(sa.2 c D.i1z).trans e;have u:X0 n g j C:=M.but sa.extBut D.l1z;refine Tn (Tn (Tn (wpAny_onRaise (Tn (Lh (s:={s with heap:=g}) I t u N λv e l O=>?_)))))
 replace l:Heap.ExtBut c g v:=l
 have G:IsZip v z TI TO .ellipsis:=l z _ (Tt D.i1z) r;obtain⟨T,d,i⟩:=O;have x:e≠z:=λy=>by rw[y,G]at d;cases d;simp at i
 refine Vd (s:={s with heap:=v}) G (by simp) λU zc H=>q U e (λb o n1 n2 B=>?_) ⟨T,(H.2 e x).trans d,i⟩;exact(H.2 b n1).trans (l b o n2 ((sa.2 b n1).trans B))
end
theorem GE(c f:Bool)(d g:Addr)(l m:Array Value) :
  Meets (Builtin.«zip.__new__» ⟨[.type "zip",.ref d,.ref g],[]⟩) (λ_ R s=>X0 c s.heap d l/\X0 f s.heap g m /\
   ∀a,IsZip a (s.heap.objs.size+4) (s.heap.objs.size+2) (s.heap.objs.size+3) .none->IsPair a (s.heap.objs.size+2) (.ref s.heap.objs.size) (.ref (s.heap.objs.size+1))->IsPair a (s.heap.objs.size+3) .none .none ->
    XX c a s.heap.objs.size d 0->XX f a (s.heap.objs.size+1) g 0->(∀b o,s.heap.get? b=some o->a.get? b=some o)->R (.ok (.ret (.ref (s.heap.objs.size+4)))) {s with heap:=a}) :=
 .of_wp λ_ _ _ _ s q=>by
  obtain⟨i,g0,n,p,r⟩:=s;obtain⟨t,u,q⟩:=q;have j:=sub_zip;have e1:X0 c (Shared.heap ⟨i,g0,n,p,r⟩) d l:=t;have e2:X0 f (Shared.heap ⟨i.push (Hl c d),g0,n,p,r⟩) g m:=X0.push u _
  wp_walk using Cd e1,Cd e2
  refine⟨_,rfl,?_⟩;have n1:(i.push (Hl c d)).objs.size=i.objs.size+1:=Uy _ _;simp only[Uy];refine q _ ?_ ?_ ?_ ?_ ?_ λb o e=>?_
  ·exact U7 (by simp[Uy]) rfl
  ·exact Tp _ (Tp _ (U7 (by simp[Uy]) rfl))
  ·exact Tp _ (U7 (by simp[Uy]) rfl)
  ·exact .mk (Tp _ (Tp _ (Tp _ (Tp _ (U7 (by simp[Uy]) (by cases c<;>rfl))))))
  ·exact .mk (Tp _ (Tp _ (Tp _ (U7 (by simp[Uy]) (by cases f<;>rfl)))))
  ·exact Tp _ (Tp _ (Tp _ (Tp _ (Tp _ e))))
theorem CN{s:Shared}(g:X0 e s.heap c i)(j:X0 f s.heap d l)
  (q:∀a,IsZip a (s.heap.objs.size+4) (s.heap.objs.size+2) (s.heap.objs.size+3) .none->IsPair a (s.heap.objs.size+2) (.ref s.heap.objs.size) (.ref (s.heap.objs.size+1))->IsPair a (s.heap.objs.size+3) .none .none ->
   XX e a s.heap.objs.size c 0->XX f a (s.heap.objs.size+1) d 0->(∀b o,s.heap.get? b=some o->a.get? b=some o)->Q (.ref (s.heap.objs.size+4)) {s with heap:=a}):wpAny (model prog w) A (call (.type "zip") [.ref c,.ref d]) Q E s :=
 callType_new F.called_zip ⋯ (F.typeCall_zip_2 _ _) (F.newCall_zip_2 _ _) (λo=>F.args_object_init_3 o _ _) F.entry_zip_new (GE e f c d i l) ⟨g,j,λa z1 z2 z3 z4 m n=>⟨⟨_,z1,rfl⟩,q a z1 z2 z3 z4 m n⟩⟩
noncomputable def DQ(e f:Bool)(K:vc)(a b:Addr)(c d:List V):It:=⟨λi H=>i<c.length/\i<d.length/\SqK e K H a c/\SqK f K H b d,λi H x g=>∃p u v,H p=none/\x=.ref p/\c[i]?=some u/\d[i]?=some v/\g=upd H p (.tup [u,v]),λi H=>i=c.length/\SqK e K H a c⟩
theorem Gw{K:vc}{c1}(a b z TI TO l m:Addr)(t B:List V)(D:ZipApart z TI TO l m a b):lP P w K (.Tuple elts c1 ps) (DQ b1 b2 K a b t B) [z,TI,TO,l,m] z
  (λi h=>∃c d,IsZip h z TI TO .none/\IsPair h TI (.ref l) (.ref m)/\IsPair h TO c d/\XX b1 h l a i/\XX b2 h m b i) where
 mem:=by simp
 obj:=λi h ⟨c,d,g,n,p,r,C⟩ b f=>by
  simp only[TY,Ul,UX]at f;rcases f with rfl|rfl|rfl|rfl|rfl
  ·exact⟨_,g,λv e=>by cases e⟩
  ·exact⟨_,n,λv e=>by cases e⟩
  ·exact⟨_,p,λv e=>by cases e⟩
  ·exact r.ob
  ·exact C.ob
 keep:=λi h G ⟨c,d,g,n,p,r,C⟩ k=>⟨c,d,k z (by simp) _ g,k TI (by simp) _ n,k TO (by simp) _ p,r.at λo e=>k l (by simp) o e,C.at λo e=>k m (by simp) o e⟩
 item:=by
  intro X U Y hK hc i j s σ H E I M st hg;subst U Y hK;obtain⟨c,d,g,n,p,r,C⟩:=st;obtain⟨hi,hj,ha,f⟩:=hg;obtain⟨us,ru,pu⟩:=I.seqK ha;obtain⟨vs,rv,pv⟩:=I.seqK f;have hx:t[i]?=some t[i]:=M1 hi;have hy:B[i]?=some B[i]:=M1 hj;obtain⟨u,hu,r1⟩:=ru.get hx;obtain⟨v,hv,r2⟩:=rv.get hy;have ty:s.TypeIs (.ref z) "zip":=⟨_,g,rfl⟩
  unfold pyNext;refine Tn (VL (UQ (name:=Str.ofString "__next__") ty WK (Vb WK ty F.entry_zip_next ?_ (F.args_zip_next_1 _))));refine DN (x:=u) (y:=v) g n p r C pu pv (by simpa using hu) (by simpa using hv) D λG w1 w2 w3 w4 w5 w6=>Tz ⟨_,rfl,?_⟩;refine wpAny_letOwnedTupleGo_zip (s:={s with heap:=G}) w1 λN e2 same=>?_
  replace same:Heap.SameBut z G N:=same
  have lz:z<s.heap.objs.size:=TV g;have lTI:TI<s.heap.objs.size:=TV n;have lTO:TO<s.heap.objs.size:=TV p;have l1:l<s.heap.objs.size:=r.lt;have l2:m<s.heap.objs.size:=C.lt
  have low:∀b∈[z,TI,TO,l,m],b<s.heap.objs.size:=λb f=>by simp only[TY,Ul,UX]at f;rcases f with rfl|rfl|rfl|rfl|rfl<;>assumption
  have J:N.get? s.heap.objs.size=some {cls:=.type "tuple",data:=.seq #[u,v]}:=(same.2 _ (UG lz)).trans w5
  have I1:Inv X j σ (upd H s.heap.objs.size (.tup [t[i],B[i]])) {s with heap:=s.heap.push {cls:=.type "tuple",data:=.seq #[u,v]},toks:=s.toks} :=
   I.laid (o:=.tup [t[i],B[i]]) (λb ob q=>Tp _ q) (Tu _) ⟨by rw[VP];simp,[u,v],.cons r1 (.cons r2 .nil),IsTup.new _ _⟩
  have frees:∀b,b<s.heap.objs.size->upd H s.heap.objs.size (.tup [t[i],B[i]]) b=H b:=λb f=>aI (Ud f)
  have I2:Inv X j σ (upd H s.heap.objs.size (.tup [t[i],B[i]])) {s with heap:=N,toks:=s.toks}:=by
   refine Inv.turnedL (s:={s with heap:=s.heap.push {cls:=.type "tuple",data:=.seq #[u,v]},toks:=s.toks}) (h':=N) (its:=[z,TI,TO,l,m]) (t':=s.toks) I1 (λb o f q=>?_) (λb f=>?_)
   ·simp only[TY,Ul,UX,not_or]at f;obtain⟨n1,n2,n3,n4,n5⟩:=f;by_cases L:b=s.heap.objs.size
    ·subst L;have O:(s.heap.push {cls:=.type "tuple",data:=.seq #[u,v]}).get? s.heap.objs.size=some o:=q;rw[U7 rfl rfl]at O;cases O;exact J
    ·have O:s.heap.get? b=some o:=(Heap.get?_push_ne _ _ _ L).symm.trans q;exact(same.2 b n1).trans (w6 b o n1 n3 n4 n5 O)
   ·obtain⟨f0,f1,f2,f3,f4,f5⟩:=M b f;exact⟨by rw[frees b (low b f)];exact f0,f1,f3,f4,f5⟩
  refine⟨.ref s.heap.objs.size,_,I2,rfl,⟨_,_,_,I.hok.fresh (Tu _),rfl,hx,hy,rfl⟩,⟨u,v,e2,?_,?_,?_,?_⟩,λb f=>?_⟩
  ·exact(same.2 TI D.TIz).trans (w6 TI _ D.TIz D.TITO D.TIi1 D.TIi2 n)
  ·exact(same.2 TO D.TOz).trans w2
  ·exact w3.at λo e=>(same.2 l D.i1z).trans e
  ·exact w4.at λo e=>(same.2 m D.i2z).trans e
  ·rw[frees b (low b f)];exact(M b f).1
 done:=by
  intro X U Y hK hc i j s σ H E I M st hg;subst U Y hK;obtain⟨c,d,g,n,p,r,C⟩:=st;obtain⟨hi,ha⟩:=hg;obtain⟨us,ru,pu⟩:=I.seqK ha;have lr:=ru.length;have ty:s.TypeIs (.ref z) "zip":=⟨_,g,rfl⟩
  unfold pyNext;refine Tn (VL (UQ (name:=Str.ofString "__next__") ty WK (Vb WK ty F.entry_zip_next ?_ (F.args_zip_next_1 _))));refine DM (I.ok.hd hc) g n p r pu (by simp;lia) D λG e kk ⟨o,ho,hco⟩=>?_;refine Tn (wpAny_isInstance (T:="StopIteration") (b:=true) ⟨o,ho,hco⟩ isSubtype_stop (Tz ⟨rfl,?_⟩));refine Inv.turnedL (s:=s) (h':=G) (its:=[z,l]) (t':=s.toks) I (λb o f q=>kk b o (λy=>f (by simp[y])) (λy=>f (by simp[y])) q) (λb f=>?_)
  obtain⟨f0,f1,f2,f3,f4,f5⟩:=M b (by
   simp only[TY,Ul,UX]at f;rcases f with rfl|rfl<;>simp)
  exact⟨f0,f1,f3,f4,f5⟩
 self:=λA i s Q E ⟨_,_,g,_⟩ q=>wpAny_pyIter_zip g q
noncomputable def IL(d e:Bool)(K:vc)(i:TA):TI:=λj H R=>i j H λl c=>∃a b f g,l=[.ref a,.ref b]/\SqK d K c a f/\SqK e K c b g/\R (DQ d e K a b f g) c
theorem HH(B C:Bool){X:Cx}{a b:Expr}{v:TA}{p f E:Pos}{g:List Expr}{c1}(G:Gl X "zip")(J:X.mg "zip"=none)(L:PA X [a,b] v)(M:starEach [a,b] X.env=(false,eval a X.env)::starEach [b] X.env:=by rfl)(m:(backTo f (starEach [b] X.env)).any (·.1)=false:=by rfl) :
  PI X (.Tuple g c1 E) (.Call (.Name "zip" p) [a,b] [] f) (IL B C X.K v):=by
 intro i s N H R I h;refine Call_ (my I G J JL (U8 (Xl (L f i s N H _ I h) λO c ⟨Q,T,j,U,Y⟩=>?_) M m));obtain⟨n,r,xs,ys,ev,t,u,q⟩:=Y;subst ev
 cases U with
 |cons e1 rt =>
  obtain⟨u2,rfl,e2⟩:=fP rt;cases e1;cases e2;obtain⟨O,ru,w⟩:=j.seqK t;obtain⟨Q,rv,pv⟩:=j.seqK u;have d:n<c.heap.objs.size:=w.lt;have e:r<c.heap.objs.size:=pv.lt;refine CN w pv λh' z1 z2 z3 z4 z5 kk=>?_;refine wpAny_pyIter_zip (s:={c with heap:=h'}) z1 ?_;have ne:∀{x y:Nat},x<y->x≠y:=λh=>Ud h;have l:∀{x y:Nat},y<x->x≠y:=λh=>UG h
  have ap:ZipApart (c.heap.objs.size+4) (c.heap.objs.size+2) (c.heap.objs.size+3) c.heap.objs.size (c.heap.objs.size+1) n r :=
   ⟨ne ⋯,ne ⋯,ne ⋯,ne ⋯,ne ⋯,l ⋯,l ⋯,l ⋯,l ⋯,ne ⋯,ne (TX d ⋯),ne (TX d ⋯),ne d,ne (TX d ⋯),
    ne (TX e ⋯),ne (TX e ⋯),ne e,ne (TX e ⋯)⟩
  refine⟨c.heap.objs.size+4,[c.heap.objs.size+4,c.heap.objs.size+2,c.heap.objs.size+3,c.heap.objs.size,c.heap.objs.size+1],_,_,T,rfl,j.kept (t':=c.toks) kk,Gw n r _ _ _ _ _ xs ys ap,⟨.none,.none,z1,z2,z3,z4,z5⟩,λb z=>?_,q⟩
  have A:c.heap.objs.size<=b:=by
   simp only[TY,Ul,UX]at z;rcases z with rfl|rfl|rfl|rfl|rfl
   ·exact Ws _ _
   ·exact Ws _ _
   ·exact Ws _ _
   ·exact Tu _
   ·exact Ws _ _
  exact j.ZK A (j.hok.fresh A)
noncomputable abbrev Mg:=IL false false
noncomputable abbrev FG:=@HH false false
theorem Iq(e:St)(ne:i≠j)(a b c d:Option V):((((e.set i a).set j b).set i c).set j d)=(e.set i c).set j d:=by rw[List.set_comm _ _ (Tt ne),Wd,Wd]
theorem PS.nox{X:Cx}{st:Stmt}(h:PS X.nox st t):PS X st t:=λc s d H D I e=>UC (h c s d H D (I.ZD _) e) (λf g q=>by
 cases f with
 |next=>obtain⟨a,b,J,z⟩:=q;exact⟨a,b,J.X4,z⟩
 |brk=>obtain⟨a,b,J,z⟩:=q;exact⟨a,b,J.X4,z⟩
 |cont=>obtain⟨a,b,J,z⟩:=q;exact⟨a,b,J.X4,z⟩
 |ret u=>obtain⟨v,a,b,J,r,z⟩:=q;exact⟨v,a,b,J.X4,r,z⟩) λ_ _ z=>z.elim
def zN(K:vc)(R:List Ar->D->Prop)(B:List Ar->Addr->Prop):Sp:=λb H Q E =>
 ∃as,Ars K H as b/\((∃d,R as d/\∀v a,Xe H a->Dat K a d v->Q v a)\/∃C,B as C/\∀a,Xe H a->E (.ref C) none a)
section
variable{K:vc}
theorem oC(h:RB K tA b H a)(r:R a d):RE K (f6 (zN K R B) [] E tA) b H d:=λc s Q q =>
 h c s _ λj l e f=>⟨a,by rw[Ub];exact f,.inl ⟨d,r,λv m g i=>q _ _ (e.trans g) i⟩⟩
theorem oK(h:RB K tA c H a)(r:B a C)(q:∀b,Xe H b->E (.ref C) none b):f6 (zN K R B) [] E tA c H Q :=
 h.use λg i d e=>⟨a,by rw[Ub];exact e,.inr ⟨C,r,λj f=>q _ (d.trans f)⟩⟩
end
end L2
namespace L2
open PySem
def Kept(h c:Heap):Prop:=∀(b:Addr)(o:Obj),h.objs[b]?=some o->∃a,c.objs[b]?=some a/\a.dict=o.dict
theorem Kept.refl:Kept h h:=λ_ o e=>⟨o,e,rfl⟩
theorem Kept.trans(x:Kept a c)(y:Kept c d):Kept a d:=λb o e =>
 let⟨f,e1,d1⟩:=x b o e;let⟨g,e2,d2⟩:=y b f e1;⟨g,e2,d2.trans d1⟩
theorem Kept.push:Kept h (h.push o):=λb u e=>by obtain⟨a,l⟩:=h;refine⟨u,?_,rfl⟩;show(a.push o)[b]?=some u;have e:a[b]?=some u:=e;rw[Array.getElem?_push_lt (V4.mp e).1];exact Up some (V4.mp e).2
theorem Kept.update(d:∀o,(f o).dict=o.dict):Kept h (h.update a f):=λb u e=>by
 obtain⟨c,l⟩:=h;have e:c[b]?=some u:=e;by_cases q:a=b
 ·refine⟨f u,?_,d u⟩;show(c.modify a f)[b]?=some (f u);rw[Array.getElem?_modify,TR q,e];rfl
 ·refine⟨u,?_,rfl⟩;show(c.modify a f)[b]?=some u;rw[Array.getElem?_modify,TN q,e]
theorem Kept.at(k:Kept h b)(e:h.get? a=some o)(c:b.get? a=some f):f.dict=o.dict:=by
 have r:∀{g:Heap}{u:Obj},g.get? a=some u->g.objs[a]?=some u:=λ{g u} q=>by
  unfold Heap.get? at q;split at q
  ·cases q
  ·exact q
 obtain⟨u,i,d⟩:=k a o (r e);have z:=(r c).symm.trans i;cases z;exact d
def Xq{α:Type}:Sem α->Prop
 | .rule _ k=>Xq (k ())
 | .at _ k=>Xq (k ())
 | .load _ _ k=>∀x,Xq (k x)
 | .update _ _ f k=>(∀o,(f o).dict=o.dict)/\Xq (k ())
 | .loadIfAlive _ k=>∀x,Xq (k x)
 | .point _ k=>Xq (k ())
 | .alloc _ k=>∀x,Xq (k x)
 | .fresh k=>∀x,Xq (k x)
 | .ask k=>∀x,Xq (k x)
 | .choose _ _ k=>∀x,Xq (k x)
 | .handled _ k=>∀x,Xq (k x)
 | .stack k=>∀x,Xq (k x)
 | .call ..=>False
 | .resume ..=>False
 | .os ..=>False
 | .newGen ..=>False
 | .genState ..=>False
 | .thread ..=>False
 |_=>True
theorem Xq.bind{β:Type}{f:α->Sem β}(d:∀a,Xq (f a)):∀{m:Sem α},Xq m->Xq (m >>= f):=by
 intro m c;show Xq (m.bind f)
 induction m with
 |pure a=>exact d a
 |rule _ k b=>exact b () c
 | «at» _ k b=>exact b () c
 |load _ _ k b=>exactλx=>b x (c x)
 |update _ _ g k b=>exact⟨c.1,b () c.2⟩
 |loadIfAlive _ k b=>exactλx=>b x (c x)
 |point _ k b=>exact b () c
 |alloc _ k b=>exactλx=>b x (c x)
 |fresh k b=>exactλx=>b x (c x)
 |ask k b=>exactλx=>b x (c x)
 |choose _ _ k b=>exactλx=>b x (c x)
 |handled _ k b=>exactλx=>b x (c x)
 |stack k b=>exactλx=>b x (c x)
 |call=>exact c.elim
 |resume=>exact c.elim
 |os=>exact c.elim
 |newGen=>exact c.elim
 |genState=>exact c.elim
 |thread=>exact c.elim
 |_=>trivial
theorem IE:∀{t:Sem α}{p:Pos}{s:Shared},Xq t->Kept i s.heap->Sem.wp M Γ t Q E p s ->
  Sem.wp M Γ t (λa j g=>Q a j g/\Kept i g.heap) E p s:=by
 intro t
 induction t with
 |pure a=>exactλ_ k h=>⟨h,k⟩
 |raise e=>exactλ_ _ h=>h
 |unsupported=>exactλ_ _ h=>h
 |finish=>exactλ_ _ h=>h
 |rule _ k c=>exactλb d h=>c () b d h
 | «at» _ k c=>exactλb d h=>c () b d h
 |load _ _ k c=>exactλb d ⟨o,e,h⟩=>⟨o,e,c o (b o) d h⟩
 |update _ _ f k c=>exactλb d ⟨e,h⟩=>⟨e,c () b.2 (d.trans (Kept.update b.1)) h⟩
 |loadIfAlive _ k c=>exactλb d h=>c _ (b _) d h
 |point _ k c=>exactλb d h=>c () b d h
 |register=>exactλ_ _ h=>h
 |alloc _ k c=>exactλb d h=>c _ (b _) (d.trans Kept.push) h
 |fresh k c=>exactλb d h=>c _ (b _) d h
 |ask k c=>exactλb d h=>c _ (b _) d h
 |choose _ _ k c=>exactλb d ⟨n,h⟩=>⟨n,c _ (b _) d h⟩
 |handled _ k c=>exactλb d h=>c _ (b _) d h
 |stack k c=>exactλb d h=>c _ (b _) d h
 |yield=>exactλ_ _ h=>h
 |fork=>exactλ_ _ h=>h
 |await=>exactλ_ _ h=>h
 |_=>exactλb=>b.elim
theorem jd{α:Type}{t:Sem α}{Q:α->Shared->Prop}{E:qf}(c:Xq t)(h:wpAny M A t Q E s):wpAny M A t (λa b=>Q a b/\Kept s.heap b.heap) E s :=
 λΓ p hΓ=>IE c Kept.refl (h Γ p hΓ)
theorem jK(a:α):Xq (pure a:Sem α):=trivial
theorem F6(h:∀o,(f o).dict=o.dict):Xq (update a f):=⟨h,trivial⟩
theorem sy:Xq stack:=λ_=>trivial
theorem ub(v:Value):Xq (fieldsOf v):=by
 unfold fieldsOf;split
 ·refine Xq.bind (λo=>?_) (λ_=>trivial);split<;>trivial
 ·trivial
theorem j9(v:Value)(i:Nat):Xq (field v i):=by unfold field;refine Xq.bind (λa=>?_) (ub v);split<;>trivial
theorem qW(f:Array Value->Array Value)(o:Obj):(Obj.mapFields f o).dict=o.dict:=by unfold Obj.mapFields;split<;>rfl
theorem jv(v:Value)(i:Nat)(x:Value):Xq (setField v i x):=by
 unfold setField;split
 ·unfold updateField;refine Xq.bind (λo=>?_) (λ_=>trivial);split
  ·split
   ·exact⟨λo=>qW _ o,trivial⟩
   ·trivial
  ·trivial
 ·trivial
theorem zB(env:Env)(outer:List Env):Xq (behindIsImport env outer):=by
 unfold behindIsImport;split
 ·trivial
 ·split
  ·trivial
  ·exact Xq.bind (λ_=>jK _) (j9 _ _)
theorem Dw(env:Env)(b:Bool)(outer:List Env):Xq (keptBack env b outer):=by
 unfold keptBack;split
 ·split
  ·trivial
  ·have h:Xq underTheClaimsCaller:=Xq.bind (λ_=>jK _) sy;exact Xq.bind (λc=>jK _) h
 ·trivial
theorem sv:∀l:List Env,Xq (readyFrames l)
 |[]=>trivial
 |env::outer=>by
  unfold readyFrames;split
  ·refine Xq.bind (λo=>?_) (λ_=>trivial);split
   ·trivial
   ·refine Xq.bind (λi=>Xq.bind (λb=>Xq.bind (λ_=>sv outer) ?_) (Dw _ _ _)) (zB _ _);exact F6 λ_=>rfl
  ·trivial
theorem A8(env:Env):Xq (frameOf env):=by
 unfold frameOf;have h:Xq frameEnvs:=Xq.bind (λ_=>jK _) sy;refine Xq.bind (λl=>?_) h;refine Xq.bind (λo=>?_) ?_
 ·split<;>trivial
 ·unfold frameObject;split
  ·trivial
  ·exact Xq.bind (λ_=>jK _) (sv (_::_))
theorem A9(f:Addr)(b:Bool):Xq (entryPlaceOf f b):=by unfold entryPlaceOf;refine Xq.bind (λl=>?_) (λ_=>trivial);split<;>trivial
theorem A7(a b c d e:Value)(l:yw):Xq (EntryCells.newEntry a b c d e l):=by
 unfold EntryCells.newEntry newFields newObj;have h:∀d:Data,Xq (newObjAsIs (.type "traceback") d):=λd _=>trivial;generalize ([a,b,c,d,e]++if l.isEmpty=true then List.replicate 6 Value.none else l).toArray=f;dsimp only;split
 ·exact Xq.bind (λ_=>h _) (m:=unsupported _) trivial
 ·exact h _
theorem lq(e:Value)(f:Option Addr):Xq (setFlight e f):=by
 unfold setFlight;refine Xq.bind (λa=>?_) (j9 _ _);split
 ·exact jv _ _ _
 ·trivial
theorem vD(e:Value)(env:Env):Xq (noteFrame e env):=by
 unfold noteFrame;split
 ·refine Xq.bind (λc=>?_) (j9 _ _)
  have a:∀b:Bool,Xq (do setField e 1 (<- EntryCells.newEntry c (<- frameOf env) .none (rawInt ‹Addr›) .none (<- entryPlaceOf ‹Addr› b))):=λb =>
   Xq.bind (λfr=>Xq.bind (λd=>Xq.bind (λen=>jv _ _ _) (A7 _ _ _ _ _ _)) (A9 _ _)) (A8 _)
  split
  ·refine Xq.bind (λfl=>?_) (j9 _ _);split
   ·trivial
   ·exact Xq.bind (λ_=>a _) (jv _ _ _)
  ·exact a _
 ·trivial
theorem nI(env:Env)(e:Value):Xq (leaving env e):=Xq.bind (λ_=>lq _ _) (vD _ _)
end L2
namespace L2
open PySem PySem.Spec PySem.Calls PyProof.Rows PySem.W PySem.Builtin PySem.Builtin.ObjectAttr
def DictAt(h:Heap)(a:Addr)(c:Option Addr):Prop:=∃b,h.get? a=some b/\b.dict=c
theorem Kept.dictAt(k:Kept h b)(d:DictAt h a e)(t:Trc b a T cls j):DictAt b a e:=by obtain⟨l,f,g⟩:=d;obtain⟨i,_,_,_,c,_⟩:=t;exact⟨i,c,(k.at f c).trans g⟩
noncomputable def Yw(P:Program)(w:World):CXT:=λouter H s E e b =>
 ∃a T cls f d c,e=.ref a/\b.os=s.os/\AllBare b.gens/\Un (frs outer) [] H c s.heap b.heap/\Yh P w c b.heap /\
  (s.heap.get? a=none/\s.heap.get? T=none/\c a=none/\c T=none)/\Trc b.heap a T cls f/\DictAt b.heap a d/\E cls d c
section
theorem Yw.behind{X:Cx}{b:qd}{p:St}{H:Hp}{s f:Shared}{E:XK}{e:Value}(I:Inv X b p H s)(x:Yw X.prog X.w X.stack H s E e f):∃a T cls g n d,e=.ref a/\E cls n d/\DictAt f.heap a n/\s.heap.get? a=none/\d a=none/\Inv X b p d f /\
  Heap.FlyingW (W.hideAll f.heap (a::T::frs X.stack)) X.stack a cls g f.heap /\
  ∀i u,Heap.FlyingW (W.hideAll f.heap (a::T::frs X.stack)) u a cls g i->f.heap.UpToSlots i ->
   ∃j,Inv X b p d {f with heap:=i}/\Trc i a j cls g/\s.heap.get? j=none/\d j=none/\Un (frs X.stack) [] H d s.heap i:=by
 obtain⟨a,T,cls,g,n,d,rfl,os,l,un,r,fr,v,y,q⟩:=x;obtain⟨A,j,c2,t,B,e2,⟨rfl,rfl⟩,sa,z,J,fl,m⟩:=CX1.behind (E:=λc _ G=>c=cls/\G=d) I ⟨a,T,cls,g,d,rfl,os,l,un,r,fr,v,rfl,rfl⟩;cases e2;exact⟨a,j,_,t,n,_,rfl,q,y,sa,z,J,fl,m⟩
end
variable{K:vc}
theorem rE :
  gU (Yw P w) (kF (Yw P w) P w K mg base N d scope f cd A outer s H E) E:=by
 intro u σ H1 G e l I x;obtain⟨a,T,cls,v,M,O,rfl,q,U,sa,Y,J,fl,g⟩:=Yw.behind I x
 refine UC (jd (nI _ _) (wpAny_leaves_onW (Q:=λ_ y=>∃c,y={l with heap:=c}/\Heap.FlyingW (W.hideAll l.heap (a::T::frs (envOfC d scope s.heap.objs.size f cd::outer))) outer a cls v c/\l.heap.UpToSlots c)
  (L:=s.heap.objs.size) I.ok.frames rfl fl λc m n=>⟨c,rfl,m,n⟩)) (λ_ y ⟨⟨c,e2,m,n⟩,kp⟩=>?_) λ_ _ z=>z
 subst e2;obtain⟨B,j,C,p,t,_⟩:=g c _ m n
 have i:∀b,G.heap.get? b=none->s.heap.get? b=none:=λb z=>by
  cases q:s.heap.get? b with
  |none=>rfl
  |some o =>obtain⟨o',r⟩:=I.base.there b o q (by show b∉([]:nt);simp);rw[z]at r;cases r
 exact⟨a,B,cls,v,M,O,rfl,j.os,j.bare,j.base,j.hok,⟨i a sa,i B p,Y,t⟩,C,kp.dictAt U C,q⟩
noncomputable def K3(P:Program)(w:World):CXT:=λouter H s E e b =>
 ∃a cls f d c,e=.ref a/\b.os=s.os/\AllBare b.gens/\Un (frs outer) [] H c s.heap b.heap/\Yh P w c b.heap /\
  (s.heap.get? a=none/\c a=none)/\Fre b.heap a cls f/\DictAt b.heap a d/\E cls d c
theorem oV :
  gU (K3 P w) (kF (Yw P w) P w K mg base N c scope f cd A outer s H E) E:=by
 intro d O H1 u e j I x;obtain⟨a,cls,p,dx,v,rfl,os,g,un,l,⟨sa,y⟩,⟨B,vs,he,⟨hc,h0⟩,hd,hv⟩,da,q⟩:=x;have J:Inv (kF (Yw P w) P w K mg base N c scope f cd A outer s H E) d O v j:=I.ZC (ch:=[]) os un l g (λb z=>absurd z (by simp));subst hc
 refine UC (jd (nI _ _) (wpAny_leaving_firstW (Q:=λ_ U=>∃i,U={j with heap:=i}/\Heap.LeftW (W.hideAll j.heap (a::a::frs (envOfC c scope s.heap.objs.size f cd::outer))) (envOfC c scope s.heap.objs.size f cd::outer) a B.cls p j.heap i) (L:=s.heap.objs.size) (a0:=p) I.ok.frames
  (W.funFrames_hide J.stack λenv hm b hb=>.tail _ (.tail _ (UZ.mpr ⟨env,hm,hb⟩))) rfl he (λb o q=>W.of_hideAll _ q) (Wg _ (.head _)) hd hv h0 λi L2=>⟨i,rfl,L2⟩)) (λ_ U ⟨⟨i,e2,k1,k2,k3,k4⟩,kp⟩=>?_) λ_ _ z=>z
 subst e2;obtain⟨m,C,G,Y,M⟩:=yC (T:=a) J.stack (show Heap.FlyingW _ _ a B.cls p i from ⟨k1,Wg _ (.head _),k2,k3⟩) k4;have neT:m≠a:=by obtain⟨_,_,_,_,_,_,_,_,z,_⟩:=C;exact z
 have nT:j.heap.get? m=none:=G.resolve_left neT
 have sT:u.heap.get? m=none:=by
  cases q:u.heap.get? m with
  |none=>rfl
  |some o =>obtain⟨o',r⟩:=un.there m o q (by simp);rw[nT]at r;cases r
 have n:∀b,u.heap.get? b=none->s.heap.get? b=none:=λb z=>by
  cases q:s.heap.get? b with
  |none=>rfl
  |some o =>obtain⟨o',r⟩:=I.base.there b o q (by show b∉([]:nt);simp);rw[z]at r;cases r
 have t:Inv (kF (Yw P w) P w K mg base N c scope f cd A outer s H E) d O v {j with heap:=i} :=
  I.ZC (s':={j with heap:=i}) (ch:=[]) os (Gy un sa sa Y M) (EI l y y J.YZ Y) g (λb z=>absurd z (by simp))
 exact⟨a,m,B.cls,p,dx,v,rfl,t.os,t.bare,t.base,t.hok,⟨n a sa,n m sT,y,l.empty nT⟩,C,kp.dictAt da C,q⟩
theorem YK.ok2{P:Program}{st:Stmt}(F:YK K x b st f l)(S:Xf N i (aG st))(len:∀c H Q E,j c H Q E->c.length=i.length)
  (d:∀(a:Value)(A:Around)(outer:List Env)(s:Shared)(H:Hp)(c:List V)(Q:VK)(E:XK),Xy k (A.deeper (envOfC b (aG st) s.heap.objs.size f a))->j c H Q E ->
   ∃t,Y0 (kF (Yw P w) P w K mg base N b (aG st) f a A outer s H E) (eY st) t/\t {nx:=λ_ m=>Q .Xi m,rt:=Q} (fK N c) H):Xj P w K mg base (Yw P w) (k+1) f l i j:=by
 obtain⟨oc,od,kV,doc,q,r,a,ct,n,rfl,lk,e⟩:=F.ex;exact Ep lk e S len λA outer s H c Q E p g=>d a A outer s H c Q E p g
section
end
noncomputable def GF(x D:Addr)(b:Option Addr):HO:=.ext λh=>∃a c,h.get? x=some a/\a.cls=.ref D/\a.data=.fields c/\a.dict=b
theorem HV{i:List D}{lo hi:Nat}(h:RL K t d H i)(j:RE K l d H (.int lo))(m:RE K n d H (.int hi)):RC K (tSl (LF K) t (vM l) (vM n)) d H ((i.drop lo).take (hi - lo)):=λr s Q q =>
 h r s _ λv u b w=>j u (s.trans b) _ λC x c y=>⟨lo,y.Xp,m x (s.trans (b.trans c)) _ λE G e z=>⟨hi,z.Xp,by
  obtain⟨a,A,rfl,B,f⟩:=(c.trans e).ld w;refine⟨a,A,rfl,B.YC,λp g=>?_⟩;rw[BH];exact q p _ _ ((b.trans (c.trans e)).free g) (b.trans (c.trans (e.trans (aH g _)))) aD ((aH g _).Xo (Xd.takeN (Xd.dropN f)))⟩⟩
section
end
end L2
namespace L2
open PySem PySem.Spec PySem.Calls PyProof.Rows
noncomputable abbrev rS(t:Addr)(i:Int):Obj:={cls:=.type "reversed",data:=.fields #[.ref t,rawInt i]}
theorem uk:Slot "reversed" "__init__" "object.__init__":=.of (owner:="object") (n:="__init__") (by rw[V8,Vx];kernel_rfl) ⋯ ⋯ ⋯ (by first|exact .inl ⋯|exact .inr ⋯) (by rw[WR];kernel_rfl)
theorem An:TypeCalled "reversed" "reversed.__new__" "object.__init__":=⟨⋯,⋯,⟨_,_,F.mro_reversed⟩,F.made_reversed,⋯,F.sub_reversed_self,uk⟩
theorem XU:Slot "reversed" "__next__" "reversed.__next__":=.of (owner:="reversed") (n:="__next__") (by rw[V8,Vx];kernel_rfl) ⋯ ⋯ ⋯ (by first|exact .inl ⋯|exact .inr ⋯) (by rw[WR];kernel_rfl)
theorem mm:Slot "reversed" "__iter__" "reversed.__iter__":=.of (owner:="reversed") (n:="__iter__") (by rw[V8,Vx];kernel_rfl) ⋯ ⋯ ⋯ (by first|exact .inl ⋯|exact .inr ⋯) (by rw[WR];kernel_rfl)
theorem kH:entryFor table "reversed.__next__"=some Builtin.«reversed.__next__»:=entryFor_of_tree (by kernel_rfl)
theorem qG:entryFor table "reversed.__iter__"=some Builtin.«dict_keyiterator.__iter__»:=entryFor_alias (id':="dict_keyiterator.__iter__") (by kernel_rfl) (by first|rfl|decide +kernel | (unfold String.splitOn;simp +decide [String.splitOnAux])) ⋯ (by kernel_rfl)
theorem uS:Manifest.owners.lookup (String.ofList ['d','e','s','r','e','v','e','r'].reverse)=some Manifest.sig_reversed:=by kernel_rfl
theorem lX(a:Value):argsOk "reversed.__next__" ⟨[a],[]⟩:=by unfold argsOk;rw[signature?_of (id:="reversed.__next__") (n:=['_','_','t','x','e','n','_','_']) (o:=['d','e','s','r','e','v','e','r']) (by kernel_rfl) uS];kernel_rfl
theorem tM(a:Value):argsOk "reversed.__iter__" ⟨[a],[]⟩:=by unfold argsOk;rw[signature?_of (id:="reversed.__iter__") (n:=['_','_','r','e','t','i','_','_']) (o:=['d','e','s','r','e','v','e','r']) (by kernel_rfl) uS];kernel_rfl
theorem DG:typeLookup (.type "tuple") "__reversed__"=pure none:=by rw[V8,Vx];kernel_rfl
theorem Bv:isSubtype (.type "tuple") (.type "dict")=pure false:=by rw[WR];kernel_rfl
theorem pK:typeLookup (.type "tuple") "__getitem__"=pure (some (.builtin "tuple.__getitem__")):=by rw[V8,Vx];kernel_rfl
theorem F0(t:Addr)(a:Array Value)(n:Nat)(d2:Option Addr)(e:Array (Option Value)) :
  Meets (Builtin.«reversed.__new__» ⟨[.type "reversed",.ref t],[]⟩) (λ_ R s=>s.heap.get? t=some {cls:=.type "tuple",dict:=d2,data:=.seq a n,slots:=e} /\
   (a.size:Int)<2 ^ 63/\R (.ok (.ret (.ref s.heap.objs.size))) {s with heap:=s.heap.push (rS t ((a.size:Int) - 1)),toks:=s.toks+2}) :=
 .of_wp λ_ _ _ _ s q=>by
  obtain⟨f,g0,g,i,j⟩:=s;obtain⟨l,b,q⟩:=q;have c:Heap.IsTuple (Shared.heap ⟨f,g0,g,i,j⟩) t a:=⟨_,l,rfl,n,rfl⟩
  have d:=F.sub_reversed_self
  wp_walk
  show wpAny _ _ (typeLookup (.type "tuple") "__reversed__") _ _ _;rw[DG];refine Tz ?_;dsimp only
  wp_walk
  show wpAny _ _ (isSubtype (.type "tuple") (.type "dict")) _ _ _;rw[Bv];refine Tz ?_;rw[TN ⋯]
  wp_walk
  show wpAny _ _ (typeLookup (.type "tuple") "__getitem__") _ _ _;rw[pK];refine Tz ?_;dsimp only;rw[TR ⋯];refine Tz ?_;rw[TN ⋯];refine Tn ?_;refine PyProof.Rows.len_tuple c b ?_
  wp_walk
  exact⟨_,rfl,q⟩
theorem CK{s:Shared}(b:s.heap.IsTuple t a)(c:(a.size:Int)<2 ^ 63)
  (q:Q (.ref s.heap.objs.size) {s with heap:=s.heap.push (rS t ((a.size:Int) - 1)),toks:=s.toks+2}):wpAny (model prog w) A (call (.type "reversed") [.ref t]) Q E s:=by
 obtain⟨⟨c2,d2,d,e⟩,b,f,n,g⟩:=b;obtain rfl:c2=.type "tuple":=f;obtain rfl:d=.seq a n:=g;refine callType_new An ⋯ (F.typeCall_reversed_1 _) (F.newCall_reversed_1 _) (λo=>F.args_object_init_2 o _) F.entry_reversed_new (F0 t a n d2 e) ⟨b,c,?_⟩;show _/\_;exact⟨⟨_,U7 rfl rfl,rfl⟩,q⟩
theorem sx{i n:Nat}(h:i<n):seqIndex? (i:Int) n=some i:=(wy (by unfold ixN;rw[TR ⋯,TR ⋯];rfl)).1
abbrev oW(h:Heap)(it t:Addr)(i:Int):Prop:=h.get? it=some (rS t i)
section
theorem A6{E:qf}{s:Shared}{a:Array Value}{i:Nat}{Q:Option Value->Shared->Prop}(b:oW s.heap it t i)(e:s.heap.IsTuple t a)(g:(a.size:Int)<2 ^ 63)(f:a[i]?=some x)
  (q:∀c l,oW c it t ((i:Int) - 1)->Heap.SameBut it s.heap c->Q (some x) {s with heap:=c,toks:=l}):wpAny (model prog w) A (pyNext (.ref it)) Q E s:=by
 have ty:s.TypeIs (.ref it) "reversed":=⟨_,b,rfl⟩
 have lt:i<a.size:=(V4.mp f).1;unfold pyNext;refine Tn (VL (UQ (name:=Str.ofString "__next__") ty XU (Vb XU ty kH ?_ (lX _))));obtain⟨⟨c2,d2,d,r⟩,u,m,n,p⟩:=id e;obtain rfl:c2=.type "tuple":=m;obtain rfl:d=.seq a n:=p;obtain⟨v,g0,y,z,B⟩:=s;unfold oW rS rawInt at b
 wp_walk
 show wpAny _ _ (typeLookup (.type "tuple") "__getitem__") _ _ _;rw[pK];refine Tz ?_;rw[TN ⋯];refine Tn (wpAny_mkInt (Tn (VL ?_)));show wpAny _ _ (getItem (.ref t) (.int (i:Int) _)) _ _ _;refine PyProof.Rows.getItem_tuple (j:=i) e ⋯ ⋯ (sx lt) f ?_
 wp_walk
 exact⟨x,rfl,Tz (q _ _ (Heap.get?_update_self _ b rfl) (Heap.SameBut.update ..))⟩
theorem A5{A:Around}{s:Shared}(f:A.handled=none)(a:oW s.heap it t (-1))(q:∀c,Heap.ExtBut it s.heap c->Q none {s with heap:=c}):wpAny (model prog w) A (pyNext (.ref it)) Q E s:=by
 have ty:s.TypeIs (.ref it) "reversed":=⟨_,a,rfl⟩
 unfold pyNext;refine Tn (VL (UQ (name:=Str.ofString "__next__") ty XU (Vb XU ty kH ?_ (lX _))));obtain⟨g,g0,i,j,l⟩:=s;unfold oW rS rawInt at a
 wp_walk
 refine wpAny_raiseNew_none f ?_;refine Tn (wpAny_isInstance (T:="StopIteration") (b:=true) ⟨_,T3 _ rfl,rfl⟩ isSubtype_stop (Tz (q _ λb o d e=>?_)));exact Tp _ (Tp _ ((Heap.get?_update_ne _ _ _ _ d).trans ((Heap.get?_update_ne _ _ _ _ d).trans e)))
theorem zy{s:Shared}(a:oW s.heap it t i)(h:Q (.ref it) s):wpAny (model prog w) A (pyIter (.ref it)) Q E s:=by
 have ty:s.TypeIs (.ref it) "reversed":=⟨_,a,rfl⟩
 refine wpAny_pyIter_slot ty mm (Vb mm ty qG ?_ (tM _));show wpAny _ _ (ret (.ref it)) _ _ s;exact Tz ⟨_,rfl,"reversed",_,ty,XU.lookup,h⟩
end
noncomputable def Itw(K:vc)(a:Addr)(b:List V):It:=⟨λi H=>i<b.length/\XG K H a b,λi H x c=>c=H/\b[b.length - 1 - i]?=some x,λi _=>i=b.length⟩
theorem DJ{K:vc}(a it:Addr)(c:List V):lP P w K tg (Itw K a c) [it] it (λi h=>oW h it a ((c.length:Int) - 1 - (i:Int))) where
 mem:=by simp
 obj:=λi h st b f=>by
  have e:b=it:=by simpa using f
  subst e;exact⟨_,st,λv z=>by cases z⟩
 keep:=λi h j st k=>k it (by simp) _ st
 item:=by
  intro X m n r M i d s N H E I l st t;subst m n r;obtain⟨hi,U⟩:=t;obtain⟨Y,O,p,hz⟩:=I.tuple U;obtain⟨y,B,f2,C,G,f5⟩:=l it (by simp);have lr:=O.length;have T:c[c.length - 1 - i]?=some (c[c.length - 1 - i]'(by lia)):=M1 ⋯;obtain⟨u,hu,ru⟩:=O.get T;have e1:(c.length:Int) - 1 - (i:Int)=((c.length - 1 - i:Nat):Int):=by lia
  rw[e1]at st;refine A6 st p (by rw[TJ];rw[VP]at hz;lia) (x:=u) (by simpa using hu) λj J g sb=>?_;have e2:((c.length - 1 - i:Nat):Int) - 1=(c.length:Int) - 1 - ((i+1:Nat):Int):=by lia
  rw[e2]at g;have I1:Inv X d N H {s with heap:=j,toks:=J}:=I.turned (t':=J) (λb o f e=>(sb.2 b f).trans e) y B C G f5;exact⟨u,rfl,qM (s:={s with heap:=j,toks:=J}) g rfl rfl ⋯ ⟨_,H,I1,ru,⟨rfl,T⟩,g,λb f=>(l b f).1⟩⟩
 done:=by
  intro X m n r M i d s N H E I l st t;subst m n r;obtain⟨y,B,f2,C,G,f5⟩:=l it (by simp);have L:i=c.length:=t;subst L;have e1:(c.length:Int) - 1 - (c.length:Int)=-1:=by lia
  rw[e1]at st;exact A5 (I.ok.hd M) st λj eb=>⟨rfl,I.turned (t':=s.toks) (λb o f e=>eb b o f e) y B C G f5⟩
 self:=λA i s Q E st q=>zy st q
section
noncomputable def Ll(K:vc)(d:TA):TI:=λe H R=>d e H λf b=>∃a c,f=[.ref a]/\XG K b a c/\R (Itw K a c) b
theorem HF(m:Gl X "reversed")(n:X.mg "reversed"=none)(r:PA X [a] t)(v:starEach [a] X.env=[(false,eval a X.env)]:=by rfl):PI X M (.Call (.Name "reversed" p) [a] [] i) (Ll X.K t):=by
 intro d s w H R I h;refine Call_ (my I m n o5 (U8 (Xl (r i d s w H _ I h) λN c ⟨O,x,g,y,z⟩=>?_) v rfl));obtain⟨l,f,e,A,q⟩:=z;subst e;obtain⟨u,rfl,B⟩:=fP y;cases B;obtain⟨j,C,E,G⟩:=g.tuple A;have lr:=C.length;refine CK E (by rw[TJ];rw[VP]at G;lia) ?_;have J:((j.toArray.size:Nat):Int) - 1=(f.length:Int) - 1 - ((0:Nat):Int):=by rw[TJ,lr];lia
 rw[J];have st:oW (c.heap.push (rS l ((f.length:Int) - 1 - ((0:Nat):Int)))) c.heap.objs.size l ((f.length:Int) - 1 - ((0:Nat):Int)):=T3 _ rfl;refine zy (s:={c with heap:=c.heap.push (rS l ((f.length:Int) - 1 - ((0:Nat):Int))),toks:=c.toks+2}) st ?_;refine⟨c.heap.objs.size,[c.heap.objs.size],_,_,x,rfl,g.kept (t':=c.toks+2) λb o e=>Tp _ e,DJ l _ f,st,λb L=>?_,q⟩;have e:b=c.heap.objs.size:=by simpa using L
 subst e;exact g.ZK (Tu _) (g.hok.fresh (Tu _))
end
theorem Er{K:PySem.W.Frag}{a:Addr}{xs:List V}{g:TG}{n:TS}{D:Ends}{b:St}{H:Hp}(Pv:Nat->St->Hp->Prop)(s:Pv 0 b H)(t:∀i b H,i<=xs.length->Pv i b H->XG K H a xs)
  (u:∀i x b H,i<xs.length->xs[xs.length - 1 - i]?=some x->Pv i b H->g x b H λc l=>n {D with nx:=Pv (i+1),ct:=Pv (i+1),bk:=D.nx} c l) (v:∀b H,Pv xs.length b H->D.nx b H) :
  ∃W:Nat->Nat->St->Hp->Prop,(∃m,W 0 m b H)/\∀i m b H,W i m b H ->
   ((Itw K a xs).stop i H/\D.nx b H)\/((Itw K a xs).go i H/\∃N:St->Hp->Prop,(∀d f,N d f->∃r,r<m/\W (i+1) r d f)/\∀x f,(Itw K a xs).Zd i H x f->g x b f λc l=>n {D with nx:=N,ct:=N,bk:=D.nx} c l):=by
 refine⟨λi m b H=>m=xs.length - i/\i<=xs.length/\Pv i b H,⟨xs.length,by simp,Us _,s⟩,?_⟩;rintro i m b H ⟨rfl,w,p⟩;have q:=t i b H w p;by_cases j:i<xs.length
 ·refine .inr ⟨⟨j,q⟩,Pv (i+1),λd f z=>⟨xs.length - (i+1),⋯,rfl,j,z⟩,λx f y=>?_⟩;obtain⟨e,y⟩:=y;subst e;exact u i x b _ j y p
 ·have e:i=xs.length:=by lia
  subst e;exact .inl ⟨rfl,v b H p⟩
structure qp(X:Cx)(pins:qd)(σ:St)(H:Hp)(a:Addr)(cls:Value)(dx:Option Addr)(s:Shared):Prop where
 ok:X.Ok
 inv:Inv X pins σ H s
 ty:W.Looks (model X.prog X.w) s.heap (typeOf (.ref a)) cls
 na:H a=none
 again:∀(A:Around)(Q:Unit->Shared->Prop)(E:qf),(∀h',Inv X pins σ H {s with heap:=h'}->(∀Dx,cls=.ref Dx->Inv X pins σ (upd H a (GF a Dx dx)) {s with heap:=h'}/\Inv X pins σ (upd H a (pL a Dx)) {s with heap:=h'})->Q () {s with heap:=h'})->wpAny (model X.prog X.w) A (setFlight (.ref a) none) Q E s
theorem Lq{X:Cx}{j X8:qd}{σ:St}{I:Hp}{L c:Shared}{E:XK}{e:Value}{xe E':qf}{R:Shared->Prop}(ok:X.Ok)(O:Inv {X with pn:=X.pn++j,xe:=xe} X8 σ I L)(x1:Yw X.prog X.w X.stack I L E e c)
  (hR:∀a cls t M s',e=.ref a->E cls t M->qp X j σ M a cls t s'->R s') (u:X.stack=X.env::X.outer:=by rfl) (U:X.env.frame=some X.env.locals:=by rfl) :
  wpAny (model X.prog X.w) X.A (noteFrame e X.env) (λ_ v=>wpAny (model X.prog X.w) X.A (setFlight e none) (λ_ x=>R x) E' v) E' c:=by
 obtain⟨a,T,cls,Y,t,M,rfl,q,da,sa,na,J,fl,l⟩:=Yw.behind O x1;have fr:X.A.frames=some (X.env::X.outer):=by rw[<- u];exact ok.frames
 refine UC (jd (vD _ _) (wpAny_looks_onW (Q:=λ_ s4=>∃m,s4={c with heap:=m}/\Heap.HeldW (W.hideAll c.heap (a::T::frs X.stack)) (X.env::X.outer) a cls Y X.env.locals m/\c.heap.UpToSlots m) fr U (by rw[<- u];exact fl) λm b d=>⟨m,rfl,b,d⟩))
  (λ_ s4 ⟨⟨m,e4,b,d⟩,kp4⟩=>?_) λ_ _ z=>z
 subst e4
 refine UC (jd (lq _ _) (wpAny_landsW (Q:=λ_ s5=>∃h5,s5={c with heap:=h5}/\Heap.FlyingW (W.hideAll c.heap (a::T::frs X.stack)) (X.env::X.outer) a cls Y h5/\m.UpToSlots h5) b λh5 f g=>⟨h5,rfl,f,g⟩))
  (λ_ s5 ⟨⟨h5,e5,f,g⟩,kp5⟩=>?_) λ_ _ z=>z
 subst e5;obtain⟨T5,J5,t5,sT5,nT5,_⟩:=l h5 _ f (d.trans g);have da5:DictAt h5 a t:=(kp4.trans kp5).dictAt da t5
 have LT:W.Looks (model X.prog X.w) h5 (typeOf (.ref a)) cls:=by obtain⟨y,vs,oT,ts,n,⟨N,_⟩,_⟩:=t5;rw[<- N];exact(W.Looks.ld n).andThen .now
 refine hR a cls t M _ rfl q ⟨ok,J5.Yl ok,LT,na,λA Q E2 hQ=>?_⟩
 refine UC (jd (lq _ _) (lands_againW (Q:=λ_ s6=>∃i,s6={c with heap:=i}/\Heap.FlyingW (W.hideAll c.heap (a::T::frs X.stack)) (X.env::X.outer) a cls Y i/\h5.UpToSlots i) f λi p r=>⟨i,rfl,p,r⟩))
  (λ_ s6 ⟨⟨i,e6,p,r⟩,kp6⟩=>?_) λ_ _ z=>z
 subst e6;obtain⟨T6,J6,t6,_,_,B⟩:=l i _ p ((d.trans g).trans r);have da6:DictAt i a t:=Kept.dictAt kp6 da5 t6;refine hQ i (J6.Yl ok) λDx hD=>?_;subst hD;obtain⟨y,vs,oT,ts,n,⟨N,_⟩,hdt,_⟩:=t6;obtain⟨oe2,C,hdx⟩:=da6;rw[n]at C;cases C;refine⟨Inv.track (s:=L) (H:=I) (O.Yl ok) (J6.Yl ok) B sa na ?_,Inv.track (s:=L) (H:=I) (O.Yl ok) (J6.Yl ok) B sa na ?_⟩
 ·exact⟨⟨y,vs,n,N,hdt,hdx⟩,⟨y,n⟩,λh1 h2 ⟨G,v1,e1,c1⟩ k=>⟨G,v1,k G e1,c1⟩⟩
 ·exact⟨⟨y,n,N⟩,⟨y,n⟩,λh1 h2 ⟨G,e1,c1⟩ k=>⟨G,k G e1,c1⟩⟩
section
theorem BV{D:Ends}(L:qp X c J H a cls M s)(O:Gl X x)(Q:X.mg x=some C)(hN:X.N.Nodup)(t:X.N[i]?=some n)(r:X.env.kindOf n=some .local)(T:∀e:Value,Y0 (X.hand e) (y::d) U)(Y:W.exmOne X.K cls C=some b)
  (h1:b=true->∃B,cls=.ref B/\U (D.gone i) (J.set i (some (.ref a))) (upd H a (GF a B M))) (h2:b=false->wpAny (model X.prog X.w) X.A (handleBy (.ref a) X.env rest) (SP X c D) X.xe s) (hd:(x==("__debug__":Str))=false:=by decide) :
  wpAny (model X.prog X.w) X.A (handleBy (.ref a) X.env (.ExceptHandler (some (.Name x np)) (some n) (y::d) I::rest)) (SP X c D) X.xe s:=by
 refine WM (Wx (gH (X:=X.hand (.ref a)) L.inv.hand O Q ?_ hd)) (by intro q;cases q);refine(W.exm_one L.inv.Yg L.ty Y).here ?_
 cases b with
 |false=>exact h2 rfl
 |true =>
  obtain⟨B,hD,q⟩:=h1 rfl;refine codeAny_handlers_suite_as (L.again _ _ _ λh6 J6 I6=>?_);refine lB (X:=X.hand (.ref a)) (v:=.ref a) ((I6 B hD).1.hand (e:=.ref a)) hN t (.inl r) rfl (λs7 I7=>?_) (.inr r);refine UC (T (.ref a) c s7 _ _ (D.gone i) I7 q) (λf s3 E=>?_) (λ_ _ z=>z.elim)
  cases f with
  |next=>obtain⟨g,j,l,m⟩:=E;exact Inv.gone (l.X6 L.ok) hN t r λG p=>⟨_,j,p,m⟩
  |brk=>obtain⟨g,j,l,m⟩:=E;exact Inv.gone (l.X6 L.ok) hN t r λG p=>⟨_,j,p,m⟩
  |cont=>obtain⟨g,j,l,m⟩:=E;exact Inv.gone (l.X6 L.ok) hN t r λG p=>⟨_,j,p,m⟩
  |ret u=>obtain⟨v,g,j,l,r3,m⟩:=E;exact Inv.gone (l.X6 L.ok) hN t r λG p=>⟨v,_,j,p,r3,m⟩
theorem EC{D:Ends}(L:qp X c J H a cls dx s)(M:Gl X x)(O:X.mg x=some C)(hN:X.N.Nodup)(t:X.N[i]?=some n)(r:X.env.kindOf n=some .local)(Q:∀e:Value,Y0 (X.hand e) (y::d) T)(U:W.exmOne X.K cls C=some b)
  (Y:b=true->∃B,cls=.ref B/\T (D.gone i) (J.set i (some (.ref a))) (upd H a (pL a B))) (h2:b=false->wpAny (model X.prog X.w) X.A (handleBy (.ref a) X.env rest) (SP X c D) X.xe s) (hd:(x==("__debug__":Str))=false:=by decide) :
  wpAny (model X.prog X.w) X.A (handleBy (.ref a) X.env (.ExceptHandler (some (.Name x np)) (some n) (y::d) I::rest)) (SP X c D) X.xe s:=by
 refine WM (Wx (gH (X:=X.hand (.ref a)) L.inv.hand M O ?_ hd)) (by intro q;cases q);refine(W.exm_one L.inv.Yg L.ty U).here ?_
 cases b with
 |false=>exact h2 rfl
 |true =>
  obtain⟨B,hD,q⟩:=Y rfl;refine codeAny_handlers_suite_as (L.again _ _ _ λh6 J6 I6=>?_);refine lB (X:=X.hand (.ref a)) (v:=.ref a) ((I6 B hD).2.hand (e:=.ref a)) hN t (.inl r) rfl (λs7 I7=>?_) (.inr r);refine UC (Q (.ref a) c s7 _ _ (D.gone i) I7 q) (λf s3 E=>?_) (λ_ _ z=>z.elim)
  cases f with
  |next=>obtain⟨g,j,l,m⟩:=E;exact Inv.gone (l.X6 L.ok) hN t r λG p=>⟨_,j,p,m⟩
  |brk=>obtain⟨g,j,l,m⟩:=E;exact Inv.gone (l.X6 L.ok) hN t r λG p=>⟨_,j,p,m⟩
  |cont=>obtain⟨g,j,l,m⟩:=E;exact Inv.gone (l.X6 L.ok) hN t r λG p=>⟨_,j,p,m⟩
  |ret u=>obtain⟨v,g,j,l,r3,m⟩:=E;exact Inv.gone (l.X6 L.ok) hN t r λG p=>⟨v,_,j,p,r3,m⟩
theorem Hi{X:Cx}{D:Ends}{rest:List ExceptHandler}(L:qp X d p H a cls Q s)(t:Gl X x)(y:X.mg x=some C)(B:∀e:Value,Y0 (X.hand e) (m::g) E)(G:W.exmOne X.K cls C=some b)
  (I:b=true->E D p H) (J:b=false->wpAny (model X.prog X.w) X.A (handleBy (.ref a) X.env rest) (SP X d D) X.xe s) (M:(x==("__debug__":Str))=false:=by decide) :
  wpAny (model X.prog X.w) X.A (handleBy (.ref a) X.env (.ExceptHandler (some (.Name x np)) none (m::g) r::rest)) (SP X d D) X.xe s:=by
 refine WM (Wx (gH (X:=X.hand (.ref a)) L.inv.hand t y ?_ M)) (by intro q;cases q);refine(W.exm_one L.inv.Yg L.ty G).here ?_
 cases b with
 |false=>exact J rfl
 |true =>
  refine codeAny_handlers_suite (L.again _ _ _ λT N _=>?_);refine UC (B (.ref a) d _ p H D N.hand (I rfl)) (λf U n=>?_) (λ_ _ z=>z.elim)
  cases f with
  |next=>obtain⟨c,i,j,l⟩:=n;exact⟨c,i,j.X6 L.ok,l⟩
  |brk=>obtain⟨c,i,j,l⟩:=n;exact⟨c,i,j.X6 L.ok,l⟩
  |cont=>obtain⟨c,i,j,l⟩:=n;exact⟨c,i,j.X6 L.ok,l⟩
  |ret u=>obtain⟨v,c,i,j,O,l⟩:=n;exact⟨v,c,i,j.X6 L.ok,O,l⟩
end
theorem Cb{X:Cx}{t:(St->XK)->TS}{E:Ends->St->XK}
  (M:∀(pn:qd)(xe:qf)(E:St->XK),lC (Yw X.prog X.w) {X with pn:=pn,xe:=xe} E->Y0 {X with pn:=pn,xe:=xe} body (t E))
  (hand:∀(b:qd)(D:Ends)(j:St)(H:Hp)(a:Addr)(cls:Value)(p:Option Addr)(s:Shared),qp X b j H a cls p s->E D j cls p H->wpAny (model X.prog X.w) X.A (handleBy (.ref a) X.env J) (SP X b D) X.xe s)
  (x:X.stack=X.env::X.outer:=by rfl) (y:X.env.frame=some X.env.locals:=by rfl) (B:∃h t,J=h::t) :
  PS X (.Try body J [] [] N) (λD j H=>t (E D) D j H):=by
 intro b s j H D I h;obtain⟨O,Q,rfl⟩:=B
 refine wpAny_Try_except (UC (M (X.pn++b) (λe l=>wpAny (model X.prog X.w) X.A (noteFrame e X.env) (λ_ m=>wpAny (model X.prog X.w) X.A (setFlight e none) (λ_ n =>
  wpAny (model X.prog X.w) X.A (handleBy e X.env (O::Q)) (SP X b D) X.xe n) X.xe m) X.xe l) _ ?_ [] s j H D I.inTry h) (λf C r=>?_) λe C z=>z)
 ·intro X8 G H1 C e s2 T U;refine Lq I.ok T U (λa cls p Y s' he q L=>?_) x y;subst he;exact hand b D G Y a cls p s' L q
 ·cases f with
  |next=>obtain⟨c,d,g,i⟩:=r;exact aO b C c d D (g.Yl I.ok) i
  |brk=>obtain⟨c,d,g,i⟩:=r;exact⟨c,d,g.Yl I.ok,i⟩
  |cont=>obtain⟨c,d,g,i⟩:=r;exact⟨c,d,g.Yl I.ok,i⟩
  |ret u=>obtain⟨v,c,d,g,r3,i⟩:=r;exact⟨v,c,d,g.Yl I.ok,r3,i⟩
theorem HN{X:Cx}{t:(St->XK)->TS}{d:TS}
  (l:∀(pn:qd)(xe:qf)(E:St->XK),lC (Yw X.prog X.w) {X with pn:=pn,xe:=xe} E->Y0 {X with pn:=pn,xe:=xe} body (t E))
  (m:Gl X x) (n:X.mg x=some C) (p:∀e:Value,Y0 (X.hand e) (c::a) d)
  (f:X.stack=X.env::X.outer:=by rfl) (g:X.env.frame=some X.env.locals:=by rfl) (r:(x==("__debug__":Str))=false:=by decide) :
  PS X (.Try body [.ExceptHandler (some (.Name x np)) none (c::a) j] [] [] s) (λD u H=>t (λb cls _ i=>W.exmOne X.K cls C=some true/\d D b i) D u H) :=
 Cb (E:=λD b cls _ i=>W.exmOne X.K cls C=some true/\d D b i) l (λ_ _ _ _ _ _ _ _ L q=>Hi L m n p q.1 (λ_=>q.2) (λz=>nomatch z) r) f g ⟨_,_,rfl⟩
theorem iM{X:Cx}{f:yw}
  (Fn:ExcBaseFacts M g O Q) (u:f.contains (.type M)=true) (F:ExcBaseFacts B U m f) (Y:uJ X.K C f g none=true)
  (ht:gU (K3 X.prog X.w) X E) (hg:Gl X x) (i:X.mg x=some (.ref C)) (ha:PA X (a::rest) ta) (j:X.calm=true:=by rfl)
  (G:starEach (a::rest) X.env=(false,eval a X.env)::starEach rest X.env:=by rfl)
  (c:(backTo b (starEach rest X.env)).any (·.1)=false:=by rfl) (hd:(x==("__debug__":Str))=false:=by decide) :
  PS X (.Raise (some (.Call (.Name x np) (a::rest) [] b)) none pos) (λ_ n H=>ta n H λJ p=>J.length<=sizeLine/\E (.ref C) none p):=by
 intro d s n H D I h;obtain⟨bm,N,nm,qn,bs,v,sn,sub,ab,y,dd,k0,k1,k2,k3,k5,mN,hC,hN,A,T⟩:=JQ I.mod.kin Y
 refine wpAny_Raise_call_subU (C:=C) (nm:=nm) (q:=qn) (N:=N) (bs:=bs) (bm:=bm) (hdct:=v) (sn:=sn) (sub:=sub) (ab:=ab) (col:=y) (dd:=dd) (k0:=k0) (k1:=k1) (k2:=k2) (k3:=k3) (k5:=k5)
  Fn u F (mN:=mN) (T.hasType F.hasBase) (I.ok.hd j) (by rw[G];show(false||(backTo b (starEach rest X.env)).any (·.1))=false;rw[c];rfl) A (gH I hg i ⟨rfl,?_⟩ hd)
 have w:=ha b d s n H _ I h;rw[G]at w ⊢;refine WE (Xl w λus s2 ⟨J,p,l,r,z,q⟩=>⟨rfl,by rw[<- r.length];exact z,l.bk _ _ hC,hN.keeps l.bk,T.keeps l.bk,λh' e i=>?_⟩);obtain⟨t,L,h2,h3⟩:=i.there;exact ht d n p s2 _ _ l ⟨e,.ref C,.ref t,none,p,rfl,rfl,l.bare,Un.kept i.keeps,l.hok.kept i.keeps,⟨i.new,l.hok.empty i.new⟩,⟨_,_,L,⟨rfl,rfl⟩,rfl,rfl⟩,⟨_,L,rfl⟩,q⟩
end L2
namespace L2
open PySem PySem.Spec PyProof.Rows
section
end
section
variable{K:vc}{σ:St}{H H':Hp}{es:List D}{t:TE}
inductive YX(K:vc)(H:Hp):List (List D)->List V->Prop
 |nil:YX K H [] []
 |cons {es:List D} {v:V} {Xw:List (List D)} {vs:List V}:LD K H es v->YX K H Xw vs->YX K H (es::Xw) (v::vs)
theorem YX.length(h:YX K H a b):a.length=b.length:=by
 induction h with
 |nil=>rfl
 |cons _ _ c=>simp[c]
theorem YX.map(h:YX K H a b)(f:∀es v,LD K H es v->LD K H' es v):YX K H' a b:=by
 induction h with
 |nil=>exact .nil
 |cons c _ d=>exact .cons (f _ _ c) d
theorem Xe.lds(e:Xe H H')(h:YX K H a b):YX K H' a b:=h.map λ_ _ z=>e.ld z
theorem YX.snoc(h:YX K H a b)(c:LD K H es v):YX K H (a++[es]) (b++[v]):=by
 induction h with
 |nil=>exact .cons c .nil
 |cons k _ d=>exact .cons k d
theorem YX.get(h:YX K H a b):∀{i:Nat}{es:List D},a[i]?=some es->∃v,b[i]?=some v/\LD K H es v:=by
 induction h with
 |nil=>intro i es e;cases e
 |cons k _ c =>
  intro i es e
  cases i with
  |zero=>cases e;exact⟨_,rfl,k⟩
  |succ i=>exact c e
def RCL(K:vc)(t:TE)(σ:St)(H:Hp)(c:List (List D)):Prop:=∀a,Xe H a->∀Q:VK,(∀l b H',a l=none->Xe a H'->H' l=some (.lst b)->YX K H' c b->Q (.ref l) H')->t σ a Q
theorem RCL.use(h:RCL K t σ H b)(q:∀l a H',H l=none->Xe H H'->H' l=some (.lst a)->YX K H' b a->Q (.ref l) H'):t σ H Q:=h H (Xe.refl H) Q q
def Off(K:vc)(H:Hp)(l:Addr)(a:List V):Prop:=∀v∈a,v≠.ref l
theorem YX.grown(h:YX K H d c)(b:Off K H l c)(e:Xv l H H')(f:H l=some (.lst zs))(i:H' l=some (.lst j)):YX K H' d c:=by
 have g:bW K H H':=e.grow f i
 induction h with
 |nil=>exact .nil
 |cons k _ m =>refine .cons ?_ (m λv n=>b v (Ug _ n));obtain⟨a,p,rfl,q,r⟩:=k;have s:a≠l:=λz=>b _ Uq (by rw[z]);refine⟨a,p,rfl,?_,Xd.mono g _ r⟩;exact q.elim (λz=>.inl (e _ _ s z)) .inr
end
end L2
namespace L2
open PySem PySem.Spec PySem.Calls PyProof.Rows
variable{K:vc}
theorem HY(h:RA K ta I H [.tup cs,.tup ds])(hl:cs.length=ds.length)(hc:cs.length<=1000)(B:List (List D))(hn:B.length=cs.length)(ne:i≠j)
  (h0:((mk I).set i none).set j none=mk I)
  (M:∀J (k:Nat) c d es v w,Xe H J->cs[k]?=some c->ds[k]?=some d->B[k]?=some es->Dat K J c v->Dat K J d w->RC K te (((mk I).set i (some v)).set j (some w)) J es) :
  RCL K (fO (Mg K ta) mk (As K 2 (iQ (bT i) (iQ (bT j) CW))) eO te) I H B:=λJ s Q q=>by
 refine h J s _ λvs H2 s2 q2=>?_;obtain⟨v1,v2,e,k1,k2⟩:=gD q2;subst e;obtain⟨a,C,e1,ha,da⟩:=k1.XC;obtain⟨b,ws,e2,hb,db⟩:=k2.XC;subst e1 e2;have lu:=da.length;have lw:=db.length;refine⟨a,b,C,ws,rfl,ha,hb,λl E=>?_⟩;have s02:Xe H H2:=s.trans s2;refine⟨λn m N G=>m=C.length - n/\n<=C.length/\(∃z1 z2,N=((mk I).set i z1).set j z2)/\Xe H2 G/\∃f,G l=some (.lst f)/\YX K G (B.take n) f/\Off K G l f,⟨C.length,⋯,Us _,⟨none,none,h0.symm⟩,aH E _,[],aD,by rw[UM];exact .nil,λv hv=>by cases hv⟩,?_⟩;rintro n m N G ⟨rfl,hle,⟨z1,z2,rfl⟩,O,f,hy,dy,T⟩;by_cases U:n<C.length
 ·refine .inr ⟨⟨U,⋯,O.sqT ha,O.sqT hb⟩,λA L=>(∃z1 z2,A=((mk I).set i z1).set j z2)/\Xe H2 L/\∃f,L l=some (.lst f)/\YX K L (B.take (n+1)) f/\Off K L l f,λA L w=>⟨C.length - (n+1),⋯,rfl,U,w.1,w.2⟩,λx L y=>?_⟩;obtain⟨p,u,w,hp,rfl,hu,hw,rfl⟩:=y;have sn:Xe G (upd G p (.tup [u,w])):=aH hp _;have t:=O.trans sn;obtain⟨c,ec,hcv⟩:=da.YQ hu;obtain⟨d,ed,hdv⟩:=db.YQ hw;have Y:n<B.length:=by lia
  refine⟨p,[u,w],rfl,XG.of aD,rfl,u,_,rfl,w,_,rfl,rfl,?_⟩;simp only[eO,VX];rw[Iq _ ne];refine RC.use (M _ n c d B[n] u w (s02.trans t) ec ed (M1 Y) (t.dat hcv) (t.dat hdv)) λr zs G4 hr s4 hz dz=>?_;have Yk:=s4 _ _ (sn _ _ hy);have nrl:r≠l:=λz=>by rw[z,sn _ _ hy]at hr;cases hr
  have lys:f.length=n:=by rw[<- dy.length,Uk];lia
  refine⟨f,Yk,bP ⋯,⟨_,_,rfl⟩,λx o hx=>?_,f++[.ref r],aD,?_,?_⟩
  ·rw[aI (aK hx E)];exact s4 _ _ (t _ _ hx)
  ·have bl:Xv l G4 (upd G4 l (.lst (f++[.ref r]))):=Xv.upd (Xe.refl G4).but;have g:bW K G4 (upd G4 l (.lst (f++[.ref r]))):=bl.grow Yk aD;rw[Um,M1 Y];exact YX.snoc (YX.grown (s4.lds (sn.lds dy)) T bl Yk aD) (LD.of (bl _ _ nrl hz) (Xd.mono g _ dz))
  ·intro v hv;rcases Uw.mp hv with hv|hv
   ·exact T v hv
   ·rw[Uj.mp hv];exactλz=>nrl (by injection z)
 ·have e:n=C.length:=by lia
  subst e;refine .inl ⟨⟨rfl,O.sqT ha⟩,?_⟩;rw[Vq ⋯]at dy;exact q l f G (s2.free E) (s2.trans O) hy dy
theorem Cg(h:RL K tl m H a)(hc:a.length<=1000)(p:D->Bool)(h0:(mk m).set B none=mk m)
  (r:∀t (i:Nat) c v,Xe H t->a[i]?=some c->Dat K t c v->RT tt ((mk m).set B (some v)) t (p c)/\RE K te ((mk m).set B (some v)) t c):RC K (fO (kh K tl) mk (bT B) tt te) m H (a.filter p):=λt s Q q=>by
 refine(h.mono s).use λv4 H4 C q4=>?_;obtain⟨E,f,rfl,N,u⟩:=q4;have ll:=u.length;refine⟨E,rfl,⟨f,N.YC⟩,λl I=>?_⟩;refine kE (J:=Itl K E) (n:=f.length) (item:=λi=>f.getD i .Xi) (λG=>Xm K G E f) (λi G o O=>kJ i G o O) (λG o=>⟨f,o,Tu _⟩) h0 l (λi G=>Xe H4 G/\∃zs,G l=some (.lst zs)/\Xd K G ((a.take i).filter p) zs) ⟨aH I _,[],aD,by rw[UM];exact Xd.nil⟩ (λi G _ w=>w.1.seq N.YC) (λi G O w=>?_) (λG w=>?_)
 ·obtain⟨j,zs,A,b⟩:=w;have d:i<a.length:=by lia
  obtain⟨T,ez,hv⟩:=(j.Xo u).get (M1 d);have e1:f.getD i .Xi=T:=by rw[Uc,ez];rfl
  simp only[e1];obtain⟨t1,t2⟩:=r G i a[i] T (s.trans (C.trans j)) (M1 d) hv;have U:a.take (i+1)=a.take i++[a[i]]:=by rw[Um,M1 d];rfl
  have lz:zs.length<=1000:=by rw[<- b.length];exact T8 (Vy _ _) (by rw[Uk];lia)
  have lz':zs.length<1000:=by rw[<- b.length];exact VN (Vy _ _) (by rw[Uk];lia)
  refine t1.use λG2 e=>?_
  cases Y:p a[i]with
  |true =>
   refine mU ((t2.mono e).use λL y M q3=>?_);have z:=(e.trans M) _ _ A;have bl:Xv l y (upd y l (.lst (zs++[L]))):=Xv.upd (Xe.refl y).but;have g:bW K y (upd y l (.lst (zs++[L]))):=bl.grow z aD;refine⟨zs,z,bP ⋯,⟨_,rfl⟩,λx o hx=>?_,zs++[L],aD,?_⟩
   ·rw[aI (aK hx I)];exact(e.trans M) _ _ (j _ _ hx)
   ·rw[U,Wf];have e2:[a[i]].filter p=[a[i]]:=by rw[Vp,TR Y];rfl
    rw[e2];exact Xd.append (Xd.mono g _ ((e.trans M).Xo b)) (Xd.cons (Dat.mono g _ q3) Xd.nil)
  |false =>
   refine nZ ⟨⟨_,rfl⟩,j.trans e,zs,e _ _ A,?_⟩;rw[U,Wf];have e2:[a[i]].filter p=[]:=by rw[Vp,TN (by rw[Y];exact TH)];rfl
   rw[e2,Ub];exact e.Xo b
 ·obtain⟨j,zs,A,b⟩:=w;rw[<- ll,UE]at b;exact q l zs G (C.free I) (C.trans j) A b
theorem qh{X:Cx}(c:X.K=K)(d:X.calm=true)(h:PGs X a t)
  (e:(assignEach a X.env).length=n:=by rfl) (b:(assignEach a X.env).findIdx? (·.1)=none:=by rfl):PG X (.Tuple a k f) (As K n t):=by
 subst c;exact dP d h e b
section
variable{elt t0 i0 t1 i1:Expr}{sc:Scope}{pos:Pos}
noncomputable abbrev lc2(elt t0 i0 t1 i1:Expr)(sc:Scope)(pos:Pos):Expr:=.ListComp elt [⟨t0,i0,[],0⟩,⟨t1,i1,[],0⟩] sc pos
theorem Gs(it a:Value)(env:Env):compTurn (lc2 elt t0 i0 t1 i1 sc pos) 0 it a env=(standAt i0.pos >>= λ_=>pyNext it >>= λr=>match r with
  |none=>pure (.done .next)
  |some v=>letOwnedTupleGo t0 it v >>= λ_=>assign t0 env v >>= λ_=>eval i1 env >>= λx=>standAt i1.pos >>= λ_=>foldedSetIterable i1 env x >>= λy=>holding [y] (pyIter y) >>= λi =>
    runOwn (.compStart (lc2 elt t0 i0 t1 i1 sc pos) 1 i a env) env >>= λ_=>again (.compLoop (lc2 elt t0 i0 t1 i1 sc pos) 0 it a env)):=by rfl
theorem IB(it a:Value)(env:Env):compTurn (lc2 elt t0 i0 t1 i1 sc pos) 1 it a env=(standAt i1.pos >>= λ_=>pyNext it >>= λr=>match r with
  |none=>pure (.done .next)
  |some v=>letOwnedTupleGo t1 it v >>= λ_=>assign t1 env v >>= λ_=>(eval elt env >>= λx=>call (.builtin "list.append") [a,x] >>= λ_=>pure ()) >>= λ_=>again (.compLoop (lc2 elt t0 i0 t1 i1 sc pos) 1 it a env)):=by rfl
theorem Hs(J:Nat->Shared->Prop)
  (e:∀n s,J n s->wpAny (model prog w) A (pyNext it) (λr a=>match r with
   |none=>R (.ok .next) a
   |some v=>wpAny (model prog w) A (letOwnedTupleGo t1 it v) (λ_ b=>wpAny (model prog w) A (assign t1 env v) (λ_ c =>
     wpAny (model prog w) A (eval elt env) (λx s₅=>wpAny (model prog w) A (call (.builtin "list.append") [f,x]) (λ_ s₆=>∃m,m<n/\J m s₆) (λ_ _=>False) s₅) (λ_ _=>False) c) (λ_ _=>False) b) (λ_ _=>False) a) (λ_ _=>False) s)
  (n:Nat) (h:J n s):codeAny (model prog w) A (.compLoop (lc2 elt t0 i0 t1 i1 sc pos) 1 it f env) R s:=by
 refine codeAny_loop rfl J (λn s j=>?_) n h;show wpAny (model prog w) A ((compTurn (lc2 elt t0 i0 t1 i1 sc pos) 1 it f env).onRaise λx=>do noteFrame x env;theTreesLotGoes x) _ _ s;refine wpAny_noted (W4 ?_);rw[IB];refine Tn (U5 (Tn (Xl (e n s j) λr a d=>?_)))
 cases r with
 |none=>exact Tz d
 |some v=>exact Tn (Xl d λ_ b g=>Tn (Xl g λ_ c i=>Tn (Tn (Xl i λx s₅ h₅=>Tn (Xl h₅ λ_ s₆ h₆=>Tz (Tz ⟨rfl,h₆⟩))))))
theorem E4(J:Nat->Shared->Prop)
  (e:∀n s,J n s->wpAny (model prog w) A (pyNext it) (λr a=>match r with
   |none=>R (.ok .next) a
   |some v=>wpAny (model prog w) A (letOwnedTupleGo t0 it v) (λ_ b=>wpAny (model prog w) A (assign t0 env v) (λ_ c =>
     wpAny (model prog w) A (eval i1 env) (λx s₄=>wpAny (model prog w) A (pyIter x) (λi s₅=>codeAny (model prog w) A (.compStart (lc2 elt t0 i0 t1 i1 sc pos) 1 i f env) (λr s₆=>r=.ok .next/\∃m,m<n/\J m s₆) s₅) (λ_ _=>False) s₄) (λ_ _=>False) c) (λ_ _=>False) b) (λ_ _=>False) a) (λ_ _=>False) s)
  (n:Nat) (h:J n s) (l:∀x,foldedSetIterable i1 env x=pure x):codeAny (model prog w) A (.compLoop (lc2 elt t0 i0 t1 i1 sc pos) 0 it f env) R s:=by
 refine codeAny_loop rfl J (λn s p=>?_) n h;show wpAny (model prog w) A ((compTurn (lc2 elt t0 i0 t1 i1 sc pos) 0 it f env).onRaise λx=>do noteFrame x env;theTreesLotGoes x) _ _ s;refine wpAny_noted (W4 ?_);rw[Gs];refine Tn (U5 (Tn (Xl (e n s p) λr a d=>?_)))
 cases r with
 |none=>exact Tz d
 |some v =>refine Tn (Xl d λ_ b g=>Tn (Xl g λ_ c j=>Tn (Xl j λx s₄ h₄=>?_)));refine Tn (U5 (Tn (wpAny_of_eq (l x) ?_)));refine Tn (US (Xl h₄ λi s₅ h₅=>Tn (wpAny_runOwn (h:=none) (UT h₅ λr s₆ h₆=>?_))));obtain⟨rfl,h₆⟩:=h₆;exact Tz ⟨rfl,h₆⟩
theorem Gh(c:codeAny (model prog w) A (.compLoop (lc2 elt t0 i0 t1 i1 sc pos) 1 it a env) R s)
  (h:wpAny (model prog w) A (pyIter it) (λj b=>codeAny (model prog w) A (.compLoop (lc2 elt t0 i0 t1 i1 sc pos) 1 j a env) R b) (λ_ _=>False) s) :
  codeAny (model prog w) A (.compStart (lc2 elt t0 i0 t1 i1 sc pos) 1 it a env) R s:=by
 refine codeAny_of_tree ?_;show wpAny _ _ ((compStart (lc2 elt t0 i0 t1 i1 sc pos) 1 it a env).onRaise λx=>do noteFrame x env;standAt theWindowsPlace) _ _ s;refine wpAny_notedAt (W4 ?_);unfold compStart;show wpAny _ _ (ask >>= _) _ _ s;refine Tn (wpAny_askSetting (wpAny_ite ?_));split
 ·exact Tz ⟨rfl,c⟩
 ·exact Tn (wpAny_rule (Tn (U5 (Tn (Xl h λj b d=>Tz ⟨rfl,d⟩)))))
end
section
theorem C1{X:Cx}{j:Scope}{l:List (Str×Addr)}{C:Addr}{p:e9}{q:Shared}{t:Hp}{f:nt}{M t0 i0 t1 i1:Expr}{O:Scope}{Q:Pos}{a:qd}{σ:St}{H:Hp}{s:Shared}{U:nt}{it:Addr}{J:It}{tn:Nat->Heap->Prop}{g1:TG}{te:TE}{D:Addr}{Nx:St->Hp->Prop}
  (I:Inv (X.X7 j l C p q t f) a σ H s) (hc:X.calm=true) (T:lP X.prog X.w X.K t1 J U it tn) (st:tn 0 s.heap) (f2:∀b∈U,ko (X.X7 j l C p q t f) a H b) (hg:PG (X.X7 j l C p q t f) t1 g1) (he:PE (X.X7 j l C p q t f) M te)
  (hw:∃V:Nat->Nat->St->Hp->Prop,(∃m,V 0 m σ H)/\∀i m c g,V i m c g->(J.stop i g/\Nx c g)\/(J.go i g/\∃Ny:St->Hp->Prop,(∀G Y,Ny G Y->∃m',m'<m/\V (i+1) m' G Y) /\
   ∀x Y,J.Zd i g x Y->g1 x c Y λσ2 H2=>te σ2 H2 λv H4=>∃ys,H4 D=some (.lst ys)/\ys.length<sizeLine/\Ny σ2 (upd H4 D (.lst (ys++[v]))))) :
  codeAny (model X.prog X.w) X.A (.compStart (lc2 M t0 i0 t1 i1 O Q) 1 (.ref it) (.ref D) (compEnvC j l C X.env)) (λr N=>r=.ok .next/\∃c g,Inv (X.X7 j l C p q t f) a c g N/\Nx c g) s:=by
 obtain⟨V,⟨m0,v0⟩,turn⟩:=hw;have Yy:∀{g:Hp},(∀b∈U,g b=none)->∀b∈U,ko (X.X7 j l C p q t f) a g b:=λhn b E=>⟨hn b E,(f2 b E).2⟩
 have L:codeAny (model X.prog X.w) X.A (.compLoop (lc2 M t0 i0 t1 i1 O Q) 1 (.ref it) (.ref D) (compEnvC j l C X.env)) (λr N=>r=.ok .next/\∃c g,Inv (X.X7 j l C p q t f) a c g N/\Nx c g) s:=by
  refine Hs (λn N=>∃i c g,Inv (X.X7 j l C p q t f) a c g N/\tn i N.heap/\(∀b∈U,g b=none)/\V i n c g) ?_ m0 ⟨0,σ,H,I,st,λb E=>(f2 b E).1,v0⟩;rintro n s3 ⟨i,z,H3,I3,st3,fr3,w3⟩;rcases turn i n z H3 w3 with⟨stop,qn⟩|⟨go,Ny,hN,step⟩
  ·refine Xl (T.done (X.X7 j l C p q t f) rfl rfl rfl hc i a s3 z H3 _ I3 (Yy fr3) st3 stop) λr s4 ⟨hr,I4⟩=>?_;subst hr;exact⟨rfl,z,H3,I4,qn⟩
  ·refine Xl (T.item (X.X7 j l C p q t f) rfl rfl rfl hc i a s3 z H3 _ I3 (Yy fr3) st3 go) λr s4 ⟨u,hr,h4⟩=>?_;subst hr;refine Xl h4 λ_ s5 ⟨x,H5,I5,r5,y5,Z0,fr5⟩=>?_;have I5':=I5.pinned (Yy fr5) (T.obj _ _ Z0);refine Xl (hg _ s5 z H5 x u _ I5' r5 (step x H5 y5)) λ_ s6 ⟨B,H6,I6,q6⟩=>?_;refine Xl (he _ s6 B H6 _ I6 q6) λy s8 ⟨v,H8,I8,rv,ys,hD8,hz,nx⟩=>?_;refine Xl (b8 (X:=(X.X7 j l C p q t f)) _ s8 B H8 (.ref D) [v] (.ref D) [y] (λ_ H9=>Ny B H9) I8 rfl (.cons rv .nil) ⟨_,ys,v,rfl,rfl,hD8,hz,nx⟩) λ_ s9 ⟨_,H9,I9,_,n9⟩=>?_;obtain⟨m',hm,w9⟩:=hN B H9 n9;refine⟨m',hm,i+1,B,H9,I9.Yb,T.keep _ _ _ Z0 λb E o e=>(I9.pin (b,o) (Ua _ (Ua _ (dZ E e)))).1,λb E=>?_,w9⟩;obtain⟨o,e,d⟩:=T.obj _ _ Z0 b E;exact(I9.pin (b,o) (Ua _ (Ua _ (dZ E e)))).2.1
 exact Gh L (T.self _ 0 _ _ _ st L)
end
def Gj(C:TI)(mk:St->St)(g:TG)(E:TI)(g1:TG)(G:TE):TE:=λu H Q=>C u H λJ w=>∀D,w D=none->∃W:Nat->Nat->St->Hp->Prop,(∃m,W 0 m (mk u) (upd w D (.lst [])))/\∀i m c d,W i m c d ->
 (J.stop i d/\Q (.ref D) d) \/
 (J.go i d/\∃z:St->Hp->Prop,(∀a e,z a e->∃f,f<m/\W (i+1) f a e)/\∀x e,J.Zd i d x e->g x c e λl I=>E l I λs L=>∃V:Nat->Nat->St->Hp->Prop,(∃m,V 0 m l L)/\∀j m b n,V j m b n->(s.stop j n/\z b n) \/
     (s.go j n/\∃A:St->Hp->Prop,(∀p q,A p q->∃f,f<m/\V (j+1) f p q)/\∀y q,s.Zd j n y q->g1 y b q λr M=>G r M λv B=>∃t,B D=some (.lst t)/\t.length<sizeLine/\A r (upd B D (.lst (t++[v])))))
section
theorem CP{X:Cx}{elt iter tg t1 i1:Expr}{L:Scope}{pos:Pos}{w1:TI}{own:e9}{fr:List Nat}{N':e9}{g g1:TG}{te:TE}{pins:qd}{σ:St}{H:Hp}{s:Shared}{l:List (Str×Addr)}{f:nt}{it:Addr}{J:It}{tn:Nat->Heap->Prop}{E:qf}{Q:VK}{RR:Value->Addr->Result->Shared->Prop}
  (hs1:∀(l:List (Str×Addr))(C:Addr)(x:Value),foldedSetIterable i1 (compEnvC L l C X.env) x=pure x) (I:Inv X pins σ H s) (B:Blk X.N X.env.kindOf L.names own fr N') (hk:L.kind=.function) (hc:X.calm=true)
  (sub:∀x c,l.lookup x=some c->X.env.cells.lookup x=some c) (has:∀p∈L.names,p.2=.free->l.lookup p.1=X.env.cells.lookup p.1)
  (T:lP X.prog X.w X.K tg J f it tn) (st:tn 0 s.heap) (f2:∀b∈f,ko X pins H b)
  (hg:∀l C s H f,PG (X.X7 L l C N' s H f) tg g) (hI1:∀l C s H f,PI (X.X7 L l C N' s H f) t1 i1 w1) (hg1:∀l C s H f,PG (X.X7 L l C N' s H f) t1 g1) (he:∀l C s H f,PE (X.X7 L l C N' s H f) elt te)
  (hw:∀D,H D=none->∃W:Nat->Nat->St->Hp->Prop,(∃m,W 0 m (ZU own fr σ) (upd H D (.lst [])))/\∀i m t M,W i m t M ->
   (J.stop i M/\Q (.ref D) M) \/
   (J.go i M/\∃Nx:St->Hp->Prop,(∀σ'' Xu,Nx σ'' Xu->∃m',m'<m/\W (i+1) m' σ'' Xu)/\∀x Xu,J.Zd i M x Xu->g x t Xu λσ2 H2=>w1 σ2 H2 λJ1 H3=>∃V:Nat->Nat->St->Hp->Prop,(∃m,V 0 m σ2 H3)/\∀j m σ4 H4,V j m σ4 H4->(J1.stop j H4/\Nx σ4 H4) \/
     (J1.go j H4/\∃Ny:St->Hp->Prop,(∀σ5 H5,Ny σ5 H5->∃m',m'<m/\V (j+1) m' σ5 H5)/\∀y H5,J1.Zd j H4 y H5->g1 y σ4 H5 λσ6 H6=>te σ6 H6 λv H7=>∃ys,H7 D=some (.lst ys)/\ys.length<sizeLine/\Ny σ6 (upd H7 D (.lst (ys++[v]))))))
  (hRR:∀D C t M s',D=s.heap.objs.size->s.heap.objs.size<=C->Inv (X.X7 L l C N' s H f) [] t M s'->Q (.ref D) M->RR (.ref D) C (.ok .next) s') :
  wpAny (model X.prog X.w) X.A (newList []) (λacc O=>wpAny (model X.prog X.w) X.A (newFunctionEnv L X.env.globals l [] X.env.qual none .none (some X.env)) (λcenv s₄ =>
   codeAny (model X.prog X.w) X.A (.compStart (.ListComp elt [⟨tg,iter,[],0⟩,⟨t1,i1,[],0⟩] L pos) 0 (.ref it) acc {cenv with scope:=relabel L X.env}) (RR acc cenv.locals) s₄) E O) E s:=by
 have fo:∀b∈f,b<s.heap.objs.size:=λb Y=>by obtain⟨o,e,_⟩:=T.obj _ _ st b Y;exact TV e
 refine Vl (wpAny_newFunctionEnv B.cell (by intro y hy;simp at hy) (λU a q=>?_) hk);dsimp only at a q ⊢;generalize hH2:s.heap.push {cls:=.type "list",dict:=none,data:=.seq ([]:yw).toArray}=G at a q ⊢;have hG:G.objs.size=s.heap.objs.size+1:=by rw[<- hH2,Uy]
 have hlt:s.heap.objs.size<G.objs.size:=by rw[hG];exact VE _
 have old:∀b o,s.heap.get? b=some o->U.get? b=some o:=λb o e =>
  q.extBut b o (Ud (U3 (TV e) hlt)) (Tp _ (hH2▸Tp _ e))
 have hacc:U.get? s.heap.objs.size=some {cls:=.type "list",data:=.seq ([]:yw).toArray} :=
  q.extBut _ _ (Ud hlt) (Tp _ (hH2▸T3 _ rfl))
 obtain⟨W,⟨m0,w0⟩,turn⟩:=hw s.heap.objs.size (I.hok.fresh (Tu _));have st₁:tn 0 U:=T.keep _ _ _ st λb _ o e=>old b o e
 have hns':U.Ns G.objs.size (λ_=>none):=by
  have e:(λx=>([]:List (Str×Value)).reverse.lookup x)=(λ_:Str=>(none:Option Value)):=by funext x;rfl
  first
   |exact a
   | (rw[e]at a;exact a)
 have loop:∀O:Shared,O={s with heap:=U,toks:=s.toks+([]:List (Str×Value)).length} ->
   codeAny (model X.prog X.w) X.A (.compLoop (.ListComp elt [⟨tg,iter,[],0⟩,⟨t1,i1,[],0⟩] L pos) 0 (.ref it) (.ref s.heap.objs.size) (compEnvC L l G.objs.size X.env)) (RR (.ref s.heap.objs.size) G.objs.size) O:=by
  rintro O rfl;have I0:=uD (tk:=s.toks+([]:List (Str×Value)).length) I B hk sub has f2 fo rfl hlt hns' old hacc
  have Yy:∀{X8:qd}{M:Hp},X8=[]->(∀b∈f,M b=none)->∀b∈f,ko (X.X7 L l G.objs.size N' s H f) X8 M b:=λep hn b Y=>by
   subst ep;refine⟨hn b Y,Ud (U3 (fo b Y) hlt),λz=>?_,.inl Y,λx c e=>(f2 b Y).2.2.2.2.1 x c (sub x c e),λp hp=>absurd (show p∈([]:qd) from hp) (by simp)⟩;rcases TY.mp (I.YO b z)with e|e
   ·exact(f2 b Y).2.1 e
   ·exact(f2 b Y).2.2.1 e
  have fr0:∀b∈f,upd H s.heap.objs.size (.lst []) b=none:=λb Y=>by rw[aI (Ud (fo b Y))];exact(f2 b Y).1
  refine E4 (λn s'=>∃i t M,Inv (X.X7 L l G.objs.size N' s H f) [] t M s'/\tn i s'.heap/\(∀b∈f,M b=none)/\W i n t M) ?_ m0 ⟨0,_,_,I0,st₁,fr0,w0⟩ (hs1 _ _);rintro n s3 ⟨i,σ3,H3,I3,st3,fr3,w3⟩;rcases turn i n σ3 H3 w3 with⟨stop,qn⟩|⟨go,Nx,hN,step⟩
  ·refine Xl (T.done (X.X7 L l G.objs.size N' s H f) rfl rfl rfl hc i [] s3 σ3 H3 _ I3 (Yy rfl fr3) st3 stop) λr s4 ⟨hr,I4⟩=>?_;subst hr;exact hRR _ _ _ _ _ rfl (UJ hlt) I4 qn
  ·refine Xl (T.item (X.X7 L l G.objs.size N' s H f) rfl rfl rfl hc i [] s3 σ3 H3 _ I3 (Yy rfl fr3) st3 go) λr s4 ⟨u,hr,h4⟩=>?_;subst hr;refine Xl h4 λ_ s5 ⟨x,H5,I5,r5,y5,Z0,fr5⟩=>?_;have I5':=I5.pinned (Yy rfl fr5) (T.obj _ _ Z0);refine Xl (hg l G.objs.size s H f _ s5 σ3 H5 x u _ I5' r5 (step x H5 y5)) λ_ s6 ⟨σ6,H6,I6,q6⟩=>?_
   have again:∀{s8:Shared}{σ8:St}{H8:Hp},Inv (X.X7 L l G.objs.size N' s H f) ([]++mC f s5.heap) σ8 H8 s8->Nx σ8 H8 ->
     ∃m,m<n/\∃i t M,Inv (X.X7 L l G.objs.size N' s H f) [] t M s8/\tn i s8.heap/\(∀b∈f,M b=none)/\W i m t M:=λ{s8 σ8 H8} I8 n8=>by
    obtain⟨m',hm,w8⟩:=hN σ8 H8 n8;refine⟨m',hm,i+1,σ8,H8,I8.Yb,T.keep _ _ _ Z0 λb Y o e=>(I8.pin (b,o) (Ua _ (Ua _ (dZ Y e)))).1,λb Y=>?_,w8⟩;obtain⟨o,e,d⟩:=T.obj _ _ Z0 b Y;exact(I8.pin (b,o) (Ua _ (Ua _ (dZ Y e)))).2.1
   refine Xl (hI1 l G.objs.size s H f _ s6 σ6 H6 _ I6 q6) λx6 s7 h7=>Xl h7 λitv s8 h8=>?_;obtain⟨it1,fp1,tn1,J1,H8,e8,I8,T1,st8,f8,body8⟩:=h8;subst e8;exact UT (C1 I8 hc T1 st8 f8 (hg1 l G.objs.size s H f) (he l G.objs.size s H f) body8) λr s9 ⟨hr,σ9,H9,I9,n9⟩=>⟨hr,again I9 n9⟩
 exact Wn (loop _ rfl) (T.self _ 0 _ _ _ st₁ (loop _ rfl))
theorem zm{b:Scope}{f:Pos}(hi:PI X E iter wi)(hk:b.kind=.function)(hb:eV X.N X.env.kindOf b.names own fr N'=true)(hc:X.calm=true)
  (hg:∀d C s H j,PG (X.X7 b d C N' s H j) E g) (M:∀d C s H j,PI (X.X7 b d C N' s H j) G L w1) (O:∀d C s H j,PG (X.X7 b d C N' s H j) G g1) (he:∀d C s H j,PE (X.X7 b d C N' s H j) l te)
  (hN:X.N.Nodup) (hy:X.N[i]?=some y) (hx:X.env.scope.names.lookup y=some .local)
  (U:swapsWith (.ListComp l [⟨E,iter,[],0⟩,⟨G,L,[],0⟩] b r) (some (.Name y t)) f.line X.env=pure true)
  (hs:∀x,foldedSetIterable iter X.env x=pure x:=by intro _;rfl) (Y:∀(d:List (Str×Addr))(C:Addr)(x:Value),foldedSetIterable L (compEnvC b d C X.env) x=pure x:=by intro _ _ _;rfl):PS X (.Assign [.Name y t] (.ListComp l [⟨E,iter,[],0⟩,⟨G,L,[],0⟩] b r) f) (lV (Gj wi (ZU own fr) g w1 g1 te) (bT i)):=by
 intro c s σ H D I h;have B:=Aj hb;obtain⟨d,hcl,sub,has⟩:=Ee b X.env λp hp e=>I.ok.has p.1 (B.free p hp e);rw[Ww _ _ _ _ U];refine Tn (U5 (Tn ?_));show wpAny _ _ (do let _ <- comprehension (.ListComp l [⟨E,iter,[],0⟩,⟨G,L,[],0⟩] b r) b X.env _ (newList []) false (eval iter X.env) (some (assign (.Name y t) X.env))) _ _ s
 refine Tn (UC (Vi (use:=some (assign (.Name y t) X.env)) (Q:=λ_ n=>SP X c D .next n) rfl hs hcl hk B.loc
  (Xl (hi c s σ H _ I h) λv s1 h1=>Xl h1 λitv s2 h2=>?_)) (λ_ n hq=>Tz (Tz hq)) λ_ _ e=>e)
 obtain⟨it,j,tn,J,H2,e,u,T,st2,f2,body⟩:=h2;subst e;refine CP (Q:=λv H'=>D.nx (σ.set i (some v)) H') (RR:=λacc C=>compPost (model X.prog X.w) X.A X.xe (some (assign (.Name y t) X.env)) (λ_ n=>SP X c D .next n) acc C) Y u B hk hc sub has T st2 f2 hg M O he body ?_;intro D' C σ' H' n eD hC J' q;have I3:=vV u f2 J';show wpAny _ _ (assign (.Name y t) X.env (.ref D')) _ _ n;refine Wj (lO I3 hN hy (.inl hx) (v:=.ref D') rfl (λs4 I4 ⟨a,hsb,ha⟩=>?_) (.inr hx));obtain⟨m,hn,_⟩:=J'.loc
 have hCa:C≠a:=by
  rcases ha with e|e
  ·rw[e];exact UG (TX u.lt hC)
  ·obtain⟨v,z⟩:=u.cell _ _ e;exact UG (TX z.lt hC)
 refine⟨m,hn.sameBut hsb hCa,λh' hs'=>⟨_,H',?_,q⟩⟩;exact Inv.young u I4 hC J'.free hs'
end
section
variable{os:List (Option (List D))}
theorem uv:∀{os:List (Option (List D))},os.any Option.isNone=false->∃a:List (List D),os=a.map some
 |[],_=>⟨[],rfl⟩
 |none::os,h=>by cases h
 |some b::os,h=>by rw[Vm]at h;obtain⟨a,e⟩:=uv (os:=os) (by simpa using h);exact⟨b::a,by rw[e];rfl⟩
theorem Ik{K:vc}{i:Ends}(h:RC K v e G m)(n:G l=some (.lst c))(x:c.length+m.length<=1000)
  (q:∀r d,Xv l G d->d l=some (.lst (c++r))->Xd K d m r->i.nx e d) (w:e[j]?=some (some (.ref l)):=by rfl):vK (tBM K "list" xn (cV j) (bM v dC)) i e G:=by
 refine⟨_,w,.inl ⟨rfl,_,Xm.of n⟩,h.use λp f s y t g u=>?_⟩;have a:=t _ _ n;have z:=u.length;refine⟨l,p,c,f,rfl,rfl,a,g,cA ⋯,?_⟩;have b:Xv l s (upd s l (.lst (c++f))):=Xv.upd (Xe.refl _).but;exact q f _ (t.but.trans b) aD (Xd.mono (b.grow a aD) _ u)
end
theorem Hd{n s:Bool}{K:PySem.W.Frag}{a b:Addr}{xs ys:List V}{g:TG}{w:TS}{D:Ends}{c:St}{H:Hp}(Pv:Nat->St->Hp->Prop)(O:xs.length=ys.length)(A:Pv 0 c H)(B:∀i c H,i<=xs.length->Pv i c H->SqK n K H a xs/\SqK s K H b ys)
  (C:∀i u v p c H,xs[i]?=some u->ys[i]?=some v->H p=none->Pv i c H->g (.ref p) c (upd H p (.tup [u,v])) λd t=>w {D with nx:=Pv (i+1),ct:=Pv (i+1),bk:=D.nx} d t) (E:∀c H,Pv xs.length c H->D.nx c H) :
  ∃W:Nat->Nat->St->Hp->Prop,(∃m,W 0 m c H)/\∀i m c H,W i m c H ->
   ((DQ n s K a b xs ys).stop i H/\D.nx c H)\/((DQ n s K a b xs ys).go i H/\∃N:St->Hp->Prop,(∀f j,N f j->∃z,z<m/\W (i+1) z f j)/\∀x j,(DQ n s K a b xs ys).Zd i H x j->g x c j λd t=>w {D with nx:=N,ct:=N,bk:=D.nx} d t):=by
 refine⟨λi m c H=>m=xs.length - i/\i<=xs.length/\Pv i c H,⟨xs.length,by simp,Us _,A⟩,?_⟩;rintro i m c H ⟨rfl,G,p⟩;have q:=B i c H G p;by_cases l:i<xs.length
 ·refine .inr ⟨⟨l,⋯,q.1,q.2⟩,Pv (i+1),λf j I=>⟨xs.length - (i+1),⋯,rfl,l,I⟩,λx j y=>?_⟩;obtain⟨r,u,v,J,rfl,L,M,rfl⟩:=y;exact C i u v r c H L M J p
 ·have e:i=xs.length:=by lia
  subst e;exact .inl ⟨⟨rfl,q.1⟩,E c H p⟩
noncomputable def Lj(K:vc)(n:Nat)(t:TGs):TG:=λv c H Q=>∃a b,v=.ref a/\Xm K H a b/\b.length=n/\t b c H Q
theorem HD{X:Cx}(j:X.calm=true)(h:PGs X d t)
  (l:(assignEach d X.env).length=n:=by rfl) (f:(assignEach d X.env).findIdx? (·.1)=none:=by rfl):PG X (.Tuple d k m) (Lj X.K n t):=λc s p H v u Q I r ⟨a,q,w,x,y,z⟩=>by
 subst w;cases r;obtain⟨g,i,A,C⟩:=I.list x;have en:(assignEach d X.env).length=g.toArray.size:=by rw[l,<- y,i.length,TJ]
 rw[assign_Tuple];refine Tn (U5 ?_);unfold unpack;rw[en,f];refine Tn (US (W.kun_itemsOf (I.ok.hd j) A.isList λE B=>?_));exact h c _ p H q _ Q (I.kept (t':=s.toks) λb o e=>B b o (Ud (TV e)) e) (by simpa using i) z
section
end
noncomputable def IT(K:vc):R2:=λx y H Q=>∃a b c,x=.ref a/\y=.ref b/\XG K H a []/\XG K H b c/\Q (.ref b) H
theorem op_catE:Ye X (binaryOp .Add) (IT X.K):=λc s w H x y v u Q I i j ⟨a,b,z,ex,l,m,n,q⟩=>by subst ex l;cases i;cases j;obtain⟨A,p,p1,_⟩:=I.tuple m;obtain⟨B,C,p2,_⟩:=I.tuple n;have e1:=p.Zz.mpr rfl;subst e1;obtain⟨⟨c1,d1,E,r⟩,d,e,n1,m1⟩:=id p1;obtain⟨⟨c2,d2,G,t⟩,f,g,n2,m2⟩:=id p2;simp only at e m1 g m2;subst e m1 g m2;exact concat_meets ⟨_,d,rfl⟩ ⟨_,f,rfl⟩ noFill_tuple_add seq_tuple_add F.slot_tuple_add W6 (WX _ _) (tuple_addW0 a b _ _ n1 n2 d1 d2 r t rfl) ⟨d,f,.ref b,H,I,rfl,q⟩
noncomputable def Ce(K:vc):R2:=λx y H Q=>IT K x y H Q\/IV K x y H Q
theorem HA:Ye X (binaryOp .Add) (Ce X.K):=op_catE.or B6
section
variable{K:vc}
theorem Ea(w:Dat K H (.tup c) x)(A:Dat K H (.tup g) y)(E:c.length+g.length<=1000)(q:∀v i,Xe H i->Dat K i (.tup (c++g)) v->Q v i):Ce K x y H Q:=by
 obtain⟨a,B,n,j,f⟩:=w.XC;obtain⟨b,r,s,l,m⟩:=A.XC;have t:=f.length;have C:=m.length
 cases c with
 |nil =>have e:=f.YJ;subst e;exact .inl ⟨a,b,r,n,s,j,l,q _ _ (Xe.refl _) (Dat.tupI l m)⟩
 |cons d c =>
  refine .inr ⟨a,b,B,r,n,s,j,l,λz=>?_,cA ⋯,λz=>?_,λ_ p u=>?_⟩
  ·rw[z]at t;cases t
  ·have e:g=[]:=List.length_eq_zero_iff.mp (by rw[C,z];rfl);subst e;rw[Ub]at q;exact q _ _ (Xe.refl _) (Dat.tupI j f)
  ·exact q _ _ (aH u _) (Dat.tupI (XG.of aD) ((aH u _).Xo (Xd.append f m)))
theorem Ia(f:RE K g a H (.tup b))(i:RE K j a H (.tup c))(l:b.length+c.length<=1000):RE K (Yn (Ce K) g j) a H (.tup (b++c)):=λm s Q q =>
 f m s _ λv n d p=>i n (s.trans d) _ λw x e r=>Ea (e.dat p) r l λv t u k=>q v t (d.trans (e.trans u)) k
theorem rO(h:RE K t i H (.tup j)):RC K (Zm (λm H Q=>∃p b,m=[.ref p]/\(Xm K H p b\/XG K H p b)/\∀l,H l=none->Q (.ref l) (upd H l (.lst b))) (bM t dC)) i H j:=λu s Q q =>
 iX ((h.mono s).use λv w f n=>by
  obtain⟨a,g,e,r,c⟩:=n.XC;subst e;exact⟨a,g,rfl,.inr r,λl d=>q l g _ (f.free d) (f.trans (aH d _)) aD ((aH d _).Xo c)⟩)
theorem KD(f:D->D->D)(h:RL K tl d H cs)(hw:LD K H es wv)(hk:(mk d)[kk]?=some (some wv))(hki:kk≠i)(hkj:kk≠j)(hij:i≠j)(hl:cs.length*es.length<=1000)(h0:(mk d).set i none=mk d)(h1:(mk d).set j none=mk d)
  (N:∀G c v e w,Xe H G->c∈cs->e∈es->Dat K G c v->Dat K G e w->RE K te (((mk d).set i (some v)).set j (some w)) G (f c e)) :
  RC K (Gj (kh K tl) mk (bT i) (kh K (cV kk)) (bT j) te) d H (cs.flatMap λc=>es.map (f c)):=λH1 s Q q=>by
 obtain⟨lw,y,rfl,A,O⟩:=hw;have T:=O.length
 have S1:∀z b v,(((mk d).set i z).set j b).set i v=((mk d).set i v).set j b:=λz b v=>by rw[List.set_comm _ _ hij.symm,Wd]
 have S2:∀z b v,(((mk d).set i z).set j b).set j v=((mk d).set i z).set j v:=λz b v=>by rw[Wd]
 have S0:((mk d).set i none).set j none=mk d:=by rw[h0,h1]
 have SK:∀z b,(((mk d).set i z).set j b)[kk]?=some (some (.ref lw)):=λz b=>by rw[VB hkj.symm,VB hki.symm];exact hk
 refine(h.mono s).use λv4 H4 s4 q4=>?_;have q4':=q4;obtain⟨l4,B,rfl,Yk,U⟩:=q4;have len4:=U.length;have sH:=s.trans s4;refine⟨l4,rfl,⟨B,Yk.YC⟩,λD hD=>?_⟩
 refine⟨λn m Y H'=>m=B.length - n/\n<=B.length/\(∃z b,Y=((mk d).set i z).set j b)/\Xe H4 H'/\∃l,H' D=some (.lst l)/\Xd K H' ((cs.take n).flatMap λc=>es.map (f c)) l,
  ⟨_,rfl,Us _,⟨none,none,S0.symm⟩,aH hD _,[],aD,by rw[UM];exact Xd.nil⟩,?_⟩
 rintro n m Y H' ⟨rfl,hn,⟨z,b,rfl⟩,M,l,hus,J⟩;by_cases hlt:n<B.length
 ·have C:n<cs.length:=by lia
  obtain⟨vz,ez,hz⟩:=U.get (M1 C);refine .inr ⟨⟨B,vz,M.seq Yk.YC,ez⟩,λg u=>(∃z b,g=((mk d).set i z).set j b)/\Xe H4 u/\∃l,u D=some (.lst l)/\Xd K u ((cs.take (n+1)).flatMap λc=>es.map (f c)) l,λg u ⟨a1,a2,a3⟩=>⟨B.length - (n+1),⋯,rfl,hlt,a1,a2,a3⟩,λx u yx=>?_⟩;obtain⟨e1,e2⟩:=yx;subst e1;have ex:=e2 B (M.seq Yk.YC);rw[ez]at ex;cases ex;simp only[bT];rw[S1];refine⟨_,SK _ _,lw,rfl,⟨y,(sH.trans M).seq A.YC⟩,?_⟩
  refine⟨λk m σ4 G=>m=y.length - k/\k<=y.length/\(∃b,σ4=((mk d).set i (some vz)).set j b)/\Xe H4 G/\∃l,G D=some (.lst l)/\Xd K G (((cs.take n).flatMap λc=>es.map (f c))++(es.take k).map (f cs[n])) l,
   ⟨_,rfl,Us _,⟨b,rfl⟩,M,l,hus,by rw[UM,Wc,Ub];exact J⟩,?_⟩
  rintro k m σ4 G ⟨rfl,hkn,⟨y',rfl⟩,sG,r,E,p⟩;have t:=sH.trans sG;by_cases hlk:k<y.length
  ·have L:k<es.length:=by lia
   obtain⟨wz,ew,hwz⟩:=(t.Xo O).get (M1 L);refine .inr ⟨⟨y,wz,t.seq A.YC,ew⟩,λg u=>(∃b,g=((mk d).set i (some vz)).set j b)/\Xe H4 u/\∃l,u D=some (.lst l)/\Xd K u (((cs.take n).flatMap λc=>es.map (f c))++(es.take (k+1)).map (f cs[n])) l,λg u ⟨a1,a2,a3⟩=>⟨y.length - (k+1),⋯,rfl,hlk,a1,a2,a3⟩,λx G2 yx=>?_⟩;obtain⟨e1,e2⟩:=yx;subst e1;have ex:=e2 y (t.seq A.YC);rw[ew]at ex;cases ex;simp only[bT];rw[S2];refine(N _ cs[n] vz es[k] wz t (List.getElem_mem C) (List.getElem_mem L) (sG.dat hz) hwz).use λv5 G5 s5 q5=>?_;have I:=s5 _ _ E;have bb:Xv D G5 (upd G5 D (.lst (r++[v5]))):=Xv.upd (Xe.refl _).but;have gr:bW K G5 (upd G5 D (.lst (r++[v5]))):=bb.grow I aD
   have lu:r.length<=1000:=by
    rw[<- p.length,Tq,To,List.length_flatMap,Uk];refine T8 ?_ hl
    have e1:((cs.take n).map λc=>(es.map (f c)).length)=List.replicate n es.length:=by rw[show(λc=>(es.map (f c)).length)=λ_=>es.length from funext λc=>To _,List.map_const',Uk];rw[Nat.min_eq_left ⋯]
    rw[e1,List.sum_replicate_nat];have h2:n*es.length+es.length<=cs.length*es.length:=by rw[<- Nat.succ_mul];exact Nat.mul_le_mul_right _ C
    lia
   refine⟨r,I,bP lu,⟨some wz,rfl⟩,?_,r++[v5],aD,?_⟩
   ·exactλa o ha=>bb a o (λz=>by rw[z,hD]at ha;cases ha) (s5 _ _ (sG _ _ ha))
   ·rw[List.take_succ,M1 L,Uh,<- UW];exact Xd.append (Xd.mono gr _ (s5.Xo p)) (Xd.cons (Dat.mono gr _ q5) Xd.nil)
  ·have e:k=y.length:=by lia
   subst e;refine .inl ⟨⟨y,t.seq A.YC,Tu _⟩,⟨_,_,rfl⟩,sG,r,E,?_⟩;rw[<- T,UE]at p;rw[List.take_succ,M1 C,WN];simp only[Option.toList,W9,List.flatMap_nil,Ub];exact p
 ·have e:n=B.length:=by lia
  subst e;refine .inl ⟨⟨B,M.seq Yk.YC,Tu _⟩,q D l H' (s4.free hD) (s4.trans M) hus ?_⟩;rw[<- len4,UE]at J;exact J
end
theorem zq{K:PySem.W.Frag}{J:It}{item:Nat->V}{f:St}{q:Hp}{Q:VK}
  (go:∀i c,Xe q c->i<n->J.go i c/\∀x t,J.Zd i c x t->t=c/\x=item i) (stop:∀c,Xe q c->J.stop n c) (h0:f.set j none=f) (u:List (List D)) (hl:u.length=n) (hn:n<=1000)
  (B:∀i es G,Xe q G->u[i]?=some es->RC K te (f.set j (some (item i))) G es) (fin:∀l a c,q l=none->Xe q c->c l=some (.lst a)->YX K c u a->Q (.ref l) c) (l:Addr) (O:q l=none) :
  ∃W:Nat->Nat->St->Hp->Prop,(∃m,W 0 m f (upd q l (.lst [])))/\∀i m p c,W i m p c ->
   (J.stop i c/\Q (.ref l) c) \/
   (J.go i c/\∃T:St->Hp->Prop,(∀d t,T d t->∃m',m'<m/\W (i+1) m' d t)/\∀x t,J.Zd i c x t->bT j x p t λs H2=>eO s H2 λb H3 =>
    if b=true then te s H3 λv H4=>∃a,H4 l=some (.lst a)/\a.length<sizeLine/\T s (upd H4 l (.lst (a++[v])))else T s H3):=by
 refine⟨λi m p G=>m=n - i/\i<=n/\(∃z,p=f.set j z)/\Xe q G/\∃a,G l=some (.lst a)/\YX K G (u.take i) a/\Off K G l a,⟨n,⋯,Us _,⟨none,h0.symm⟩,aH O _,[],aD,by rw[UM];exact .nil,λv hv=>by cases hv⟩,?_⟩;rintro i m p G ⟨rfl,hle,⟨z,rfl⟩,C,a,U,N,E⟩;by_cases H:i<n
 ·obtain⟨g,y⟩:=go i G C H;refine .inr ⟨g,λd A=>(∃z,d=f.set j z)/\Xe q A/\∃a,A l=some (.lst a)/\YX K A (u.take (i+1)) a/\Off K A l a,λd A w=>⟨n - (i+1),⋯,rfl,H,w.1,w.2⟩,λx A yx=>?_⟩;obtain⟨e1,e2⟩:=y x A yx;subst e1 e2;have I:i<u.length:=by lia
  simp only[bT,eO,VX,Wd];refine RC.use (B i u[i] _ C (M1 I)) λr zs L hr Y hz dz=>?_;have Yk:=Y _ _ U;have M:r≠l:=λz=>by rw[z,U]at hr;cases hr
  have lys:a.length=i:=by rw[<- N.length,Uk];lia
  refine⟨a,Yk,bP ⋯,⟨_,rfl⟩,λx o hx=>?_,a++[.ref r],aD,?_,?_⟩
  ·rw[aI (aK hx O)];exact Y _ _ (C _ _ hx)
  ·have bl:Xv l L (upd L l (.lst (a++[.ref r]))):=Xv.upd (Xe.refl L).but;have g:bW K L (upd L l (.lst (a++[.ref r]))):=bl.grow Yk aD;rw[Um,M1 I];exact YX.snoc (YX.grown (Y.lds N) E bl Yk aD) (LD.of (bl _ _ M hz) (Xd.mono g _ dz))
  ·intro v hv;rcases Uw.mp hv with hv|hv
   ·exact E v hv
   ·rw[Uj.mp hv];exactλz=>M (by injection z)
 ·have e:i=n:=by lia
  subst e;refine .inl ⟨stop G C,?_⟩;rw[Vq ⋯]at N;exact fin l a G O C U N
section
variable{K:vc}
theorem HX{mk:St->St}{j n:Nat}(h:RA K tA b H [.int n])(p:n<=1000)(c:List (List D))(g:c.length=n)(r:(mk b).set j none=mk b)
  (a:∀G (i:Nat) d,Xe H G->c[i]?=some d->RC K t ((mk b).set j (some (.int i))) G d):RCL K (fO (EK tA) mk (bT j) eO t) b H c:=λv s Q q=>by
 refine h v s _ λE I m w=>?_;obtain⟨u,e,x⟩:=fB w;have y:=x.Xp;subst y e;refine⟨n,rfl,⋯,⋯,?_⟩;rw[VT];exact zq (K:=K) (item:=λi=>.int i) (λi f s z=>Ex i f z) (λf s=>Tu _) r c g p (λi d G A e=>a G i d (s.trans (m.trans A)) e) (λl B f g C=>q l B f (m.free g) (m.trans C))
theorem FT(h:RL K y f H cs)(T:cs.length<=1000)(a:List (List D))(U:a.length=cs.length)(z:(mk f).set j none=mk f)
  (b:∀G (i:Nat) c v g,Xe H G->cs[i]?=some c->a[i]?=some g->Dat K G c v->RC K A ((mk f).set j (some v)) G g):RCL K (fO (kh K y) mk (bT j) eO A) f H a:=λY s Q q=>by
 refine(h.mono s).use λv4 H4 r B=>?_;obtain⟨C,m,rfl,t,d⟩:=B;have ll:=d.length;refine⟨C,rfl,⟨m,t.YC⟩,?_⟩;refine zq (K:=K) (n:=m.length) (item:=λi=>m.getD i .Xi) (λi w s p=>kJ i w (s.seq t.YC) p) (λw s=>⟨m,s.seq t.YC,Tu _⟩) z a ⋯ ⋯ (λi g G x p=>?_) (λl E I u J=>q l E I (r.free u) (r.trans J));have L:i<a.length:=(T9.mp p).1;have e:i<cs.length:=by lia
 obtain⟨M,N,O⟩:=d.get (M1 e);rw[Uc,N];exact b G i cs[i] M g (s.trans (r.trans x)) (M1 e) p (x.dat O)
end
theorem FF{X:Cx}(a:X.K=K)(b:PE X l c):PI X d l (kh K c):=by subst a;exact cI b
noncomputable def Cx.Yo(X:Cx)(b:Scope)(c:List (Str×Addr))(a:Str)(d:Addr)(C:Addr)(N:e9)(s:Shared)(H:Hp)(e:nt):Cx:={X.X7 b ((a,d)::c) C N s H e with fn:=λx=>x==a}
structure DP(x0:Str)(N:e9)(ok:Str->Option NameKind)(names:List (Str×NameKind))(own:e9)(fr:List Nat)(N':e9):Prop where
 eN:N'=own++fr.map λj=>N.getD j ""
 fr:∀j∈fr,j<N.length/\names.lookup (N.getD j "")=some .free
 free:∀p∈names,p.2=.free->ok p.1=some .cell\/ok p.1=some .free
 cell:∀p∈names,p.2=.cell->p.1=x0
 loc:∀p∈names,p.2=.local->names.lookup p.1=some .local
section
variable{c0:Addr}
theorem Ai{X:Cx}{L:qd}{σ:St}{H:Hp}{s:Shared}{m:Scope}{g:List (Str×Addr)}{t:e9}{fr:List Nat}{N':e9}{fp:nt}{f:Str}(I:Inv X L σ H s)(B:DP f X.N X.env.kindOf m.names t fr N')(hk:m.kind=.function)
  (sub:∀x c,g.lookup x=some c->X.env.cells.lookup x=some c) (has:∀p∈m.names,p.2=.free->g.lookup p.1=X.env.cells.lookup p.1)
  (f2:∀b∈fp,ko X L H b) (fo:∀b∈fp,b<s.heap.objs.size) {h1:Heap} {tk:Nat} {C D:Addr} {n:Nat} (U:D=s.heap.objs.size) (eC:s.heap.objs.size<C)
  (hx0:m.names.lookup f=some .cell) (Q:s.heap.objs.size<c0) (hc0:h1.IsCell c0 none) (hns:h1.Ns C (λ_=>none)) (J:∀b o,s.heap.get? b=some o->h1.get? b=some o) (hD:h1.get? D=some {cls:=.type "list",data:=.seq ([]:yw).toArray n}) :
  Inv (X.Yo m g f c0 C N' s H fp) [] (ZU t fr σ) (upd H D (.lst [])) {s with heap:=h1,toks:=tk}:=by
 have ZE:∀x c,g.lookup x=some c->c<s.heap.objs.size:=λx c e=>by obtain⟨v,q⟩:=I.cell x c (sub x c e);exact q.lt
 have look:∀x,x≠f->List.lookup x ((f,c0)::g)=g.lookup x:=λx T=>by
  rw[UK];have:(x==f)=false:=by simpa using T
  rw[this]
 have w:List.lookup f ((f,c0)::g)=some c0:=by rw[UK];simp
 have a:∀x c,List.lookup x ((f,c0)::g)=some c->(x=f/\c=c0)\/(x≠f/\g.lookup x=some c):=λx c e=>by
  by_cases T:x=f
  ·subst T;rw[w]at e;exact .inl ⟨rfl,(Ur e).symm⟩
  ·rw[look x T]at e;exact .inr ⟨T,e⟩
 have hDn:H D=none:=I.hok.fresh (Vt U.symm);have kind:∀x,(X.Yo m g f c0 C N' s H fp).env.kindOf x=(m.names.lookup x).map (rk X.env x):=λx=>nA m X.env x
 refine⟨⟨I.ok.mod,hk,I.ok.glob,I.ok.blt,UJ eC,λx y c e1 e2=>?_,λx T=>?_,(λx c e1 e2=>?_),I.ok.hd,I.ok.frames,.inl rfl,λb M=>⟨?_,λx c e=>?_⟩,I.bs,T8 I.ok.bsz I.sz,λb o e M=>?_,λb M=>?_,I.stack,I.YZ⟩,
  rfl,I.bare,Un.laid J (Vt U.symm) hDn,⟨_,hns,λi x v e1 e2 e3=>?_⟩,λx c e=>?_,?_,λx c e=>?_,λp hp=>?_,I.hok.laid J (Vt U.symm) ⟨Us _,[],n,.nil,hD⟩,?_⟩
 ·rcases a x c e1 with⟨A,d⟩|⟨A,d⟩<;>rcases a y c e2 with⟨b1,b2⟩|⟨b1,b2⟩
  ·rw[A,b1]
  ·exact absurd (U3 (ZE y c b2) (by rw[d];exact Q)) (UI _)
  ·exact absurd (U3 (ZE x c d) (by rw[b2];exact Q)) (UI _)
  ·exact I.ok.inj x y c (sub x c d) (sub y c b2)
 ·have E:(m.names.lookup x).map (rk X.env x)=some .cell\/(m.names.lookup x).map (rk X.env x)=some .free:=by
   rw[<- kind x];exact T
  cases q:m.names.lookup x with
  |none=>rw[q]at E;simp at E
  |some k =>
   have Y:=UL q;by_cases hf:k=.free
   ·subst hf;show ∃c,List.lookup x ((f,c0)::g)=some c;rw[look x (λz=>by rw[z,hx0]at q;cases q),has _ Y rfl];have z:=B.free _ Y rfl;exact I.ok.has x z
   ·rw[q]at E;simp only[Vh,F1 hf]at E;rcases E with z|z
    ·have:=B.cell _ Y (Ur z);exact⟨c0,by rw[show x=f from this];exact w⟩
    ·exact absurd (Ur z) hf
 ·rcases a x c e2 with⟨A,d⟩|⟨A,d⟩
  ·rw[d];show s.heap.objs.size<=c0;lia
  ·have e1:(x==f)=true:=e1;exact absurd (by simpa using e1) A
 ·exact Ud (U3 (fo b M) eC)
 ·rcases a x c e with⟨A,d⟩|⟨A,d⟩
  ·rw[d];exact UG (U3 (fo b M) Q)
  ·exact(f2 b M).2.2.2.2.1 x c (sub x c d)
 ·rcases(f2 b M).2.2.2.1 with z|z
  ·exact I.ok.ZZ b o e z
  ·exact absurd (TX (TV e) (T8 I.ok.bsz z)) (UI _)
 ·intro z;rcases TY.mp (I.YO b z)with e|e
  ·exact(f2 b M).2.1 e
  ·exact(f2 b M).2.2.1 e
 ·
  have ZV:N'[i]?=some x:=e1
  have hi:¬ i<t.length:=λz=>by unfold ZU at e2;rw[UY (by simpa using z),Tv,M1 z]at e2;cases e2
  unfold ZU at e2;rw[UD (by simpa using hi),To,Tv]at e2;rw[B.eN,UD (by simpa using hi),Tv]at ZV
  cases q:fr[i - t.length]? with
  |none=>rw[q]at e2;cases e2
  |some j =>
   rw[q]at e2 ZV;simp only[Vh,Option.some.injEq]at e2 ZV;obtain⟨hj,G⟩:=B.fr j (Ui q)
   have ej:X.N[j]?=some x:=by rw[<- ZV,Uc,M1 hj];rfl
   have eσ:σ[j]?=some (some v):=by
    cases z:σ[j]? with
    |none=>rw[z]at e2;cases e2
    |some o=>rw[z]at e2;simp only[Wr]at e2;rw[e2]
   rw[ZV]at G;have Y:=UL G;have hok:=B.free _ Y rfl;obtain⟨m0,hn0,Z1⟩:=I.loc
   have hv:Vis X.env.scope x:=by
    rcases hok with z|z
    ·exact .inr (.inl z)
    ·exact .inr (.inr z)
   obtain⟨u,r,l⟩:=Z1 j x v ej eσ hv;refine⟨u,r,?_⟩;rcases l with⟨z,_⟩|⟨_,c,hc,o,ho,hd⟩
   ·have O:X.env.kindOf x=some .cell\/X.env.kindOf x=some .free:=hok;rw[z]at O;rcases O with y|y<;>cases y
   ·refine .inr ⟨?_,c,?_,o,J c o ho,hd⟩
    ·rw[kind x,G];rcases Cm (env:=X.env) (x:=x)with y|y
     ·exact .inl (by rw[Vh,y])
     ·exact .inr (by rw[Vh,y])
    ·show List.lookup x ((f,c0)::g)=some c;rw[look x (λz=>by rw[z,hx0]at G;cases G)];have z:=has _ Y rfl;exact z.trans hc
 ·rcases a x c e with⟨A,d⟩|⟨A,d⟩
  ·rw[d];exact⟨none,hc0⟩
  ·obtain⟨v,o,ho,hd⟩:=I.cell x c (sub x c d);exact⟨v,o,J c o ho,hd⟩
 ·show upd H D _ C=none;rw[aI (by rw[U];exact UG eC)];exact I.hok.fresh (UJ eC)
 ·show upd H D _ c=none;rcases a x c e with⟨A,d⟩|⟨A,d⟩
  ·rw[d,aI (by rw[U];exact UG ⋯)];exact I.hok.fresh ⋯
  ·rw[aI (by rw[U];exact Ud (ZE x c d))];exact I.XY x c (sub x c d)
 ·exact absurd (show p∈([]:qd) from hp) (by simp)
 ·show(ZU t fr σ).length=N'.length;rw[B.eN];simp[ZU]
theorem yg{X:Cx}{a:qd}{g:St}{H:Hp}{s:Shared}{l:Scope}{m:List (Str×Addr)}{n:e9}{e:nt}{p:Str}{C:Addr}{f:St}{i:Hp}{j:Shared}(I:Inv X a g H s)(c:∀b∈e,ko X a H b)(J:Inv (X.Yo l m p c0 C n s H e) [] f i j):Inv X a g i j :=
 I.ZC (ch:=e) J.os J.base J.hok J.bare λb d=>⟨(c b d).2.2.2.1,(c b d).2.1,(c b d).2.2.2.2.1,(c b d).2.2.2.2.2⟩
end
theorem yO{s:Shared}{scope:Scope}{env:Env}(c:∀n b,cellsFrom n scope.names b=(f,n)::b)(d:∀h,pushCells h scope.names=h.push {cls:=.type "cell",data:=.cell none})(hk:scope.kind=.function)
  (g:Q {scope,locals:=s.heap.objs.size,globals,cells:=(f,s.heap.objs.size+1)::a,qual,func:=none,code:=env.code,frame:=env.frame,builtins:=env.builtins} {s with heap:=(s.heap.push {cls:=.type "dict",data:=.dict #[]}).push {cls:=.type "cell",data:=.cell none}}) :
  wpAny M A (newFunctionEnv scope globals a [] qual none .none (some env)) Q E s:=by
 simp only[newFunctionEnv,Option.isSome_some,VX];refine Tn (wpAny_alloc ?_);refine Tn (wpAny_layCells _ (λname kind cells=>by cases e:kind==NameKind.cell<;>simp[e]) _ _ _ _ ?_);rw[c,d];rw[show({s with heap:=s.heap.push {cls:=.type "dict",data:=.dict #[]}}:Shared).heap.objs.size=s.heap.objs.size+1 from Uy ..];exact Tn (Tz (Tz g))
section
theorem uE{X:Cx}{elt iter tg:Expr}{ifs:List Expr}{j:Scope}{pos:Pos}{own:e9}{fr:List Nat}{Y:e9}{g:TG}{tt:TT}{te:TE}{U:Str}{pins:qd}{σ:St}{H:Hp}{s:Shared}{l:List (Str×Addr)}{a:nt}{it:Addr}{J:It}{tn:Nat->Heap->Prop}{E:qf}{Q:VK}{RR:Value->Addr->Result->Shared->Prop}
  (I:Inv X pins σ H s) (B:DP U X.N X.env.kindOf j.names own fr Y) (hk:j.kind=.function) (hc:X.calm=true) (hx0:j.names.lookup U=some .cell) (hcf:∀n acc,cellsFrom n j.names acc=(U,n)::acc) (hpc:∀h,pushCells h j.names=h.push {cls:=.type "cell",data:=.cell none})
  (sub:∀x c,l.lookup x=some c->X.env.cells.lookup x=some c) (has:∀p∈j.names,p.2=.free->l.lookup p.1=X.env.cells.lookup p.1)
  (T:lP X.prog X.w X.K tg J a it tn) (st:tn 0 s.heap) (f2:∀b∈a,ko X pins H b)
  (hg:∀l c0 C s H a,PG (X.Yo j l U c0 C Y s H a) tg g) (ht:∀l c0 C s H a,xW (X.Yo j l U c0 C Y s H a) ifs tt) (he:∀l c0 C s H a,PE (X.Yo j l U c0 C Y s H a) elt te)
  (hw:∀D,H D=none->∃W:Nat->Nat->St->Hp->Prop,(∃m,W 0 m (ZU own fr σ) (upd H D (.lst [])))/\∀i m q t,W i m q t ->
   (J.stop i t/\Q (.ref D) t) \/
   (J.go i t/\∃Nx:St->Hp->Prop,(∀σ'' Xu,Nx σ'' Xu->∃m',m'<m/\W (i+1) m' σ'' Xu)/\∀x Xu,J.Zd i t x Xu->g x q Xu λσ2 H2=>tt σ2 H2 λb H3 =>
    if b=true then te σ2 H3 λv H4=>∃ys,H4 D=some (.lst ys)/\ys.length<sizeLine/\Nx σ2 (upd H4 D (.lst (ys++[v])))else Nx σ2 H3))
  (hRR:∀D c0 C q t s',D=s.heap.objs.size->s.heap.objs.size<=C->Inv (X.Yo j l U c0 C Y s H a) [] q t s'->Q (.ref D) t->RR (.ref D) C (.ok .next) s') :
  wpAny (model X.prog X.w) X.A (newList []) (λacc L=>wpAny (model X.prog X.w) X.A (newFunctionEnv j X.env.globals l [] X.env.qual none .none (some X.env)) (λcenv s₄ =>
   codeAny (model X.prog X.w) X.A (.compStart (.ListComp elt [⟨tg,iter,ifs,0⟩] j pos) 0 (.ref it) acc {cenv with scope:=relabel j X.env}) (RR acc cenv.locals) s₄) E L) E s:=by
 have fo:∀b∈a,b<s.heap.objs.size:=λb M=>by obtain⟨o,e,_⟩:=T.obj _ _ st b M;exact TV e
 refine Vl (yO hcf hpc hk ?_);dsimp only;generalize hH2:s.heap.push {cls:=.type "list",dict:=none,data:=.seq ([]:yw).toArray}=G;have hG:G.objs.size=s.heap.objs.size+1:=by rw[<- hH2,Uy]
 have hlt:s.heap.objs.size<G.objs.size:=by rw[hG];exact VE _
 generalize hh:(G.push {cls:=.type "dict",data:=.dict #[]}).push {cls:=.type "cell",data:=.cell none}=f;have oG:∀b o,G.get? b=some o->f.get? b=some o:=λb o e=>by rw[<- hh];exact Tp _ (Tp _ e)
 have old:∀b o,s.heap.get? b=some o->f.get? b=some o:=λb o e=>oG b o (hH2▸Tp _ e);have hacc:f.get? s.heap.objs.size=some {cls:=.type "list",data:=.seq ([]:yw).toArray}:=oG _ _ (hH2▸T3 _ rfl)
 have hcl:f.IsCell (G.objs.size+1) none:=⟨{cls:=.type "cell",data:=.cell none},by
  rw[<- hh,show G.objs.size+1=(G.push {cls:=.type "dict",data:=.dict #[]}).objs.size from (Uy ..).symm];exact T3 _ rfl,rfl⟩
 have hns':f.Ns G.objs.size (λ_=>none):=by rw[<- hh];exact(Heap.Ns.new G (.type "dict")).keeps λb o e=>Tp _ e
 obtain⟨W,⟨m0,w0⟩,turn⟩:=hw s.heap.objs.size (I.hok.fresh (Tu _));have st₁:tn 0 f:=T.keep _ _ _ st λb _ o e=>old b o e
 have loop:∀L:Shared,L={s with heap:=f,toks:=s.toks} ->
   codeAny (model X.prog X.w) X.A (.compLoop (.ListComp elt [⟨tg,iter,ifs,0⟩] j pos) 0 (.ref it) (.ref s.heap.objs.size) (compEnvC j ((U,G.objs.size+1)::l) G.objs.size X.env)) (RR (.ref s.heap.objs.size) G.objs.size) L:=by
  rintro L rfl;have I0:=Ai (tk:=s.toks) I B hk sub has f2 fo rfl hlt hx0 (Wk hlt) hcl hns' old hacc
  have Yy:∀{X8:qd}{t:Hp},X8=[]->(∀b∈a,t b=none)->∀b∈a,ko (X.Yo j l U (G.objs.size+1) G.objs.size Y s H a) X8 t b:=λep hn b M=>by
   subst ep;refine⟨hn b M,Ud (U3 (fo b M) hlt),λz=>?_,.inl M,λx c e=>?_,λp hp=>absurd (show p∈([]:qd) from hp) (by simp)⟩
   ·rcases TY.mp (I.YO b z)with e|e
    ·exact(f2 b M).2.1 e
    ·exact(f2 b M).2.2.1 e
   ·have e:List.lookup x ((U,G.objs.size+1)::l)=some c:=e;rw[UK]at e;split at e
    ·rw[<- Ur e];exact UG (Wk (U3 (fo b M) hlt))
    ·exact(f2 b M).2.2.2.2.1 x c (sub x c e)
  have fr0:∀b∈a,upd H s.heap.objs.size (.lst []) b=none:=λb M=>by rw[aI (Ud (fo b M))];exact(f2 b M).1
  refine mQ (λn s'=>∃i q t,Inv (X.Yo j l U (G.objs.size+1) G.objs.size Y s H a) [] q t s'/\tn i s'.heap/\(∀b∈a,t b=none)/\W i n q t) ?_ m0 ⟨0,_,_,I0,st₁,fr0,w0⟩;rintro n s3 ⟨i,σ3,H3,I3,st3,fr3,w3⟩;rcases turn i n σ3 H3 w3 with⟨stop,qn⟩|⟨go,Nx,hN,step⟩
  ·refine Xl (T.done (X.Yo j l U (G.objs.size+1) G.objs.size Y s H a) rfl rfl rfl hc i [] s3 σ3 H3 _ I3 (Yy rfl fr3) st3 stop) λr s4 ⟨hr,I4⟩=>?_;subst hr;exact hRR _ _ _ _ _ _ rfl (UJ hlt) I4 qn
  ·refine Xl (T.item (X.Yo j l U (G.objs.size+1) G.objs.size Y s H a) rfl rfl rfl hc i [] s3 σ3 H3 _ I3 (Yy rfl fr3) st3 go) λr s4 ⟨u,hr,h4⟩=>?_;subst hr;refine Xl h4 λ_ s5 ⟨x,H5,I5,r5,y5,Z0,fr5⟩=>?_;have I5':=I5.pinned (Yy rfl fr5) (T.obj _ _ Z0);refine Xl (hg l (G.objs.size+1) G.objs.size s H a _ s5 σ3 H5 x u _ I5' r5 (step x H5 y5)) λ_ s6 ⟨O,H6,I6,q6⟩=>?_;refine Xl (ht l (G.objs.size+1) G.objs.size s H a _ s6 O H6 _ I6 q6) λok s7 ⟨H7,I7,q7⟩=>?_
   have again:∀{s8:Shared}{H8:Hp},Inv (X.Yo j l U (G.objs.size+1) G.objs.size Y s H a) ([]++mC a s5.heap) O H8 s8->Nx O H8 ->
     ∃m,m<n/\∃i q t,Inv (X.Yo j l U (G.objs.size+1) G.objs.size Y s H a) [] q t s8/\tn i s8.heap/\(∀b∈a,t b=none)/\W i m q t:=λ{s8 H8} I8 n8=>by
    obtain⟨m',hm,w8⟩:=hN O H8 n8;refine⟨m',hm,i+1,O,H8,I8.Yb,T.keep _ _ _ Z0 λb M o e=>(I8.pin (b,o) (Ua _ (Ua _ (dZ M e)))).1,λb M=>?_,w8⟩;obtain⟨o,e,d⟩:=T.obj _ _ Z0 b M;exact(I8.pin (b,o) (Ua _ (Ua _ (dZ M e)))).2.1
   cases ok with
   |false =>rw[TN TH]at q7 ⊢;exact again I7 q7
   |true =>rw[TR rfl]at q7 ⊢;refine Xl (he l (G.objs.size+1) G.objs.size s H a _ s7 O H7 _ I7 q7) λy s8 ⟨v,H8,I8,rv,ys,hD8,hz,nx⟩=>?_;refine Xl (b8 (X:=X.Yo j l U (G.objs.size+1) G.objs.size Y s H a) _ s8 O H8 (.ref s.heap.objs.size) [v] (.ref s.heap.objs.size) [y] (λ_ H9=>Nx O H9) I8 rfl (.cons rv .nil) ⟨_,ys,v,rfl,rfl,hD8,hz,nx⟩) λ_ s9 ⟨_,H9,I9,_,n9⟩=>?_;exact again I9 n9
 exact Wn (loop _ rfl) (T.self _ 0 _ _ _ st₁ (loop _ rfl))
theorem Fy{a:Scope}(Y:PI X M iter wi)(hk:a.kind=.function)(hb:DP x0 X.N X.env.kindOf a.names own fr N')(j:a.names.lookup x0=some .cell)(l:∀n b,cellsFrom n a.names b=(x0,n)::b)(r:∀h,pushCells h a.names=h.push {cls:=.type "cell",data:=.cell none})(hc:X.calm=true)
  (hg:∀d f C s H i,PG (X.Yo a d x0 f C N' s H i) M g) (ht:∀d f C s H i,xW (X.Yo a d x0 f C N' s H i) t tt) (he:∀d f C s H i,PE (X.Yo a d x0 f C N' s H i) u te)
  (hs:∀x,foldedSetIterable iter X.env x=pure x:=by intro _;rfl):PE X (.ListComp u [⟨M,iter,t,0⟩] a pos) (fO wi (ZU own fr) g tt te):=by
 intro c s O H Q I h;have B:=hb;obtain⟨d,y,sub,has⟩:=Ee a X.env λp hp e=>I.ok.has p.1 (B.free p hp e);rw[eval_ListComp];refine Vi (use:=none) rfl hs y hk B.loc (Xl (Y c s O H _ I h) λv s1 h1=>Xl h1 λitv s2 h2=>?_);obtain⟨it,i,tn,J,H2,e,z,T,E,U,body⟩:=h2;subst e;refine uE (RR:=λb C=>compPost (model X.prog X.w) X.A X.xe none (EP X c O Q) b C) z B hk hc j l r sub has T E U hg ht he body ?_;intro D f C σ' H' s' eD hC G q;obtain⟨m,hn,_⟩:=G.loc;refine⟨m,hn,λh' L=>⟨.ref D,H',?_,rfl,q⟩⟩;exact Inv.young z (yg z U G) hC G.free L
end
noncomputable def qa(b:Str)(N:e9)(ok:Str->Option NameKind)(names:List (Str×NameKind))(a:e9)(fr:List Nat)(c:e9):Bool :=
 decide (c=a++fr.map λj=>N.getD j "")&&(fr.all λj=>decide (j<N.length)&&JY (names.lookup (N.getD j ""))) &&
  names.all λp=>match p.2 with
   | .free=>JX (ok p.1)
   | .cell=>decide (p.1=b)
   | .local=>JZ (names.lookup p.1)
   |_=>true
theorem BF(h:qa d N ok names c fr f=true):DP d N ok names c fr f:=by
 unfold qa at h;rw[Tw,Tw]at h;obtain⟨⟨g,i⟩,l⟩:=h;have a:=U4.mp l;refine⟨T4 g,λj m=>?_,λp b e=>?_,λp b e=>?_,λp b e=>?_⟩
 ·have q:=U4.mp i j m;rw[Tw]at q;exact⟨T4 q.1,BZ q.2⟩
 ·have q:=a p b;rw[e]at q;exact BY q
 ·have q:=a p b;rw[e]at q;exact T4 q
 ·have q:=a p b;rw[e]at q;exact B0 q
theorem B8{X:Cx}(a:X.K=K)(b:PE X l c):PI X d l (EL K c):=by subst a;exact iV b
section
theorem zo{b:Scope}{f:Pos}(hi:PI X O iter wi)(hk:b.kind=.function)(hb:DP x0 X.N X.env.kindOf b.names own fr N')(U:b.names.lookup x0=some .cell)(Y:∀n d,cellsFrom n b.names d=(x0,n)::d)(hpc:∀h,pushCells h b.names=h.push {cls:=.type "cell",data:=.cell none})(hc:X.calm=true)
  (hg:∀r t C s H u,PG (X.Yo b r x0 t C N' s H u) O g) (ht:∀r t C s H u,xW (X.Yo b r x0 t C N' s H u) j tt) (he:∀r t C s H u,PE (X.Yo b r x0 t C N' s H u) l te)
  (hN:X.N.Nodup) (hy:X.N[i]?=some y) (hx:X.env.scope.names.lookup y=some .local)
  (hsw:swapsWith (.ListComp l [⟨O,iter,j,0⟩] b G) (some (.Name y L)) f.line X.env=pure true)
  (hs:∀x,foldedSetIterable iter X.env x=pure x:=by intro _;rfl):PS X (.Assign [.Name y L] (.ListComp l [⟨O,iter,j,0⟩] b G) f) (lV (fO wi (ZU own fr) g tt te) (bT i)):=by
 intro c s σ H D I h;have B:=hb;obtain⟨r,hcl,sub,has⟩:=Ee b X.env λp hp e=>I.ok.has p.1 (B.free p hp e);rw[Ww _ _ _ _ hsw];refine Tn (U5 (Tn ?_));show wpAny _ _ (do let _ <- comprehension (.ListComp l [⟨O,iter,j,0⟩] b G) b X.env _ (newList []) false (eval iter X.env) (some (assign (.Name y L) X.env))) _ _ s
 refine Tn (UC (Vi (use:=some (assign (.Name y L) X.env)) (Q:=λ_ E=>SP X c D .next E) rfl hs hcl hk B.loc
  (Xl (hi c s σ H _ I h) λv s1 h1=>Xl h1 λitv s2 h2=>?_)) (λ_ E hq=>Tz (Tz hq)) λ_ _ e=>e)
 obtain⟨it,u,tn,J,H2,e,M,T,st2,f2,body⟩:=h2;subst e;refine uE (Q:=λv H'=>D.nx (σ.set i (some v)) H') (RR:=λd C=>compPost (model X.prog X.w) X.A X.xe (some (assign (.Name y L) X.env)) (λ_ E=>SP X c D .next E) d C) M B hk hc U Y hpc sub has T st2 f2 hg ht he body ?_;intro D' t C σ' H' E eD hC J' q;have I3:=yg M f2 J';show wpAny _ _ (assign (.Name y L) X.env (.ref D')) _ _ E;refine Wj (lO I3 hN hy (.inl hx) (v:=.ref D') rfl (λs4 I4 ⟨a,hsb,ha⟩=>?_) (.inr hx));obtain⟨m,hn,_⟩:=J'.loc
 have hCa:C≠a:=by
  rcases ha with e|e
  ·rw[e];exact UG (TX M.lt hC)
  ·obtain⟨v,z⟩:=M.cell _ _ e;exact UG (TX z.lt hC)
 refine⟨m,hn.sameBut hsb hCa,λh' hs'=>⟨_,H',?_,q⟩⟩;exact Inv.young M I4 hC J'.free hs'
end
end L2
namespace L2
open PySem PySem.Spec PyProof.Rows
section
noncomputable def Kw(K:vc)(b:Bool):R2:=λx y H Q=>∃l c a d,y=.ref l/\Xm K H l c/\Xd K H a c/\Dat K H d x/\XA a=true/\Yj d=true/\Xn a<=20/\Q (.bl (if b then !(a.any λe=>XM e d)else a.any λe=>XM e d)) H
theorem EM{X:Cx}{k:Nat}(T:Xy k X.A){z:qd}{U:St}{H:Hp}{s:Shared}{x:V}{u:Value}{l:Addr}{L:List V}{q:List D}{d:D}(I:Inv X z U H s)(Y:RelV x u)(hq:Xm X.K H l L)(B:Xd X.K H q L)(hd:Dat X.K H d x)(n1:XA q=true)(n2:Yj d=true)(dp:Xn q<=20) :
  ∃(a:yw)(n:Value->Bool),s.heap.IsList l a.toArray/\(∀w∈a.toArray,SeqAt.EqAt X.A.in1 s w u (n w))/\a.toArray.any n=q.any λe=>XM e d:=by
 obtain⟨a,r,pl,hz⟩:=I.list hq;have hl:=r.length;have ll:=B.length
 have item:∀(m:Nat)(w:Value),a[m]?=some w->∃g,q[m]?=some g/\∃C,RelV C w/\Dat X.K H g C:=λm w b=>by have Q:m<a.length:=(T9.mp b).1;obtain⟨g,c,dg⟩:=B.YQ (i:=m) (v:=L[m]'(by lia)) (M1 ⋯);obtain⟨w',j,rr⟩:=r.get (i:=m) (x:=L[m]'(by lia)) (M1 ⋯);rw[b]at j;cases j;exact⟨g,c,_,rr,dg⟩
 have p:∀{M N:V}{w:Value},RelV M w->RelV N w->M=N:=λ{M N w} h1 h2=>RelV.inj h1 h2
 classical
 let n:Value->Bool:=λw=>if b:∃m:Nat,a[m]?=some w then (match q[Classical.choose b]? with|some g=>XM g d|none=>false)else false
 have t:∀(m:Nat)(w:Value)(g:D),a[m]?=some w->q[m]?=some g->n w=XM g d:=λm w g b c=>by
  have j:∃m:Nat,a[m]?=some w:=⟨m,b⟩
  show(if b:∃m:Nat,a[m]?=some w then _ else false)=_;rw[dif_pos j];have hc:=Classical.choose_spec j;obtain⟨g',E,xv',O,d1⟩:=item _ w hc;obtain⟨g2,G,C,r2,d2⟩:=item m w b;rw[c]at G;cases G;rw[E];have ex:=p O r2;subst ex;have:=qb I g' g (gJ n1 E) d1 d2 (gJ n1 c);rw[this]
 have hu:X.A.in1.units+20+1<cLine:=by have:=T.un;show X.A.units+1+20+1<cLine;lia
 refine⟨a,n,pl.isList,λw b=>?_,?_⟩
 ·obtain⟨m,Q,rfl⟩:=Array.getElem_of_mem b;have y:m<a.length:=by simpa using Q
  have J:a[m]?=some (a[m]'y):=M1 y;obtain⟨g,c,C,O,d1⟩:=item m _ J;have z1:a.toArray[m]=a[m]'y:=by simp
  rw[z1,t m _ g J c];exact wd I 20 X.A.in1 g d C x _ u hu (T8 (jR c) dp) (gJ n1 c) n2 d1 hd O Y
 ·rw[show a.toArray.any n=a.any n by simp]
  have em:a.map n=q.map λe=>XM e d:=by
   apply List.ext_getElem?;intro m;rw[Tv,Tv]
   cases b:a[m]? with
   |none =>have:a.length<=m:=List.getElem?_eq_none_iff.mp b;rw[VY ⋯];rfl
   |some w =>obtain⟨g,c,_⟩:=item m w b;rw[c];show some (n w)=some (XM g d);rw[t m w g b c]
  have e1:∀{α:Type}(f:α->Bool)(l:List α),l.any f=(l.map f).any id:=λf l=>by rw[Xb];rfl
  rw[e1 n a,em,<- e1]
theorem Kh{X:Cx}(c:Xy k X.A):Ye X (compareOp .In) (Kw X.K false):=by intro b s w H x y v u Q I e f h;obtain⟨l,z,B,d,rfl,g,a,i,n1,n2,j,q⟩:=h;cases f;obtain⟨m,n,p,r,t⟩:=EM c I e g a i n1 n2 j;exact SeqAt.in_listAt n p r ⟨.bl _,H,I,rfl,by rw[t];exact q⟩
theorem KH{K:vc}(g:RE K i b H d)(j:RL K l b H ds)(n1:XA ds=true)(n2:Yj d=true)(m:Xn ds<=20):RE K (Yn (Kw K neg) i l) b H (.bl (if neg then !(ds.any λe=>XM e d)else ds.any λe=>XM e d)):=λn s Q q =>
 g n s _ λv p c r=>j p (s.trans c) _ λw z f t=>by obtain⟨a,u,rfl,x,y⟩:=t;exact⟨a,u,ds,d,rfl,x.YC,y,f.dat r,n1,n2,m,q _ _ (c.trans f) (Dat.YE _)⟩
end
end L2
namespace L2
open PySem PySem.Spec PySem.Calls PyProof.Rows
theorem kT(G:PE X o J)(c:Z9 X.K C)(v:Meth X.K C m f)(F:Xj X.prog X.w X.K X.mg X.base L k f M N O)(T:Xy k X.A)(U:Binds X.K M N Y)(hd:Vals Yz Y)(hx:lC L X E)(ha:PA X (e::i) t)
  (n:starEach (e::i) X.env=(false,eval e X.env)::starEach i X.env:=by rfl) (p:(backTo b (starEach i X.env)).any (·.1)=false:=by rfl)
  (ht:eval (.Call (.Attribute o m d) (e::i) [] b) X.env=(do
   let y <- eval o X.env
   standAt d.atName
   let(f,first) <- holding [y] (getMethod y m pl)
   callWith b f first (backTo b (starEach (e::i) X.env)) (backToKw b (keywordEach [] X.env))):=by rfl) :
  PE X (.Call (.Attribute o m d) (e::i) [] b) (λj=>sW C m O Yz (E j) J t j):=by
 intro g s j H Q I h;refine W.methodCall_KW (pl:=pl) (Xl (G g s j H _ I h) λu s1 ⟨x,H1,z,rx,a,dx,fs,ex,ea,l,q⟩=>?_) ht;subst ex;obtain rfl:u=Value.ref a:=rx;refine mx z ea c v l ?_;refine Wb (first:=[.ref a]) (h₀:=X.base) I.ok.mod.kin v.kp (Xl (ha b g s1 j H1 _ z q) λus s2 ⟨vs,H2,B,r,q2⟩=>⟨B.Yg,?_⟩) n p;exact Cq (us:=.ref a::us) (vs:=.ref a::vs) F T U hd hx B (.cons rfl r) q2
theorem FM{X:Cx}{t:(St->XK)->TS}{p g:TS}
  (hb:∀(pn:qd)(xe:qf)(E:St->XK),lC (Yw X.prog X.w) {X with pn:=pn,xe:=xe} E->Y0 {X with pn:=pn,xe:=xe} body (t E))
  (U:Gl X x) (Y:X.mg x=some C) (hN:X.N.Nodup) (hi:X.N[i]?=some n) (hl:X.env.kindOf n=some .local) (hh:∀e:Value,Y0 (X.hand e) (l::j) p) (r:Gl X s) (u:X.mg s=some C') (v:X.N[i']?=some n') (y:X.env.kindOf n'=some .local) (A:∀e:Value,Y0 (X.hand e) (m::d) g)
  (B:X.stack=X.env::X.outer:=by rfl) (G:X.env.frame=some X.env.locals:=by rfl) (hd:(x==("__debug__":Str))=false:=by decide) (I:(s==("__debug__":Str))=false:=by decide) :
  PS X (.Try body [.ExceptHandler (some (.Name x np)) (some n) (l::j) hpos,.ExceptHandler (some (.Name s np')) (some n') (m::d) J] [] [] pos)
   (λD σ H=>t (λc cls M f=>(W.exmOne X.K cls C=some true/\∃b,cls=.ref b/\∀a,f a=none->p (D.gone i) (c.set i (some (.ref a))) (upd f a (GF a b M)))\/(W.exmOne X.K cls C=some false/\W.exmOne X.K cls C'=some true/\∃b,cls=.ref b/\∀a,f a=none->g (D.gone i') (c.set i' (some (.ref a))) (upd f a (pL a b)))) D σ H) :=
 Cb (E:=λD c cls M f=>(W.exmOne X.K cls C=some true/\∃b,cls=.ref b/\∀a,f a=none->p (D.gone i) (c.set i (some (.ref a))) (upd f a (GF a b M)))\/(W.exmOne X.K cls C=some false/\W.exmOne X.K cls C'=some true/\∃b,cls=.ref b/\∀a,f a=none->g (D.gone i') (c.set i' (some (.ref a))) (upd f a (pL a b)))) hb (λ_ _ _ _ a _ _ _ L q=>by
  rcases q with⟨O,b,Q,T⟩|⟨O,T,b,Q,h3⟩
  ·exact BV L U Y hN hi hl hh O (λ_=>⟨b,Q,T a L.na⟩) (λz=>nomatch z) hd
  ·exact BV L U Y hN hi hl hh O (λz=>nomatch z) (λ_=>EC L r u hN v y A T (λ_=>⟨b,Q,h3 a L.na⟩) (λz=>nomatch z) I) hd) B G ⟨_,_,rfl⟩
section
theorem Am:gB X (.type "dict") (λg H Q=>∃a c,g=[V.ref a]/\Rd H a (.dK c)/\∀l,H l=none->Q (.ref l) (upd H l (.dK c))):=by
 intro i s C H g E Q I r h;obtain⟨a,c,rfl,n,q⟩:=h;obtain⟨u,rfl,p⟩:=fP r;cases p;obtain⟨j,t,v,d,x⟩:=uI I.hok n;refine kt_call_dict (knd:=cK X.prog X.w) t x (by rw[<- d.length];exact j) λm d1 y=>?_
 have A:∀b o,s.heap.get? b=some o->m.get? b=some o:=λb o e=>by have f:=TV e;rw[y.2 b (by intro z;rw[z]at f;exact UI _ f)];exact Tp _ e
 have B:(s.heap.objs.size==sysModules)=false:=by have:=I.big;simp only[Vo,ne_eq];intro z;rw[z]at this;exact absurd this (by simp)
 exact⟨.ref s.heap.objs.size,_,I.laid (t':=s.toks) A (Tu _) (show Xr X.prog X.w _ m _ (.dK c) from ⟨j,B,v,d,d1⟩),rfl,q _ (I.hok.fresh (Tu _))⟩
theorem CA:∀{b:e9}{a:yw},Vals (b.map V.str) a->StrsAre a b
 |[],_,h=>by cases h;exact .nil
 |x::b,_,h=>by
  cases h with
  |cons r t =>obtain⟨k,rfl⟩:=r;exact .cons x k (CA t)
theorem vP:∀{a:yw}{b:e9},StrsAre a b->Vals (b.map V.str) a
 |_,_,.nil=>.nil
 |_,_,.cons y t h=>.cons ⟨t,rfl⟩ (vP h)
theorem vY:gB X (.builtin "sorted") (λj H Q=>∃a i,j=[V.ref a]/\Xm X.K H a (i.map V.str)/\i.length<64/\∀l c,H l=none->c.Perm i->sortedS c=true->Q (.ref l) (upd H l (.lst (c.map V.str)))):=by
 intro m s M H j N Q I r h;obtain⟨a,i,rfl,v,x,q⟩:=h;obtain⟨u,rfl,y⟩:=fP r;cases y;obtain⟨f,n,z,p⟩:=I.list v;have A:=CA n;have g:=n.length;rw[To]at g;refine sorted_strs z.isList A ⋯ λd c B t C=>?_;obtain⟨e,E⟩:=sortedAll_at s.heap f d;have G:∀b o,s.heap.get? b=some o->(sortedAll s.heap f d).get? b=some o:=λb o J=>sortedAll_old J;have L:(c.map V.str).length<=sizeLine:=by rw[To,t.length_eq];rw[To]at p;exact p
 refine⟨.ref (s.heap.objs.size+1),_,I.laid (t':=s.toks) G (V5 _) (show Xr X.prog X.w _ _ _ (.lst (c.map V.str)) from ⟨L,d.toList,e,vP B,?_⟩),rfl,q _ c (I.hok.fresh (V5 _)) t C⟩;rw[E]
theorem EJ(x:Yh P w H h)(e:H a=some o)(n1:∀y,o≠.own y)(n2:∀f,o≠.tup f)(d:Xr P w (upd H a g) h a g):Yh P w (upd H a g) h:=λb u q=>by
 by_cases i:b=a
 ·subst i;rw[aD]at q;cases q;exact d
 ·rw[aI i]at q;refine(x b u q).stay (λc v _ r=>r) (λc r=>?_) λc f r=>?_
  ·rw[aI (λz=>by rw[z,e]at r;cases r;exact n1 _ rfl)];exact r
  ·rw[aI (λz=>by rw[z,e]at r;cases r;exact n2 _ rfl)];exact r
theorem yF{X:Cx}{d:qd}{l:St}{H:Hp}{s:Shared}{a:Addr}{o f:HO}(I:Inv X d l H s)(e:H a=some o)(n1:∀y,o≠.own y)(n2:∀g,o≠.tup g)(n3:∀i,o≠.tbl i)(n4:∀ob u,X.H₀ a≠some (.Yx ob u))(j:Xr X.prog X.w (upd H a f) s.heap a f):Inv X d l (upd H a f) s:=by
 refine⟨I.ok,I.os,I.bare,⟨I.base.keep,I.base.slot,λb ob q n r=>?_,I.base.there,λb g q=>?_,λb ob u q=>?_,λb i q=>?_⟩,I.loc,I.cell,?_,λx c t=>?_,λp v=>?_,EJ I.hok e n1 n2 j,I.len⟩
 ·have z:=I.base.free b ob q n r;rw[aI (λy=>by rw[y,e]at z;cases z)];exact z
 ·have z:=I.base.tups b g q;rw[aI (λy=>by rw[y,e]at z;cases z;exact n2 _ rfl)];exact z
 ·have z:=I.base.YY b ob u q;rw[aI (λy=>by rw[y]at q;exact n4 _ _ q)];exact z
 ·obtain⟨m,z⟩:=I.base.Zr b i q;exact⟨m,by rw[aI (λy=>by rw[y,e]at z;cases z;exact n3 _ rfl)];exact z⟩
 ·have z:=I.free;rw[aI (λy=>by rw[y,e]at z;cases z)];exact z
 ·have z:=I.XY x c t;rw[aI (λy=>by rw[y,e]at z;cases z)];exact z
 ·obtain⟨z1,z2,z3⟩:=I.pin p v;exact⟨z1,by rw[aI (λy=>by rw[y,e]at z2;cases z2)];exact z2,z3⟩
theorem FA(C:PE X e t):PE X e (λg H Q=>∃a b,H a=some (.dK b)/\∀o,t g (upd H a (.Yx o (.dK b))) λv p=>p a=some (.Yx o (.dK b))/\Q v (upd p a (.dK b))):=by
 intro d s g H Q I h;obtain⟨a,b,i,h⟩:=h;have j:=I.hok a _ i;obtain⟨E,G,L,l,o,M,N,A,rest⟩:=id j;have n4:∀ob u,X.H₀ a≠some (.Yx ob u):=λob u q=>by have:=I.base.YY a ob u q;rw[i]at this;cases this
 have up:∀(c:Addr)(u:HO),(∀y,u≠.own y)->True:=λ_ _ _=>trivial;have m:Xr X.prog X.w (upd H a (.Yx o (.dK b))) s.heap a (.Yx o (.dK b)):=⟨A,E,G,L,l,o,M,N,A,rest⟩
 have O:=yF I i (λ_ z=>by cases z) (λ_ z=>by cases z) (λ_ z=>by cases z) n4 m;refine Xl (C d s g _ _ O (h o)) λv T ⟨x,H1,J,r,B,q⟩=>?_;obtain⟨_,U,Y,n,f,d1⟩:=J.hok a _ B;exact⟨x,_,yF J B (λ_ z=>by cases z) (λ_ z=>by cases z) (λ_ z=>by cases z) n4 (show Xr X.prog X.w _ T.heap a (.dK b) from ⟨U,Y,n,f,d1⟩),r,q⟩
noncomputable def ItD(a:Addr)(o:Obj)(b:List (Key×V)):It:=⟨λi H=>H a=some (.Yx o (.dK b))/\i<b.length,λi H v d=>d=H/\∃c,b[i]?=some c/\v=kV c.1,λi H=>H a=some (.Yx o (.dK b))/\i=b.length⟩
theorem EU:∀{b:List (Key×V)}{d:List (Key×Value)}{i:Nat}{c:Key×V},KV b d->b[i]?=some c->∃u,d[i]?=some (c.1,u)
 |[],_,_,_,_,h=>by simp at h
 |a::r,_,i,c,h,e=>by
  cases h with
  |cons f g =>
   cases i with
   |zero =>simp at e;subst e;rename_i q _;obtain⟨l,j⟩:=q;obtain⟨rfl,_⟩:=f;exact⟨j,rfl⟩
   |succ i=>simpa using EU (i:=i) g (by simpa using e)
theorem wq(x:Yh P w H h)(e:H a=some (.Yx o (.dK c)))(f:o.data=.dict n i):∃b,KV c b/\h.DictAt (cK P w) a b i:=by obtain⟨g,p,q,b,d,j⟩:=x a _ e;obtain⟨l,r,m,e1,c1,d1,rest⟩:=j.dictAt;rw[g]at e1;cases e1;rw[f]at d1;cases d1;exact⟨b,d,_,_,g,c1,f,rest⟩
theorem Ho(h:(cK P w).is k v=true):RelV (kV k) v:=by
 cases k with
 |inl i=>exact Value.isInt_shape h
 |inr x=>exact WL h
variable{K:vc}
theorem DH{o:Obj}(N:o.data=.dict es U) :
  lP P w K tg (ItD a o kvs) [it] it (λi h=>h.IsKeyIter it a i kvs.length U) where
 mem:=by simp
 obj:=λi h st b j=>by
  have e:b=it:=by simpa using j
  subst e;obtain⟨o,e,c,d⟩:=st;exact⟨o,e,λv z=>by rw[d]at z;cases z⟩
 keep:=λi h n st k=>by obtain⟨o,e,r⟩:=st;exact⟨o,k it (by simp) o e,r⟩
 item:=by intro X x y B O i g s T H E I p st C;subst x y B;obtain⟨G,J,Y,L,M,f5⟩:=p it (by simp);obtain⟨g1,t⟩:=C;obtain⟨vs,f,l⟩:=wq I.hok g1 N;rw[f.length]at st;obtain⟨u,hu⟩:=EU f (M1 t);refine wpAny_pyNext_dict_item st l hu λkey n hk m sb=>?_;rw[<- f.length]at m;have I1:Inv X g T H {s with heap:=n}:=I.turned (t':=s.toks) (λb o j e=>(sb.2 b j).trans e) G J L M f5;exact⟨_,rfl,PyProof.Rows.letGo_keyiter (s':={s with heap:=n}) m ⟨kV (kvs[i]).1,H,I1,Ho hk,⟨rfl,kvs[i],M1 t,rfl⟩,m,λb j=>(p b j).1⟩⟩
 done:=by intro X x y B O i g s T H E I p st C;subst x y B;obtain⟨G,J,Y,L,M,f5⟩:=p it (by simp);obtain⟨g1,t⟩:=C;obtain⟨vs,f,l⟩:=wq I.hok g1 N;rw[f.length]at st;exact wpAny_pyNext_dict_end (I.ok.hd O) st l (by simp[t,f.length]) λn eb=>⟨rfl,I.turned (t':=s.toks) (λb o j e=>eb b o j e) G J L M f5⟩
 self:=λA i s Q E st q=>wpAny_pyIter_keyiter st q
noncomputable def IK(d:TE):TI:=λe H R=>d e H λv c=>∃a o b,v=.ref a/\c a=some (.Yx o (.dK b))/\R (ItD a o b) c
theorem HE(m:PE X l n):PI X A l (IK n):=by
 intro c s p H R I h;refine Xl (m c s p H _ I h) λv d ⟨B,r,f,t,u⟩=>?_;obtain⟨a,o,i,e,x,q⟩:=u;subst e;cases t;obtain⟨g,C,y,E,j,G,J,L,e1,c1,d1,rest⟩:=f.hok a _ x;rw[g]at e1;cases e1;refine wpAny_pyIter_dict (knd:=cK X.prog X.w) y ⟨_,_,g,c1,d1,rest⟩ ?_;refine⟨d.heap.objs.size,[d.heap.objs.size],_,_,r,rfl,f.kept (t':=d.toks) λb o e=>Tp _ e,DH (kvs:=i) d1,⟨_,T3 _ rfl,rfl,by rw[j.length];rfl⟩,λb z=>?_,q⟩;have e:b=d.heap.objs.size:=by simpa using z
 subst e;exact f.ZK (Tu _) (f.hok.fresh (Tu _))
noncomputable def ItV(a:Addr)(o:Obj)(b:List (Key×V)):It:=⟨λi H=>H a=some (.Yx o (.dK b))/\i<b.length,λi H v d=>d=H/\∃c,b[i]?=some c/\v=c.2,λi H=>H a=some (.Yx o (.dK b))/\i=b.length⟩
theorem EW:∀{b:List (Key×V)}{d:List (Key×Value)}{i:Nat}{c:Key×V},KV b d->b[i]?=some c->∃u,d[i]?=some (c.1,u)/\RelV c.2 u
 |[],_,_,_,_,h=>by simp at h
 |a::r,_,i,c,h,e=>by
  cases h with
  |cons f g =>
   cases i with
   |zero =>simp at e;subst e;rename_i q _;obtain⟨m,j⟩:=q;obtain⟨rfl,l⟩:=f;exact⟨j,rfl,l⟩
   |succ i=>simpa using EW (i:=i) g (by simpa using e)
theorem DK{o:Obj}(N:o.data=.dict es U) :
  lP P w K tg (ItV a o kvs) [it] it (λi h=>h.IsValIter it a i kvs.length U) where
 mem:=by simp
 obj:=λi h st b j=>by
  have e:b=it:=by simpa using j
  subst e;obtain⟨o,e,c,d⟩:=st;exact⟨o,e,λv z=>by rw[d]at z;cases z⟩
 keep:=λi h n st k=>by obtain⟨o,e,r⟩:=st;exact⟨o,k it (by simp) o e,r⟩
 item:=by intro X x y B O i g s T H E I p st C;subst x y B;obtain⟨G,J,Y,L,M,f5⟩:=p it (by simp);obtain⟨g1,t⟩:=C;obtain⟨vs,f,l⟩:=wq I.hok g1 N;rw[f.length]at st;obtain⟨u,hu,ru⟩:=EW f (M1 t);refine wpAny_pyNext_values_item st l hu λn m sb=>?_;rw[<- f.length]at m;have I1:Inv X g T H {s with heap:=n}:=I.turned (t':=s.toks) (λb o j e=>(sb.2 b j).trans e) G J L M f5;obtain⟨oi,ei,ci,di⟩:=id m;exact⟨_,rfl,qM (s:={s with heap:=n}) ei ci di ⋯ ⟨(kvs[i]).2,H,I1,ru,⟨rfl,kvs[i],M1 t,rfl⟩,m,λb j=>(p b j).1⟩⟩
 done:=by intro X x y B O i g s T H E I p st C;subst x y B;obtain⟨G,J,Y,L,M,f5⟩:=p it (by simp);obtain⟨g1,t⟩:=C;obtain⟨vs,f,l⟩:=wq I.hok g1 N;rw[f.length]at st;exact wpAny_pyNext_values_end (I.ok.hd O) st l (by simp[t,f.length]) λn eb=>⟨rfl,I.turned (t':=s.toks) (λb o j e=>eb b o j e) G J L M f5⟩
 self:=λA i s Q E st q=>wpAny_pyIter_valiter st q
noncomputable def Lo(d:TE):TI:=λe H R=>d e H λv c=>∃a o b,v=.ref a/\c a=some (.Yx o (.dK b))/\R (ItV a o b) c
theorem HG{d f:Pos}(z:PE X o to)(i:attributeBase o "values" X.env (eval o X.env)=eval o X.env:=by rfl)(j:(d.endLine==f.line)=true:=by rfl):PI X N (.Call (.Attribute o "values" d) [] [] f) (Lo to):=by
 intro l s A H R I h;refine wpAny_Call_method0_late i j (Xl (z l s A H _ I h) λv c ⟨x,B,y,C,E⟩=>?_);obtain⟨a,ob,m,rfl,G,q⟩:=E;cases C;obtain⟨g,O,J,n,p,Q,T,L,e1,c1,d1,rest⟩:=y.hok a _ G;rw[g]at e1;cases e1;have r:c.heap.DictOf (cK X.prog X.w) a n:=⟨_,_,_,g,c1,d1,rest⟩
 refine⟨"dict","dict.values",F.plainAttrs_dict,F.slot_dict_values,F.type_dict_values,r.typeIs,λb e=>by cases e;exact⟨_,g,c1.2.1⟩,VQ rfl (PySem.evalArgs_none ?_)⟩;refine call_meetsIn F.slot_dict_values r.typeIs F.entry_dict_values (F.args_dict_values_1 _) (meets_dict_values (cK X.prog X.w) a J) ⟨⟨n,r⟩,?_⟩;have t:=y.kept (h':=c.heap.push {cls:=.type "dict_values",data:=.fields #[.ref a]}) (t':=c.toks) λb o e=>Tp _ e;have u:(c.heap.push {cls:=.type "dict_values",data:=.fields #[.ref a]}).DictAt (cK X.prog X.w) a n L:=⟨_,_,Tp _ g,c1,d1,rest⟩
 refine wpAny_pyIter_values (s:={c with heap:=c.heap.push {cls:=.type "dict_values",data:=.fields #[.ref a]}}) (v:=c.heap.objs.size) ⟨_,T3 _ rfl,rfl,rfl⟩ u ?_;refine⟨_,[_],_,_,B,rfl,t.kept (t':=c.toks) λb o e=>Tp _ e,DK (kvs:=m) d1,⟨_,T3 _ rfl,rfl,by rw[p.length];rfl⟩,λb M=>?_,q⟩;have e:b=(c.heap.push {cls:=.type "dict_values",data:=.fields #[.ref a]}).objs.size:=by simpa using M
 subst e;exact t.ZK (Tu _) (t.hok.fresh (Tu _))
theorem CJ{X:Cx}(M:Meth X.K C "__len__" f)(ok:Xj X.prog X.w X.K X.mg X.base X5 j f p c y)(B:Xy (j+1) X.A)(E:Binds X.K p c []) :
  gB X (.builtin "len") (λd H Q=>∃x g i,d=[.ref x]/\H x=some (.ins C g i)/\y [.ref x] H (λv b=>∃n:Nat,v=.int n/\n<=900/\Q (.int n) b) λ_ _ _=>False):=by
 intro l s Y H d us Q I r h;obtain⟨x,g,i,rfl,G,h⟩:=h;obtain⟨u,rfl,J⟩:=fP r;obtain rfl:u=Value.ref x:=J;obtain⟨mA,O,_⟩:=qg I.hok G;obtain⟨od,L,_⟩:=O.look;have N:([Value.ref x]++[]).length=c.length:=by have:=ok.len _ _ _ _ h;simpa using this
 refine Calls.call_function_entry kind_len plain_len entry_len (args_len1 _) ?_;unfold Builtin.«len»;refine Tn (m:=oneArg "len" _) (Tz (Tn (m:=callSpecial? (.ref x) (Str.ofString "__len__")) (W.special_fn I.Yg L M.at_ (VC.mp M.fn) ?_)));refine VM (UT (ok.run X.A.in1 X.stack s H ⟨[.ref x],[]⟩ [.ref x] [.ref x] _ _ B.in1 I.env0.in1 (E s [.ref x] I.Yg N) (.cons rfl .nil) h) λz s' a=>?_)
 match z,a with
 | .error e,a=>exact a.elim
 | .ok .next,a=>exact a.elim
 | .ok .brk,a=>exact a.elim
 | .ok .cont,a=>exact a.elim
 | .ok (.ret u),a =>
  obtain⟨v,b,T,U,n,rfl,n9,q⟩:=I.after a;obtain⟨t,rfl⟩:=(show ∃t,u=Value.int n t from U)
  refine Tn (US (Tz (Tn (wpAny_letGo ?_))));show wpAny _ _ (if (n:Int)<0 then _ else _) _ _ _;rw[TN ⋯];show wpAny _ _ (if (n:Int) ≥ 2 ^ 63 then _ else _) _ _ _;rw[TN ⋯];exact Tn (wpAny_mkInt (Tz ⟨_,rfl,.int n,b,T.tok _,⟨_,rfl⟩,q⟩))
end
inductive Nv where
 |d (x:D)
 |l (ns:List Nv)
mutual
def NI(K:vc)(b H:Hp):Nv->V->Prop
 | .d x,v=>Dat K H x v
 | .l e,v=>∃a c,v=.ref a/\b a=none/\H a=some (.lst c)/\XS K b H e c
def XS(K:vc)(b H:Hp):List Nv->List V->Prop
 |[],a=>a=[]
 |n::c,a=>∃v r,a=v::r/\NI K b H n v/\XS K b H c r
end
mutual
noncomputable def okN:Nv->Bool
 | .d x=>Yj x&&decide (gE x<=20)
 | .l a=>Y4 a
noncomputable def Y4:List Nv->Bool
 |[]=>true
 |n::a=>okN n&&Y4 a
end
mutual
noncomputable def hN:Nv->Nat
 | .d _=>0
 | .l a=>hNs a+1
noncomputable def hNs:List Nv->Nat
 |[]=>0
 |n::a=>max (hN n) (hNs a)
end
section
mutual
variable{K:vc}
theorem NI.mono(g:bW K H c)(l:∀a b,j a=none->H a=some (.lst b)->m a=none/\c a=some (.lst b)):∀(n:Nv){v:V},NI K j H n v->NI K m c n v
 | .d x,v,h=>by unfold NI at h ⊢;exact Dat.mono g x h
 | .l p,v,h=>by unfold NI at h ⊢;obtain⟨a,b,e,f,i,q⟩:=h;exact⟨a,b,e,(l a b f i).1,(l a b f i).2,XS.mono g l p q⟩
theorem XS.mono(g:bW K H d)(l:∀a b,f a=none->H a=some (.lst b)->i a=none/\d a=some (.lst b)):∀(c:List Nv){b:List V},XS K f H c b->XS K i d c b
 |[],b,h=>by unfold XS at h ⊢;exact h
 |n::c,b,h=>by unfold XS at h ⊢;obtain⟨v,r,e,j,m⟩:=h;exact⟨v,r,e,NI.mono g l n j,XS.mono g l c m⟩
end
variable{K:vc}
theorem NI.lI(d:b a=none)(h:H a=some (.lst c))(q:XS K b H e c):NI K b H (.l e) (.ref a):=by unfold NI;exact⟨a,c,rfl,d,h,q⟩
theorem NI.lE(h:NI K b H (.l d) v):∃a c,v=.ref a/\b a=none/\H a=some (.lst c)/\XS K b H d c:=by unfold NI at h;exact h
theorem NI.dI(h:Dat K H x v):NI K a H (.d x) v:=by unfold NI;exact h
theorem NI.dE(h:NI K a H (.d x) v):Dat K H x v:=by unfold NI at h;exact h
theorem XS.nil:XS K a H [] []:=by unfold XS;rfl
theorem XS.cons(h:NI K a H n v)(r:XS K a H c b):XS K a H (n::c) (v::b):=by unfold XS;exact⟨v,b,rfl,h,r⟩
theorem XS.Xx(h:XS K a H (n::b) c):∃v r,c=v::r/\NI K a H n v/\XS K a H b r:=by unfold XS at h;exact h
theorem XS.snoc(q:NI K c H n v):∀{b:List Nv}{a:List V},XS K c H b a->XS K c H (b++[n]) (a++[v])
 |[],a,h=>by unfold XS at h;subst h;exact XS.cons q XS.nil
 |m::b,a,h=>by obtain⟨u,r,rfl,d,e⟩:=h.Xx;exact XS.cons d (XS.snoc q e)
theorem XS.ofD:∀{b:List D}{a:List V},Xd K H b a->XS K f H (b.map Nv.d) a
 |[],a,h=>by rw[h.YJ];exact XS.nil
 |d::b,a,h=>by obtain⟨v,r,rfl,c,e⟩:=h.Xx;exact XS.cons (NI.dI c) (XS.ofD e)
theorem XS.len:∀{d:List Nv}{a b:List V},XS K e H d a->XS K e H d b->a.length=b.length
 |[],a,b,h,c=>by unfold XS at h c;rw[h,c]
 |n::d,a,b,h,c=>by obtain⟨_,_,rfl,_,f⟩:=h.Xx;obtain⟨_,_,rfl,_,g⟩:=c.Xx;rw[TQ,TQ,XS.len f g]
theorem Fj:∀{ds:List D},XA ds=true->Xn ds<=20->Y4 (ds.map Nv.d)=true/\hNs (ds.map Nv.d)=0
 |[],_,_=>⟨by simp[Y4],by simp[hNs]⟩
 |d::ds,h,a=>by
  unfold XA at h;unfold Xn at a;rw[Tw]at h;obtain⟨b,c⟩:=Fj (ds:=ds) h.2 (T8 (V1 _ _) a);refine⟨?_,?_⟩
  ·rw[T7];unfold Y4 okN;rw[b,h.1,TZ (T8 (VO _ _) a)];rfl
  ·rw[T7];unfold hNs hN;rw[c];rfl
theorem FR{X:Cx}{f:qd}{u:St}{H:Hp}{s:Shared}{A:Around}{a b:Addr}{i l:List V}(I:Inv X f u H s)(q:A.units<cLine)(v:H a=some (.lst i))(w:H b=some (.lst l))(x:i.length=l.length)(r:∀c d,Vals i c->Vals l d->∀j (y:j<c.toArray.size) (B:j<d.toArray.size),SeqAt.EqAt A.in1 s c.toArray[j] d.toArray[j] true) :
  SeqAt.RcAt A s (.ref a) (.ref b) true/\SeqAt.RcNeAt A s (.ref a) (.ref b) false:=by
 obtain⟨c,m,p1,_⟩:=I.list (Xm.of (K:=X.K) v);obtain⟨d,n,p2,_⟩:=I.list (Xm.of (K:=X.K) w);have g:c.toArray.size=d.toArray.size:=by rw[TJ,TJ,<- m.length,<- n.length,x]
 have p:=SeqAt.RcAt.lists (e:=λ_=>true) p1.isList p2.isList g q (r c d m n);have t:=SeqAt.RcNeAt.lists (e:=λ_=>true) p1.isList p2.isList g q (r c d m n);have z:(List.range c.toArray.size).all (λ_=>true)=true:=by simp
 rw[z]at p t;exact⟨p,t⟩
mutual
theorem JO{X:Cx}{c:qd}{v:St}{q H:Hp}{s:Shared}(I:Inv X c v H s):∀(n:Nv)(A:Around)(x y:V)(u w:Value),A.units+hN n+22<cLine->okN n=true->NI X.K q H n x->NI X.K q H n y->RelV x u->RelV y w->SeqAt.EqAt A s u w true
 | .d d,A,x,y,u,w,f,ok,g,i,j,m=>by unfold okN at ok;unfold hN at f;rw[Tw,Uo]at ok;have p:=wd I 20 A d d x y u w ⋯ ok.2 ok.1 ok.1 g.dE i.dE j m;rw[kI _ ok.1]at p;exact p
 | .l z,A,x,y,u,w,f,ok,g,i,j,m=>by
  obtain⟨a,B,rfl,_,C,r⟩:=g.lE;obtain⟨b,E,rfl,_,G,t⟩:=i.lE;cases j;cases m;unfold okN at ok;unfold hN at f;by_cases e:a=b
  ·subst e;exact WD _
  ·exact .of_refs e (FR I ⋯ C G (r.len t) λJ L M N=>Z2 I z A.in1 B E J L (by rw[lF];lia) ok r t M N).1
theorem Z2{X:Cx}{b:qd}{E:St}{z H:Hp}{s:Shared}(I:Inv X b E H s):∀(a:List Nv)(A:Around)(f g:List V)(c d:yw),A.units+hNs a+22<cLine->Y4 a=true->XS X.K z H a f->XS X.K z H a g->Vals f c->Vals g d->∀j (i:j<c.toArray.size) (p:j<d.toArray.size),SeqAt.EqAt A s c.toArray[j] d.toArray[j] true
 |[],A,f,g,c,d,B,ok,l,C,e,m,j,i,p=>by unfold XS at l;subst l;cases e;exact absurd i (Nat.not_lt_zero j)
 |n::a,A,f,g,c,d,B,ok,l,C,e,m,j,i,p=>by
  obtain⟨x,q,rfl,G,J⟩:=l.Xx;obtain⟨y,r,rfl,L,M⟩:=C.Xx;unfold Y4 at ok;unfold hNs at B;rw[Tw]at ok
  cases e with
  |cons e t =>
   cases m with
   |cons m u =>
    match j with
    |0=>exact JO I n A x y _ _ (by have:=VO (hN n) (hNs a);lia) ok.1 G L e m
    |j+1 =>have v:=i;have w:=p;simp only[TJ,TQ]at v w;exact Z2 I a A q r _ _ (by have:=V1 (hN n) (hNs a);lia) ok.2 J M t u j (by rw[TJ];lia) (by rw[TJ];lia)
end
noncomputable def Kv(K:vc)(b:Bool):R2:=λx y H Q=>∃c a,NI K c H (.l a) x/\NI K c H (.l a) y/\Y4 a=true/\hNs a<=3/\Q (.bl (!b)) H
theorem LJ{X:Cx}{k:Nat}{c:qd}{i:St}{e H:Hp}{s:Shared}{d:List Nv}{x y:V}{u w:Value}(j:Xy k X.A)(I:Inv X c i H s)(m:NI X.K e H (.l d) x)(n:NI X.K e H (.l d) y)(ok:Y4 d=true)(J:hNs d<=3)(p:RelV x u)(q:RelV y w):SeqAt.RcAt X.A s u w true/\SeqAt.RcNeAt X.A s u w false:=by obtain⟨a,r,rfl,_,t,f⟩:=m.lE;obtain⟨b,v,rfl,_,z,g⟩:=n.lE;cases p;cases q;have L:=j.un;exact FR I ⋯ t z (f.len g) λB C E G=>Z2 I d X.A.in1 r v B C (by rw[lF];lia) ok f g E G
theorem Kg{X:Cx}(b:Xy k X.A):Ye X (compareOp .Eq) (Kv X.K false):=by intro a s i H x y v u Q I c d h;obtain⟨j,l,e,f,ok,g,q⟩:=h;exact(LJ b I e f ok g c d).1 _ _ _ _ ⟨.bl _,H,I,rfl,q⟩
theorem AV{X:Cx}(b:Xy k X.A):Ye X (compareOp .NotEq) (Kv X.K true):=by intro a s i H x y v u Q I c d h;obtain⟨j,l,e,f,ok,g,q⟩:=h;exact(LJ b I e f ok g c d).2 _ _ _ _ ⟨.bl _,H,I,rfl,q⟩
end
def RNv(K:vc)(t:TE)(c:St)(H:Hp)(n:Nv):Prop:=∀a,Xe H a->∀Q:VK,(∀v b,Xe a b->NI K a b n v->Q v b)->t c a Q
section
variable{K:vc}
theorem RNv.use(h:RNv K t b H n)(q:∀v a,Xe H a->NI K H a n v->Q v a):t b H Q:=h H (Xe.refl H) Q q
theorem nX:bW K H H:=(Xe.refl H).grow
theorem F3{j:List Nv}(h:RE K tl B H (.tup cs))(hc:cs.length<=100)(hl:j.length=cs.length)(h0:(mk B).set jj none=mk B)
  (r:∀(C:Hp)(i:Nat)(c:D)(v:V)(n:Nv),Xe H C->cs[i]?=some c->j[i]?=some n->Dat K C c v->RNv K te ((mk B).set jj (some v)) C n):RNv K (fO (EL K tl) mk (bT jj) eO te) B H (.l j):=λC s Q q=>by
 refine(h.mono s).use λv4 O E q4=>?_;obtain⟨a,I,rfl,T,hd⟩:=q4.XC;have lv:=hd.length;refine⟨a,rfl,⟨I,T⟩,λl U=>mr (n:=I.length) (item:=λi=>I.getD i .Xi) (λG=>Xe O G) (λi G e hi=>Ey i G (e.sqT T) hi) (λG e=>⟨I,e.sqT T,Tu _⟩) h0 l (λi G=>Xe O G/\∃f,G l=some (.lst f)/\f.length=i/\XS K (upd O l (.lst [])) G (j.take i) f) ⟨aH U _,[],aD,rfl,by rw[UM];exact XS.nil⟩ (λi G _ p=>p.1) (λi G hi p=>?_) (λG p=>?_)⟩
 ·obtain⟨e,f,J,ly,L⟩:=p;have w:i<cs.length:=by lia
  have x:i<j.length:=by lia
  obtain⟨vz,ez,hz⟩:=(e.Xo hd).get (M1 w);rw[Uc,ez];refine(r G i cs[i] vz j[i] (s.trans (E.trans e)) (M1 w) (M1 x) hz).use λu Y M q2=>?_;have y:=M _ _ J;have g2:bW K Y (upd Y l (.lst (f++[u]))):=Xv.grow (t:=l) (Xv.upd (Xe.refl Y).but) y aD;refine⟨f,y,bP ⋯,⟨_,rfl⟩,λb o hb=>?_,f++[u],aD,by rw[Tq,ly];rfl,?_⟩
  ·rw[aI (aK hb U)];exact M _ _ (e _ _ hb)
  ·rw[Um,M1 x];refine XS.snoc (NI.mono g2 (λb zs d A=>?_) _ q2) (XS.mono (Xe.grow (K:=K) M |> λg=>⟨λa N h=>g2.1 a N (g.1 a N h),λa N h=>(g.2 a N h).elim λys' h'=>g2.2 a ys' h'⟩) (λb zs d A=>?_) _ L)
   ·have m:b≠l:=λz=>by rw[z,J]at d;cases d
    exact⟨by rw[aI m];exact e.free d,by rw[aI m];exact A⟩
   ·have m:b≠l:=λz=>by rw[z,aD]at d;cases d
    exact⟨d,by rw[aI m];exact M _ _ A⟩
 ·obtain⟨e,f,J,ly,L⟩:=p;rw[Vq ⋯]at L;refine q _ G (E.trans e) (NI.lI (E.free U) J (XS.mono nX (λb zs d A=>⟨?_,A⟩) _ L));have m:b≠l:=λz=>by rw[z,aD]at d;cases d
  rw[aI m]at d;exact E.free d
end
theorem FB:PE X e (λ_ _ _=>False):=λ_ _ _ _ _ _ h=>h.elim
def D9(a:Sp):Sp:=λb H Q _=>a b H Q λ_ _ _=>False
theorem D8{K:vc}(F:Xj P w K mg base (Yw P w) k f c d g):Xj P w K mg base X5 k f c d (D9 g) :=
 ⟨λb H Q E h=>F.len b H Q _ h,λA outer s H args i b Q E j l m n p=>UT (F.run A outer s H args i b Q (λ_ _ _=>False) j l m n p) λr q h=>by
  cases r with
  |error e=>obtain⟨a,T,cls,t,u,_,_,_,_,_,_,_,_,_,z⟩:=h;exact z.elim
  |ok fl=>cases fl<;>exact h⟩
end L2
namespace My
open PySem L2 PyProof.Rows
abbrev TL:List (Str×KTD.Dat):=[("num",.flat (.int 9999)),("arg",.flat (.int 3))]
abbrev TB:List (Str×KTD.Dat):=[("add",.flat (.int 2)),("sub",.flat (.int 2)),("mul",.flat (.int 2)),("less",.flat (.int 2)),("pick",.flat (.int 3))]
abbrev TM:List (Str×KTD.Dat):=[("hole",.flat (.int 2)),("gap",.flat (.int 3)),("slot",.flat (.int 2))]
abbrev TF:List (Str×KTD.Dat):=[("low",.flat (.str "gap")),("high",.flat (.str "gap")),("arg",.flat (.str "slot"))]
abbrev TTO:List (Str×KTD.Dat):=[("load",.flat (.int 3)),("skip",.flat (.int 9)),("zero",.flat (.int 9))]
abbrev AHE:List D:=[.int 10,.int 11]
abbrev BAS:List D:=[.tup [.str "one",.tup [.str "gap",.int 0,.int 99],.tup [.int 1,.tup [.str "low",.int 0]]],.tup [.str "two",.tup [.str "gap",.int 0,.int 9999],.tup [.int 2,.tup [.str "low",.int 0],.tup [.str "high",.int 0]]],.tup [.str "slot",.tup [.str "slot",.int 0],.tup [.int 3,.tup [.str "arg",.int 0]]],.tup [.str "add",.tup [.str "add",.tup [.str "hole",.int 0],.tup [.str "hole",.int 1]],.tup [.int 4]],.tup [.str "sub",.tup [.str "sub",.tup [.str "hole",.int 0],.tup [.str "hole",.int 1]],.tup [.int 5]],.tup [.str "mul",.tup [.str "mul",.tup [.str "hole",.int 0],.tup [.str "hole",.int 1]],.tup [.int 6]],.tup [.str "less",.tup [.str "less",.tup [.str "hole",.int 0],.tup [.str "hole",.int 1]],.tup [.int 7]],.tup [.str "more",.tup [.str "add",.tup [.str "hole",.int 0],.tup [.str "gap",.int 0,.int 99]],.tup [.int 12,.tup [.str "low",.int 0]]]]
abbrev BEH:List D:=[.int 8,.int 9]
abbrev INS:List D:=[.tup [.str "end",.int 0],.tup [.str "put",.int 1],.tup [.str "far",.int 2],.tup [.str "load",.int 1],.tup [.str "add",.int 0],.tup [.str "sub",.int 0],.tup [.str "mul",.int 0],.tup [.str "less",.int 0],.tup [.str "skip",.int 1],.tup [.str "jump",.int 2],.tup [.str "zero",.int 1],.tup [.str "none",.int 2],.tup [.str "more",.int 1],.tup [.str "twice",.int 0],.tup [.str "about",.int 0],.tup [.str "call",.int 2],.tup [.str "back",.int 0]]
abbrev STR:List D:=[.str "put",.str "far",.str "load",.str "add",.str "sub",.str "mul",.str "less",.str "more",.str "twice",.str "about"]
noncomputable abbrev TRN:List D:=[.int 0,.int 1,.int 2,.int 99,.int 100,.int 9999]
abbrev WAY:List D:=[.str "skip",.str "jump",.str "zero",.str "none",.str "call",.str "back"]
noncomputable def fT(s:Stmt)(j:Nat):Stmt:=match s with
 | .ClassDef _ _ _ b _ _ _ _ _ _ _=>b.getD j (.Pass ⟨0,0,0,0⟩)
 |_=>.Pass ⟨0,0,0,0⟩
noncomputable abbrev r9:Stmt:=top 20
theorem zJ:Xf ["thing","low","high"] ["thing","low","high"] (aG r9):=.XQ
noncomputable abbrev pE:Stmt:=top 21
theorem xI:Xf ["thing"] ["thing"] (aG pE):=.XQ
noncomputable abbrev vw:Stmt:=top 30
theorem Be:Xf ["thing","kind"] ["thing"] (aG vw):=.XQ
noncomputable abbrev lj:Stmt:=top 31
theorem p7:Xf ["tree"] ["tree"] (aG lj):=.XQ
noncomputable abbrev vA:Stmt:=top 32
theorem Bf:Xf ["thing","waiting","parts","part","deep"] ["thing"] (aG vA):=.XQ
noncomputable abbrev pJ:Stmt:=top 33
theorem xN:Xf ["tree"] ["tree"] (aG pJ):=.XQ
noncomputable abbrev zA:Stmt:=top 36
theorem Dz:Xf ["tree","parts","within"] ["tree"] (aG zA):=.XQ
noncomputable abbrev vv:Stmt:=top 22
theorem Bd:Xf ["thing"] ["thing"] (aG vv):=.XQ
noncomputable abbrev jJ:Stmt:=top 48
theorem jn:Xf ["cells","place","name","many","behind"] ["cells","place"] (aG jJ):=.XQ
noncomputable abbrev vq:Stmt:=top 66
theorem Bc:Xf ["thing"] ["thing"] (aG vq):=.XQ
noncomputable abbrev jm:Stmt:=top 67
theorem mG:Xf ["thing","deep"] ["thing","deep"] (aG jm):=.XQ
noncomputable abbrev sj:Stmt:=top 68
theorem zK:Xf ["pattern","kind","marks","within"] ["pattern","kind"] (aG sj):=.XQ
noncomputable abbrev ju:Stmt:=top 69
theorem sJ:Xf ["pattern","kind","numbers"] ["pattern","kind"] (aG ju):=.XQ
noncomputable abbrev nF:Stmt:=top 70
theorem uf:Xf ["thing"] ["thing"] (aG nF):=.XQ
noncomputable abbrev nE:Stmt:=top 71
theorem ue:Xf ["thing","pattern"] ["thing","pattern"] (aG nE):=.XQ
noncomputable abbrev vp:Stmt:=top 72
theorem Bb:Xf ["thing","pattern"] ["thing","pattern"] (aG vp):=.XQ
noncomputable abbrev i6:Stmt:=top 73
theorem lU:Xf ["cells","pattern","place","name","behind"] ["cells","pattern"] (aG i6):=.XQ
noncomputable abbrev r8:Stmt:=top 74
theorem zI:Xf ["thing","name","pattern","cells"] ["thing"] (aG r8):=.XQ
noncomputable abbrev zz:Stmt:=top 76
theorem Dy:Xf ["thing"] ["thing"] (aG zz):=.XQ
noncomputable abbrev sr:Stmt:=top 77
theorem zL:Xf ["some"] ["some"] (aG sr):=.XQ
noncomputable abbrev kn:Stmt:=top 78
theorem oQ:Xf ["mark","tree"] ["mark","tree"] (aG kn):=.XQ
noncomputable abbrev vB:Stmt:=top 79
theorem Bg:Xf ["pattern","tree","found","kind"] ["pattern","tree","found"] (aG vB):=.XQ
noncomputable abbrev r6:Stmt:=top 80
theorem zH:Xf ["piece","tree","found"] ["piece","tree"] (aG r6):=.XQ
noncomputable abbrev nH:Stmt:=top 75
theorem ui:Xf ["piece"] ["piece"] (aG nH):=.XQ
noncomputable abbrev mi:Stmt:=top 81
theorem sI:Xf ["cell","nums","ks"] ["cell","nums","ks"] (aG mi):=.XQ
noncomputable abbrev pF:Stmt:=top 92
theorem xJ:Xf ["many","kinds","near","far"] ["many","kinds"] (aG pF):=.XQ
noncomputable abbrev km:Stmt:=top 93
theorem oP:Xf ["second","third","behind","ahead"] ["second","third"] (aG km):=.XQ
noncomputable abbrev vC:Stmt:=top 94
theorem Bi:Xf ["tree","some","ways","piece","found"] ["tree","some"] (aG vC):=.XQ
noncomputable abbrev pG:Stmt:=top 95
theorem xM:Xf ["name","cells","lengths","own","ahead","behind"] ["name","cells","lengths"] (aG pG):=.XQ
noncomputable abbrev i7:Stmt:=top 96
theorem p4:Xf ["tree","some","done","bests","best","name","cells","trees","within","length"] ["tree","some","done","bests"] (aG i7):=.XQ
noncomputable abbrev kl:Stmt:=top 97
theorem Yp:Xf ["tree","some","done","bests","part"] ["tree","some"] (aG kl):=.XQ
noncomputable abbrev pH:Stmt:=top 98
theorem Y5:Xf ["tree","some"] ["tree","some"] (aG pH):=.XQ
noncomputable abbrev lh:Stmt:=top 102
theorem xK:Xf ["tree","some","cover","places","first","second","third","ahead","behind"] ["tree","some","cover","places"] (aG lh):=.XQ
noncomputable abbrev j8:Stmt:=top 103
theorem uh:Xf ["tree","some","cover","places","name","within","piece","holes","nums","ks","cells","hole","inner"] ["tree","some","cover","places"] (aG j8):=.XQ
noncomputable abbrev nG:Stmt:=top 104
theorem ug:Xf ["tree","some","cover","places","place"] ["tree","some","cover","places"] (aG nG):=.XQ
noncomputable abbrev vm:Stmt:=top 105
theorem ZF:Xf ["tree","some","length","cover"] ["tree","some"] (aG vm):=.XQ
noncomputable abbrev IY:Stmt:=top 106
theorem sc_lay:Xf ["tree","some"] ["tree","some"] (aG IY):=.XQ
noncomputable abbrev pI:Stmt:=top 23
theorem Y6:Xf ["size","most"] ["size","most"] (aG pI):=.XQ
noncomputable abbrev pW:Stmt:=top 34
noncomputable abbrev su:Stmt:=top 35
theorem zM:Xf ["tree","args","size","kind","first"] ["tree","args","size"] (aG su):=.XQ
noncomputable abbrev mj:Stmt:=top 49
theorem sL:Xf ["behind","number","cell"] ["behind"] (aG mj):=.XQ
noncomputable abbrev i5:Stmt:=fT (top 50) 0
theorem lS:Xf ["self","cells","given","size","pile"] ["self","cells","given","size","pile"] (aG i5):=.XQ
noncomputable abbrev rV:Stmt:=fT (top 50) 1
noncomputable abbrev kY:Stmt:=fT (top 50) 2
theorem pX:Xf ["self","number"] ["self","number"] (aG kY):=.XQ
noncomputable abbrev ua:Stmt:=fT (top 50) 4
noncomputable abbrev oM:Stmt:=fT (top 50) 5
noncomputable abbrev jG:Stmt:=fT (top 50) 6
theorem nJ:Xf ["self","name","number","upper","lower"] ["self","name","number"] (aG jG):=.XQ
noncomputable abbrev kZ:Stmt:=fT (top 50) 3
theorem pY:Xf ["self","name","behind","number","onward"] ["self"] (aG kZ):=.XQ
noncomputable abbrev jI:Stmt:=top 82
theorem nL:Xf ["pattern","trial","kind","holes","nums","ks","args"] ["pattern","trial"] (aG jI):=.XQ
noncomputable abbrev xC:Stmt:=top 83
theorem F8:Xf ["piece","trial","size","name","pattern","cells","holes","nums","ks","args","laid_cells","machine"] ["piece","trial","size"] (aG xC):=.XQ
noncomputable abbrev oO:Stmt:=top 84
theorem Bh:Xf ["choices","rows","some"] ["choices"] (aG oO):=.XQ
noncomputable abbrev rZ:Stmt:=top 85
theorem zG:Xf ["ks","size"] ["ks","size"] (aG rZ):=.XQ
noncomputable abbrev oN:Stmt:=top 86
theorem Ba:Xf ["piece","size","pattern","all_holes","all_nums","all_ks","holes","nums","ks","args","trial"] ["piece","size"] (aG oN):=.XQ
noncomputable abbrev ki:Stmt:=fT (top 110) 0
theorem Yq:Xf ["self","some"] ["self","some"] (aG ki):=.XQ
noncomputable abbrev jH:Stmt:=fT (top 110) 1
theorem nK:Xf ["self","name"] ["self","name"] (aG jH):=.XQ
noncomputable abbrev nB:Stmt:=fT (top 110) 2
theorem YM:Xf ["self","name"] ["self","name"] (aG nB):=.XQ
noncomputable abbrev rX:Stmt:=fT (top 110) 3
theorem Zn:Xf ["self","piece","trial"] ["self","piece"] (aG rX):=.XQ
noncomputable abbrev k9:Stmt:=fT (top 110) 4
theorem Y7:Xf ["self","name"] ["self","name"] (aG k9):=.XQ
noncomputable abbrev mf:Stmt:=fT (top 110) 5
theorem sC:Xf ["self"] ["self"] (aG mf):=.XQ
noncomputable abbrev rW:Stmt:=fT (top 110) 6
theorem Zo:Xf ["self","name","tree","cells"] ["self","name","tree"] (aG rW):=.XQ
noncomputable abbrev pw:Stmt:=fT (top 110) 7
theorem Y8:Xf ["self","name"] ["self","name"] (aG pw):=.XQ
noncomputable abbrev px:Stmt:=fT (top 110) 8
theorem Y9:Xf ["self","name"] ["self","name"] (aG px):=.XQ
noncomputable abbrev kj:Stmt:=fT (top 110) 10
theorem Yr:Xf ["self","name","tree","cells"] ["self","name"] (aG kj):=.XQ
noncomputable abbrev j6:Stmt:=fT (top 110) 11
theorem uc:Xf ["self"] ["self"] (aG j6):=.XQ
noncomputable abbrev j7:Stmt:=fT (top 110) 12
theorem ud:Xf ["self"] ["self"] (aG j7):=.XQ
noncomputable abbrev pA:Stmt:=fT (top 110) 13
theorem xD:Xf ["self","other"] ["self"] (aG pA):=.XQ
noncomputable abbrev k8:Stmt:=fT (top 110) 14
theorem pZ:Xf ["self"] ["self"] (aG k8):=.XQ
noncomputable abbrev pB:Stmt:=top 112
theorem xE:Xf ["_law_script","_law_town","_law_many","_law_one","_law_at","_law_mixed"] ["_law_script","_law_town","_law_many"] (aG pB):=.XQ
noncomputable abbrev pC:Stmt:=top 113
theorem xF:Xf ["_law_script","_law_town","_law_some"] ["_law_script","_law_town","_law_some"] (aG pC):=.XQ
noncomputable abbrev pD:Stmt:=top 114
theorem xH:Xf ["_law_script","_law_town","_law_room","_law_leaf","_law_name","_law_many"] ["_law_script","_law_town","_law_room"] (aG pD):=.XQ
noncomputable abbrev mh:Stmt:=top 117
theorem sD:Xf ["_law_hole","_law_other","_law_gap","_law_made"] [] (aG mh):=.XQ
noncomputable abbrev mE:Stmt:=top 118
theorem zF:Xf ["_law_script","_law_town","_law_more"] ["_law_script","_law_town"] (aG mE):=.XQ
noncomputable abbrev nC:Stmt:=top 119
theorem YN:Xf ["_law_e","_law_own"] ["_law_e"] (aG nC):=.XQ
noncomputable abbrev rY:Stmt:=top 120
theorem zE:Xf ["_law_shop","_law_what","_law_one","_law_other","_law_e"] ["_law_shop","_law_what","_law_one","_law_other"] (aG rY):=.XQ
noncomputable abbrev lg:Stmt:=top 121
theorem xG:Xf ["_law_shop","_law_codes"] ["_law_shop"] (aG lg):=.XQ
noncomputable abbrev Cs:Stmt:=top 122
theorem KQ:Xf ["_law_script","_law_town","_law_some","_law_shop","_law_kept","_law_name","_law_twin","_law_before","_law_tree_here","_law_piece","_law_deeds","_law_answers","_law_told_code"] ["_law_script"] (aG Cs):=.XQ
structure Df(K:vc)(mg:cL)(n:Str)(st:Stmt)(ps:e9) where
 a:Addr
 d:FuncData
 f:YK K n n st a d
 m:mg n=some (.ref a)
 b:Binds K d ps []
abbrev Ok(P:Program)(w:World)(base:Heap)(k:Nat){K:vc}{mg:cL}{n:Str}{st:Stmt}{b:e9}(D:Df K mg n st b)(c:Sp):Prop:=Xj P w K mg base X5 k D.a D.d b c
theorem pc{X:Cx}{st:Stmt}{D:Df X.K X.mg n st l}(F:Xj X.prog X.w X.K X.mg X.base X5 k D.a D.d l q)(r:Xy k X.A)(s:PA X (e::c) t)(u:Gl X n:=by rfl)(g:(n==("__debug__":Str))=false:=by decide)(v:starEach (e::c) X.env=(false,eval e X.env)::starEach c X.env:=by rfl)(i:(backTo j (starEach c X.env)).any (·.1)=false:=by rfl):PE X (.Call (.Name n p) (e::c) [] j) (f6 q [] E0 t):=lK F r u D.m D.f.kp D.b .nil fE s g v i
set_option genInjectivity false in
set_option genSizeOfSpec false in
structure Dfs(K:vc)(mg:cL) where
 Mz:Df K mg "is_whole" r9 ["thing","low","high"]
 MW:Df K mg "is_tagged" pE ["thing"]
 Ot:Df K mg "is_node" vw ["thing"]
 Mx:Df K mg "trees_within" lj ["tree"]
 Px:Df K mg "is_tree" vA ["thing"]
 Nu:Df K mg "need_tree" pJ ["tree"]
 OA:Df K mg "walked" zA ["tree"]
 Nb:Df K mg "is_name" vv ["thing"]
 MB:Df K mg "instruction_at" jJ ["cells","place"]
 Pw:Df K mg "is_mark" vq ["thing"]
 MD:Df K mg "is_pattern_part" jm ["thing","deep"]
 MF:Df K mg "marks_in" sj ["pattern","kind"]
 NZ:Df K mg "is_numbered" ju ["pattern","kind"]
 Om:Df K mg "is_pattern" nF ["thing"]
 Ol:Df K mg "is_filling" nE ["thing","pattern"]
 Pu:Df K mg "is_cell" vp ["thing","pattern"]
 M5:Df K mg "are_instructions" i6 ["cells","pattern"]
 NW:Df K mg "is_piece" r8 ["thing"]
 P7:Df K mg "is_set" zz ["thing"]
 Nd:Df K mg "need_set" sr ["some"]
 Nq:Df K mg "may_stand_for" kn ["mark","tree"]
 Nt:Df K mg "matches" vB ["pattern","tree","found"]
 NV:Df K mg "found_in" r6 ["piece","tree"]
 Nk:Df K mg "need_piece" nH ["piece"]
 Na:Df K mg "filled_cell" mi ["cell","nums","ks"]
 N8:Df K mg "jump_over" pF ["many","kinds"]
 MK:Df K mg "jumps_of_pick" km ["second","third"]
 Py:Df K mg "ways_of" vC ["tree","some"]
 OM:Df K mg "length_by" pG ["name","cells","lengths"]
 NR:Df K mg "best_by_ways" i7 ["tree","some","done","bests"]
 Mv:Df K mg "best_covering" kl ["tree","some"]
 MX:Df K mg "length_of" pH ["tree","some"]
 OL:Df K mg "laid_pick" lh ["tree","some","cover","places"]
 On:Df K mg "laid_piece" j8 ["tree","some","cover","places"]
 MH:Df K mg "laid_cells" nG ["tree","some","cover","places"]
 Nr:Df K mg "code_of" vm ["tree","some"]
 Qs:Df K mg "lay" IY ["tree","some"]
 Sz:Df K mg "worth_of_both" pW ["kind","first","second","size"]
 O5:Df K mg "reckoned" su ["tree","args","size"]
 N0:Df K mg "number_told" mj ["behind"]
 Nj:Df K mg "filled_pattern" jI ["pattern","trial"]
 QH:Df K mg "keeps" xC ["piece","trial","size"]
 Nw:Df K mg "rows_of" oO ["choices"]
 O4:Df K mg "args_for" rZ ["ks","size"]
 ME:Df K mg "_law_draw" pB ["_law_script","_law_town","_law_many"]
 MT:Df K mg "_law_pick" pC ["_law_script","_law_town","_law_some"]
 MV:Df K mg "_law_tree" pD ["_law_script","_law_town","_law_room"]
 M9:Df K mg "_law_pieces" mh []
 O2:Df K mg "_law_set" mE ["_law_script","_law_town"]
 MN:Df K mg "_law_which" nC ["_law_e"]
 Nc:Df K mg "_law_ask" rY ["_law_shop","_law_what","_law_one","_law_other"]
 MU:Df K mg "_law_seen" lg ["_law_shop"]
 R4:Df K mg "law" Cs ["_law_script"]
set_option genInjectivity false in
set_option genSizeOfSpec false in
structure Txt(P:Program)(w:World)(K:vc)(mg:cL) extends Dfs K mg where
 OF:Addr
 OJ:FuncData
 Qr:Addr
 RU:Tok
 OK:FunD K "need_size" "need_size" pI OF OJ Qr [.int 10000 RU]
 RQ:mg "need_size"=some (.ref OF)
 Pq:Addr
 Pr:FuncData
 Qd:YK K "failing" "failing" oN Pq Pr
 Sx:mg "failing"=some (.ref Pq)
 Z3:mg "lay_laying"=some (.ref Qs.a)
 Mt:Addr
 Ss:mg "Machine"=some (.ref Mt)
 Xk:Z9 K Mt
 M0:Addr
 M3:FuncData
 Oy:YK K "__init__" "Machine.__init__" i5 M0 M3
 mk_Machine:Mk K Mt M0
 Pf:Addr
 QO:FuncData
 SD:YK K "take" "Machine.take" rV Pf QO
 mt_Machine_take:Meth K Mt "take" Pf
 ND:Addr
 NJ:FuncData
 Pg:YK K "push" "Machine.push" kY ND NJ
 Zu:Meth K Mt "push" ND
 PF:Addr
 Ra:FuncData
 SM:YK K "way" "Machine.way" ua PF Ra
 mt_Machine_way:Meth K Mt "way" PF
 OP:Addr
 Qc:FuncData
 Sr:YK K "finish" "Machine.finish" oM OP Qc
 mt_Machine_finish:Meth K Mt "finish" OP
 Nf:Addr
 Nh:FuncData
 OU:YK K "change" "Machine.change" jG Nf Nh
 Za:Meth K Mt "change" Nf
 NF:Addr
 NK:FuncData
 Ph:YK K "step" "Machine.step" kZ NF NK
 Zv:Meth K Mt "step" NF
 na_cells:XE K Mt "cells"
 na_given:XE K Mt "given"
 na_size:XE K Mt "size"
 ZA:XE K Mt "pile"
 Ys:XE K Mt "place"
 na_kept:XE K Mt "kept"
 na_ended:XE K Mt "ended"
 Mq:Addr
 SJ:mg "Shop"=some (.ref Mq)
 Xh:Z9 K Mq
 M6:Addr
 M8:FuncData
 O9:Addr
 Oc:FunD K "__init__" "Shop.__init__" ki M6 M8 O9 [.none]
 mk_Shop:Mk K Mq M6
 MQ:Addr
 MR:FuncData
 OV:YK K "has_piece" "Shop.has_piece" jH MQ MR
 Yi:Meth K Mq "has_piece" MQ
 Ng:Addr
 Ni:FuncData
 P1:YK K "order" "Shop.order" nB Ng Ni
 Ym:Meth K Mq "order" Ng
 OZ:Addr
 O1:FuncData
 QR:YK K "put" "Shop.put" rX OZ O1
 mt_Shop_put:Meth K Mq "put" OZ
 OC:Addr
 OG:FuncData
 Qm:YK K "drop" "Shop.drop" k9 OC OG
 Z4:Meth K Mq "drop" OC
 Nl:Addr
 Nm:FuncData
 PH:YK K "pieces" "Shop.pieces" mf Nl Nm
 Yc:Meth K Mq "pieces" Nl
 Ow:Addr
 Ox:FuncData
 QQ:YK K "lay" "Shop.lay" rW Ow Ox
 YF:Meth K Mq "lay" Ow
 N6:Addr
 N7:FuncData
 Ql:YK K "code" "Shop.code" pw N6 N7
 Zb:Meth K Mq "code" N6
 OD:Addr
 OH:FuncData
 Qn:YK K "tree" "Shop.tree" px OD OH
 Z5:Meth K Mq "tree" OD
 Nn:Addr
 Np:FuncData
 O7:YK K "is_stale" "Shop.is_stale" kj Nn Np
 Zk:Meth K Mq "is_stale" Nn
 Og:Addr
 Oi:FuncData
 P2:YK K "stale" "Shop.stale" j6 Og Oi
 ZN:Meth K Mq "stale" Og
 Oh:Addr
 Oj:FuncData
 P3:YK K "total" "Shop.total" j7 Oh Oj
 ZO:Meth K Mq "total" Oh
 OE:Addr
 OI:FuncData
 Qo:YK K "twin" "Shop.twin" pA OE OI
 Zc:Meth K Mq "twin" OE
 NG:Addr
 NL:FuncData
 Pi:YK K "__len__" "Shop.__len__" k8 NG NL
 Zw:Meth K Mq "__len__" NG
 XD:XE K Mq "ready"
 XJ:XE K Mq "orders"
 Ry:Tok
 Rp:mg "MOST_PARTS"=some (.int 40 Ry)
 RX:Tok
 RM:mg "MOST_DEEP"=some (.int 8 RX)
 Q6:Tok
 QS:mg "LONGEST_NAME"=some (.int 8 Q6)
 RW:Tok
 Qq:mg "MOST_CELL"=some (.int 99 RW)
 PD:Tok
 Pz:mg "MOST_PATTERN_DEEP"=some (.int 3 PD)
 Sg:Tok
 Sd:mg "MOST_GAP"=some (.int 9999 Sg)
 PZ:Tok
 PX:mg "MOST_PIECE_CELLS"=some (.int 12 PZ)
 Rg:Tok
 PL:mg "MOST_PIECES"=some (.int 16 Rg)
 RZ:Tok
 RN:mg "MOST_NEAR"=some (.int 9 RZ)
 Rx:Tok
 Ro:mg "CALL_CELLS"=some (.int 3 Rx)
 Tj:Tok
 Tg:mg "END"=some (.int 0 Tj)
 Td:Tok
 S8:mg "CALL"=some (.int 15 Td)
 R1:Tok
 SY:mg "MOST_SIZE"=some (.int 10000 R1)
 R0:Tok
 RO:mg "MOST_PILE"=some (.int 64 R0)
 RY:Tok
 SX:mg "MOST_KEPT"=some (.int 16 RY)
 RV:Tok
 Qp:mg "MANY_ARGS"=some (.int 4 RV)
 P6:Tok
 P4:mg "MOST_TRIED_SIZE"=some (.int 5 P6)
 QF:Tok
 O8:mg "BENEATH_HOLES"=some (.int 1 QF)
 Rz:Tok
 Ru:mg "TRIED_SIZE"=some (.int 3 Rz)
 NC:Addr
 Pj:mg "MOST_IN_LEAF"=some (.ref NC)
 Pl:ky K NC TL
 MM:Addr
 NO:mg "TREES_IN_BRANCH"=some (.ref MM)
 NQ:ky K MM TB
 MP:Addr
 Oz:mg "MARK_LENGTHS"=some (.ref MP)
 MS:ky K MP TM
 NY:Addr
 PJ:mg "FILLED_FROM"=some (.ref NY)
 PM:ky K NY TF
 Pe:Addr
 RP:mg "MOST_TOLD"=some (.ref Pe)
 R3:ky K Pe TTO
 MO:Addr
 NM:mg "INSTRUCTIONS"=some (.ref MO)
 NH:iF K (.tup INS) (.ref MO)=true
 PU:Addr
 Se:mg "STRAIGHT"=some (.ref PU)
 Sb:iF K (.tup STR) (.ref PU)=true
 Rn:Addr
 SU:mg "AHEAD"=some (.ref Rn)
 SO:iF K (.tup AHE) (.ref Rn)=true
 QN:Addr
 SE:mg "BEHIND"=some (.ref QN)
 SC:iF K (.tup BEH) (.ref QN)=true
 R9:Addr
 Ta:mg "WAYS"=some (.ref R9)
 S7:iF K (.tup WAY) (.ref R9)=true
 O0:Addr
 Rt:mg "TRIED_NUMS"=some (.ref O0)
 SR:iF K (.tup TRN) (.ref O0)=true
 QG:Addr
 Sh:mg "BASIC"=some (.ref QG)
 SQ:wB K BAS QG=true
 Pk:BA P w K MP ["hole","gap","slot"]
 OY:Addr
 Rr:mg "PieceError"=some (.ref OY)
 OS:Addr
 SH:mg "NoSize"=some (.ref OS)
 OT:Addr
 SI:mg "NoTree"=some (.ref OT)
 OQ:Addr
 SF:mg "NoArgs"=some (.ref OQ)
 OR:Addr
 SG:mg "NoCode"=some (.ref OR)
 Os:Addr
 Sw:mg "NoSteps"=some (.ref Os)
 Qb:Addr
 S9:mg "Late"=some (.ref Qb)
 Oq:Addr
 Sv:mg "NoPiece"=some (.ref Oq)
 Mw:Addr
 Rq:mg "NoSet"=some (.ref Mw)
 Mu:Addr
 Qe:mg "NoCover"=some (.ref Mu)
 Oo:Addr
 Su:mg "NoParts"=some (.ref Oo)
 Mr:Addr
 P5:mg "NoName"=some (.ref Mr)
 Pp:Addr
 SW:mg "Taken"=some (.ref Pp)
 Po:Addr
 SV:mg "Fault"=some (.ref Po)
 N5:Addr
 RK:mg "Broken"=some (.ref N5)
 Sy:uJ K Mu [.type "ValueError",.type "Exception",.type "BaseException",.type "object"] "ValueError.__new__" none=true
 Te:tJ K Mu
 Q5:uJ K Mr [.type "ValueError",.type "Exception",.type "BaseException",.type "object"] "ValueError.__new__" none=true
 MJ:tJ K Mr
 Si:uJ K Mw [.type "ValueError",.type "Exception",.type "BaseException",.type "object"] "ValueError.__new__" none=true
 M4:tJ K Mw
 Of:W.exmOne K (.ref Mr) (.ref OY)=some true
 PV:W.exmOne K (.ref Mw) (.ref OY)=some true
 P0:W.exmOne K (.ref Mu) (.ref Mu)=some true
 O6:W.exmOne K (.ref Mr) (.ref N5)=some false
 QP:W.exmOne K (.ref Mw) (.ref N5)=some false
 Qz:W.kitOne K (.ref Mr) (.ref OS)=some false
 QA:W.kitOne K (.ref Mr) (.ref OT)=some false
 Qw:W.kitOne K (.ref Mr) (.ref OQ)=some false
 Qx:W.kitOne K (.ref Mr) (.ref OR)=some false
 Qi:W.kitOne K (.ref Mr) (.ref Os)=some false
 Rb:W.kitOne K (.ref Mr) (.ref Qb)=some false
 Qh:W.kitOne K (.ref Mr) (.ref Oq)=some false
 QU:W.kitOne K (.ref Mr) (.ref Mw)=some false
 Qf:W.kitOne K (.ref Mr) (.ref Mu)=some false
 Qg:W.kitOne K (.ref Mr) (.ref Oo)=some false
 Qy:W.kitOne K (.ref Mr) (.ref Mr)=some true
 QV:W.kitOne K (.ref Mr) (.ref Pp)=some false
 QT:W.kitOne K (.ref Mr) (.ref Po)=some false
 Qv:W.kitOne K (.ref Mr) (.ref N5)=some false
 Q0:W.kitOne K (.ref Mw) (.ref OS)=some false
 Q3:W.kitOne K (.ref Mw) (.ref OT)=some false
 QX:W.kitOne K (.ref Mw) (.ref OQ)=some false
 QY:W.kitOne K (.ref Mw) (.ref OR)=some false
 QE:W.kitOne K (.ref Mw) (.ref Os)=some false
 Rv:W.kitOne K (.ref Mw) (.ref Qb)=some false
 QD:W.kitOne K (.ref Mw) (.ref Oq)=some false
 Re:W.kitOne K (.ref Mw) (.ref Mw)=some true
 QB:W.kitOne K (.ref Mw) (.ref Mu)=some false
 QC:W.kitOne K (.ref Mw) (.ref Oo)=some false
 QZ:W.kitOne K (.ref Mw) (.ref Mr)=some false
 Rf:W.kitOne K (.ref Mw) (.ref Pp)=some false
 Rc:W.kitOne K (.ref Mw) (.ref Po)=some false
 QW:W.kitOne K (.ref Mw) (.ref N5)=some false
 PB:W.kitOne K (.ref Mr) (.type "ValueError")=some true
 PY:W.kitOne K (.ref Mw) (.type "ValueError")=some true
 MC:mg "len"=none
 Ms:mg "isinstance"=none
 SZ:mg "int"=none
 Tb:mg "bool"=none
 S4:mg "str"=none
 NP:mg "tuple"=none
 Oe:mg "list"=none
 Pt:mg "range"=none
 RS:mg "all"=none
 Th:mg "any"=none
 Ti:mg "set"=none
 S5:mg "sum"=none
 Q4:mg "reversed"=none
 S6:mg "zip"=none
 SL:mg "sorted"=none
 Tc:mg "dict"=none
 Rw:mg "ValueError"=none
section
theorem zs{X:Cx}(i:Nat){a:Pos}(hN:X.N.Nodup)(c:PE X e d)(f:X.N[i]?=some x:=by rfl)(g:Loc X.env.scope x:=by first|exact .inl rfl|exact .inr rfl)(j:swapsWith e (some (.Name x b)) a.line X.env=pure false:=by rfl)(l:X.fn x=true\/X.env.scope.names.lookup x=some .local:=by first|exact .inl rfl|exact .inr rfl|assumption):PS X (.Assign [.Name x b] e a) (lV d (bT i)):=rG hN f g c j l
theorem zg{X:Cx}(i:Nat)(hN:X.N.Nodup)(a:X.N[i]?=some x:=by rfl)(b:Loc X.env.scope x:=by first|exact .inl rfl|exact .inr rfl)(c:X.fn x=true\/X.env.scope.names.lookup x=some .local:=by first|exact .inl rfl|exact .inr rfl|assumption):PG X (.Name x d) (bT i):=cF hN a b c
theorem zr(h:PE X e a):Y0 X [.Return (some e) b] (Gp a):=aR (jX h)
theorem zt(d:Ye X (compareOp c) r)(e:PE X a f)(g:PE X b i)(j:behindInMarks c b=false:=by first|exact fC _|with_unfolding_all rfl):PT X (.Compare a [c] [b] l) (nO (Yn r f i)):=HP d e g j
theorem z1(h:PE X a b)(e:ph a=true:=by rfl):PA X [a] (bM b dC):=aU h aQ e
theorem z2(h:PE X a c)(g:PE X b d)(e:ph a=true:=by rfl)(f:ph b=true:=by rfl):PA X [a,b] (bM c (bM d dC)):=aU h (aU g aQ f) e
theorem z3(h:PE X a d)(g:PE X b l)(i:PE X c m)(e:ph a=true:=by rfl)(f:ph b=true:=by rfl)(j:ph c=true:=by rfl):PA X [a,b,c] (bM d (bM l (bM m dC))):=aU h (aU g (aU i aQ j) f) e
theorem zc(fr:List Nat)(a:e9)(g:PI X (.Name y i) iter j)(l:∀c C s H d,PE (X.X7 b c C a s H d) e m)(hk:b.kind=.function:=by rfl)(n:eV X.N X.env.kindOf b.names [y] fr a=true:=by kernel_rfl)(p:X.calm=true:=by rfl)(q:a.Nodup:=by decide +kernel)(r:a[0]?=some y:=by rfl)(f:∀c C s H d,(X.X7 b c C a s H d).env.scope.names.lookup y=some .local:=by intros;rfl)
  (t:∀x,foldedSetIterable iter X.env x=pure x:=by intro _;rfl):PE X (.ListComp e [⟨.Name y i,iter,[],0⟩] b u) (fO j (ZU [y] fr) (bT 0) eO m):=iJ g hk n p (λ_ _ _ _ _=>cF q r (.inl (f ..)) (.inr (f ..))) (λ_ _ _ _ _=>fF) l t
end
theorem XR{P:Program}{K:vc}{st:Stmt}(F:YK K x b st f e)(S:Xf N d (aG st))
  (h:∀c H Q E,N.Nodup->g c H Q E->c.length=d.length/\∀(a:Value)(A:Around)(outer:List Env)(s:Shared),Xy k (A.deeper (envOfC b (aG st) s.heap.objs.size f a)) ->
   ∃t,Y0 (kF X5 P w K mg base N b (aG st) f a A outer s H E).nox (eY st) t/\t {nx:=λ_ i=>Q .Xi i,rt:=Q} (fK N c) H):Xj P w K mg base X5 (k+1) f e d g :=
 F.ok S (λc H Q E q=>(h c H Q E S.nd q).1) λa A outer s H c Q E j q=>(h c H Q E S.nd q).2 a A outer s j
section
variable{k:Nat}
theorem len1{α:Type}{a:List α}(h:a.length=1):∃b,a=[b]:=match a,h with |[b],_=>⟨b,rfl⟩
theorem ZG{α:Type}{a:List α}(h:a.length=2):∃b c,a=[b,c]:=match a,h with |[b,c],_=>⟨b,c,rfl⟩
theorem len3{α:Type}{a:List α}(h:a.length=3):∃b c d,a=[b,c,d]:=match a,h with |[b,c,d],_=>⟨b,c,d,rfl⟩
theorem len4{α:Type}{a:List α}(h:a.length=4):∃b c d e,a=[b,c,d,e]:=match a,h with |[b,c,d,e],_=>⟨b,c,d,e,rfl⟩
theorem len5{α:Type}{a:List α}(h:a.length=5):∃b c d e a4,a=[b,c,d,e,a4]:=match a,h with |[b,c,d,e,a4],_=>⟨b,c,d,e,a4,rfl⟩
variable{K:vc}
theorem mn(T:Txt P w K mg):Binds K T.M3 ["self","cells","given","size","pile"] []:=T.Oy.binds λ_ _ _ _ _ _ b a=>by obtain⟨_,_,_,_,_,rfl⟩:=len5 a;rfl
theorem qy(T:Txt P w K mg):Binds K T.NJ ["self","number"] []:=T.Pg.binds λ_ _ _ _ _ _ b a=>by obtain⟨_,_,rfl⟩:=ZG a;rfl
theorem nQ(T:Txt P w K mg):Binds K T.Nh ["self","name","number"] []:=T.OU.binds λ_ _ _ _ _ _ b a=>by obtain⟨_,_,_,rfl⟩:=len3 a;rfl
theorem qz(T:Txt P w K mg):Binds K T.NK ["self"] []:=T.Ph.binds λ_ _ _ _ _ _ b a=>by obtain⟨_,rfl⟩:=len1 a;rfl
noncomputable def nW{α:Type}:List α->List α->List α
 |[a],[b]=>[a,b]
 |_,_=>[]
theorem CG(T:Txt P w K mg):Ab K T.Pr ["piece","size"] ["size"] nW nW:=by
 obtain⟨oc,od,kV,doc,n,p,b,ct,c,e,lk,d⟩:=T.Qd.ex;refine⟨λs f g q a=>?_,λ{r f zs g} i j=>?_⟩
 ·unfold nW at a ⊢;split at a
  ·rw[e];exact .of_eq rfl
  ·cases a
 ·cases i with
  |nil=>exact .nil
  |cons l m =>
   cases m with
   |cons _ _=>exact .nil
   |nil =>
    cases j with
    |nil=>exact .nil
    |cons p1 z1 =>
     cases z1 with
     |cons _ _=>exact .nil
     |nil=>exact(.cons l (.cons p1 .nil))
theorem jz(T:Txt P w K mg):Binds K T.MR ["self","name"] []:=T.OV.binds λ_ _ _ _ _ _ b a=>by obtain⟨_,_,rfl⟩:=ZG a;rfl
theorem jO(T:Txt P w K mg):Binds K T.Ni ["self","name"] []:=T.P1.binds λ_ _ _ _ _ _ b a=>by obtain⟨_,_,rfl⟩:=ZG a;rfl
theorem Ag(T:Txt P w K mg):Binds K T.O1 ["self","piece"] []:=T.QR.binds λ_ _ _ _ _ _ b a=>by obtain⟨_,_,rfl⟩:=ZG a;rfl
theorem yd(T:Txt P w K mg):Binds K T.OG ["self","name"] []:=T.Qm.binds λ_ _ _ _ _ _ b a=>by obtain⟨_,_,rfl⟩:=ZG a;rfl
theorem jq(T:Txt P w K mg):Binds K T.Nm ["self"] []:=T.PH.binds λ_ _ _ _ _ _ b a=>by obtain⟨_,rfl⟩:=len1 a;rfl
theorem mq(T:Txt P w K mg):Binds K T.Ox ["self","name","tree"] []:=T.QQ.binds λ_ _ _ _ _ _ b a=>by obtain⟨_,_,_,rfl⟩:=len3 a;rfl
theorem oX(T:Txt P w K mg):Binds K T.N7 ["self","name"] []:=T.Ql.binds λ_ _ _ _ _ _ b a=>by obtain⟨_,_,rfl⟩:=ZG a;rfl
theorem ye(T:Txt P w K mg):Binds K T.OH ["self","name"] []:=T.Qn.binds λ_ _ _ _ _ _ b a=>by obtain⟨_,_,rfl⟩:=ZG a;rfl
theorem pN(T:Txt P w K mg):Binds K T.Np ["self","name"] []:=T.O7.binds λ_ _ _ _ _ _ b a=>by obtain⟨_,_,rfl⟩:=ZG a;rfl
theorem vS(T:Txt P w K mg):Binds K T.Oi ["self"] []:=T.P2.binds λ_ _ _ _ _ _ b a=>by obtain⟨_,rfl⟩:=len1 a;rfl
theorem vT(T:Txt P w K mg):Binds K T.Oj ["self"] []:=T.P3.binds λ_ _ _ _ _ _ b a=>by obtain⟨_,rfl⟩:=len1 a;rfl
theorem oY(T:Txt P w K mg):Binds K T.OI ["self"] []:=T.Qo.binds λ_ _ _ _ _ _ b a=>by obtain⟨_,rfl⟩:=len1 a;rfl
theorem qA(T:Txt P w K mg):Binds K T.NL ["self"] []:=T.Pi.binds λ_ _ _ _ _ _ b a=>by obtain⟨_,rfl⟩:=len1 a;rfl
noncomputable def dH(d:D)(lo a:Int):Bool:=match d with
 | .int i=>decide (lo<=i)&&decide (i<=a)
 |_=>false
def gW(b:List D)(d:D):Prop:=∃x lo a,b=[x,.int lo,.int a]/\d=.bl (dH x lo a)
noncomputable def eZ:D->Bool
 | .tup (.str _::_)=>true
 |_=>false
def p8(a:List D)(d:D):Prop:=∃x,a=[x]/\d=.bl (eZ x)
noncomputable def mH(k:Str)(T:List (Str×KTD.Dat)):Int:=match KTD.datumAt k T with
 |some (.flat (.int i))=>i
 |_=>0
noncomputable def eA:D->Bool
 | .tup (.str k::r)=>if KTD.inKeys k TL=true then decide ((r.length:Int)+1=2)&&dH (r.getD 0 .Xi) 0 (mH k TL)else KTD.inKeys k TB&&decide ((r.length:Int)+1=1+mH k TB)
 |_=>false
def DV(a:List D)(d:D):Prop:=∃x,a=[x]/\d=.bl (eA x)
noncomputable def cT:D->List D
 | .tup (.str k::r)=>if KTD.inKeys k TB=true then r else []
 |_=>[]
def iH(a:List D)(d:D):Prop:=∃k r,a=[.tup (.str k::r)]/\d=.tup (cT (.tup (.str k::r)))
theorem L5{T:List (Str×KTD.Dat)}{k:Str}(g:∀p∈T,∃i,p.2=.flat (.int i))(h:KTD.inKeys k T=true):KTD.datumAt k T=some (.flat (.int (mH k T))):=by
 unfold mH
 cases e:KTD.datumAt k T with
 |none=>exact absurd e (KTD.at_of_mem h)
 |some d =>
  have all:∀(T:List (Str×KTD.Dat)),(∀p∈T,∃i,p.2=.flat (.int i))->KTD.datumAt k T=some d->∃i,d=.flat (.int i):=by
   intro T
   induction T with
   |nil=>intro _ e;simp[KTD.datumAt]at e
   |cons p r j =>
    intro c e;obtain⟨x,y⟩:=p;have a:(if decide (k=x)=true then some y else KTD.datumAt k r)=some d:=e;by_cases f:k=x
    ·rw[TR (TZ f)]at a;cases a;exact c _ Uq
    ·rw[TN (by simp[f])]at a;exact j (λp b=>c p (Ug _ b)) a
  obtain⟨i,rfl⟩:=all T g e;rfl
theorem JA:∀p∈TL,∃i,p.2=.flat (.int i):=by intro p a;simp only[TL,TY,Ul,UX]at a;rcases a with rfl|rfl<;>exact⟨_,rfl⟩
theorem Jy:∀p∈TB,∃i,p.2=.flat (.int i):=by intro p a;simp only[TB,TY,Ul,UX]at a;rcases a with rfl|rfl|rfl|rfl|rfl<;>exact⟨_,rfl⟩
theorem yX(T:Txt P w K mg)  : Ok P w base (k+1) T.Mz (XI K gW):=by
 refine XR T.Mz.f zJ λl H Q E m h=>?_;obtain⟨n,d,g,⟨x,lo,j,rfl,rfl⟩,post⟩:=h;obtain⟨p,q,r,rfl,a,b,e⟩:=kG g;have g1:=b.Xp;have g2:=e.Xp;subst g1 g2;refine⟨rfl,λ_ _ _ _ s=>⟨_,(zr (jt (aL (gC EF) rfl T.Ms bB (bF (pv 0) (bF (hV (v:=.ty "int") rfl T.SZ D1 rfl) aQ))) (jt (Km (aL (gC Hj) rfl T.Ms bB (bF (pv 0) (bF (hV (v:=.ty "bool") rfl T.Tb GP rfl) aQ)))) (iU (zj kS kS (pv 1) (pv 0) (pv 2)))))),?_⟩⟩;refine bL (K:=K) (d:=.bl (dH x lo j)) ?_ post
 cases x with
 |int i=>exact RE.as (dR (cP (aB a)) λ_=>dR (FX (cP (aB a))) λ_=>nv (aB b) (aB a) λ_=>aB e) rfl
 |bl y=>exact RE.as (dR (c:=false) (cP (aB a)) λ_=>RE.as (dR (c:=true) (FX (cP (aB a))) λz=>nomatch z) rfl) rfl
 |Xi=>exact RE.as (dR (c:=true) (cP (aB a)) λz=>nomatch z) rfl
 |str y=>exact RE.as (dR (c:=true) (cP (aB a)) λz=>nomatch z) rfl
 |tup y=>exact RE.as (dR (c:=true) (cP (aB a)) λz=>nomatch z) rfl
 |lst=>exact RE.as (dR (c:=true) (cP (aB a)) λz=>nomatch z) rfl
theorem wQ(T:Txt P w K mg)  : Ok P w base (k+1) T.MW (XI K p8):=by
 refine XR T.MW.f xI λg H Q E j h=>?_;obtain⟨b,d,e,⟨x,rfl,rfl⟩,post⟩:=h;obtain⟨m,rfl,a⟩:=fB e;refine⟨rfl,λ_ _ _ _ n=>⟨_,(zr (jt (aL (gC qP) rfl T.Ms bB (bF (pv 0) (bF (hV (v:=.ty "tuple") rfl T.NP fA rfl) aQ))) (jt (dM rD (aL aT rfl T.MC bY (z1 (pv 0))) aE (fC _)) (iU (aL (gC EG) rfl T.Ms bB (bF (a6 a7 (pv 0) aE) (bF (hV (v:=.ty "str") rfl T.S4 D2 rfl) aQ))))))),?_⟩⟩;refine bL (K:=K) (d:=.bl (eZ x)) ?_ post
 cases x with
 |tup b =>
  cases b with
  |nil=>exact RE.as (dR (c:=false) (cP (aB a)) λ_=>RE.as (dR (c:=true) (eR (eT (aB a)) aF) λz=>nomatch z) rfl) rfl
  |cons y r =>have l:decide ((0:Int)<(((y::r).length:Nat):Int))=true:=TZ (by rw[TQ];lia);refine RE.as (dR (cP (aB a)) λ_=>dR (RE.as (eR (eT (aB a)) aF) (Up D.bl l)) λ_=>cP (bK (k:=0) (aB a) aF (show(y::r)[0]?=some y from rfl))) ?_;cases y<;>rfl
 |int i=>exact RE.as (dR (c:=true) (cP (aB a)) λz=>nomatch z) rfl
 |bl y=>exact RE.as (dR (c:=true) (cP (aB a)) λz=>nomatch z) rfl
 |Xi=>exact RE.as (dR (c:=true) (cP (aB a)) λz=>nomatch z) rfl
 |str y=>exact RE.as (dR (c:=true) (cP (aB a)) λz=>nomatch z) rfl
 |lst=>exact RE.as (dR (c:=true) (cP (aB a)) λz=>nomatch z) rfl
end
section
variable{K:vc}
theorem AN(T:Txt P w K mg)(U:Ok P w base k T.MW (XI K p8))(Y:Ok P w base k T.Mz (XI K gW)):Ok P w base (k+1) T.Ot (XI K DV):=by
 refine XR T.Ot.f Be λvs H Q E nd h=>?_;obtain⟨ds,d,hd,⟨x,rfl,rfl⟩,post⟩:=h;obtain⟨z,rfl,I⟩:=fB hd;refine⟨rfl,λ_ _ _ _ J=>⟨_,(aC (bJ (cJ (bN (pc (D:=T.MW) U J (z1 (pv 0))) (λ_=>rfl))) (zr dN) aO)
 (aC (zs 1 nd (a6 a7 (pv 0) aE))
 (aC (bJ (zt m9 (pv 1) (aZ (v:=.ref T.NC) rfl T.Pj rfl)) (zr (jt (dM cM (aL aT rfl T.MC bY (z1 (pv 0))) aE (fC _)) (iU (pc (D:=T.Mz) Y J (z3 (a6 a7 (pv 0) aE) aE (a6 EN (aZ (v:=.ref T.NC) rfl T.Pj rfl) (pv 1))))))) aO)
 (zr (jt (dM m9 (pv 1) (aZ (v:=.ref T.MM) rfl T.NO rfl) (by with_unfolding_all rfl)) (iU (dM cM (aL aT rfl T.MC bY (z1 (pv 0))) (bS eQ aE (a6 EN (aZ (v:=.ref T.MM) rfl T.NO rfl) (pv 1))) (fC _)))))))),?_⟩⟩
 show let L:=_;let M:=bA (sV _ L _) _;let N:=bA _ M;bA _ N _ _ _;intro L M N;refine aS (K:=K) (b:=!eZ x) (bV (bC (a8 (aA (aB I) aJ) ⟨x,rfl,rfl⟩))) (λc H1 j=>?_) (λc H1 j=>?_)
 ·refine bL (K:=K) (d:=.bl (eA x)) ?_ λv l s q=>post v l (j.trans s) q
  have e:eA x=false:=by
   unfold eA;split
   ·unfold eZ at c;simp at c
   ·rfl
  rw[e];exact fN
 ·have m:=j.dat I;have A:eZ x=true:=by simpa using c
  unfold eZ at A;split at A
  ·rename_i a r;refine cY (K:=K) (d:=.str a) (bK (k:=0) (aB m) aF rfl) λv1 H2 B n=>?_;have O:=B.dat m;have ev:=n.Xz;subst ev;refine aS (K:=K) (b:=KTD.inKeys a TL) (aM (iA (aB n) T.Pl)) (λt H3 g=>?_) (λt H3 g=>?_)
   ·have u:=g.dat O
    have e:eA (.tup (.str a::r))=(decide ((r.length:Int)+1=2)&&dH (r.getD 0 .Xi) 0 (mH a TL)):=by show(if KTD.inKeys a TL=true then _ else _)=_;rw[TR t]
    refine bL (K:=K) (d:=.bl (eA (.tup (.str a::r)))) ?_ λv l s q=>post v l (j.trans (B.trans (g.trans s))) q;rw[e];have C:((((D.str a)::r).length:Nat):Int)=(r.length:Int)+1:=by rw[TQ];lia
    have p:=iY (K:=K) (eT (aB (σ:=(fK ["thing","kind"] [z]).set 1 (some (.str a))) (k:=0) u)) (aF (i:=2));rw[C]at p;refine dR p λhl=>?_;have G:(r.length:Int)+1=2:=T4 hl
    obtain⟨y,er⟩:∃y,r=[y]:=by
     match r,G with
     |[],h=>simp at h
     |[y],_=>exact⟨y,rfl⟩
     |_::_::_,h=>simp at h;lia
    subst er;refine a8 (E:=E0) (R:=gW) (aA (bK (k:=1) (aB u) aF rfl) (aA aF (aA (zw (aB (g.dat n)) T.Pl (by rfl) (L5 JA t)) aJ))) ⟨y,0,mH a TL,rfl,rfl⟩
   ·have u:=g.dat O
    have e:eA (.tup (.str a::r))=(KTD.inKeys a TB&&decide ((r.length:Int)+1=1+mH a TB)):=by show(if KTD.inKeys a TL=true then _ else _)=_;rw[TN (by rw[t];exact TH)]
    refine bL (K:=K) (d:=.bl (eA (.tup (.str a::r)))) ?_ λv l s q=>post v l (j.trans (B.trans (g.trans s))) q;rw[e];have C:((((D.str a)::r).length:Nat):Int)=(r.length:Int)+1:=by rw[TQ];lia
    refine dR (iA (aB (g.dat n)) T.NQ) λcB=>?_;have p:=iY (K:=K) (eT (aB (σ:=(fK ["thing","kind"] [z]).set 1 (some (.str a))) (k:=0) u)) (fI (aF (i:=1)) (zw (aB (σ:=(fK ["thing","kind"] [z]).set 1 (some (.str a))) (k:=1) (g.dat n)) T.NQ (by rfl) (L5 Jy cB)));rw[C]at p;exact p
  ·cases A
theorem pV(T:Txt P w K mg)  : Ok P w base (k+1) T.Mx (XI K iH):=by
 refine XR T.Mx.f p7 λn H Q E p h=>?_;obtain⟨t,d,j,⟨g,r,rfl,rfl⟩,post⟩:=h;obtain⟨l,rfl,i⟩:=fB j;refine⟨rfl,λ_ _ _ _ u=>⟨_,(aC (bJ (zt m9 (a6 a7 (pv 0) aE) (aZ (v:=.ref T.MM) rfl T.NO rfl)) (zr (kU xP (pv 0) (jW aE) xk)) aO)
 (zr (aX aQ))),?_⟩⟩
 refine aS (K:=K) (b:=KTD.inKeys g TB) (aM (iA (bK (k:=0) (aB i) aF rfl) T.NQ)) (λc m e=>?_) (λc m e=>?_)
 ·refine bL (K:=K) (d:=.tup r) (oH (aB (e.dat i))) λv a s q=>post v a (e.trans s) ?_;show Dat K a (.tup (if KTD.inKeys g TB=true then r else [])) v;rw[TR c];exact q
 ·refine bL (K:=K) (σ:=fK ["tree"] [l]) (d:=.tup []) (a9 aJ) λv a s q=>post v a (e.trans s) ?_;show Dat K a (.tup (if KTD.inKeys g TB=true then r else [])) v;rw[TN (by rw[c];exact TH)];exact q
theorem FH{ns:eH}(a:0<=k)(b:k<(ns.length:Int)):∃z,atI (ns.map V.int) k=some (.int z):=by
 have hk:k.toNat<ns.length:=by lia
 refine⟨ns[k.toNat],?_⟩;have e:k=((k.toNat:Nat):Int):=by lia
 have q:atI (ns.map V.int) ((k.toNat:Nat):Int)=some (.int ns[k.toNat]):=jN (by rw[Tv,M1 hk]<;>rfl);rw[<- e]at q;exact q
theorem wL(T:Txt P w K mg)  : Ok P w base (k+1) T.ME (sR K):=by
 refine XR T.ME.f xE λvs H Q E y h=>?_;obtain⟨a,t,d,m,p,q,rest,rfl,J,j,L,i,hm2,post⟩:=h;refine⟨rfl,λ_ _ _ _ hr=>⟨_,(aC (bJ (zt rD (a6 cX (pv 1) aE) aE) (aC (zs 3 y (bS gK (a6 cX (pv 1) aE) (pv 2)))
 (aC (dQ (bS m8 (a6 cX (pv 1) aE) (pv 2)) (FE (pv 1) aE nM))
 (zr (pv 3)))) aO)
 (aC (zs 4 y (a6 cX (pv 1) aE))
 (aC (B9 (pv 1) aE yE aE Av nM)
 (aC (bJ (zt (xc hr) (pv 0) (bZ aQ)) (zr (bS gK (pv 4) (pv 2))) aO)
 (aC (bJ (PW.pt (Kt (zt pj (pv 4) (aL aT rfl T.MC bY (z1 (pv 0)))) (HQ (zt y9 (a6 cX (pv 0) (pv 4)) (bS xh aE aE))))) (aC (dQ (bS gK (bS m8 (a6 cX (pv 0) (pv 4)) (pv 2)) (bS HB (bS xh aE aE) (bS xh aE aE))) (FE (pv 1) aE nM))
 (zr (bS gK (a6 cX (pv 0) (pv 4)) (pv 2)))) aO)
 (aC (zs 5 y (bS gK (bS eQ (bS eQ (bS AU (a6 cX (pv 0) (bS gK (pv 4) (aL aT rfl T.MC bY (z1 (pv 0))))) aE) (bS AU aE (pv 4))) aE) aE))
 (zr (bS gK (bS gK (bS gK (bS xh (pv 5) aE) aE) aE) (pv 2))))))))),?_⟩⟩
 show let M:=bA _ _;let N:=bA _ _;let O:=bA (sV _ N _) M;let U:=bA _ O;let Y:=bA _ U;let u:=bA _ Y;let v:=bA _ _;bA (sV _ v _) u _ _ _;intro M N O U Y u v;refine⟨_,rfl,t,_,1,_,rfl,rfl,Xm.of j,at1,q,0,rfl,rfl,_,rfl,?_⟩;refine tQ (λc=>?_) (λc=>?_)
 ·refine⟨_,rfl,t,_,1,_,rfl,rfl,Xm.of j,at1,_,rfl,q,m,rfl,rfl,i,?_⟩;refine⟨_,rfl,t,_,1,_,rfl,rfl,Xm.of j,at1,_,rfl,q,m,rfl,rfl,⟨i,⋯⟩,?_⟩;refine⟨_,rfl,t,_,1,1,rfl,rfl,j,ix1,?_⟩;refine⟨_,rfl,?_⟩;exact post (q%m) _ p (q / m) (Xv.upd (Xe.refl H).but) aD L (U9 _ ⋯) (UO _ i)
 refine⟨_,rfl,t,_,0,_,rfl,rfl,Xm.of j,at0,?_⟩;refine⟨_,rfl,t,_,0,_,rfl,rfl,WT 0,Xm.of j,rfl,p,1,rfl,rfl,t,_,0,0,rfl,rfl,j,ix0,?_⟩;refine⟨_,rfl,(by show 0<=sizeLine;decide),λl A=>?_⟩;have B:Xv t H (upd H t (.lst ((V.int p::.int q::rest).set 0 (.int (p+1))))):=Xv.upd (Xe.refl H).but;have C:l≠t:=λz=>by rw[z,aD]at A;cases A
 have g:=B.trans (aH A (.lst [])).but
 have r:upd (upd H t (.lst ((V.int p::.int q::rest).set 0 (.int (p+1))))) l (.lst []) t=some (.lst (.int (p+1)::.int q::rest)):=by rw[aI (Tt C)];exact aD
 have b:=(J.but g j).YC;have e:((d.map V.int).length:Int)=(d.length:Int):=by rw[To]
 refine⟨a,l,_,[],d.map D.int,[],rfl,rfl,b,Xm.of aD,gX d,Xd.nil,uR d,(by unfold XA;rfl),(by rw[o8];decide),_,rfl,?_⟩;show(if XO (d.map D.int) []=true then _ else _);rw[Eh];refine tQ (λc0=>?_) (λc0=>?_)
 ·refine⟨_,rfl,_,rfl,p,m,rfl,rfl,i,?_⟩;exact post _ _ (p+1) q g r ⋯ (U9 _ ⋯) (UO _ i)
 have x:(0:Int)<((d.map V.int).length:Int):=by
  rw[e]
  cases d with
  |nil=>exact absurd rfl c0
  |cons n d=>rw[TQ];lia
 refine⟨_,rfl,_,rfl,a,_,rfl,.inl b,p,_,rfl,rfl,_,rfl,?_⟩;refine tQ (λc1=>?_) (λc1=>?_)
 ·have G:p<((d.map V.int).length:Int):=T4 c1;obtain⟨z,I⟩:=FH (ns:=d) L (by rw[<- e];exact G);refine⟨_,rfl,_,rfl,a,_,p,_,rfl,rfl,b,I,10,18,rfl,rfl,⟨⋯,⋯,⋯⟩,z,_,rfl,rfl,_,rfl,?_⟩;refine tQ (λc2=>?_) (λc2=>?_)
  ·refine⟨_,rfl,_,rfl,a,_,p,_,rfl,rfl,b,I,_,rfl,z,m,rfl,rfl,⟨i,⋯⟩,10,60,rfl,rfl,⟨⋯,⋯,⋯⟩,10,60,rfl,rfl,⟨⋯,⋯,⋯⟩,_,_,rfl,rfl,IntMulOk.of_bits ⋯ ⋯,_,_,rfl,rfl,(by show(0:Int)<10 ^ (60:Int).toNat*10 ^ (60:Int).toNat;decide +kernel),?_⟩;refine⟨_,rfl,t,_,1,1,rfl,rfl,r,ix1,?_⟩;refine⟨_,rfl,_,rfl,a,_,p,_,rfl,rfl,(J.but g.upd j).YC,I,_,rfl,z,m,rfl,rfl,i,?_⟩;exact post _ _ (p+1) _ g.upd aD ⋯ (U9 _ ⋯) (UO _ i)
  ·refine⟨_,rfl,_,rfl,_,rfl,a,_,rfl,.inl b,p,_,rfl,rfl,x,?_⟩;obtain⟨z2,s⟩:=FH (ns:=d) (U9 p (by lia:((d.map V.int).length:Int)≠0)) (by rw[<- e];exact UO p x);refine⟨a,_,_,_,rfl,rfl,b,s,z2,1103515245,rfl,rfl,.inr ⟨⋯,⋯⟩,_,rfl,7919,p,rfl,rfl,.inl ⟨⋯,⋯⟩,_,_,rfl,rfl,_,_,rfl,rfl,_,_,rfl,rfl,(by show(0:Int)<2147483647;decide),?_⟩;have m1:=U9 (z2*1103515245+7919*p+12345) (by decide:(2147483647:Int)≠0);have m2:=UO (z2*1103515245+7919*p+12345) (by decide:(0:Int)<2147483647);refine⟨_,rfl,_,5,rfl,rfl,⟨⋯,⋯,⋯⟩,_,_,rfl,rfl,(by show(0:Int)<2147483647;decide),_,_,rfl,rfl,(by show(0:Int)<999983;decide),_,rfl,_,m,rfl,rfl,i,?_⟩;exact post _ _ (p+1) q g r ⋯ (U9 _ ⋯) (UO _ i)
 ·refine⟨_,rfl,_,rfl,_,rfl,a,_,rfl,.inl b,p,_,rfl,rfl,x,?_⟩;obtain⟨z2,s⟩:=FH (ns:=d) (U9 p (by lia:((d.map V.int).length:Int)≠0)) (by rw[<- e];exact UO p x);refine⟨a,_,_,_,rfl,rfl,b,s,z2,1103515245,rfl,rfl,.inr ⟨⋯,⋯⟩,_,rfl,7919,p,rfl,rfl,.inl ⟨⋯,⋯⟩,_,_,rfl,rfl,_,_,rfl,rfl,_,_,rfl,rfl,(by show(0:Int)<2147483647;decide),?_⟩;have m1:=U9 (z2*1103515245+7919*p+12345) (by decide:(2147483647:Int)≠0);have m2:=UO (z2*1103515245+7919*p+12345) (by decide:(0:Int)<2147483647);refine⟨_,rfl,_,5,rfl,rfl,⟨⋯,⋯,⋯⟩,_,_,rfl,rfl,(by show(0:Int)<2147483647;decide),_,_,rfl,rfl,(by show(0:Int)<999983;decide),_,rfl,_,m,rfl,rfl,i,?_⟩;exact post _ _ (p+1) q g r ⋯ (U9 _ ⋯) (UO _ i)
def Bo(K:vc):Sp:=λe H Q _=>∃(a t l:Addr)(f:eH)(b:List V)(p q:Int)(rest:List V),e=[.ref a,.ref t,.ref l]/\Scr K H a f/\Xm K H l b/\l≠t/\0<b.length/\b.length<=1000000 /\
 H t=some (.lst (.int p::.int q::rest))/\0<=p/\∀(i:Nat)(x:V)(c:Hp)(d g:Int),Xv t H c->c t=some (.lst (.int d::.int g::rest))->0<=d->b[i]?=some x->Q x c
theorem wM(T:Txt P w K mg)(i:Ok P w base k T.ME (sR K)):Ok P w base (k+1) T.MT (Bo K):=by
 refine XR T.MT.f xF λG H Q E I h=>?_;obtain⟨a,t,l,j,b,p,q,rest,rfl,m,e,d,n,s,u,v,post⟩:=h;refine⟨rfl,λ_ _ _ _ x=>⟨_,(zr (a6 cX (pv 2) (pc (D:=T.ME) i x (z3 (pv 0) (pv 1) (aL aT rfl T.MC bY (z1 (pv 2))))))),?_⟩⟩;refine⟨_,rfl,_,rfl,_,rfl,_,rfl,l,b,rfl,.inl e,a,t,j,(b.length:Int),p,q,rest,rfl,m,u,v,⋯,⋯,λr y p1 A g B g1 J L=>?_⟩;have c:r.toNat<b.length:=by lia
 have C:r=((r.toNat:Nat):Int):=by lia
 have z:atI b ((r.toNat:Nat):Int)=some b[r.toNat]:=jN (M1 c);rw[<- C]at z;exact⟨l,b,r,b[r.toNat],rfl,rfl,g.YC d e,z,post r.toNat _ y p1 A g B g1 (M1 c)⟩
end
inductive Tr where
 |num (n:Int)
 |arg (k:Int)
 |two (o:Str) (a b:Tr)
 |pick (a b c:Tr)
noncomputable def toD:Tr->D
 | .num n=>.tup [.str "num",.int n]
 | .arg k=>.tup [.str "arg",.int k]
 | .two o a b=>.tup [.str o,toD a,toD b]
 | .pick a b c=>.tup [.str "pick",toD a,toD b,toD c]
def YB:Tr->Prop
 | .num n=>0<=n/\n<=9999
 | .arg k=>0<=k/\k<=3
 | .two o a b=>(o="add"\/o="sub"\/o="mul"\/o="less")/\YB a/\YB b
 | .pick a b c=>YB a/\YB b/\YB c
noncomputable def bE:Tr->Nat
 | .num _=>1
 | .arg _=>1
 | .two _ a b=>max (bE a) (bE b)+1
 | .pick a b c=>max (bE a) (max (bE b) (bE c))+1
noncomputable def aV:Tr->Nat
 | .num _=>1
 | .arg _=>1
 | .two _ a b=>aV a+aV b+1
 | .pick a b c=>aV a+aV b+aV c+1
noncomputable def cU:Tr->List Tr
 | .num _=>[]
 | .arg _=>[]
 | .two _ a b=>[a,b]
 | .pick a b c=>[a,b,c]
noncomputable def aW:Tr->List Tr
 | .num n=>[.num n]
 | .arg k=>[.arg k]
 | .two o a b=>.two o a b::(aW a++aW b)
 | .pick a b c=>.pick a b c::(aW a++aW b++aW c)
theorem bU:∀t:Tr,(aW t).length=aV t
 | .num _=>rfl
 | .arg _=>rfl
 | .two _ a b=>by simp only[aW,aV,TQ,Tq,bU a,bU b]
 | .pick a b c=>by simp only[aW,aV,TQ,Tq,bU a,bU b,bU c]
theorem nU(t:Tr):1<=bE t:=by cases t<;>simp[bE]
theorem Fg{o:Str}(h:o="add"\/o="sub"\/o="mul"\/o="less"):KTD.inKeys o TL=false/\KTD.inKeys o TB=true/\mH o TB=2:=by rcases h with rfl|rfl|rfl|rfl<;>decide +kernel
theorem Dh:KTD.inKeys ("pick":Str) TL=false/\KTD.inKeys ("pick":Str) TB=true/\mH ("pick":Str) TB=3:=⋯
theorem Ff:KTD.inKeys ("num":Str) TL=true/\KTD.inKeys ("num":Str) TB=false/\mH ("num":Str) TL=9999:=⋯
theorem Fe:KTD.inKeys ("arg":Str) TL=true/\KTD.inKeys ("arg":Str) TB=false/\mH ("arg":Str) TL=3:=⋯
theorem rb(h:KTD.inKeys k TL=true):eA (.tup (.str k::r))=(decide ((r.length:Int)+1=2)&&dH (r.getD 0 .Xi) 0 (mH k TL)):=by unfold eA;dsimp only;rw[TR h]
theorem qZ(h:KTD.inKeys k TL=false):eA (.tup (.str k::r))=(KTD.inKeys k TB&&decide ((r.length:Int)+1=1+mH k TB)):=by unfold eA;dsimp only;rw[TN (by rw[h];exact TH)]
theorem yH(h:KTD.inKeys k TB=true):cT (.tup (.str k::r))=r:=by unfold cT;dsimp only;rw[TR h]
theorem om(h:KTD.inKeys k TB=false):cT (.tup (.str k::r))=[]:=by unfold cT;dsimp only;rw[TN (by rw[h];exact TH)]
theorem mX:∀t:Tr,YB t->eA (toD t)=true/\cT (toD t)=(cU t).map toD
 | .num n,h=>by obtain⟨e,d,f⟩:=Ff;refine⟨?_,om d⟩;unfold toD;rw[rb e,f];show(decide ((1:Int)+1=2)&&(decide (0<=n)&&decide (n<=9999)))=true;simp[h.1,h.2]
 | .arg n,h=>by obtain⟨e,d,f⟩:=Fe;refine⟨?_,om d⟩;unfold toD;rw[rb e,f];show(decide ((1:Int)+1=2)&&(decide (0<=n)&&decide (n<=3)))=true;simp[h.1,h.2]
 | .two o a b,h=>by obtain⟨e,d,f⟩:=Fg h.1;refine⟨?_,yH d⟩;unfold toD;rw[qZ e,d,f];rfl
 | .pick a b c,h=>by obtain⟨e,d,f⟩:=Dh;refine⟨?_,yH d⟩;unfold toD;rw[qZ e,d,f];rfl
noncomputable def md:Nat->List (D×Int)->Int->Bool
 |0,_,_=>false
 |_+1,[],_=>true
 |n+1,(d,a)::st,p=>if (decide (40<p+1)||(decide (8<a)||!eA d))=true then false else md n (((cT d).map λx=>(x,a+1)).reverse++st) (p+1)
noncomputable def hU(d:D):Bool:=md 50 [(d,1)] 0
theorem lG{st:List (D×Int)}(c:p+1<=40)(e:a<=8)(b:eA d=true):md (n+1) ((d,a)::st) p=md n (((cT d).map λx=>(x,a+1)).reverse++st) (p+1):=by show(if _=true then false else _)=_;rw[TN];simp[b];lia
theorem iL:∀(t:Tr),YB t->∀(n:Nat)(d:Int)(st:List (D×Int))(p:Int),(bE t:Int)+d<=9->p+(aV t:Int)<=40->md (n+aV t) ((toD t,d)::st) p=md n st (p+aV t)
 | .num m,h,n,d,st,p,e,f=>by obtain⟨e1,e2⟩:=mX (.num m) h;simp only[bE,aV]at e f ⊢;rw[lG ⋯ ⋯ e1,e2];rfl
 | .arg m,h,n,d,st,p,e,f=>by obtain⟨e1,e2⟩:=mX (.arg m) h;simp only[bE,aV]at e f ⊢;rw[lG ⋯ ⋯ e1,e2];rfl
 | .two o a b,h,n,d,st,p,e,f=>by
  obtain⟨e1,e2⟩:=mX (.two o a b) h;have d1:=nU a;simp only[bE,aV]at e f ⊢;have g1:(bE a:Int)+(d+1)<=9:=by lia
  have g2:(bE b:Int)+(d+1)<=9:=by lia
  rw[show n+(aV a+aV b+1)=(n+aV a+aV b)+1 by lia,lG ⋯ ⋯ e1,e2];show md (n+aV a+aV b) ((toD b,d+1)::(toD a,d+1)::st) (p+1)=_;rw[iL b h.2.2 (n+aV a) (d+1) ((toD a,d+1)::st) (p+1) g2 ⋯,iL a h.2.1 n (d+1) st _ g1 ⋯];congr 1;lia
 | .pick a b c,h,n,d,st,p,e,f=>by
  obtain⟨e1,e2⟩:=mX (.pick a b c) h;have d1:=nU a;simp only[bE,aV]at e f ⊢;have g1:(bE a:Int)+(d+1)<=9:=by lia
  have g2:(bE b:Int)+(d+1)<=9:=by lia
  have g3:(bE c:Int)+(d+1)<=9:=by lia
  rw[show n+(aV a+aV b+aV c+1)=(n+aV a+aV b+aV c)+1 by lia,lG ⋯ ⋯ e1,e2];show md (n+aV a+aV b+aV c) ((toD c,d+1)::(toD b,d+1)::(toD a,d+1)::st) (p+1)=_;rw[iL c h.2.2 (n+aV a+aV b) (d+1) _ (p+1) g3 ⋯,iL b h.2.1 (n+aV a) (d+1) _ _ g2 ⋯,iL a h.1 n (d+1) st _ g1 ⋯];congr 1;lia
theorem ql(h:YB t)(a:bE t<=8)(b:aV t<=40):hU (toD t)=true:=by
 have q:=iL t h (50 - aV t) 1 [] 0 ⋯ ⋯;rw[show 50 - aV t+aV t=50 by lia]at q;unfold hU;rw[q];obtain⟨m,e⟩:∃m,50 - aV t=m+1:=⟨50 - aV t - 1,⋯⟩
 rw[e];rfl
section
noncomputable def mu2(a:L2.St)(_:Hp):Nat:=match a[2]? with
 |some (some (V.int p))=>(50 - p).toNat
 |_=>0
def BB(a:List D)(d:D):Prop:=∃x,a=[x]/\d=.bl (hU x)
noncomputable abbrev pr(x:D×Int):D:=.tup [x.1,.int x.2]
variable{K:vc}
theorem uF:∀{as:List D}{c:List V},Xd K H (as++[b]) c->∃d v,c=d++[v]/\Xd K H as d/\Dat K H b v
 |[],c,h=>by obtain⟨v,e,q⟩:=fB h;exact⟨[],v,e,Xd.nil,q⟩
 |a::as,c,h=>by obtain⟨u,r,e,f,g⟩:=h.Xx;obtain⟨d,v,e2,i,j⟩:=uF g;subst e2 e;exact⟨u::d,v,rfl,Xd.cons f i,j⟩
theorem ID(k:Str):mH k TB<=3:=by
 unfold mH;split
 ·rename_i i e;simp only[TB,KTD.datumAt]at e
  repeat' split at e
  all_goals first
   | (cases e;decide)
   |cases e
 ·decide
theorem qU(h:eA d=true):(cT d).length<=3:=by
 unfold eA at h;split at h
 ·rename_i k r;unfold cT;dsimp only;split
  ·rename_i a;split at h
   ·rw[Tw]at h;have z:=T4 h.1;lia
   ·rw[Tw]at h;have z:=T4 h.2;have z2:=ID k;lia
  ·exact Us _
 ·cases h
theorem rf(h:eA d=true):∃k r,d=.tup (.str k::r):=by
 unfold eA at h;split at h
 ·exact⟨_,_,rfl⟩
 ·cases h
theorem AO(T:Txt P w K mg)(Qa:Ok P w base k T.Ot (XI K DV))(MI:Ok P w base k T.Mx (XI K iH)):Ok P w base (k+1) T.Px (XI K BB):=by
 refine XR T.Px.f Bf λvs H Q E B h=>?_;obtain⟨ds,d,C,⟨x,rfl,rfl⟩,post⟩:=h;obtain⟨v0,rfl,h0⟩:=fB C;refine⟨rfl,λ_ _ _ _ hr=>⟨_,(aC (zs 1 B (bZ (z1 (aX (z2 (pv 0) aE)))))
 (aC (zs 2 B aE)
 (aC (rH Ux (bN (pv 1) (λ_=>rfl)) (aC (dQ (Kk Ue F.slot_list_pop F.type_list_pop Kd (pv 1)) (dP rfl (aP (zg 3 B) (aP (zg 4 B) cD))))
 (aC (FL (i:=2) B rfl (Or.inl rfl) aE Av)
 (aC (bJ (PW.pt (fU (zt rD (pv 2) (aZ (v:=.int 40) rfl T.Rp ⟨_,rfl⟩)) (fU (zt rD (pv 4) (aZ (v:=.int 8) rfl T.RM ⟨_,rfl⟩)) (fG (cJ (bN (pc (D:=T.Ot) Qa hr (z1 (pv 3))) (λ_=>rfl))))))) (zr dN) aO)
 (aR (bO (eB Ue U1 Ve fZ (pv 1) (z1 (zc [4] ["within","deep"] (iV (pc (D:=T.Mx) MI hr (z1 (pv 3)))) (λ_ _ _ _ _=>(aX (z2 (pv 0) (bS eQ (pv 1) aE)))))))))))))
 (zr dN)))),?_⟩⟩
 show let XH:=bA _ _;let XT:=bA _ XH;let Yt:=bA _ XT;let YG:=bA (sX _ Yt) _;let ZX:=bA _ YG;bA _ ZX _ _ _;intro XH XT Yt YG ZX;refine dS (oJ (K:=K) (aA (a9 (aA (aB h0) (aA aF aJ))) aJ) λg I H1 s1 hw q1=>?_);have J:H g=none:=s1.free hw;have s1':Xe H (upd H1 g (.lst I)):=s1.trans (aH hw _)
 refine dS (F4 (cQ (Aa (λσ G=>∃(st:List (D×Int))(p:Int)(n:Nat)(u:List V)(z3 z4:Option V),σ=[some v0,some (.ref g),some (.int p),z3,z4]/\G g=some (.lst u)/\Xd K G (st.reverse.map pr) u/\Xe H G/\md n st p=hU x/\0<=p/\p<=40/\(n:Int)=50 - p/\(u.length:Int)<=1+3*p)
  mu2 ?_ ?_ ?_)))
 ·refine⟨[(x,1)],0,50,I,none,none,rfl,aD,(aH hw _).Xo q1,s1',rfl,⋯,⋯,⋯,?_⟩;rw[<- q1.length];simp
 ·rintro σ G ⟨st,p,n,u,z3,z4,rfl,L,C,sG,lp,p0,p1,en,lx⟩;refine⟨_,rfl,!u.isEmpty,.inl ⟨u,Xm.of L,rfl⟩,?_⟩
  cases st with
  |nil =>
   have ex:=C.YJ;subst ex;rw[TN (by simp)];obtain⟨m,rfl⟩:∃m,n=m+1:=⟨n - 1,⋯⟩
   have j:hU x=true:=lp.symm;refine post _ _ sG ?_;rw[j];exact Dat.YE _
  |cons e st =>
   obtain⟨y,t⟩:=e;rw[List.reverse_cons,Uh]at C;obtain⟨s,v,ex,hu,hv⟩:=uF C;subst ex;obtain⟨a,ws,ev,hq,hws⟩:=hv.XC;obtain⟨vy,vd,ew,hy,hdp⟩:=gD hws;have edp:=hdp.Xp;subst edp ew ev;rw[TR (by simp)];refine⟨_,rfl,.inl ⟨rfl,_,Xm.of L⟩,g,s++[.ref a],.ref a,rfl,rfl,L,(by simp),?_⟩;rw[List.dropLast_concat];have bt:Xv g G (upd G g (.lst s)):=Xv.upd (Xe.refl G).but;have g2:bW K G (upd G g (.lst s)):=bt.grow L aD;refine⟨a,[vy,.int t],rfl,bt.sqT L hq,rfl,vy,_,rfl,.int t,_,rfl,rfl,?_⟩;have s2:Xe H (upd G g (.lst s)):=λb o M=>bt b o (aK M J) (sG b o M);have N:=Dat.mono g2 _ hy;have hu2:=Xd.mono g2 _ hu;refine⟨_,rfl,p,1,rfl,rfl,?_⟩;dsimp only;refine aS (K:=K) (b:=decide (40<p+1)||(decide (8<t)||!eA y)) ?_ (λc H3 A=>?_) (λc H3 A=>?_)
   ·exact dO (aM (eR (aB (K:=K) (Dat.Xs (p+1))) aF)) λ_=>dO (aM (eR (aB (K:=K) (Dat.Xs t)) aF)) λ_=>bV (bC (a8 (aA (aB N) aJ) ⟨y,rfl,rfl⟩))
   ·refine post _ _ (s2.trans A) ?_;obtain⟨m,rfl⟩:∃m,n=m+1:=⟨n - 1,⋯⟩
    have j:hU x=false:=by rw[<- lp];show(if (decide (40<p+1)||(decide (8<t)||!eA y))=true then false else _)=false;rw[TR c]
    rw[j];exact Dat.YE _
   ·obtain⟨m,rfl⟩:∃m,n=m+1:=⟨n - 1,⋯⟩
    have j:md m (((cT y).map λx=>(x,t+1)).reverse++st) (p+1)=hU x:=by
     rw[<- lp];show _=(if (decide (40<p+1)||(decide (8<t)||!eA y))=true then false else _)
     rw[TN (by rw[c];exact TH)]
    simp only[V2,decide_eq_false_iff_not,Bool.not_eq_false']at c;obtain⟨c1,c2,c3⟩:=c;obtain⟨kd,r,ey⟩:=rf c3;have few:=qU c3;have O:=A _ _ (show upd G g (.lst s) g=some (.lst s) from aD);refine⟨_,rfl,.inl ⟨rfl,_,Xm.of O⟩,?_⟩;refine uZ (K:=K) (cs:=cT y) (a8 (R:=iH) (aA (aB (A.dat N)) aJ) ⟨kd,r,by rw[ey],by rw[ey]⟩) ⋯ ((cT y).map λz=>pr (z,t+1)) (To _) rfl (λH4 i z vz d s4 hz hi hvz=>?_) (λl U Y hl s5 hl5 hd5=>?_)
    ·rw[Tv,hz]at hi;cases hi;exact a9 (aA (aB hvz) (aA (fI (aB (Dat.Xs t)) aF) aJ))
    ·have hw5:=s5 _ _ O;have ly:U.length=(cT y).length:=by rw[<- hd5.length,To]
     have lu:s.length=st.length:=by rw[<- hu.length,To,V7]
     rw[Tq,Wv]at lx;have b5:Xv g Y (upd Y g (.lst (s++U))):=Xv.upd (Xe.refl Y).but;have g5:bW K Y (upd Y g (.lst (s++U))):=b5.grow hw5 aD;refine⟨g,l,s,U,rfl,rfl,hw5,hl5,cA ⋯,?_⟩;refine⟨⟨_,p+1,m,s++U,_,_,rfl,aD,?_,?_,j,⋯,⋯,⋯,?_⟩,?_⟩
     ·rw[List.reverse_append,List.reverse_reverse,Uh,Vj];exact Xd.append (Xd.mono g5 _ ((A.trans s5).Xo hu2)) (Xd.mono g5 _ hd5)
     ·exactλb o M=>b5 b o (aK M J) (s5 _ _ (A _ _ (s2 _ _ M)))
     ·rw[Tq];lia
     ·show(50 - (p+1)).toNat<(50 - p).toNat;lia
 ·intro σ G Q1 Q2 hQ hc;obtain⟨v,e,k',tr,q⟩:=hc;exact⟨v,e,k',tr,hQ _ _ q⟩
theorem wY(T:Txt P w K mg)(g:Ok P w base k T.Px (XI K BB)):Ok P w base (k+1) T.Nu (XI K λa d=>∃x,a=[x]/\hU x=true/\d=.Xi):=by
 refine XR T.Nu.f xN λp H Q E q h=>?_;obtain⟨a,d,i,⟨x,rfl,j,rfl⟩,post⟩:=h;obtain⟨r,rfl,l⟩:=fB i;refine⟨rfl,λ_ _ _ _ m=>⟨_,(aR (bJ (cJ (bN (pc (D:=T.Px) g m (z1 (pv 0))) (λ_=>rfl))) (aR dA) aO)),?_⟩⟩;refine i4 (b:=!hU x) (bV (bC (a8 (aA (aB l) aJ) ⟨x,rfl,rfl⟩))) (λc n e=>?_) (λc n e=>?_)
 ·rw[j]at c;cases c
 ·exact post _ _ e Dat.Zt
def nP(n:Nat)(a b:List D):Prop:=∃t,a=[toD t]/\YB t/\bE t<=n/\aV t<=200/\b=(aW t).map toD
theorem fY(t:Tr):aW t=t::(cU t).flatMap aW:=by cases t<;>simp[aW,cU]
theorem Hq(h:YB t)(d:x∈cU t):YB x/\bE x+1<=bE t/\aV x+1<=aV t:=by
 cases t with
 |num n=>simp[cU]at d
 |arg n=>simp[cU]at d
 |two o a b =>
  simp only[cU,TY,Ul,UX]at d;rcases d with rfl|rfl
  ·exact⟨h.2.1,by simp only[bE];lia,by simp only[aV];lia⟩
  ·exact⟨h.2.2,by simp only[bE];lia,by simp only[aV];lia⟩
 |pick a b c =>
  simp only[cU,TY,Ul,UX]at d;rcases d with rfl|rfl|rfl
  ·exact⟨h.1,by simp only[bE];lia,by simp only[aV];lia⟩
  ·exact⟨h.2.1,by simp only[bE];lia,by simp only[aV];lia⟩
  ·exact⟨h.2.2,by simp only[bE];lia,by simp only[aV];lia⟩
noncomputable def zW(t:Tr)(i:Nat):List Tr:=t::((cU t).take i).flatMap aW
theorem DL(h:(cU t)[i]?=some x):zW t (i+1)=zW t i++aW x:=by unfold zW;rw[Um,h];simp
theorem GA(t:Tr):zW t (cU t).length=aW t:=by unfold zW;rw[UE,fY]
theorem IC(t:Tr)(i:Nat):(zW t i).length<=aV t:=by
 rw[<- bU t,fY];unfold zW;rw[TQ,TQ]
 have h:((cU t).take i).flatMap aW++((cU t).drop i).flatMap aW=(cU t).flatMap aW:=by rw[<- WN,Vc]
 have a:=Up List.length h;rw[Tq]at a;lia
theorem Iz(t:Tr):∃a r,toD t=.tup (.str a::r):=by cases t<;>exact⟨_,_,rfl⟩
theorem Dk(T:Txt P w K mg)(MI:Ok P w base k T.Mx (XI K iH))(QM:Ok P w base k T.OA (jL K (nP n))):Ok P w base (k+1) T.OA (jL K (nP (n+1))):=by
 refine XR T.OA.f Dz λq H Q E nd h=>?_;obtain⟨ds,es,hd,⟨t,rfl,ht,hn,hz,rfl⟩,post⟩:=h;obtain⟨v0,rfl,h0⟩:=fB hd;refine⟨rfl,λ_ _ _ _ hr=>⟨_,(aC (zs 1 nd (bZ (z1 (pv 0))))
 (aC (gZ Ux rfl (iV (pc (D:=T.Mx) MI hr (z1 (pv 0)))) (zg 2 nd) (aR (bO (eB Ue U1 Ve fZ (pv 1) (z1 (pc (D:=T.OA) QM hr (z1 (pv 2))))))))
 (zr (pv 1)))),?_⟩⟩
 refine dS (oJ (K:=K) (aA (aB h0) aJ) λg l H1 s1 M q1=>?_);have s:H g=none:=s1.free M;have u:Xe H (upd H1 g (.lst l)):=s1.trans (aH M _);obtain⟨kd,r,ek⟩:=Iz t;refine cQ (RE.use (a8 (R:=iH) (d:=.tup (cT (toD t))) (aA (aB (K:=K) (k:=0) (u.dat h0)) aJ) ⟨kd,r,by rw[ek],by rw[ek]⟩) λv4 H4 N q4=>?_);rw[(mX t ht).2]at q4;obtain⟨a,q,ea,hq,v⟩:=q4.XC;subst ea;have hl:=v.length;rw[To]at hl;let O:Nat->L2.St->Hp->Prop:=λi L G=>∃(z:Option V)(c:List V),L=[some v0,some (.ref g),z]/\Xe H G/\XG K G a q/\Xd K G ((cU t).map toD) q/\G g=some (.lst c)/\Xd K G ((zW t i).map toD) c;refine⟨a,rfl,⟨q,hq⟩,wm (xs:=q) O ?_ (λi L G _ ⟨z,c,_,_,p,_⟩=>p) ?_ ?_⟩
 ·exact⟨none,l,rfl,u.trans N,hq,v,N _ _ aD,(show Xd K H4 ([t].map toD) l from ((aH M _).trans N).Xo q1)⟩
 ·rintro i vx L G hi ⟨z,c,rfl,U,y,m,j,e⟩;obtain⟨dx,ex,hx⟩:=m.YQ hi;rw[Tv]at ex
  cases hk:(cU t)[i]? with
  |none=>rw[hk]at ex;cases ex
  |some x =>
   rw[hk]at ex;cases ex;obtain⟨k1,k2,k3⟩:=Hq ht (Ui hk);refine⟨_,rfl,.inl ⟨rfl,_,Xm.of j⟩,_,rfl,[toD x],_,(Xd.cons hx Xd.nil:Xd K G [toD x] [vx]),⟨x,rfl,k1,⋯,⋯,rfl⟩,λr A B C Y _ I=>?_⟩;have J:=C _ _ j;have b6:Xv g B (upd B g (.lst (c++A))):=Xv.upd (Xe.refl B).but;have g6:bW K B (upd B g (.lst (c++A))):=b6.grow J aD;have ly:c.length<=aV t:=by rw[<- e.length,To];exact IC t i
   have lu:A.length=aV x:=by rw[<- I.length,To,bU]
   refine⟨g,r,c,A,rfl,rfl,J,Y,cA ⋯,some vx,c++A,rfl,λb o hb=>b6 b o (aK hb s) (C _ _ (U _ _ hb)),g6.tup _ _ (C.sqT y),Xd.mono g6 _ (C.Xo m),aD,?_⟩;rw[DL hk,Uh];exact Xd.append (Xd.mono g6 _ (C.Xo e)) (Xd.mono g6 _ I)
 ·rintro L G ⟨z,c,rfl,U,y,m,j,e⟩;refine⟨_,rfl,post g c G U j s ?_⟩;rw[<- hl,GA]at e;exact e
end
section
variable{K:vc}{k:Nat}
def sU(K:vc)(n:Nat):Sp:=λf H Q _=>∃(a t:Addr)(g:eH)(room p q c:Int),f=[.ref a,.ref t,.int room]/\Scr K H a g/\H t=some (.lst [.int p,.int q,.int c])/\0<=p/\0<=c/\c<=60/\room<=n/\1<=n /\
 ∀(v:V)(b:Hp)(X:Tr)(e i d:Int),Xv t H b->b t=some (.lst [.int e,.int i,.int d])->0<=e->0<=d->d<=c->YB X->((bE X:Int)=1\/(bE X:Int)<=room)->(aV X:Int)<=1+3*(c - d)->Dat K b (toD X) v->Q v b
noncomputable def zS(a:List Tr):Nat:=(a.map aV).sum
theorem DE(a:List Tr)(x:Tr):zS (a++[x])=zS a+aV x:=by simp[zS]
def IM:Tr->Prop
 | .num n=>0<=n/\n<=9999
 | .arg k=>0<=k/\k<=3
 |_=>False
theorem Hr(h:IM x):YB x/\bE x=1/\aV x=1:=by
 cases x with
 |num n=>exact⟨h,rfl,rfl⟩
 |arg n=>exact⟨h,rfl,rfl⟩
 |two o a b=>exact h.elim
 |pick a b c=>exact h.elim
theorem Gr{nm:Str}{Ts:List Tr}{room:Int}(j:2<=room)(ok:∀x∈Ts,YB x/\((bE x:Int)=1\/(bE x:Int)<=room - 1))(h:(nm="pick"/\Ts.length=3)\/((nm="add"\/nm="sub"\/nm="mul"\/nm="less")/\Ts.length=2)) :
  ∃X:Tr,toD X=.tup (.str nm::Ts.map toD)/\YB X/\(bE X:Int)<=room/\aV X=1+zS Ts:=by
 rcases h with⟨rfl,d⟩|⟨g,d⟩
 ·match Ts,d with
  |[a,b,c],_ =>
   have e:=ok a (by simp);have f:=ok b (by simp);have i:=ok c (by simp);refine⟨.pick a b c,rfl,⟨e.1,f.1,i.1⟩,?_,?_⟩
   ·simp only[bE];lia
   ·simp[aV,zS];lia
 ·match Ts,d with
  |[a,b],_ =>
   have e:=ok a (by simp);have f:=ok b (by simp);refine⟨.two nm a b,rfl,⟨g,e.1,f.1⟩,?_,?_⟩
   ·simp only[bE];lia
   ·simp[aV,zS];lia
theorem wO(T:Txt P w K mg)(ML:Ok P w base k T.ME (sR K))(N1:Ok P w base k T.MT (Bo K))(OB:Ok P w base k T.MV (sU K n)):Ok P w base (k+1) T.MV (sU K (n+1)):=by
 refine XR T.MV.f xH λvs H Q E nd h=>?_;obtain⟨a,t,ns,room,p,q,c,rfl,hS,hT,hp,hc,hc2,hroom,_,post⟩:=h;refine⟨rfl,λ_ _ _ _ hr=>⟨_,(aC (zs 3 nd (aX (z2 aN (pc (D:=T.ME) ML hr (z3 (pv 0) (pv 1) aE)))))
 (aC (bJ (zt cM (pc (D:=T.ME) ML hr (z3 (pv 0) (pv 1) aE)) aE) (aR (zs 3 nd (aX (z2 aN (pc (D:=T.MT) N1 hr (z3 (pv 0) (pv 1) (bZ (aU aE (aU aE (aU aE (aU aE (aU aE (aU aE (aU aE (aU aE aQ))))))))))))))) aO)
 (aC (bJ (PW.pt (fU (zt pj (pv 2) aE) (fU (zt pj (a6 cX (pv 1) aE) aE) (fG (zt cM (pc (D:=T.ME) ML hr (z3 (pv 0) (pv 1) aE)) aE))))) (zr (pv 3)) aO)
 (aC (B9 (pv 1) aE yE aE JW nM)
 (aC (zs 4 nd (pc (D:=T.MT) N1 hr (z3 (pv 0) (pv 1) (bZ (aU aN (aU aN (aU aN (aU aN (aU aN (aU aN aQ))))))))))
 (aC (zs 5 nd (ni (zt cM (pv 4) aN) aE aE))
 (zr (bS B6 (aX (z1 (pv 4))) (bR dJ rfl T.NP fA (z1 (zc [0,1,2] ["_law_k","_law_script","_law_town","_law_room"] (uW rfl T.Pt (z1 (pv 5))) (λ_ _ _ _ _=>(pc (D:=T.MV) OB hr (z3 (pv 1) (pv 2) (bS Fq (pv 3) aE))))))))))))))),?_⟩⟩
 show let XH:=_;let XT:=bA _ XH;let Yt:=bA _ XT;let YG:=bA _ Yt;let ZX:=bA _ YG;let z_6:=_;let z_7:=bA (sV _ z_6 _) ZX;bA _ z_7 _ _ _;intro XH XT Yt YG ZX z_6 z_7;refine dS ⟨_,rfl,_,rfl,a,t,ns,4,p,q,[.int c],rfl,hS,hT,hp,⋯,⋯,λr1 H1 p1 q1 b1 t1 g1 r1a r1b=>⟨cA (by simp),λl1 hl1=>?_⟩⟩;have ne1:l1≠t:=λz=>by rw[z,t1]at hl1;cases hl1
 have b2:=b1.trans (aH hl1 (.tup [.str "arg",.int r1])).but;have t2:upd H1 l1 (.tup [.str "arg",.int r1]) t=some (.lst [.int p1,.int q1,.int c]):=by rw[aI (Tt ne1)];exact t1
 have d2:Dat K (upd H1 l1 (.tup [.str "arg",.int r1])) (toD (.arg r1)) (.ref l1):=Dat.tupI (XG.of aD) (Xd.cons (Dat.XN _) (Xd.cons (Dat.Xs _) Xd.nil));refine xx (λσ G=>∃(vL:V)(L:Tr)(p q:Int),σ=[some (.ref a),some (.ref t),some (.int room),some vL,none,none]/\Xv t H G/\G t=some (.lst [.int p,.int q,.int c])/\0<=p/\IM L/\Dat K G (toD L) vL) ?_ (λg=>?_)
 case refine_2 =>
  refine⟨_,rfl,_,rfl,a,t,ns,2,p1,q1,[.int c],rfl,hS.but b2 hT,t2,g1,⋯,⋯,λr3 H3 p3 q3 b3 U g3 r3a r3b=>?_⟩;refine⟨rfl,_,rfl,?_⟩;refine tQ (λcc=>?_) (λcc=>?_)
  ·refine⟨_,rfl,_,rfl,cA ⋯,λl s=>?_⟩;have I:l≠t:=λz=>by rw[z,U]at s;cases s
   have b4:=(b2.trans b3).trans (aH s (.lst [.int 0,.int 1,.int 2,.int 5,.int 99,.int 100,.int 1234,.int 9999])).but;refine⟨a,t,l,ns,_,p3,q3,[.int c],rfl,hS.but b4 hT,Xm.of aD,I,⋯,⋯,(by rw[aI (Tt I)];exact U),g3,λi x H5 p5 q5 b5 t5 g5 hx=>⟨cA (by simp),λl6 hl6=>?_⟩⟩;have ne6:l6≠t:=λz=>by rw[z,t5]at hl6;cases hl6
   obtain⟨m,em,hm⟩:∃m:Int,x=.int m/\0<=m/\m<=9999:=by have:=Ui hx;simp only[TY,Ul,UX]at this;rcases this with e|e|e|e|e|e|e|e<;>exact⟨_,e,⋯,⋯⟩
   subst em;exact g _ _ ⟨.ref l6,.num m,p5,q5,rfl,(b4.trans b5).trans (aH hl6 _).but,(by rw[aI (Tt ne6)];exact t5),g5,hm,Dat.tupI (XG.of aD) (Xd.cons (Dat.XN _) (Xd.cons (Dat.Xs _) Xd.nil))⟩
  ·exact g _ _ ⟨.ref l1,.arg r1,p3,q3,rfl,b2.trans b3,U,g3,⟨r1a,⋯⟩,Dat.mono (b3.grow t2 U) _ d2⟩
 rintro σ G ⟨vL,L,p,q,rfl,bG,tG,hp,hL,dL⟩;obtain⟨okL,dpL,szL⟩:=Hr hL
 have J:∀(y:Hp)(M O:Int),Xv t G y->y t=some (.lst [.int M,.int O,.int c])->0<=M->Q vL y:=λy M O b' t' g' =>
  post vL y L M O c (bG.trans b') t' g' hc (WT _) okL (.inl ⋯) ⋯ (Dat.mono (b'.grow tG t') _ dL)
 refine cQ ⟨_,rfl,room,2,rfl,rfl,_,rfl,?_⟩;refine tQ (λc1=>?_) (λc1=>?_)
 ·exact⟨_,rfl,J G p q (Xe.refl G).but tG hp⟩
 have c1':¬ room<2:=UP (VU.mpr c1);refine⟨_,rfl,t,_,2,_,rfl,rfl,Xm.of tG,at2,c,1,rfl,rfl,_,rfl,?_⟩;refine tQ (λc2=>?_) (λc2=>?_)
 ·exact⟨_,rfl,J G p q (Xe.refl G).but tG hp⟩
 have c2':¬ c<1:=UP (VU.mpr c2);refine⟨_,rfl,_,rfl,a,t,ns,4,p,q,[.int c],rfl,hS.but bG hT,tG,hp,⋯,⋯,λr3 H3 p3 q3 b3 U g3 r3a r3b=>?_⟩;refine⟨rfl,_,rfl,?_⟩;refine tQ (λc3=>?_) (λc3=>?_)
 ·exact⟨_,rfl,J H3 p3 q3 b3 U g3⟩
 refine⟨_,rfl,t,_,2,_,rfl,rfl,⋯,Xm.of U,rfl,c,1,rfl,rfl,t,_,2,2,rfl,rfl,U,ix2,?_⟩;have b4:Xv t H (upd H3 t (.lst [.int p3,.int q3,.int (c - 1)])):=Xv.upd (bG.trans b3);refine⟨_,rfl,_,rfl,cA ⋯,λl s=>?_⟩;have I:l≠t:=λz=>by rw[z,aD]at s;cases s
 have b5:=b4.trans (aH s (.lst [.str "add",.str "add",.str "sub",.str "mul",.str "less",.str "pick"])).but;refine⟨a,t,l,ns,_,p3,q3,[.int (c - 1)],rfl,hS.but b5 hT,Xm.of aD,I,⋯,⋯,(by rw[aI (Tt I)];exact aD),g3,λi x H5 p5 q5 b6 t5 g5 hx=>?_⟩;have bH:=b5.trans b6
 obtain⟨j,en,hnm⟩:∃j:Str,x=.str j/\(j="pick"\/(j="add"\/j="sub"\/j="mul"\/j="less")):=by
  have:=Ui hx;simp only[TY,Ul,UX]at this;rcases this with e|e|e|e|e|e
  ·exact⟨_,e,.inr (.inl rfl)⟩
  ·exact⟨_,e,.inr (.inl rfl)⟩
  ·exact⟨_,e,.inr (.inr (.inl rfl))⟩
  ·exact⟨_,e,.inr (.inr (.inr (.inl rfl)))⟩
  ·exact⟨_,e,.inr (.inr (.inr (.inr rfl)))⟩
  ·exact⟨_,e,.inl rfl⟩
 subst en
 obtain⟨d,r,hif⟩:∃d:Nat,((j="pick"/\d=3)\/((j="add"\/j="sub"\/j="mul"\/j="less")/\d=2))/\∀(A B:Prop),(A->d=3->False)->True:=by
  rcases hnm with h|h
  ·exact⟨3,.inl ⟨h,rfl⟩,λ_ _ _=>trivial⟩
  ·exact⟨2,.inr ⟨h,rfl⟩,λ_ _ _=>trivial⟩
 clear hif;dsimp only[bT];refine xx (λσ G=>σ=[some (.ref a),some (.ref t),some (.int room),some vL,some (.str j),some (.int d)]/\G=H5) ?_ (λg=>?_)
 case refine_2 =>
  refine⟨_,rfl,rfl,_,rfl,?_⟩;refine tQ (λcc=>?_) (λcc=>?_)
  ·have e:V.str j=V.str "pick":=T4 cc;injection e with e;rcases r with⟨_,rfl⟩|⟨h,_⟩
   ·exact g _ _ ⟨rfl,rfl⟩
   ·subst e;exact absurd h ⋯
  ·have e:¬ V.str j=V.str "pick":=UP (VU.mpr cc);rcases r with⟨h,_⟩|⟨_,rfl⟩
   ·exact absurd (by rw[h]) e
   ·exact g _ _ ⟨rfl,rfl⟩
 rintro σ G ⟨rfl,rfl⟩;have many_le:2<=d/\d<=3:=by rcases r with⟨_,h⟩|⟨_,h⟩<;>lia
 refine⟨_,rfl,cA (by simp),λe he=>?_⟩;have nee:e≠t:=λz=>by rw[z,t5]at he;cases he
 have t6:upd G e (.tup [.str j]) t=some (.lst [.int p5,.int q5,.int (c - 1)]):=by rw[aI (Tt nee)];exact t5
 have b7:=bH.trans (aH he (.tup [.str j])).but;dsimp only;refine iX ?_
 refine A0 d (λR hR=>⟨_,rfl,hR⟩) ⋯ rfl
  (λl i y=>∃(Y:List Tr)(C:List V)(M O c':Int),Xv t (upd G e (.tup [.str j])) y/\y t=some (.lst [.int M,.int O,.int c'])/\0<=M/\0<=c'/\c'<=c - 1/\y l=some (.lst C)/\Y.length=i/\(∀x∈Y,YB x/\((bE x:Int)=1\/(bE x:Int)<=room - 1))/\(zS Y:Int)<=i+3*(c - 1 - c')/\Xd K y (Y.map toD) C) (λl s=>?_) (λl i y s hi pn=>?_) (λl y s pn=>?_)
 ·have nl:l≠t:=λz=>by rw[z,t6]at s;cases s
  exact⟨[],[],p5,q5,c - 1,(aH s _).but,(by rw[aI (Tt nl)];exact t6),g5,⋯,WT _,aD,rfl,(λx hx=>absurd hx (by simp)),by simp[zS],Xd.nil⟩
 ·obtain⟨Y,C,M,O,c',bt,tt,gp,gc,gc2,hl',lT,N,sm,dT⟩:=pn;have nl:l≠t:=λz=>by rw[z,t6]at s;cases s
  have ly:C.length=i:=by rw[<- dT.length,To,lT]
  refine⟨_,rfl,_,rfl,_,rfl,room,1,rfl,rfl,a,t,ns,room - 1,M,O,c',rfl,hS.but (b7.trans bt) hT,tt,gp,gc,⋯,⋯,⋯,λv G2 X p2 q2 c2 bb t2 g2 h2 h2' okX dpX szX dX=>?_⟩;have hl2:=bb l _ nl hl';have g1:bW K y G2:=bb.grow tt t2;have g3:bW K G2 (upd G2 l (.lst (C++[v]))):=Xv.grow (t:=l) (Xv.upd (Xe.refl G2).but) hl2 aD;refine⟨C,hl2,bP ⋯,⟨_,rfl⟩,Y++[X],C++[v],p2,q2,c2,?_,?_,g2,h2,⋯,aD,by rw[Tq,lT];rfl,?_,?_,?_⟩
  ·intro b o hb hbo;have nb:b≠l:=aK hbo s;rw[aI nb];exact bb b o hb (bt b o hb hbo)
  ·rw[aI (Tt nl)];exact t2
  ·intro x hx;rcases Uw.mp hx with hx|hx
   ·exact N x hx
   ·rw[Uj.mp hx];exact⟨okX,dpX⟩
  ·rw[DE];lia
  ·rw[Uh];exact Xd.append (Xd.mono g3 _ (Xd.mono g1 _ dT)) (Xd.cons (Dat.mono g3 _ dX) Xd.nil)
 ·obtain⟨Y,C,M,O,c',bt,tt,gp,gc,gc2,hl',lT,N,sm,dT⟩:=pn;have ly:C.length=d:=by rw[<- dT.length,To,lT]
  refine⟨l,C,rfl,.inl ⟨Xm.of hl',λu hu=>?_⟩⟩;have nu:u≠t:=λz=>by rw[z,tt]at hu;cases hu
  have se:XG K (upd y u (.tup C)) e [.str j]:=(aH hu _).sqT (bt.sqT t6 (XG.of aD));refine⟨e,u,_,C,rfl,rfl,se,XG.of aD,(by simp),cA (by rw[Wv];lia),λz=>?_,λ_ x hx=>?_⟩
  ·rw[z]at ly;simp at ly;lia
  ·obtain⟨X,eX,okX,dpX,szX⟩:=Gr (nm:=j) (Ts:=Y) (room:=room) ⋯ N (r.elim (λh=>.inl ⟨h.1,⋯⟩) (λh=>.inr ⟨h.1,⋯⟩));have nx:x≠t:=λz=>by rw[z,aI (Tt nu),tt]at hx;cases hx
   have s8:=(aH hu (.tup C)).trans (aH hx (.tup ([.str j]++C)));refine post _ _ X M O c' ((b7.trans bt).trans s8.but) (s8 _ _ tt) gp gc ⋯ okX (.inr dpX) ⋯ ?_;rw[eX];exact Dat.tupI (XG.of aD) (Xd.cons (Dat.XN _) (s8.Xo dT))
end
section
variable{k:Nat}
theorem jr(h:(!b)=true):b=false:=by cases b with|true=>cases h|false=>rfl
theorem fX(h:(!b)=false):b=true:=by cases b with|true=>rfl|false=>cases h
noncomputable def sgn(c:Nat):Bool:=(!decide (([c]:List Nat)<("a":Str).cps.toList))&&!decide (("z":Str).cps.toList<([c]:List Nat))
noncomputable def dW:D->Bool
 | .str x=>(decide (1<=(x.length:Int))&&decide ((x.length:Int)<=8))&&(x.cps.toList.map sgn).all id
 |_=>false
def IS:D->Prop
 | .str x=>x.length<=sizeLine
 |_=>True
def lW(a:List D)(d:D):Prop:=∃x,a=[x]/\IS x/\d=.bl (dW x)
theorem Az(h:∀y,x≠.str y):pQ x "str"=false:=by
 cases x with
 |str y=>exact absurd rfl (h y)
 |_=>rfl
theorem E7(h:∀y,x≠.str y):dW x=false:=by
 cases x with
 |str y=>exact absurd rfl (h y)
 |_=>rfl
variable{K:vc}
theorem AM(T:Txt P w K mg)  : Ok P w base (k+1) T.Nb (XI K lW):=by
 refine XR T.Nb.f Bd λI H Q E J h=>?_;obtain⟨L,d,C,⟨x,rfl,u,rfl⟩,post⟩:=h;obtain⟨M,rfl,t⟩:=fB C;refine⟨rfl,λ_ _ _ _ N=>⟨_,(aC (bJ (PW.pt (fU (cJ (bN (aL (gC EG) rfl T.Ms bB (bF (pv 0) (bF (hV (v:=.ty "str") rfl T.S4 D2 rfl) aQ))) (λ_=>rfl))) (fG (cJ (rJ kS kS aE (aL vW rfl T.MC bY (z1 (pv 0))) (aZ (v:=.int 8) rfl T.QS ⟨_,rfl⟩)))))) (zr dN) aO)
 (zr (aL (kD rfl) rfl T.RS qD (z1 (zc [] ["sign"] (Kp (pv 0)) (λ_ _ _ _ _=>(zj Fo Fo aN (pv 0) aN))))))),?_⟩⟩
 by_cases A:∃y,x=.str y
 ·obtain⟨y,rfl⟩:=A;have u:y.length<=sizeLine:=u;refine aS (K:=K) (b:=!(decide (1<=(y.length:Int))&&decide ((y.length:Int)<=8))) ?_ (λc B g=>?_) (λc B g=>?_)
  ·exact RT.as (dO (bV (bC (cP (aB t)))) λ_=>bV (aM (nv (p:=λi j=>decide (i<=j)) (r:=λi j=>decide (i<=j)) aF (Ie (aB t) u) λ_=>aF))) rfl
  ·refine bL (K:=K) (d:=.bl (dW (.str y))) ?_ λv l s q=>post v l (g.trans s) q
   have e:dW (.str y)=false:=by show(_&&_)=false;have m:=jr c;rw[m,VD]
   rw[e];exact fN
  ·have m:=fX c
   have O:y.cps.size<=8:=by rw[Tw]at m;have:=T4 m.2;have e:y.length=y.cps.size:=rfl;lia
   refine bL (K:=K) (d:=.bl (dW (.str y))) ?_ λv l s q=>post v l (g.trans s) q
   have e:dW (.str y)=(y.cps.toList.map sgn).all id:=by show(_&&_)=_;rw[m,Va]
   rw[e];refine nq (bs:=y.cps.toList.map sgn) (KB (aB (g.dat t)) ⋯ _ (by simp) rfl (λU i c d Y G a=>?_));rw[Tv,Tv]at a;have z:y.cps.toList[i]?=some c:=by simpa using G
   rw[z]at a;cases a;refine RE.as (Dp (p:=λi j=>!decide (j.cps.toList<i.cps.toList)) (q':=λi j=>!decide (j.cps.toList<i.cps.toList)) aY (aB (Dat.XN _)) λ_=>aY) rfl
 ·have n:∀y,x≠.str y:=λy e=>A ⟨y,e⟩;refine aS (K:=K) (b:=true) ?_ (λc B g=>?_) (λc=>nomatch c)
  ·exact RT.as (dO (b:=true) (c:=true) (RT.as (bV (bC (cP (aB t)))) (by rw[Az n];rfl)) λc=>nomatch c) rfl
  ·refine bL (K:=K) (d:=.bl (dW x)) ?_ λv l s q=>post v l (g.trans s) q;rw[E7 n];exact fN
theorem JB:∀p∈TM,∃i,p.2=.flat (.int i):=by intro p a;simp only[TM,TY,Ul,UX]at a;rcases a with rfl|rfl|rfl<;>exact⟨_,rfl⟩
noncomputable def fM:D->Bool
 | .tup (.str k::r)=>decide ((r.length:Int)+1=sY k TM 0)&&(dH (r.getD 0 .Xi) 0 1&&(!decide (k="gap")||dH (r.getD 1 .Xi) 0 9999))
 |_=>false
theorem kN(k:Str)(r:List D):fM (.tup (.str k::r))=(decide ((r.length:Int)+1=sY k TM 0)&&(dH (r.getD 0 .Xi) 0 1&&(!decide (k="gap")||dH (r.getD 1 .Xi) 0 9999))):=rfl
def IG(a:List D)(d:D):Prop:=∃x,a=[x]/\d=.bl (fM x)
theorem yK(k:Str):sY k TM 0=0\/sY k TM 0=2\/(k="gap"/\sY k TM 0=3):=by
 unfold sY;by_cases a:k="hole"
 ·subst a;exact .inr (.inl rfl)
 by_cases b:k="gap"
 ·subst b;exact .inr (.inr ⟨rfl,rfl⟩)
 by_cases c:k="slot"
 ·subst c;exact .inr (.inl rfl)
 have e:KTD.datumAt k TM=none:=by simp[TM,KTD.datumAt,a,b,c]
 rw[e];exact .inl rfl
theorem K0(h:eZ x=false):fM x=false:=by
 unfold eZ at h;unfold fM;split at h
 ·cases h
 ·rename_i a
  first
   |rfl
   | (split
      ·rename_i k r;exact absurd rfl (a k r)
      ·rfl)
theorem AL(T:Txt P w K mg)(U:Ok P w base k T.MW (XI K p8))(G:Ok P w base k T.Mz (XI K gW)):Ok P w base (k+1) T.Pw (XI K IG):=by
 refine XR T.Pw.f Bc λvs H Q E nd h=>?_;obtain⟨ds,d,Y,⟨x,rfl,rfl⟩,post⟩:=h;obtain⟨I,rfl,p⟩:=fB Y;refine⟨rfl,λ_ _ _ _ A=>⟨_,(aC (bJ (PW.pt (fU (cJ (bN (pc (D:=T.MW) U A (z1 (pv 0))) (λ_=>rfl))) (fG (zt pq (aL aT rfl T.MC bY (z1 (pv 0))) (uV (aZ (v:=.ref T.MP) rfl T.Oz rfl) (a6 a7 (pv 0) aE) aE ⟨rfl,rfl,rfl,rfl⟩))))) (zr dN) aO)
 (aC (bJ (cJ (bN (pc (D:=T.Mz) G A (z3 (a6 a7 (pv 0) aE) aE aE)) (λ_=>rfl))) (zr dN) aO)
 (zr (FC (dM pq (a6 a7 (pv 0) aE) aN (fC _)) (iU (pc (D:=T.Mz) G A (z3 (a6 a7 (pv 0) aE) aE (aZ (v:=.int 9999) rfl T.Sd ⟨_,rfl⟩)))))))),?_⟩⟩
 show let J:=bA _ _;bA _ J _ _ _;intro J
 cases t:eZ x with
 |false =>
  refine aS (K:=K) (b:=true) ?_ (λc L j=>?_) (λc=>nomatch c)
  ·exact RT.as (dO (b:=true) (c:=true) (RT.as (bV (bC (a8 (aA (aB p) aJ) ⟨x,rfl,rfl⟩))) (by rw[t];rfl)) λc=>nomatch c) rfl
  ·refine bL (K:=K) (d:=.bl (fM x)) ?_ λv l s q=>post v l (j.trans s) q;rw[K0 t];exact fN
 |true =>
  have m:=t;unfold eZ at m;split at m
  ·rename_i a r;have el:((((D.str a)::r).length:Nat):Int)=(r.length:Int)+1:=by rw[TQ];lia
   refine aS (K:=K) (b:=!decide ((r.length:Int)+1=sY a TM 0)) ?_ (λc L j=>?_) (λc L j=>?_)
   ·have M:=mD (K:=K) (eT (aB (σ:=fK ["thing"] [I]) (k:=0) p)) (vi (i:=0) T.MS (bK (k:=0) (aB (σ:=fK ["thing"] [I]) (k:=0) p) aF rfl) aF JB);rw[el]at M;exact RT.as (dO (b:=false) (RT.as (bV (bC (a8 (aA (aB p) aJ) ⟨_,rfl,rfl⟩))) (by rw[t];rfl)) λ_=>aM M) (U6 _)
   ·refine bL (K:=K) (d:=.bl (fM (.tup (.str a::r)))) ?_ λv l s q=>post v l (j.trans s) q
    have e:fM (.tup (.str a::r))=false:=by rw[kN];rw[show decide ((r.length:Int)+1=sY a TM 0)=false from jr c,VD]
    rw[e];exact fN
   ·have B:decide ((r.length:Int)+1=sY a TM 0)=true:=fX c;have n:=T4 B;have N:=j.dat p
    obtain⟨y,g,C⟩:∃y g,r=y::g:=by
     cases r with
     |nil=>rcases yK a with h|h|⟨_,h⟩<;>(rw[h]at n;simp at n)
     |cons y g=>exact⟨y,g,rfl⟩
    subst C;refine aS (K:=K) (b:=!dH y 0 1) (bV (bC (a8 (R:=gW) (aA (bK (k:=1) (aB N) aF rfl) (aA aF (aA aF aJ))) ⟨y,0,1,rfl,rfl⟩))) (λc2 H2 u=>?_) (λc2 H2 u=>?_)
    ·refine bL (K:=K) (d:=.bl (fM (.tup (.str a::y::g)))) ?_ λv l s q=>post v l (j.trans (u.trans s)) q
     have e:fM (.tup (.str a::y::g))=false:=by rw[kN,B,Va];show(dH y 0 1&&_)=false;rw[show dH y 0 1=false from jr c2,VD]
     rw[e];exact fN
    ·refine bL (K:=K) (d:=.bl (fM (.tup (.str a::y::g)))) ?_ λv l s q=>post v l (j.trans (u.trans s)) q;have O:=u.dat N
     have e:fM (.tup (.str a::y::g))=(!decide (a="gap")||dH (g.getD 0 .Xi) 0 9999):=by rw[kN,B,Va];show(dH y 0 1&&(!decide (a="gap")||dH (g.getD 0 .Xi) 0 9999))=_;rw[show dH y 0 1=true from fX c2,Va]
     rw[e];refine Ck (xq (bK (k:=0) (aB O) aF rfl) aY) λc3=>?_;have hk:a="gap":=by simpa using c3
     obtain⟨z,C⟩:∃z,g=[z]:=by
      rcases yK a with h|h|⟨_,h⟩
      ·rw[h]at n;simp at n;lia
      ·rw[hk]at h;exact absurd h ⋯
      ·rw[h]at n
       match g,n with
       |[z],_=>exact⟨z,rfl⟩
       |[],h=>simp at h
       |_::_::_,h=>simp at h;lia
     subst C;exact a8 (E:=E0) (R:=gW) (aA (bK (k:=2) (aB O) aF rfl) (aA aF (aA aF aJ))) ⟨z,0,9999,rfl,rfl⟩
  ·cases m
noncomputable def mL:D->Bool
 | .tup (.str k::_)=>decide (k∈(["arg","pick"]:e9))
 |_=>false
noncomputable def ZH:Nat->D->Bool
 |0,_=>false
 |n+1,d=>fM d||(eA d&&(!mL d&&((cT d).map (ZH n)).all id))
def Rpp(n:Nat)(a:List D)(d:D):Prop:=∃x,a=[x,.int (4 - (n:Int))]/\d=.bl (ZH n x)
def IH:Nat->List D->D->Prop
 |0=>λ_ _=>False
 |n+1=>Rpp n
theorem iT(T:Txt P w K mg)(U:Ok P w base k T.Pw (XI K IG))(Y:Ok P w base k T.Ot (XI K DV))(MI:Ok P w base k T.Mx (XI K iH))(NA:Ok P w base k T.MD (XI K (IH n))):Ok P w base (k+1) T.MD (XI K (Rpp n)):=by
 refine XR T.MD.f mG λvs H Q E nd h=>?_;obtain⟨ds,d,hd,⟨x,rfl,rfl⟩,post⟩:=h;obtain⟨v0,v1,rfl,a,g⟩:=gD hd;refine⟨rfl,λ_ _ _ _ A=>⟨_,(aC (bJ (zt rD (pv 1) (aZ (v:=.int 3) rfl T.Pz ⟨_,rfl⟩)) (zr dN) aO)
 (aC (bJ (bN (pc (D:=T.Pw) U A (z1 (pv 0))) (λ_=>rfl)) (zr dN) aO)
 (aC (bJ (PW.pt (fU (cJ (bN (pc (D:=T.Ot) Y A (z1 (pv 0))) (λ_=>rfl))) (fG (zt lJ (a6 a7 (pv 0) aE) (aX (z2 aN aN)))))) (zr dN) aO)
 (zr (aL (kD rfl) rfl T.RS qD (z1 (zc [1] ["within","deep"] (iV (pc (D:=T.Mx) MI A (z1 (pv 0)))) (λ_ _ _ _ _=>(pc (D:=T.MD) NA A (z2 (pv 0) (bS eQ (pv 1) aE))))))))))),?_⟩⟩
 show let I:=bA _ _;let J:=bA _ I;bA _ J _ _ _;intro I J
 cases n with
 |zero =>refine aS (K:=K) (b:=true) (RT.as (aM (eR (p:=λi j=>decide (j<i)) (aB g) aF)) rfl) (λc H1 m=>?_) (λc=>nomatch c);exact bL (K:=K) (d:=.bl false) fN λv l s q=>post v l (m.trans s) q
 |succ n =>
  refine aS (K:=K) (b:=false) (RT.as (aM (eR (p:=λi j=>decide (j<i)) (aB g) aF)) (TU ⋯)) (λc=>nomatch c) (λc H1 m=>?_);have a:=m.dat a;have g:=m.dat g;refine aS (K:=K) (b:=fM x) (bC (a8 (aA (aB a) aJ) ⟨x,rfl,rfl⟩)) (λc L t=>?_) (λc L t=>?_)
  ·refine bL (K:=K) (d:=.bl true) fN λv l s q=>post v l (m.trans (t.trans s)) ?_;have e:ZH (n+1) x=true:=by unfold ZH;rw[c];rfl
   rw[e];exact q
  have a:=t.dat a;have g:=t.dat g
  have e1:ZH (n+1) x=(eA x&&(!mL x&&((cT x).map (ZH n)).all id)):=by show(fM x||_)=_;rw[c,U6]
  cases u:eA x with
  |false =>refine aS (K:=K) (b:=true) (RT.as (dO (b:=true) (c:=true) (RT.as (bV (bC (a8 (aA (aB a) aJ) ⟨x,rfl,rfl⟩))) (by rw[u];rfl)) λc=>nomatch c) rfl) (λc M y=>?_) (λc=>nomatch c);refine bL (K:=K) (d:=.bl false) fN λv l s q=>post v l (m.trans (t.trans (y.trans s))) ?_;rw[e1,u];exact q
  |true =>
   obtain⟨N,r,B⟩:=rf u;have few:=qU u;have C:Dat K L (.tup (.str N::r)) v0:=by rw[<- B];exact a
   refine aS (K:=K) (b:=mL x) (RT.as (dO (b:=false) (RT.as (bV (bC (a8 (aA (aB a) aJ) ⟨x,rfl,rfl⟩))) (by rw[u];rfl)) λ_=>aM (A2 (ys:=["arg","pick"]) (bK (k:=0) (aB C) aF rfl) (a9 (aA aY (aA aY aJ))))) (by rw[B];exact U6 _)) (λc3 M y=>?_) (λc3 M y=>?_)
   ·refine bL (K:=K) (d:=.bl false) fN λv l s q=>post v l (m.trans (t.trans (y.trans s))) ?_;rw[e1,u,c3];exact q
   ·have g:=y.dat g;refine bL (K:=K) (d:=.bl (((cT x).map (ZH n)).all id)) (nq (rP (cs:=cT x) (a8 (R:=iH) (aA (aB (y.dat a)) aJ) ⟨N,r,by rw[B],by rw[B]⟩) ⋯ _ (by simp) rfl (λH4 i z vz d s4 hz O G=>?_))) λv l s q=>post v l (m.trans (t.trans (y.trans s))) ?_
    ·rw[Tv,Tv,hz]at O;cases O;exact a8 (E:=E0) (R:=Rpp n) (aA (aB G) (aA (RE.as (fI (aB (s4.dat g)) aF) (Up D.int (by lia:(4:Int) - ((n+1:Nat):Int)+1=4 - (n:Int)))) aJ)) ⟨z,rfl,rfl⟩
    ·rw[e1,u,c3];exact q
noncomputable def nY(k:Str):D->Bool
 | .tup (.str h::_)=>decide (h=k)
 |_=>false
noncomputable def cZ:Nat->Str->D->List D
 |0,_,_=>[]
 |n+1,k,d=>if nY k d=true then [d]else (cT d).flatMap (cZ n k)
def iN(n:Nat)(a b:List D):Prop:=∃x k,a=[x,.str k]/\n<=3/\ZH n x=true/\b=cZ n k x
theorem yL(h:fM d=true):∃k r,d=.tup (.str k::r):=by
 unfold fM at h;split at h
 ·exact⟨_,_,rfl⟩
 ·cases h
theorem E6{k:Str}{r:List D}(h:fM (.tup (.str k::r))=true):k="hole"\/k="gap"\/k="slot":=by
 rw[kN,Tw]at h;have a:=T4 h.1;unfold sY at a;by_cases b:k="hole"
 ·exact .inl b
 by_cases c:k="gap"
 ·exact .inr (.inl c)
 by_cases d:k="slot"
 ·exact .inr (.inr d)
 have e:KTD.datumAt k TM=none:=by simp[TM,KTD.datumAt,b,c,d]
 rw[e]at a;dsimp only at a;lia
theorem tj{k:Str}(h:k="hole"\/k="gap"\/k="slot"):KTD.inKeys k TB=false/\KTD.inKeys k TL=false:=by rcases h with rfl|rfl|rfl<;>decide +kernel
theorem C7(h:fM d=true):cT d=[]:=by obtain⟨k,r,rfl⟩:=yL h;exact om (tj (E6 h)).1
theorem AX(h:ZH n d=true):∃k r,d=.tup (.str k::r):=by
 cases n with
 |zero=>cases h
 |succ n =>
  have h':(fM d||(eA d&&(!mL d&&((cT d).map (ZH n)).all id)))=true:=h;rw[Bool.or_eq_true]at h';rcases h' with h' |h'
  ·exact yL h'
  ·rw[Tw]at h';exact rf h'.1
theorem xl(h:ZH (n+1) d=true):(cT d).length<=3/\∀c∈cT d,ZH n c=true:=by
 have h':(fM d||(eA d&&(!mL d&&((cT d).map (ZH n)).all id)))=true:=h;rw[Bool.or_eq_true]at h';rcases h' with h' |h'
 ·rw[C7 h'];exact⟨by simp,λc a=>absurd a (by simp)⟩
 ·rw[Tw,Tw]at h';refine⟨qU h'.1,λc a=>?_⟩;have z:=U4.mp h'.2.2 (ZH n c) (UB.mpr ⟨c,a,rfl⟩);exact z
theorem BR{α β:Type}(f:α->List β)(m:Nat):∀l:List α,(∀x∈l,(f x).length<=m)->(l.flatMap f).length<=l.length*m
 |[],_=>by simp
 |x::l,h=>by have b:=h x (by simp);have c:=BR f m l λy a=>h y (by simp[a]);rw[W9,Tq,TQ,Nat.succ_mul];lia
theorem qX(k:Str):∀(n:Nat)(d:D),ZH n d=true->(cZ n k d).length<=3 ^ n
 |0,d,h=>by cases h
 |n+1,d,h=>by
  unfold cZ;split
  ·have:1<=3 ^ (n+1):=Nat.one_le_iff_ne_zero.mpr (by simp);simpa using this
  ·obtain⟨a,b⟩:=xl h;have z:=BR (cZ n k) (3 ^ n) (cT d) λc e=>qX k n c (b c e);have z2:(cT d).length*3 ^ n<=3*3 ^ n:=Nat.mul_le_mul_right _ a;rw[Xc,Nat.mul_comm (3 ^ n) 3];lia
theorem p3(h:n<=3):3 ^ n<=27:=by
 match n,h with
 |0,_=>decide
 |1,_=>decide
 |2,_=>decide
 |3,_=>decide
theorem yY(T:Txt P w K mg)(MI:Ok P w base k T.Mx (XI K iH))(MY:Ok P w base k T.MF (jL K (iN n))):Ok P w base (k+1) T.MF (jL K (iN (n+1))):=by
 refine XR T.MF.f zK λu H Q E nd h=>?_;obtain⟨ds,es,hd,⟨x,e,rfl,hn3,hp,rfl⟩,post⟩:=h;obtain⟨v0,v1,rfl,v,N⟩:=gD hd;refine⟨rfl,λ_ _ _ _ hr=>⟨_,(aC (bJ (zt cM (a6 a7 (pv 0) aE) (pv 1)) (zr (bZ (z1 (pv 0)))) aO)
 (aC (zs 2 nd (bZ aQ))
 (aC (gZ Ux rfl (iV (pc (D:=T.Mx) MI hr (z1 (pv 0)))) (zg 3 nd) (aR (bO (eB Ue U1 Ve fZ (pv 2) (z1 (pc (D:=T.MF) MY hr (z2 (pv 3) (pv 1))))))))
 (zr (pv 2))))),?_⟩⟩
 obtain⟨kd,r,O⟩:=AX hp;have h0':Dat K H (.tup (.str kd::r)) v0:=by rw[<- O];exact v
 have eh:nY e x=decide (kd=e):=by rw[O];rfl
 obtain⟨few,kok⟩:=xl hp;have cap:=qX e (n+1) x hp;have cap3:=p3 hn3;refine aS (K:=K) (b:=nY e x) (RT.as (aM (cC (bK (k:=0) (aB h0') aF rfl) (aB N))) eh.symm) (λc H1 q=>?_) (λc H1 q=>?_)
 ·refine gS ((iE (K:=K) (es:=[x]) (aA (aB (q.dat v)) aJ)).use λl g H2 hl U hy hd2=>?_);refine post l g H2 (q.trans U) hy (q.free hl) ?_;unfold cZ;rw[TR c];exact hd2
 have em:cZ (n+1) e x=(cT x).flatMap (cZ n e):=by show(if nY e x=true then _ else _)=_;rw[TN (by rw[c];exact TH)]
 rw[em]at cap post;have v:=q.dat v;have N:=q.dat N;have hk1:=N.Xz;refine jk (K:=K) (es:=[]) (iE aJ) λs ys0 H2 hw U hy0 hd0=>?_;have y:H s=none:=q.free hw;refine cQ (RE.use (a8 (R:=iH) (d:=.tup (cT x)) (aA (aB (K:=K) (k:=0) (U.dat v)) aJ) ⟨kd,r,by rw[O],by rw[O]⟩) λv4 H4 s4 q4=>?_);obtain⟨a,u,ea,hq,A⟩:=q4.XC;subst ea;have hl:=A.length;let J_1:Nat->L2.St->Hp->Prop:=λi Y G=>∃(z:Option V)(g:List V),Y=[some v0,some v1,some (.ref s),z]/\Xe H G/\XG K G a u/\Xd K G (cT x) u/\G s=some (.lst g)/\Xd K G (((cT x).take i).flatMap (cZ n e)) g;refine⟨a,rfl,⟨u,hq⟩,wm (xs:=u) J_1 ?_ (λi Y G _ ⟨z,g,_,_,p,_⟩=>p) ?_ ?_⟩
 ·exact⟨none,ys0,rfl,q.trans (U.trans s4),hq,A,s4 _ _ hy0,s4.Xo hd0⟩
 ·rintro i vx Y G hi ⟨z,g,rfl,sG,B,t,m,j⟩;obtain⟨C,ex,hx⟩:=t.YQ hi;have hpx:=kok C (Ui ex);subst hk1;refine⟨_,rfl,.inl ⟨rfl,_,Xm.of m⟩,_,rfl,_,rfl,[C,.str e],_,(Xd.cons hx (Xd.cons (Dat.XN _) Xd.nil):Xd K G [C,.str e] [vx,.str e]),⟨C,e,rfl,⋯,hpx,rfl⟩,λr us I J hr5 _ L=>?_⟩;have M:=J _ _ m;have b6:Xv s I (upd I s (.lst (g++us))):=Xv.upd (Xe.refl I).but;have g6:bW K I (upd I s (.lst (g++us))):=b6.grow M aD
  have et:((cT x).take (i+1)).flatMap (cZ n e)=((cT x).take i).flatMap (cZ n e)++cZ n e C:=by rw[Um,ex];simp
  have lt:(((cT x).take (i+1)).flatMap (cZ n e)).length<=27:=by
   have e2:((cT x).take (i+1)).flatMap (cZ n e)++((cT x).drop (i+1)).flatMap (cZ n e)=(cT x).flatMap (cZ n e):=by rw[<- WN,Vc]
   have:=Up List.length e2;rw[Tq]at this;lia
  have ly:=j.length;have lu:=L.length;rw[et,Tq]at lt;refine⟨s,r,g,us,rfl,rfl,M,hr5,cA ⋯,some vx,g++us,rfl,λb o hb=>b6 b o (aK hb y) (J _ _ (sG _ _ hb)),g6.tup _ _ (J.sqT B),Xd.mono g6 _ (J.Xo t),aD,?_⟩;rw[et];exact Xd.append (Xd.mono g6 _ (J.Xo j)) (Xd.mono g6 _ L)
 ·rintro Y G ⟨z,g,rfl,sG,B,t,m,j⟩;refine⟨_,rfl,post s g G sG m y ?_⟩;rw[<- hl,UE]at j;exact j
noncomputable def KS:D->D
 | .tup (_::y::_)=>y
 |_=>.Xi
theorem AF{k:Str}{r:List D}(h:fM (.tup (.str k::r))=true):∃i a,r=.int i::a:=by
 rw[kN,Tw,Tw]at h;have c:=h.2.1
 cases r with
 |nil=>cases c
 |cons y a =>
  have b:dH y 0 1=true:=c
  cases y with
  |int i=>exact⟨i,a,rfl⟩
  |_=>cases b
theorem kO{k:Str}(hk:k="hole"\/k="gap"\/k="slot"):∀(n:Nat)(x m:D),ZH n x=true->m∈cZ n k x->∃i r,m=.tup (.str k::.int i::r)
 |0,x,m,h,_=>by cases h
 |n+1,x,m,h,a=>by
  unfold cZ at a;split at a
  ·rename_i f;have e:m=x:=by simpa using a
   subst e;obtain⟨b,r,rfl⟩:=AX h;have g:b=k:=T4 f;subst g;have h':(fM (.tup (.str b::r))||(eA (.tup (.str b::r))&&_))=true:=h;rw[Bool.or_eq_true]at h';rcases h' with h' |h'
   ·obtain⟨i,j,rfl⟩:=AF h';exact⟨i,j,rfl⟩
   ·rw[Tw]at h';have z:=h'.1;rw[qZ (tj hk).2,(tj hk).1,VD]at z;cases z
  ·obtain⟨c,l,d⟩:=Wt.mp a;exact kO hk n c m ((xl h).2 c l) d
noncomputable def Hv(k:Str)(x:D):Bool:=XO ((cZ 3 k x).map KS) ((List.range (cZ 3 k x).length).map λi:Nat=>D.int i)
def Ju(a:List D)(d:D):Prop:=∃x k,a=[x,.str k]/\ZH 3 x=true/\(k="hole"\/k="gap"\/k="slot")/\d=.bl (Hv k x)
theorem qj(b:H l=some (.lst a))(e:σ[k]?=some (some (.ref l)):=by rfl):RE K (Zm (λc H Q=>∃p a,c=[.ref p]/\(Xm K H p a\/XG K H p a)/\Q (.int a.length) H) (bM (cV k) dC)) σ H (.int a.length):=λd s Q q =>
 ⟨.ref l,e,l,a,rfl,.inl (Xm.of (s _ _ b)),q _ _ (Xe.refl _) (Dat.Xs _)⟩
theorem qY(h:∀d∈l,∃i,d=.int i):XA l=true/\Xn l=0:=by
 induction l with
 |nil=>exact⟨by unfold XA;rfl,by unfold Xn;rfl⟩
 |cons d l a =>
  obtain⟨i,rfl⟩:=h d (by simp);obtain⟨b,c⟩:=a λd e=>h d (by simp[e]);refine⟨?_,?_⟩
  ·unfold XA;rw[b];unfold Yj;rfl
  ·unfold Xn;rw[c];unfold gE;rfl
theorem rq(T:Txt P w K mg)(L:Ok P w base k T.MF (jL K (iN 3))):Ok P w base (k+1) T.NZ (XI K Ju):=by
 refine XR T.NZ.f sJ λvs H Q E M h=>?_;obtain⟨ds,d,N,⟨x,b,rfl,p,hk,rfl⟩,post⟩:=h;obtain⟨v0,v1,rfl,O,U⟩:=gD N;refine⟨rfl,λ_ _ _ _ A=>⟨_,(aC (iW (i:=2) (own:=["mark"]) (fr:=[]) (N':=["mark"]) (cI (pc (D:=T.MF) L A (z2 (pv 0) (pv 1)))) rfl (by show eV ["pattern","kind","numbers"] (λx=>(aG ju).names.lookup x) _ _ _ _=true;decide +kernel) rfl (λ_ _ _ _ _=>(cF (i:=0) (by show List.Nodup [("mark":Str)];decide +kernel) rfl (Or.inl rfl))) (λ_ _ _ _ _=>fF) (λ_ _ _ _ _=>(a6 (r:=rK K) a7 (pv 0) aE)) M rfl rfl rfl)
 (zr (dM (xc A) (pv 2) (bR (hE rfl) rfl T.Oe fW (z1 (bR mP rfl T.Pt mO (z1 (aL aT rfl T.MC bY (z1 (pv 2))))))) (fC _)))),?_⟩⟩
 have e:=qX b 3 x p;refine jk (K:=K) (es:=(cZ 3 b x).map KS) (HW (cs:=cZ 3 b x) (jZ (R:=iN 3) (aA (aB O) (aA (aB U) aJ)) ⟨x,b,rfl,⋯,p,rfl⟩) (T8 e ⋯) _ (by simp) rfl (λH1 i c v d s1 B C Y=>?_)) λl q H2 hl s2 G g=>?_
 ·rw[Tv,B]at C;cases C;obtain⟨j,r,rfl⟩:=kO hk 3 x c p (Ui B);exact bK (k:=1) (aB Y) aF rfl
 have s:=g.length;rw[To]at s;refine⟨_,rfl,(nj (K:=K) (n:=q.length) (qj (k:=2) G) (by rw[<- s];exact T8 e ⋯)).use λl2 t H3 hl2 u y z=>?_⟩
 have I:∀d∈(cZ 3 b x).map KS,∃i,d=.int i:=λd a=>by obtain⟨m,J,rfl⟩:=UB.mp a;obtain⟨j,r,rfl⟩:=kO hk 3 x m p J;exact⟨j,rfl⟩
 have i2:∀d∈(List.range q.length).map (λi:Nat=>D.int i),∃i,d=.int i:=λd a=>by obtain⟨m,J,rfl⟩:=UB.mp a;exact⟨_,rfl⟩
 refine⟨l,l2,q,t,_,_,rfl,rfl,Xm.of (u _ _ G),Xm.of y,u.Xo g,z,(qY I).1,(qY i2).1,by rw[(qY I).2];decide,?_⟩;refine post _ _ (s2.trans u) ?_;unfold Hv;rw[s];exact Dat.YE _
noncomputable def xi(x:D):Bool:=ZH 3 x&&(!nY "hole" x&&((["hole","gap","slot"]:e9).map λk=>Hv k x).all id)
def Jv(a:List D)(d:D):Prop:=∃x,a=[x]/\d=.bl (xi x)
theorem tW(T:Txt P w K mg)(u:Ok P w base k T.MD (XI K (Rpp 3)))(y:Ok P w base k T.NZ (XI K Ju)):Ok P w base (k+1) T.Om (XI K Jv):=by
 refine XR T.Om.f uf λJ H Q E L h=>?_;obtain⟨M,d,z,⟨x,rfl,rfl⟩,post⟩:=h;obtain⟨A,rfl,g⟩:=fB z;refine⟨rfl,λ_ _ _ _ m=>⟨_,(aC (bJ (PW.pt (fU (cJ (bN (pc (D:=T.MD) u m (z2 (pv 0) aE)) (λ_=>rfl))) (fG (zt cM (a6 a7 (pv 0) aE) aN)))) (zr dN) aO)
 (zr (aL (kD rfl) rfl T.RS qD (z1 (zc [0] ["kind","thing"] (Kq (aZ (v:=.ref T.MP) rfl T.Oz rfl)) (λ_ _ _ _ _=>(pc (D:=T.NZ) y m (z2 (pv 1) (pv 0))))))))),?_⟩⟩
 cases a:ZH 3 x with
 |false =>refine aS (K:=K) (b:=true) (RT.as (dO (b:=true) (c:=true) (RT.as (bV (bC (a8 (R:=Rpp 3) (aA (aB g) (aA aF aJ)) ⟨x,rfl,rfl⟩))) (by rw[a];rfl)) λc=>nomatch c) rfl) (λc N B=>?_) (λc=>nomatch c);refine bL (K:=K) (d:=.bl false) fN λv e s q=>post v e (B.trans s) ?_;unfold xi;rw[a];exact q
 |true =>
  obtain⟨C,r,n⟩:=AX a;have l:Dat K H (.tup (.str C::r)) A:=by rw[<- n];exact g
  refine aS (K:=K) (b:=nY "hole" x) (RT.as (dO (b:=false) (RT.as (bV (bC (a8 (R:=Rpp 3) (aA (aB g) (aA aF aJ)) ⟨x,rfl,rfl⟩))) (by rw[a];rfl)) λ_=>aM (cC (bK (k:=0) (aB l) aF rfl) aY)) (by rw[n];exact U6 _)) (λc G j=>?_) (λc G j=>?_)
  ·refine bL (K:=K) (d:=.bl false) fN λv e s q=>post v e (j.trans s) ?_;unfold xi;rw[a,c];exact q
  ·refine bL (K:=K) (d:=.bl (((["hole","gap","slot"]:e9).map λk=>Hv k x).all id)) (nq (KC T.Pk ⋯ _ rfl rfl (λO i p d I hk t=>?_))) λv e s q=>post v e (j.trans s) ?_
   ·rw[Tv,Tv,hk]at t;cases t;refine a8 (E:=E0) (R:=Ju) (aA (aB (I.dat (j.dat g))) (aA (aB (Dat.XN p)) aJ)) ⟨x,p,rfl,a,?_,rfl⟩;have:=Ui hk;simpa using this
   ·unfold xi;rw[a,c];exact q
noncomputable def vJ(k:Str)(T:List (Str×KTD.Dat)):Str:=match KTD.datumAt k T with|some (.flat (.str z))=>z|_=>""
theorem Jz{k:Str}(h:KTD.inKeys k TF=true):KTD.datumAt k TF=some (.flat (.str (vJ k TF))):=by
 unfold vJ;by_cases a:k="low"
 ·subst a;rfl
 by_cases b:k="high"
 ·subst b;rfl
 by_cases c:k="arg"
 ·subst c;rfl
 have e:KTD.inKeys k TF=false:=by simp[TF,KTD.inKeys,a,b,c]
 rw[e]at h;cases h
noncomputable def qI(p:D):D->Bool
 | .tup (.str k::r)=>decide ((r.length:Int)+1=2)&&(KTD.inKeys k TF&&dH (r.getD 0 .Xi) 0 (((cZ 3 (vJ k TF) p).length:Int) - 1))
 |_=>false
theorem yu(p:D)(k:Str)(r:List D):qI p (.tup (.str k::r))=(decide ((r.length:Int)+1=2)&&(KTD.inKeys k TF&&dH (r.getD 0 .Xi) 0 (((cZ 3 (vJ k TF) p).length:Int) - 1))):=rfl
def DT(a:List D)(d:D):Prop:=∃x p,a=[x,p]/\ZH 3 p=true/\d=.bl (qI p x)
theorem G8(h:eZ x=false):qI p x=false:=by
 unfold eZ at h;unfold qI;split at h
 ·cases h
 ·rename_i a
  first
   |rfl
   | (split
      ·rename_i k r;exact absurd rfl (a k r)
      ·rfl)
theorem tV(T:Txt P w K mg)(C:Ok P w base k T.MW (XI K p8))(G:Ok P w base k T.MF (jL K (iN 3)))(I:Ok P w base k T.Mz (XI K gW)):Ok P w base (k+1) T.Ol (XI K DT):=by
 refine XR T.Ol.f ue λvs H Q E nd h=>?_;obtain⟨ds,d,J,⟨x,p,rfl,L,rfl⟩,post⟩:=h;obtain⟨M,N,rfl,a,t⟩:=gD J;refine⟨rfl,λ_ _ _ _ u=>⟨_,(aC (bJ (PW.pt (fU (cJ (bN (pc (D:=T.MW) C u (z1 (pv 0))) (λ_=>rfl))) (fU (zt pq (aL aT rfl T.MC bY (z1 (pv 0))) aE) (fG (zt zi (a6 a7 (pv 0) aE) (aZ (v:=.ref T.NY) rfl T.PJ rfl)))))) (zr dN) aO)
 (zr (pc (D:=T.Mz) I u (z3 (a6 a7 (pv 0) aE) aE (bS Fq (aL aT rfl T.MC bY (z1 (pc (D:=T.MF) G u (z2 (pv 1) (a6 Hm (aZ (v:=.ref T.NY) rfl T.PJ rfl) (a6 a7 (pv 0) aE)))))) aE))))),?_⟩⟩
 show let z:=_;bA _ z _ _ _;intro z
 cases n:eZ x with
 |false =>
  refine aS (K:=K) (b:=true) ?_ (λc A g=>?_) (λc=>nomatch c)
  ·exact RT.as (dO (b:=true) (c:=true) (RT.as (bV (bC (a8 (aA (aB a) aJ) ⟨x,rfl,rfl⟩))) (by rw[n];rfl)) λc=>nomatch c) rfl
  ·refine bL (K:=K) (d:=.bl (qI p x)) ?_ λv m s q=>post v m (g.trans s) q;rw[G8 n];exact fN
 |true =>
  have j:=n;unfold eZ at j;split at j
  ·rename_i l r;have O:((((D.str l)::r).length:Nat):Int)=(r.length:Int)+1:=by rw[TQ];lia
   have B:=mD (K:=K) (eT (aB (σ:=fK ["thing","pattern"] [M,N]) (k:=0) a)) (aF (i:=2));rw[O]at B;refine aS (K:=K) (b:=!decide ((r.length:Int)+1=2)||!KTD.inKeys l TF) (RT.as (dO (b:=false) (RT.as (bV (bC (a8 (aA (aB a) aJ) ⟨_,rfl,rfl⟩))) (by rw[n];rfl)) λ_=>dO (aM B) λ_=>aM (zx (bK (k:=0) (aB a) aF rfl) T.PM)) (U6 _)) (λc A g=>?_) (λc A g=>?_)
   ·refine bL (K:=K) (d:=.bl false) fN λv m s q=>post v m (g.trans s) ?_
    have e:qI p (.tup (.str l::r))=false:=by
     rw[yu]
     cases U:decide ((r.length:Int)+1=2)with
     |false=>rfl
     |true =>rw[U]at c;have Y:KTD.inKeys l TF=false:=jr c;rw[Y];rfl
    rw[e];exact q
   ·rw[V2]at c;have c1:=fX c.1;have c2:=fX c.2
    obtain⟨y,er⟩:∃y,r=[y]:=by
     match r,T4 c1 with
     |[],h=>simp at h
     |[y],_=>exact⟨y,rfl⟩
     |_::_::_,h=>simp at h;lia
    subst er;have a:=g.dat a;have t:=g.dat t;refine bL (K:=K) (d:=.bl (dH y 0 (((cZ 3 (vJ l TF) p).length:Int) - 1))) (a8 (R:=gW) (aA (bK (k:=1) (aB a) aF rfl) (aA aF (aA (KL (Ic (jZ (R:=iN 3) (aA (aB t) (aA (Dq (bK (k:=0) (aB a) aF rfl) T.PM (by rfl) (Jz c2)) aJ)) ⟨p,vJ l TF,rfl,⋯,L,rfl⟩)) aF) aJ))) ⟨y,0,_,rfl,rfl⟩) λv m s q=>post v m (g.trans s) ?_;rw[yu,c1,c2];exact q
  ·cases j
noncomputable def yj(p x:D):Bool:=dH x 0 99||qI p x
def DS(a:List D)(d:D):Prop:=∃x p,a=[x,p]/\ZH 3 p=true/\d=.bl (yj p x)
theorem AK(T:Txt P w K mg)(c:Ok P w base k T.Mz (XI K gW))(e:Ok P w base k T.Ol (XI K DT)):Ok P w base (k+1) T.Pu (XI K DS):=by refine XR T.Pu.f Bb λl H Q E m h=>?_;obtain⟨n,d,g,⟨x,p,rfl,i,rfl⟩,post⟩:=h;obtain⟨q,r,rfl,a,j⟩:=gD g;refine⟨rfl,λ_ _ _ _ b=>⟨_,(zr (FC (pc (D:=T.Mz) c b (z3 (pv 0) aE (aZ (v:=.int 99) rfl T.Qq ⟨_,rfl⟩))) (iU (pc (D:=T.Ol) e b (z2 (pv 0) (pv 1)))))),?_⟩⟩;exact bL (K:=K) (d:=.bl (yj p x)) (Ck (a8 (R:=gW) (aA (aB a) (aA aF (aA aF aJ))) ⟨x,0,99,rfl,rfl⟩) λ_=>a8 (R:=DT) (aA (aB a) (aA (aB j) aJ)) ⟨x,p,rfl,i,rfl⟩) post
end
section
noncomputable def uN(c:Int):Option (Str×Nat):=match INS[c.toNat]? with
 |some (.tup [.str a,.int m])=>some (a,m.toNat)
 |_=>none
theorem JV(h:uN c=some (a,m)):INS[c.toNat]?=some (.tup [.str a,.int (m:Int)])/\c.toNat<17:=by
 unfold uN at h
 have b:c.toNat<17:=by
  by_cases d:c.toNat<17
  ·exact d
  ·rw[VY (by show(17:Nat)<=c.toNat;lia)]at h;cases h
 refine⟨?_,b⟩
 have all:∀i:Nat,i<17->∀a m,(match INS[i]? with|some (.tup [.str a,.int m])=>some (a,m.toNat)|_=>none)=some (a,m)->INS[i]?=some (.tup [.str a,.int (m:Int)]):=by
  intro i f a m e
  match i,f with
  |0,_=>cases e;rfl
  |1,_=>cases e;rfl
  |2,_=>cases e;rfl
  |3,_=>cases e;rfl
  |4,_=>cases e;rfl
  |5,_=>cases e;rfl
  |6,_=>cases e;rfl
  |7,_=>cases e;rfl
  |8,_=>cases e;rfl
  |9,_=>cases e;rfl
  |10,_=>cases e;rfl
  |11,_=>cases e;rfl
  |12,_=>cases e;rfl
  |13,_=>cases e;rfl
  |14,_=>cases e;rfl
  |15,_=>cases e;rfl
  |16,_=>cases e;rfl
  |n+17,h=>lia
 exact all c.toNat b a m h
noncomputable def jP(cells:List D)(p m:Nat):List D:=(cells.drop (p+1)).take m
def DU(b:List D)(d:D):Prop:=∃(cells:List D)(p:Nat)(c:Int)(a:Str)(m:Nat),b=[.tup cells,.int p]/\cells[p]?=some (.int c)/\0<=c/\uN c=some (a,m)/\(jP cells p m).length=m/\d=.tup [.str a,.tup (jP cells p m)]
variable{K:vc}
theorem m7(T:Txt P w K mg)  : Ok P w base (k+1) T.MB (XI K DU):=by
 refine XR T.MB.f jn λvs H Q E l h=>?_;obtain⟨ds,d,I,⟨cells,p,c,z,m,rfl,n,c0,r,J,rfl⟩,post⟩:=h;obtain⟨v0,v1,rfl,g,a⟩:=gD I;refine⟨rfl,λ_ _ _ _ hr=>⟨_,(aC (bJ (PW.pt (fU (zt y9 (pv 1) (aL aT rfl T.MC bY (z1 (pv 0)))) (fG (zt y9 (a6 a7 (pv 0) (pv 1)) (aL aT rfl T.MC bY (z1 (aZ (v:=.ref T.MO) rfl T.NM rfl))))))) (aR dA) aO)
 (aC (dQ (a6 a7 (aZ (v:=.ref T.MO) rfl T.NM rfl) (a6 a7 (pv 0) (pv 1))) (dP rfl (aP (zg 2 l) (aP (zg 3 l) cD))))
 (aC (zs 4 l (bR dJ rfl T.NP fA (z1 (kU xP (pv 0) (jW (bS eQ (pv 1) aE)) (jW (bS eQ (bS eQ (pv 1) aE) (pv 3)))))))
 (aC (bJ (zt pj (aL aT rfl T.MC bY (z1 (pv 4))) (pv 3)) (aR dA) aO)
 (zr (aX (z2 (pv 2) (pv 4)))))))),?_⟩⟩
 show let A:=bA _ _;let B:=bA _ A;bA _ B _ _ _;intro A B;obtain⟨r,L⟩:=JV r;have hp:p<cells.length:=(T9.mp n).1;have M:c=((c.toNat:Nat):Int):=by lia
 refine aS (K:=K) (b:=false) (RT.as (dO (b:=false) (c:=false) (RT.as (aM (eR (p:=λi j=>decide (j<=i)) (aB a) (eT (aB g)))) (TU ⋯)) λ_=>RT.as (aM (eR (p:=λi j=>decide (j<=i)) (bK (k:=p) (aB g) (aB a) n) (eT (kX T.NH)))) (TU (by show ¬ (17:Int)<=c;lia))) rfl) (λc=>nomatch c) (λ_ H1 t=>?_);have g:=t.dat g;have a:=t.dat a;refine jl (K:=K) (d:=.str z) (e:=.int m) (bK (k:=c.toNat) (kX T.NH) (RE.as (bK (k:=p) (aB g) (aB a) n) (Up D.int M)) r) λv2 v3 H2 u N C=>?_;have g:=u.dat g;have a:=u.dat a;have O:(p:Int)+1=((p+1:Nat):Int):=by lia
 have U:(p:Int)+1+(m:Int)=((p+1+m:Nat):Int):=by lia
 refine cY (K:=K) (d:=.tup (jP cells p m)) (RE.as (Dt (KG (lo:=p+1) (hi:=p+1+m) (aB g) (RE.as (fI (aB a) aF) (Up D.int O)) (RE.as (fI (fI (aB a) aF) (aB C)) (Up D.int U)) ⋯ ⋯)) (by unfold jP;rw[show p+1+m - (p+1)=m by lia])) λv4 H3 x G=>?_;refine aS (K:=K) (b:=false) (RT.as (aM (eR (p:=λi j=>decide (i<j)) (eT (aB G)) (aB (x.dat C)))) (TU (by rw[J];lia))) (λc=>nomatch c) (λ_ H4 y=>?_);exact bL (K:=K) (d:=.tup [.str z,.tup (jP cells p m)]) (a9 (aA (aB (y.dat (x.dat N))) (aA (aB (y.dat G)) aJ))) λv Y s q=>post v Y (t.trans (u.trans (x.trans (y.trans s)))) q
noncomputable abbrev SS:List Str:=["put","far","load","add","sub","mul","less","more","twice","about"]
noncomputable def Lp(a:Nat->Option Bool)(b:D)(cells:List D)(p:Nat):D->Option Bool
 | .int c=>(match uN c with
  |some (d,m)=>if (jP cells p m).length=m then (if (!decide (d∈SS)||!((jP cells p m).map (yj b)).all id)=true then some false else a (p+1+m))else none
  |none=>none)
 |_=>none
noncomputable def qx:Nat->D->List D->Nat->Option Bool
 |0,_,_,_=>none
 |n+1,a,cells,p=>match cells[p]? with
  |none=>some true
  |some x=>if dH x 0 99=false then some false else Lp (qx n a cells) a cells p x
def Jm(c:List D)(d:D):Prop:=∃(cells:List D)(a:D)(b:Bool),c=[.tup cells,a]/\ZH 3 a=true/\cells.length<=100/\qx (cells.length+1) a cells 0=some b/\d=.bl b
noncomputable def Mj(a:L2.St)(_:Hp):Nat:=match a[2]? with
 |some (some (V.int p))=>(200 - p).toNat
 |_=>0
theorem JH:(jP cells p m).length<=cells.length:=by unfold jP;rw[Uk,Wq];lia
theorem GO(h:(jP cells p m).length=m)(a:p<cells.length):p+1+m<=cells.length:=by unfold jP at h;rw[Uk,Wq]at h;lia
theorem lR(T:Txt P w K mg)(MG:Ok P w base k T.Mz (XI K gW))(NT:Ok P w base k T.MB (XI K DU))(Sl:Ok P w base k T.Pu (XI K DS)):Ok P w base (k+1) T.M5 (XI K Jm):=by
 refine XR T.M5.f lU λvs H Q E C h=>?_;obtain⟨ds,d,hd,⟨cells,g,I,rfl,hp,hl,M,rfl⟩,post⟩:=h;obtain⟨v0,v1,rfl,h0,h1⟩:=gD hd;refine⟨rfl,λ_ _ _ _ N=>⟨_,(aC (zs 2 C aE)
 (aC (rH Ux (zt pj (pv 2) (aL aT rfl T.MC bY (z1 (pv 0)))) (aC (bJ (cJ (bN (pc (D:=T.Mz) MG N (z3 (a6 a7 (pv 0) (pv 2)) aE (aZ (v:=.int 99) rfl T.Qq ⟨_,rfl⟩))) (λ_=>rfl))) (zr dN) aO)
 (aC (Ca (aR (dQ (pc (D:=T.MB) NT N (z2 (pv 0) (pv 2))) (dP rfl (aP (zg 3 C) (aP (zg 4 C) cD))))))
 (aC (bJ (PW.pt (fU (zt xg (pv 3) (aZ (v:=.ref T.PU) rfl T.Se rfl)) (fG (cJ (bN (aL (kD rfl) rfl T.RS qD (z1 (zc [1] ["cell","pattern"] (iV (pv 4)) (λ_ _ _ _ _=>(pc (D:=T.Pu) Sl N (z2 (pv 0) (pv 1))))))) (λ_=>rfl)))))) (zr dN) aO)
 (aR (FL (i:=2) C rfl (Or.inl rfl) (bS eQ aE (aL aT rfl T.MC bY (z1 (pv 4)))) Av))))))
 (zr dN))),?_⟩⟩
 show let XH:=bA _ _;let XT:=bA _ XH;let Yt:=bA _ XT;let YG:=bA (sX _ Yt) _;bA _ YG _ _ _;intro XH XT Yt YG;let O:L2.St->Hp->Prop:=λU G=>∃(p n:Nat)(z3 z4:Option V),U=[some v0,some v1,some (.int p),z3,z4]/\Xe H G/\qx n g cells p=some I/\p<=cells.length;refine dS (F4 (cQ (Aa O Mj ?_ ?_ ?_)))
 ·exact⟨0,_,none,none,rfl,Xe.refl _,M,Us _⟩
 ·rintro U G ⟨p,n,z3,z4,rfl,s,J,hpl⟩;have g0:=s.dat h0;have g1:=s.dat h1;refine RT.use (b:=decide ((p:Int)<(cells.length:Int))) (aM (eR (p:=λi j=>decide (i<j)) (aB (K:=K) (Dat.Xs (p:Int))) (eT (aB g0)))) λG1 t=>?_
  obtain⟨n,rfl⟩:∃m,n=m+1:=by
   cases n with
   |zero=>cases J
   |succ m=>exact⟨m,rfl⟩
  by_cases A:p<cells.length
  ·rw[TZ (by lia:(p:Int)<(cells.length:Int))];refine mU ?_;have L:cells[p]?=some cells[p]:=M1 A;generalize cells[p]=x at L
   have a:(if dH x 0 99=false then some false else Lp (qx n g cells) g cells p x)=some I:=by have e:qx (n+1) g cells p=some I:=J;unfold qx at e;rw[L]at e;exact e
   have g0:=t.dat g0;have g1:=t.dat g1;refine aS (K:=K) (b:=!dH x 0 99) (bV (bC (a8 (R:=gW) (aA (bK (k:=p) (aB g0) (aB (Dat.Xs (p:Int))) L) (aA aF (aA aF aJ))) ⟨x,0,99,rfl,rfl⟩))) (λY G2 u=>?_) (λY G2 u=>?_)
   ·rw[TR (jr Y)]at a;cases a;exact post _ _ (s.trans (t.trans u)) (Dat.YE _)
   ·have cw:=fX Y;rw[TN (by rw[cw];exactλz=>nomatch z)]at a
    cases x with
    |int c =>
     have a:(match uN c with
      |some (l,m)=>if (jP cells p m).length=m then (if (!decide (l∈SS)||!((jP cells p m).map (yj g)).all id)=true then some false else qx n g cells (p+1+m))else none
      |none=>none)=some I:=a
     have c0:0<=c:=by have z:(decide (0<=c)&&decide (c<=99))=true:=cw;rw[Tw]at z;exact T4 z.1
     cases r:uN c with
     |none=>rw[r]at a;cases a
     |some l =>
      obtain⟨l,m⟩:=l;rw[r]at a;dsimp only at a;by_cases B:(jP cells p m).length=m
      ·rw[TR B]at a;have g0:=u.dat g0;have g1:=u.dat g1;refine jl (K:=K) (d:=.str l) (e:=.tup (jP cells p m)) (a8 (R:=DU) (aA (aB g0) (aA (aB (Dat.Xs (p:Int))) aJ)) ⟨cells,p,c,l,m,rfl,L,c0,r,B,rfl⟩) λv3 v4 G3 s3 g3 g4=>?_;have g1:=s3.dat g1;have lb:=JH (cells:=cells) (p:=p) (m:=m);refine aS (K:=K) (b:=!decide (l∈SS)||!((jP cells p m).map (yj g)).all id) (dO (aM (Ds (ys:=SS) (aB g3) (kX T.Sb))) λ_=>bV (bC (nq (rP (aB g4) ⋯ _ (by simp) rfl (λG4 i z vz d y hz hi hvz=>?_))))) (λc2 G4 y=>?_) (λc2 G4 y=>?_)
       ·rw[Tv,Tv,hz]at hi;cases hi;exact a8 (E:=E0) (R:=DS) (aA (aB hvz) (aA (aB (y.dat g1)) aJ)) ⟨z,g,rfl,hp,rfl⟩
       ·rw[TR c2]at a;cases a;exact post _ _ (s.trans (t.trans (u.trans (s3.trans y)))) (Dat.YE _)
       ·rw[TN (by rw[c2];exact TH)]at a;refine⟨_,rfl,RE.use (fI (K:=K) aF (eT (aB (y.dat g4)))) λv5 G5 s5 q5=>?_⟩;refine⟨p,1+((jP cells p m).length:Int),rfl,q5.Xp,?_⟩;have ep:(p:Int)+(1+((jP cells p m).length:Int))=((p+1+m:Nat):Int):=by rw[B];lia
        have he:=GO B A;refine⟨⟨p+1+m,n,some v3,some v4,by rw[<- ep];rfl,s.trans (t.trans (u.trans (s3.trans (y.trans s5)))),a,he⟩,?_⟩;show(200 - ((p:Int)+(1+((jP cells p m).length:Int)))).toNat<(200 - (p:Int)).toNat;lia
      ·rw[TN B]at a;cases a
    |_=>cases a
  ·rw[TU (by lia:¬ (p:Int)<(cells.length:Int))];refine nZ ?_
   have e:qx (n+1) g cells p=some true:=by unfold qx;rw[VY ⋯]
   rw[e]at J;cases J;exact post _ _ (s.trans t) (Dat.YE _)
 ·intro U G Q1 Q2 hQ hc;obtain⟨v,e,v',e',p,ys,e2,hq,i,j,e3,e4,b,e5,q⟩:=hc;exact⟨v,e,v',e',p,ys,e2,hq,i,j,e3,e4,b,e5,hQ _ _ q⟩
noncomputable def Ax:D->Bool
 | .str x=>decide (x="pick")
 |_=>false
noncomputable def csD(a:D):D->Option Bool
 | .tup l=>if (decide (1<=(l.length:Int))&&decide ((l.length:Int)<=12))=false then some false else qx (l.length+1) a l 0
 |_=>some false
noncomputable def oB:D->Option Bool
 | .tup [b,a,c]=>if (!dW b||(Ax b||!xi a))=true then some false else csD a c
 |_=>some false
def Ly:D->Prop
 | .tup (a::_)=>IS a
 |_=>True
def qv(a:List D)(d:D):Prop:=∃(x:D)(b:Bool),a=[x]/\Ly x/\oB x=some b/\d=.bl b
theorem qk(h:RE K g c H (.tup [d,e,f]))(q:∀v w x b,Xe H b->Dat K b d v->Dat K b e w->Dat K b f x->m n (((c.set i (some v)).set j (some w)).set l (some x)) b) :
  bA (lV g (As K 3 (iQ (bT i) (iQ (bT j) (iQ (bT l) CW))))) m n c H :=
 h.use λx p r s=>by obtain⟨a,B,e1,t,u⟩:=s.XC;obtain⟨v,w,x,e2,y,z,A⟩:=kG u;subst e1 e2;exact⟨a,_,rfl,t,rfl,v,_,rfl,w,_,rfl,x,_,rfl,rfl,q v w x p r y z A⟩
theorem qT(h:∀y,x≠.tup y):pQ x "tuple"=false:=by
 cases x with
 |tup y=>exact absurd rfl (h y)
 |_=>rfl
theorem FK(h:∀a b c,x≠.tup [a,b,c]):oB x=some false:=by
 unfold oB;split
 ·rename_i a b c;exact absurd rfl (h a b c)
 ·rfl
theorem Kj(h:xi x=true):ZH 3 x=true:=by unfold xi at h;rw[Tw]at h;exact h.1
theorem E8(h:dW x=true):∃y,x=.str y:=by
 cases x with
 |str y=>exact⟨y,rfl⟩
 |_=>cases h
theorem yW(T:Txt P w K mg)(NU:Ok P w base k T.Nb (XI K lW))(Rl:Ok P w base k T.Om (XI K Jv))(PP:Ok P w base k T.M5 (XI K Jm)):Ok P w base (k+1) T.NW (XI K qv):=by
 refine XR T.NW.f zI λvs H Q E U h=>?_;obtain⟨ds,d,hd,⟨x,G,rfl,Y,u,rfl⟩,post⟩:=h;obtain⟨v0,rfl,B⟩:=fB hd;refine⟨rfl,λ_ _ _ _ hr=>⟨_,(aC (bJ (PW.pt (fU (cJ (bN (aL (gC qP) rfl T.Ms bB (bF (pv 0) (bF (hV (v:=.ty "tuple") rfl T.NP fA rfl) aQ))) (λ_=>rfl))) (fG (zt pq (aL aT rfl T.MC bY (z1 (pv 0))) aE)))) (zr dN) aO)
 (aC (dQ (pv 0) (dP rfl (aP (zg 1 U) (aP (zg 2 U) (aP (zg 3 U) cD)))))
 (aC (bJ (PW.pt (fU (cJ (bN (pc (D:=T.Nb) NU hr (z1 (pv 1))) (λ_=>rfl))) (fU (zt cM (pv 1) aN) (fG (cJ (bN (pc (D:=T.Om) Rl hr (z1 (pv 2))) (λ_=>rfl))))))) (zr dN) aO)
 (aC (bJ (PW.pt (fU (cJ (bN (aL (gC qP) rfl T.Ms bB (bF (pv 3) (bF (hV (v:=.ty "tuple") rfl T.NP fA rfl) aQ))) (λ_=>rfl))) (fG (cJ (rJ kS kS aE (aL aT rfl T.MC bY (z1 (pv 3))) (aZ (v:=.int 12) rfl T.PX ⟨_,rfl⟩)))))) (zr dN) aO)
 (zr (pc (D:=T.M5) PP hr (z2 (pv 3) (pv 2)))))))),?_⟩⟩
 show let XH:=bA _ _;let XT:=bA _ XH;let Yt:=bA _ XT;bA _ Yt _ _ _;intro XH XT Yt;by_cases n:∃a b c,x=.tup [a,b,c]
 ·obtain⟨C,g,I,rfl⟩:=n;refine aS (K:=K) (b:=false) (RT.as (dO (b:=false) (c:=false) (RT.as (bV (bC (cP (aB B)))) rfl) λ_=>RT.as (aM (mD (eT (aB B)) aF)) rfl) rfl) (λc=>nomatch c) (λ_ H1 J=>?_);refine qk (K:=K) (d:=C) (e:=g) (f:=I) (aB (J.dat B)) λv1 v2 v3 H2 s2 h1 O n=>?_;have m:(if (!dW C||(Ax C||!xi g))=true then some false else csD g I)=some G:=u;refine aS (K:=K) (b:=!dW C||(Ax C||!xi g)) (dO (bV (bC (a8 (R:=lW) (aA (aB h1) aJ) ⟨C,rfl,Y,rfl⟩))) λc=>dO ?_ λ_=>bV (bC (a8 (R:=Jv) (aA (aB O) aJ) ⟨g,rfl,rfl⟩))) (λc H3 L=>?_) (λc H3 L=>?_)
  ·obtain⟨y,rfl⟩:=E8 (fX c);exact aM (cC (aB h1) aY)
  ·rw[TR c]at m;cases m;exact bL (K:=K) (d:=.bl false) fN λv t s q=>post v t (J.trans (s2.trans (L.trans s))) q
  ·rw[TN (by rw[c];exact TH)]at m;rw[V2,V2]at c;have hp:=Kj (fX c.2.2);have O:=L.dat O;have n:=L.dat n;have XF:=J.trans (s2.trans L);by_cases hc:∃l,I=.tup l
   ·obtain⟨l,rfl⟩:=hc;have m:(if (decide (1<=(l.length:Int))&&decide ((l.length:Int)<=12))=false then some false else qx (l.length+1) g l 0)=some G:=m;refine aS (K:=K) (b:=!(decide (1<=(l.length:Int))&&decide ((l.length:Int)<=12))) (RT.as (dO (b:=false) (RT.as (bV (bC (cP (aB n)))) rfl) λ_=>bV (aM (nv (p:=λi j=>decide (i<=j)) (r:=λi j=>decide (i<=j)) aF (eT (aB n)) λ_=>aF))) (U6 _)) (λc4 H4 A=>?_) (λc4 H4 A=>?_)
    ·rw[TR (jr c4)]at m;cases m;exact bL (K:=K) (d:=.bl false) fN λv t s q=>post v t (XF.trans (A.trans s)) q
    ·have c5:=fX c4;rw[TN (by rw[c5];exactλz=>nomatch z)]at m;rw[Tw]at c5;have l12:=T4 c5.2;exact bL (K:=K) (d:=.bl G) (a8 (R:=Jm) (aA (aB (A.dat n)) (aA (aB (A.dat O)) aJ)) ⟨l,g,G,rfl,hp,⋯,m,rfl⟩) λv t s q=>post v t (XF.trans (A.trans s)) q
   ·have M:∀y,I≠.tup y:=λy e=>hc ⟨y,e⟩
    have e:G=false:=by
     cases I with
     |tup y=>exact absurd rfl (M y)
     |_=>cases m;rfl
    refine aS (K:=K) (b:=true) (RT.as (dO (b:=true) (c:=true) (RT.as (bV (bC (cP (aB n)))) (by rw[qT M];rfl)) λc=>nomatch c) rfl) (λc4 H4 A=>?_) (λc=>nomatch c);rw[e]at post;exact bL (K:=K) (d:=.bl false) fN λv t s q=>post v t (XF.trans (A.trans s)) q
 ·have N:∀a b c,x≠.tup [a,b,c]:=λa b c e=>n ⟨a,b,c,e⟩;rw[FK N]at u;cases u;refine aS (K:=K) (b:=true) ?_ (λc H1 J=>?_) (λc=>nomatch c)
  ·by_cases ht:∃l,x=.tup l
   ·obtain⟨l,rfl⟩:=ht;refine RT.as (dO (b:=false) (c:=true) (RT.as (bV (bC (cP (aB B)))) rfl) λ_=>RT.as (aM (mD (eT (aB B)) aF)) ?_) rfl
    have:¬ (l.length:Int)=3:=λe=>by
     match l,e with
     |[a,b,c],_=>exact N a b c rfl
     |[],h=>simp at h
     |[_],h=>simp at h
     |[_,_],h=>simp at h
     |_::_::_::_::_,h=>simp at h;lia
    rw[TU this];rfl
   ·have ht':∀y,x≠.tup y:=λy e=>ht ⟨y,e⟩;exact RT.as (dO (b:=true) (c:=true) (RT.as (bV (bC (cP (aB B)))) (by rw[qT ht'];rfl)) λc=>nomatch c) rfl
  ·exact bL (K:=K) (d:=.bl false) fN λv t s q=>post v t (J.trans s) q
abbrev mI(a:List D)(d:D):Prop:=∃x,a=[x]/\Ly x/\oB x=some true/\d=.Xi
theorem tZ(T:Txt P w K mg)(g:Ok P w base k T.NW (XI K qv)):Ok P w base (k+1) T.Nk (XI K mI):=by refine XR T.Nk.f ui λp H Q E q h=>?_;obtain⟨r,d,i,⟨x,rfl,a,j,rfl⟩,post⟩:=h;obtain⟨s,rfl,l⟩:=fB i;refine⟨rfl,λ_ _ _ _ m=>⟨_,(aR (bJ (cJ (bN (pc (D:=T.NW) g m (z1 (pv 0))) (λ_=>rfl))) (aR dA) aO)),?_⟩⟩;refine i4 (b:=!true) (bV (bC (a8 (R:=qv) (aA (aB l) aJ) ⟨x,true,rfl,a,j,rfl⟩))) (λc n e=>nomatch c) (λc n e=>?_);exact post _ _ e Dat.Zt
end
section
variable{K:vc}{k:Nat}
theorem rL(h:tA a H λb c=>d (b++e) c Q E):f6 d e E tA a H Q:=h
theorem jY(h:b a H λx c=>tA a c λd e=>Q (x::d) e):bM b tA a H Q:=h
inductive Pa where
 |hole (i:Int)
 |gap (i m:Int)
 |slot (i:Int)
 |num (n:Int)
 |two (o:Str) (a b:Pa)
noncomputable def toP:Pa->D
 | .hole i=>.tup [.str "hole",.int i]
 | .gap i m=>.tup [.str "gap",.int i,.int m]
 | .slot i=>.tup [.str "slot",.int i]
 | .num n=>.tup [.str "num",.int n]
 | .two o a b=>.tup [.str o,toP a,toP b]
abbrev okB(o:Str):Prop:=o="add"\/o="sub"\/o="mul"\/o="less"
def AH:Pa->Prop
 | .num n=>0<=n/\n<=9999
 | .two o a b=>okB o/\AH a/\AH b
 |_=>True
noncomputable def eK:Pa->Nat
 | .two _ a b=>max (eK a) (eK b)+1
 |_=>1
theorem nS(p:Pa):1<=eK p:=by cases p<;>simp[eK]
noncomputable abbrev Zp:Type:=List Tr×List Int×List Int
noncomputable def Ld(f g:Zp):Zp:=(f.1++g.1,f.2.1++g.2.1,f.2.2++g.2.2)
noncomputable def cW:Pa->Tr->Option Zp
 | .hole _,t=>some ([t],[],[])
 | .gap _ m,.num n=>if n<=m then some ([],[n],[])else none
 | .gap _ _,_=>none
 | .slot _,.arg k=>some ([],[],[k])
 | .slot _,_=>none
 | .num n,.num m=>if m=n then some ([],[],[])else none
 | .num _,_=>none
 | .two o a b,.two c x y=>if c=o then (match cW a x,cW b y with
  |some f,some g=>some (Ld f g)
  |_,_=>none)else none
 | .two _ _ _,_=>none
noncomputable def Mh:Pa->Bool
 | .hole _=>true
 | .gap _ _=>true
 | .slot _=>true
 |_=>false
theorem IJ(t:Tr)(f:YB t):∃d r,toD t=.tup (.str d::r)/\(d="num"↔∃n,t=.num n)/\(d="arg"↔∃n,t=.arg n):=by
 cases t with
 |num n=>exact⟨_,_,rfl,⟨λ_=>⟨n,rfl⟩,λ_=>rfl⟩,⟨λe=>absurd e ⋯,λ⟨m,e⟩=>nomatch e⟩⟩
 |arg n=>exact⟨_,_,rfl,⟨λe=>absurd e ⋯,λ⟨m,e⟩=>nomatch e⟩,⟨λ_=>⟨n,rfl⟩,λ_=>rfl⟩⟩
 |two o a b =>
  have h:o="add"\/o="sub"\/o="mul"\/o="less":=f.1;refine⟨_,_,rfl,⟨λe=>?_,λ⟨m,e⟩=>nomatch e⟩,⟨λe=>?_,λ⟨m,e⟩=>nomatch e⟩⟩
  ·subst e;exact absurd h ⋯
  ·subst e;exact absurd h ⋯
 |pick a b c=>exact⟨_,_,rfl,⟨λe=>absurd e ⋯,λ⟨m,e⟩=>nomatch e⟩,⟨λe=>absurd e ⋯,λ⟨m,e⟩=>nomatch e⟩⟩
def mJ(a:List D)(d:D):Prop:=∃p t,a=[toP p,toD t]/\Mh p=true/\YB t/\d=.bl (cW p t).isSome
theorem Es(h:∀n,t≠.num n):cW (.gap i m) t=none:=by
 cases t with
 |num n=>exact absurd rfl (h n)
 |_=>rfl
theorem DC(h:∀n,t≠.arg n):cW (.slot i) t=none:=by
 cases t with
 |arg n=>exact absurd rfl (h n)
 |_=>rfl
theorem oA(T:Txt P w K mg)  : Ok P w base (k+1) T.Nq (XI K mJ):=by
 refine XR T.Nq.f oQ λvs H Q E nd h=>?_;obtain⟨ds,d,O,⟨p,t,rfl,J,U,rfl⟩,post⟩:=h;obtain⟨G,L,rfl,l,y⟩:=gD O;refine⟨rfl,λ_ _ _ _ hr=>⟨_,(aC (bJ (zt cM (a6 a7 (pv 0) aE) aN) (zr (jt (dM cM (a6 a7 (pv 1) aE) aN (fC _)) (iU (dM kS (a6 a7 (pv 1) aE) (a6 a7 (pv 0) aE) (fC _))))) aO)
 (zr (FC (dM cM (a6 a7 (pv 0) aE) aN (fC _)) (iU (dM cM (a6 a7 (pv 1) aE) aN (fC _)))))),?_⟩⟩
 obtain⟨M,r,Y,A,u⟩:=IJ t U;have B:Dat K H (.tup (.str M::r)) L:=by rw[<- Y];exact y
 cases p with
 |hole i =>have l:Dat K H (.tup [.str "hole",.int i]) G:=l;refine aS (K:=K) (b:=false) (RT.as (aM (cC (bK (k:=0) (aB l) aF rfl) aY)) (TU ⋯)) (λc=>nomatch c) (λ_ N g=>?_);exact bL (K:=K) (d:=.bl true) (RE.as (Ck (b:=true) (c:=true) (RE.as (cC (bK (k:=0) (aB (g.dat l)) aF rfl) aY) (Up D.bl (TZ rfl))) λc=>nomatch c) rfl) λv x s q=>post v x (g.trans s) q
 |gap i m =>
  have l:Dat K H (.tup [.str "gap",.int i,.int m]) G:=l;refine aS (K:=K) (b:=true) (RT.as (aM (cC (bK (k:=0) (aB l) aF rfl) aY)) (TZ rfl)) (λ_ N g=>?_) (λc=>nomatch c);by_cases I:∃n,t=.num n
  ·obtain⟨n,rfl⟩:=I;have y:Dat K H (.tup [.str "num",.int n]) L:=y;refine bL (K:=K) (d:=.bl (decide (n<=m))) (RE.as (dR (b:=true) (RE.as (cC (bK (k:=0) (aB (g.dat y)) aF rfl) aY) (Up D.bl (TZ rfl))) λ_=>eR (p:=λi j=>decide (i<=j)) (bK (k:=1) (aB (g.dat y)) aF rfl) (bK (k:=2) (aB (g.dat l)) aF rfl)) rfl) λv x s q=>post v x (g.trans s) ?_
   have e:(cW (.gap i m) (.num n)).isSome=decide (n<=m):=by
    show(if n<=m then some _ else none).isSome=_;by_cases z:n<=m
    ·rw[TR z,TZ z];rfl
    ·rw[TN z,TU z];rfl
   rw[e];exact q
  ·refine bL (K:=K) (d:=.bl false) (RE.as (dR (b:=false) (c:=true) (RE.as (cC (bK (k:=0) (aB (g.dat B)) aF rfl) aY) (Up D.bl (TU (λe=>I (A.mp e))))) λc=>nomatch c) rfl) λv x s q=>post v x (g.trans s) ?_;rw[Es λn e=>I ⟨n,e⟩];exact q
 |slot i =>
  have l:Dat K H (.tup [.str "slot",.int i]) G:=l;refine aS (K:=K) (b:=false) (RT.as (aM (cC (bK (k:=0) (aB l) aF rfl) aY)) (TU ⋯)) (λc=>nomatch c) (λ_ N g=>?_);refine bL (K:=K) (d:=.bl (decide (M="arg"))) (RE.as (Ck (b:=false) (RE.as (cC (bK (k:=0) (aB (g.dat l)) aF rfl) aY) (Up D.bl (TU ⋯))) λ_=>cC (bK (k:=0) (aB (g.dat B)) aF rfl) aY) (Up D.bl (U6 _))) λv x s q=>post v x (g.trans s) ?_;by_cases C:∃n,t=.arg n
  ·rw[TZ (u.mpr C)]at q;obtain⟨n,rfl⟩:=C;exact q
  ·rw[TU (λe=>C (u.mp e))]at q;rw[DC λn e=>C ⟨n,e⟩];exact q
 |num n=>cases J
 |two o a b=>cases J
def zQ(K:vc)(o:Addr->Addr->Addr->HO)(n:Nat):Sp:=λu H Q _=>∃(p:Pa)(t:Tr)(r s:V)(f e g i:Addr)(a b c:List V),u=[r,s,.ref f]/\AH p/\YB t/\bE t<=8/\eK p<=n/\n<=3/\Dat K H (toP p) r/\Dat K H (toD t) s /\
 H f=some (o e g i)/\f≠e/\f≠g/\f≠i/\ZW e g i H a b c/\a.length+2 ^ n<=100/\b.length+2 ^ n<=100/\c.length+2 ^ n<=100 /\
 ∀(d:Hp)(l m q:List V),Zj e g i H d->ZW e g i d (a++l) (b++m) (c++q)->l.length<=2 ^ n->m.length<=2 ^ n->q.length<=2 ^ n ->
  (∀j:Zp,cW p t=some j->Xd K d (j.1.map toD) l/\Xd K d (j.2.1.map D.int) m/\Xd K d (j.2.2.map D.int) q)->Q (.bl (cW p t).isSome) d
noncomputable def oD(a b c:Addr):HO:=.dK [(Sum.inr "hole",.ref a),(Sum.inr "gap",.ref b),(Sum.inr "slot",.ref c)]
theorem B4(a b c:Addr):jw ([(Sum.inr "hole",V.ref a),(Sum.inr "gap",.ref b),(Sum.inr "slot",.ref c)]:List (Key×V)) (Sum.inr "hole")=some (.ref a):=rfl
theorem Fi(b a c:Addr):jw ([(Sum.inr "hole",V.ref b),(Sum.inr "gap",.ref a),(Sum.inr "slot",.ref c)]:List (Key×V)) (Sum.inr "gap")=some (.ref a):=rfl
theorem B5(b c a:Addr):jw ([(Sum.inr "hole",V.ref b),(Sum.inr "gap",.ref c),(Sum.inr "slot",.ref a)]:List (Key×V)) (Sum.inr "slot")=some (.ref a):=rfl
theorem Eu{H:Hp}(h:H f=some (.dK a))(e:jw a (Sum.inr x)=some v):ZL H f (.str x) (some v):=by have g:=ZL.k (k:=Sum.inr x) h;rw[e]at g;exact g
theorem sZ{k:Str}(h:k="hole"\/k="gap"\/k="slot"):KTD.inKeys k TM=true:=by rcases h with rfl|rfl|rfl<;>decide +kernel
theorem GN(h:okB o):KTD.inKeys o TM=false/\¬ o="num":=by rcases h with rfl|rfl|rfl|rfl<;>decide +kernel
theorem Ku(n:Nat):1<=2 ^ n:=Nat.one_le_iff_ne_zero.mpr (by simp)
theorem AY{α:Type}{x y:List α}(a:x.length<=2 ^ n)(b:y.length<=2 ^ n):(x++y).length<=2 ^ (n+1):=by rw[Tq,Xc];lia
theorem fL(h:cW (.two o a b) (.two d x y)=some j):d=o/\∃f g,cW a x=some f/\cW b y=some g/\j=Ld f g:=by
 unfold cW at h;by_cases e:d=o
 ·rw[TR e]at h
  cases c:cW a x with
  |none=>rw[c]at h;cases h
  |some f =>
   cases i:cW b y with
   |none=>rw[c,i]at h;cases h
   |some g =>rw[c,i]at h;cases h;exact⟨e,f,g,rfl,rfl,rfl⟩
 ·rw[TN e]at h;cases h
theorem o9(h:cW a x=none):cW (.two o a b) (.two o x y)=none:=by unfold cW;rw[TR rfl,h]
theorem Aq(h:cW a x=some f):(cW (.two o a b) (.two o x y)).isSome=(cW b y).isSome:=by show(if o=o then _ else none:Option Zp).isSome=_;rw[TR rfl,h];cases cW b y<;>rfl
theorem Em(g:okB o)(c:toD t=.tup (.str f::r))(h:¬ f=o):cW (.two o a b) t=none:=by
 cases t with
 |two d x y =>unfold cW;rw[TN];intro e;apply h;have z:toD (.two d x y)=.tup [.str d,toD x,toD y]:=rfl;rw[z]at c;injection c with c;injection c with c _;injection c with c;rw[<- c,e]
 |_=>rfl
theorem EE(b:okB o)(a:toD t=.tup (.str d::r))(h:d=o):∃x y,t=.two o x y:=by
 subst h
 cases t with
 |two c x y =>have z:toD (.two c x y)=.tup [.str c,toD x,toD y]:=rfl;rw[z]at a;injection a with a;injection a with a _;injection a with a;subst a;exact⟨x,y,rfl⟩
 |num n =>have z:toD (.num n)=.tup [.str "num",.int n]:=rfl;rw[z]at a;injection a with a;injection a with a _;injection a with a;subst a;exact absurd b ⋯
 |arg n =>have z:toD (.arg n)=.tup [.str "arg",.int n]:=rfl;rw[z]at a;injection a with a;injection a with a _;injection a with a;subst a;exact absurd b ⋯
 |pick x y u =>have z:toD (.pick x y u)=.tup [.str "pick",toD x,toD y,toD u]:=rfl;rw[z]at a;injection a with a;injection a with a _;injection a with a;subst a;exact absurd b ⋯
theorem Hu(a:List V)(H:Hp)(Q:VK)(E:XK):¬ zQ K o 0 a H Q E:=by rintro⟨p,_,_,_,_,_,_,_,_,_,_,_,_,_,_,h,_⟩;have:=nS p;lia
theorem AQ(T:Txt P w K mg)(Qu:Ok P w base k T.Nq (XI K mJ))(Pm:Ok P w base k T.Nt (zQ K oD n)):Ok P w base (k+1) T.Nt (zQ K oD (n+1)):=by
 refine XR T.Nt.f Bg λvs H Q E nd h=>?_;obtain⟨p,t,v0,v1,f,l0,l1,l2,a,b,c,rfl,U,YT,dpt,hn,hn3,B,C,hf,f0,f1,f2,u,la,lb,lc,post⟩:=h;refine⟨rfl,λ_ _ _ _ hr=>⟨_,(aC (zs 3 nd (a6 a7 (pv 0) aE))
 (aC (bJ (zt m9 (pv 3) (aZ (v:=.ref T.MP) rfl T.Oz rfl)) (aC (bJ (cJ (bN (pc (D:=T.Nq) Qu hr (z2 (pv 0) (pv 1))) (λ_=>rfl))) (zr dN) aO)
 (aC (bO (eB Ue Uu Uz b8 (ng (qR hr) (pv 2) (pv 3) (λ_ _=>rfl)) (z1 (ni (zt cM (pv 3) aN) (pv 1) (a6 a7 (pv 1) aE)))))
 (zr dN))) aO)
 (aC (bJ (zt pq (a6 a7 (pv 1) aE) (pv 3)) (zr dN) aO)
 (aC (bJ (zt cM (pv 3) aN) (zr (dM cM (a6 a7 (pv 1) aE) (a6 a7 (pv 0) aE) (fC _))) aO)
 (zr (jt (pc (D:=T.Nt) Pm hr (z3 (a6 a7 (pv 0) aE) (a6 a7 (pv 1) aE) (pv 2))) (iU (pc (D:=T.Nt) Pm hr (z3 (a6 a7 (pv 0) aE) (a6 a7 (pv 1) aE) (pv 2)))))))))),?_⟩⟩
 show let XH:=_;let XT:=bA _ XH;let Yt:=bA _ XT;let YG:=bA _ _;let ZX:=bA (sV _ YG _) Yt;bA _ ZX _ _ _;intro XH XT Yt YG ZX;obtain⟨kd,r,ek,hnum,harg⟩:=IJ t YT;have hf':∀{G:Hp},Zj l0 l1 l2 H G->G f=some (oD l0 l1 l2):=λbb=>bb _ _ f0 f1 f2 hf;have p1:=Ku (n+1);have p2:2 ^ (n+1)=2*2 ^ n:=by rw[Xc,Nat.mul_comm]
 cases p with
 |hole i =>have B:Dat K H (.tup [.str "hole",.int i]) v0:=B;refine cY (K:=K) (d:=.str "hole") (bK (k:=0) (aB B) aF rfl) λv3 H1 s1 J=>?_;have ev:=J.Xz;subst ev;refine aS (K:=K) (b:=true) (RT.as (aM (iA (aB J) T.MS)) (sZ (.inl rfl))) (λ_ H2 N=>?_) (λc=>nomatch c);have j:=s1.trans N;refine aS (K:=K) (b:=!true) (bV (bC (a8 (R:=mJ) (d:=.bl true) (aA (aB (j.dat B)) (aA (aB (j.dat C)) aJ)) ⟨.hole i,t,rfl,rfl,YT,rfl⟩))) (λc=>nomatch c) (λ_ H3 I=>?_);have q:=j.trans I;refine cQ ⟨_,rfl,_,rfl,f,.ref l0,rfl,Eu (q _ _ hf) (B4 l0 l1 l2),.inl ⟨rfl,_,Xm.of (q _ _ u.h0)⟩,?_⟩;refine RE.use (K:=K) (d:=toD t) (FV (b:=true) (RT.as (aM (K:=K) (cC (aB (Dat.XN "hole")) aY)) (TZ rfl)) (λ_=>aB (q.dat C)) (λc=>nomatch c)) λy H4 s4 q4=>?_;have l:=q.trans s4;have Y:=u.same l;refine⟨l0,a,y,rfl,rfl,Y.h0,bP ⋯,?_⟩;obtain⟨t5,b5⟩:=Y.p0 (v:=y);refine post _ [y] [] [] (l.ZM.trans b5) t5 (by simpa using p1) (by simp) (by simp) λfd e=>?_;cases e;exact⟨Xd.cons (Dat.mono (b5.grow Y t5) _ q4) Xd.nil,Xd.nil,Xd.nil⟩
 |gap i m =>
  have B:Dat K H (.tup [.str "gap",.int i,.int m]) v0:=B;refine cY (K:=K) (d:=.str "gap") (bK (k:=0) (aB B) aF rfl) λv3 H1 s1 J=>?_;have ev:=J.Xz;subst ev;refine aS (K:=K) (b:=true) (RT.as (aM (iA (aB J) T.MS)) (sZ (.inr (.inl rfl)))) (λ_ H2 N=>?_) (λc=>nomatch c);have j:=s1.trans N;refine aS (K:=K) (b:=!(cW (.gap i m) t).isSome) (bV (bC (a8 (R:=mJ) (aA (aB (j.dat B)) (aA (aB (j.dat C)) aJ)) ⟨.gap i m,t,rfl,rfl,YT,rfl⟩))) (λcN H3 I=>?_) (λcS H3 I=>?_)
  ·have q:=j.trans I;have e:(cW (.gap i m) t).isSome=false:=jr cN;refine bL (K:=K) (d:=.bl false) fN λv H' s qq=>?_;rw[qq.Zf,<- e];have l:=q.trans s;exact post _ [] [] [] l.ZM (u.same l).nil (by simp) (by simp) (by simp) λfd z=>by rw[z]at e;cases e
  ·have q:=j.trans I
   obtain⟨A,rfl⟩:∃A,t=.num A:=by
    have cS':=fX cS
    cases t with
    |num A=>exact⟨A,rfl⟩
    |_=>cases cS'
   have C:Dat K H (.tup [.str "num",.int A]) v1:=C;refine cQ ⟨_,rfl,_,rfl,f,.ref l1,rfl,Eu (q _ _ hf) (Fi l0 l1 l2),.inl ⟨rfl,_,Xm.of (q _ _ u.h1)⟩,?_⟩;refine RE.use (K:=K) (d:=.int A) (FV (b:=false) (RT.as (aM (K:=K) (cC (aB (Dat.XN "gap")) aY)) (TU ⋯)) (λc=>nomatch c) (λ_=>bK (k:=1) (aB (q.dat C)) aF rfl)) λy H4 s4 q4=>?_;have l:=q.trans s4;have Y:=u.same l;refine⟨l1,b,y,rfl,rfl,Y.h1,bP ⋯,?_⟩;obtain⟨t5,b5⟩:=Y.p1 (v:=y);have e:=fX cS;show Q (.bl true) _;rw[<- e];refine post _ [] [y] [] (l.ZM.trans b5) t5 (by simp) (by simpa using p1) (by simp) λfd z=>?_;have z':(if A<=m then some ([],[A],[])else none:Option Zp)=some fd:=z;by_cases hm:A<=m
   ·rw[TR hm]at z';cases z';exact⟨Xd.nil,Xd.cons (Dat.mono (b5.grow Y t5) _ q4) Xd.nil,Xd.nil⟩
   ·rw[TN hm]at z';cases z'
 |slot i =>
  have B:Dat K H (.tup [.str "slot",.int i]) v0:=B;refine cY (K:=K) (d:=.str "slot") (bK (k:=0) (aB B) aF rfl) λv3 H1 s1 J=>?_;have ev:=J.Xz;subst ev;refine aS (K:=K) (b:=true) (RT.as (aM (iA (aB J) T.MS)) (sZ (.inr (.inr rfl)))) (λ_ H2 N=>?_) (λc=>nomatch c);have j:=s1.trans N;refine aS (K:=K) (b:=!(cW (.slot i) t).isSome) (bV (bC (a8 (R:=mJ) (aA (aB (j.dat B)) (aA (aB (j.dat C)) aJ)) ⟨.slot i,t,rfl,rfl,YT,rfl⟩))) (λcN H3 I=>?_) (λcS H3 I=>?_)
  ·have q:=j.trans I;have e:(cW (.slot i) t).isSome=false:=jr cN;refine bL (K:=K) (d:=.bl false) fN λv H' s qq=>?_;rw[qq.Zf,<- e];have l:=q.trans s;exact post _ [] [] [] l.ZM (u.same l).nil (by simp) (by simp) (by simp) λfd z=>by rw[z]at e;cases e
  ·have q:=j.trans I
   obtain⟨A,rfl⟩:∃A,t=.arg A:=by
    have cS':=fX cS
    cases t with
    |arg A=>exact⟨A,rfl⟩
    |_=>cases cS'
   have C:Dat K H (.tup [.str "arg",.int A]) v1:=C;refine cQ ⟨_,rfl,_,rfl,f,.ref l2,rfl,Eu (q _ _ hf) (B5 l0 l1 l2),.inl ⟨rfl,_,Xm.of (q _ _ u.h2)⟩,?_⟩;refine RE.use (K:=K) (d:=.int A) (FV (b:=false) (RT.as (aM (K:=K) (cC (aB (Dat.XN "slot")) aY)) (TU ⋯)) (λc=>nomatch c) (λ_=>bK (k:=1) (aB (q.dat C)) aF rfl)) λy H4 s4 q4=>?_;have l:=q.trans s4;have Y:=u.same l;refine⟨l2,c,y,rfl,rfl,Y.h2,bP ⋯,?_⟩;obtain⟨t5,b5⟩:=Y.p2 (v:=y);have e:=fX cS;show Q (.bl true) _;rw[<- e];refine post _ [] [] [y] (l.ZM.trans b5) t5 (by simp) (by simp) (by simpa using p1) λfd z=>?_;cases z;exact⟨Xd.nil,Xd.nil,Xd.cons (Dat.mono (b5.grow Y t5) _ q4) Xd.nil⟩
 |num m =>
  have B:Dat K H (.tup [.str "num",.int m]) v0:=B;have h1':Dat K H (.tup (.str kd::r)) v1:=by rw[<- ek];exact C
  refine cY (K:=K) (d:=.str "num") (bK (k:=0) (aB B) aF rfl) λv3 H1 s1 J=>?_;refine aS (K:=K) (b:=false) (RT.as (aM (iA (aB J) T.MS)) ⋯) (λc=>nomatch c) (λ_ H2 N=>?_);have j:=s1.trans N;refine aS (K:=K) (b:=!decide (kd="num")) (aM (xq (bK (k:=0) (aB (j.dat h1')) aF rfl) (aB (N.dat J)))) (λcN H3 I=>?_) (λcS H3 I=>?_)
  ·have q:=j.trans I;have hne:¬ kd="num":=UP (jr cN)
   have e:cW (.num m) t=none:=by
    cases t with
    |num n=>exact absurd (hnum.mpr ⟨n,rfl⟩) hne
    |_=>rfl
   refine bL (K:=K) (d:=.bl false) fN λv H' s qq=>?_;rw[qq.Zf];have l:=q.trans s;have M:=post _ [] [] [] l.ZM (u.same l).nil (by simp) (by simp) (by simp) λfd z=>by rw[e]at z;cases z
   rw[e]at M;exact M
  ·have q:=j.trans I;obtain⟨A,rfl⟩:=hnum.mp (T4 (fX cS));have C:Dat K H (.tup [.str "num",.int A]) v1:=C;refine aS (K:=K) (b:=true) (RT.as (aM (cC (aB ((N.trans I).dat J)) aY)) (TZ rfl)) (λ_ H4 s4=>?_) (λc=>nomatch c);have l:=q.trans s4;refine bL (K:=K) (d:=.bl (decide (A=m))) (iY (bK (k:=1) (aB (l.dat C)) aF rfl) (bK (k:=1) (aB (l.dat B)) aF rfl)) λv H' s qq=>?_;rw[qq.Zf];have Zx:=l.trans s
   have M:=post _ [] [] [] Zx.ZM (u.same Zx).nil (by simp) (by simp) (by simp) λfd z=>by
    have z':(if A=m then some ([],[],[])else none:Option Zp)=some fd:=z;by_cases hm:A=m
    ·rw[TR hm]at z';cases z';exact⟨Xd.nil,Xd.nil,Xd.nil⟩
    ·rw[TN hm]at z';cases z'
   have e:(cW (.num m) (.num A)).isSome=decide (A=m):=by
    show(if A=m then some _ else none:Option Zp).isSome=_;by_cases hm:A=m
    ·rw[TR hm,TZ hm];rfl
    ·rw[TN hm,TU hm];rfl
   rw[e]at M;exact M
 |two o pa pb =>
  have B:Dat K H (.tup [.str o,toP pa,toP pb]) v0:=B;have h1':Dat K H (.tup (.str kd::r)) v1:=by rw[<- ek];exact C
  obtain⟨b1,b2⟩:=GN U.1;refine cY (K:=K) (d:=.str o) (bK (k:=0) (aB B) aF rfl) λv3 H1 s1 J=>?_;refine aS (K:=K) (b:=false) (RT.as (aM (iA (aB J) T.MS)) b1) (λc=>nomatch c) (λ_ H2 N=>?_);have j:=s1.trans N;refine aS (K:=K) (b:=!decide (kd=o)) (aM (xq (bK (k:=0) (aB (j.dat h1')) aF rfl) (aB (N.dat J)))) (λcN H3 I=>?_) (λcS H3 I=>?_)
  ·have q:=j.trans I;have e:=Em (a:=pa) (b:=pb) U.1 ek (UP (jr cN));refine bL (K:=K) (d:=.bl false) fN λv H' s qq=>?_;rw[qq.Zf];have l:=q.trans s;have M:=post _ [] [] [] l.ZM (u.same l).nil (by simp) (by simp) (by simp) λfd z=>by rw[e]at z;cases z
   rw[e]at M;exact M
  ·have q:=j.trans I;obtain⟨x,y,rfl⟩:=EE U.1 ek (T4 (fX cS));have C:Dat K H (.tup [.str o,toD x,toD y]) v1:=C;refine aS (K:=K) (b:=false) (RT.as (aM (cC (aB ((N.trans I).dat J)) aY)) (TU b2)) (λc=>nomatch c) (λ_ H4 s4=>?_);have l:=q.trans s4;have dpa:eK pa<=n:=by simp only[eK]at hn;lia
   have dpb:eK pb<=n:=by simp only[eK]at hn;lia
   have dpx:bE x<=8:=by simp only[bE]at dpt;lia
   have dpy:bE y<=8:=by simp only[bE]at dpt;lia
   refine RE.use (K:=K) (d:=toP pa) (bK (k:=1) (aB (l.dat B)) aF rfl) λw0 H5 s5 q5=>?_;refine RE.use (K:=K) (d:=toD x) (bK (k:=1) (aB ((l.trans s5).dat C)) aF rfl) λw1 H6 s6 q6=>?_;have s16:=l.trans (s5.trans s6);have tri6:=u.same s16;refine⟨_,rfl,pa,x,w0,w1,f,l0,l1,l2,a,b,c,rfl,U.2.1,YT.2.1,dpx,dpa,⋯,s6.dat q5,q6,s16 _ _ hf,f0,f1,f2,tri6,⋯,⋯,⋯,λH7 a1 b1' c1 bb7 tri7 ka kb kc d7=>?_⟩;refine⟨_,rfl,?_⟩
   have n8:2 ^ n<=8:=by
    have:n<=3:=by lia
    match n,this with
    |0,_=>decide
    |1,_=>decide
    |2,_=>decide
    |3,_=>decide
   have g67:bW K H6 H7:=bb7.grow tri6 tri7;have bb17:Zj l0 l1 l2 H H7:=s16.ZM.trans bb7
   cases hfa:cW pa x with
   |none =>
    refine nZ ?_;have M:=post H7 a1 b1' c1 bb17 tri7 (T8 ka (Vk ⋯ ⋯)) (T8 kb (Vk ⋯ ⋯)) (T8 kc (Vk ⋯ ⋯)) λfd z=>by rw[o9 hfa]at z;cases z
    rw[o9 hfa]at M;exact M
   |some fa =>
    refine mU ?_;obtain⟨da,db,dc⟩:=d7 fa hfa;refine rL (jY (RE.use (K:=K) (d:=toP pb) (bK (k:=2) (aB (Dat.mono g67 _ (s16.dat B))) aF rfl) λw2 H8 s8 q8=>?_));refine jY (RE.use (K:=K) (d:=toD y) (bK (k:=2) (aB (s8.dat (Dat.mono g67 _ (s16.dat C)))) aF rfl) λw3 H9 s9 q9=>?_);have O:=s8.trans s9;have tri9:=tri7.same O;refine⟨_,rfl,pb,y,w2,w3,f,l0,l1,l2,a++a1,b++b1',c++c1,rfl,U.2.2,YT.2.2,dpy,dpb,⋯,s9.dat q8,q9,O _ _ (hf' bb17),f0,f1,f2,tri9,by rw[Tq];lia,by rw[Tq];lia,by rw[Tq];lia,λH10 a2 b2' c2 bb10 L ma mb mc d10=>?_⟩;have g:=bb10.grow (K:=K) tri9 L;rw[UW,UW,UW]at L
    have M:=post H10 (a1++a2) (b1'++b2') (c1++c2) (bb17.trans (O.ZM.trans bb10)) L (AY ka ma) (AY kb mb) (AY kc mc) λfd z=>by
     obtain⟨_,f',g',e1,e2,e3⟩:=fL z;rw[hfa]at e1;cases e1;obtain⟨da2,db2,dc2⟩:=d10 g' e2;subst e3;refine⟨?_,?_,?_⟩
     ·show Xd K H10 ((fa.1++g'.1).map toD) _;rw[Uh];exact Xd.append (Xd.mono g _ (O.Xo da)) da2
     ·show Xd K H10 ((fa.2.1++g'.2.1).map D.int) _;rw[Uh];exact Xd.append (Xd.mono g _ (O.Xo db)) db2
     ·show Xd K H10 ((fa.2.2++g'.2.2).map D.int) _;rw[Uh];exact Xd.append (Xd.mono g _ (O.Xo dc)) dc2
    rw[Aq hfa]at M;exact M
end
section
noncomputable def fdD:Option Zp->D
 |none=>.Xi
 |some f=>.tup [.tup (f.1.map toD),.tup (f.2.1.map D.int),.tup (f.2.2.map D.int)]
def qu(a:List D)(d:D):Prop:=∃b p c t,a=[.tup [b,toP p,c],toD t]/\AH p/\YB t/\bE t<=8/\eK p<=3/\d=fdD (cW p t)
theorem Kc(x y z:V):oq [] ([(Sum.inr (Str.ofString "hole"),x),(Sum.inr (Str.ofString "gap"),y),(Sum.inr (Str.ofString "slot"),z)]:List (Key×V))=[(Sum.inr (Str.ofString "hole"),x),(Sum.inr (Str.ofString "gap"),y),(Sum.inr (Str.ofString "slot"),z)]:=rfl
variable{K:vc}
theorem LG{e:TE}{f d:TS}{c:Ends}{a:L2.St}{H:Hp}(h:e a H λx b=>∃k,CF K x b k/\if (!k)=true then f {c with nx:=d c} a b else d c a b):bA (sV (KZ (λa H Q=>e a H λx b=>∃k,CF K x b k/\Q k b)) f zV) d c a H:=h
theorem yV(T:Txt P w K mg)(Pm:Ok P w base k T.Nt (zQ K oD 3)):Ok P w base (k+1) T.NV (XI K qu):=by
 refine XR T.NV.f zH λvs H Q E nd h=>?_;obtain⟨ds,d,hd,⟨nm,p,cs,t,rfl,okp,YT,dpt,dpp,rfl⟩,post⟩:=h;obtain⟨v0,v1,rfl,h0,h1⟩:=gD hd;refine⟨rfl,λ_ _ _ _ hr=>?_⟩;refine'⟨_,?ybody,?yread⟩
 case' ybody=>refine' aC ?a ?b
 case' a=>refine' rG (i:=2) ?c ?d ?e ?f
 case c=>exact nd
 case d=>exact rfl
 case e=>exact Or.inl rfl
 case' f=>refine' HC ?g ?h ?i ?j ?k
 case' g=>refine' rF ?l ?m ?n
 case l=>exact aN
 case m=>exact(bZ aQ)
 case' n=>refine' rF ?o ?p ?q
 case o=>exact aN
 case p=>exact(bZ aQ)
 case' q=>refine' rF ?r ?s ?t
 case r=>exact aN
 case s=>exact(bZ aQ)
 case t=>exact HJ
 case h=>exact rfl
 case i=>exact rfl
 case j=>simp
 case k=>decide
 case' b=>refine' aC ?u ?v
 case' u=>refine' bJ ?w ?x ?y
 case w=>exact(cJ (bN (pc (D:=T.Nt) Pm hr (z3 (a6 a7 (pv 0) aE) (pv 1) (pv 2))) (λ_=>rfl)))
 case' x=>refine' aR ?z
 case z=>exact(jX gM)
 case y=>exact aO
 case' v=>refine' aR ?aa
 case aa=>exact(jX (aX (z3 (bR dJ rfl T.NP fA (z1 (ng (qR hr) (pv 2) aN (λ_ _=>rfl)))) (bR dJ rfl T.NP fA (z1 (ng (qR hr) (pv 2) aN (λ_ _=>rfl)))) (bR dJ rfl T.NP fA (z1 (ng (qR hr) (pv 2) aN (λ_ _=>rfl)))))))
 show let XH:=_;let XT:=bA _ XH;bA _ XT _ _ _;intro XH XT;refine dS (λf hf=>⟨cA ⋯,λA Z1=>⟨cA ⋯,λB C=>⟨cA ⋯,λI J=>⟨?_,[(Sum.inr "hole",.ref A),(Sum.inr "gap",.ref B),(Sum.inr "slot",.ref I)],rfl,by simp,?_⟩⟩⟩⟩)
 ·rw[aI (aK (by rw[aI (aK (by rw[aI (aK aD Z1)];exact aD) C),aI (aK aD Z1)];exact aD) J),aI (aK (by rw[aI (aK aD Z1)];exact aD) C),aI (aK aD Z1)];exact aD
 rw[Kc];have L:f≠A:=aK aD Z1;have M:f≠B:=aK (by rw[aI L];exact aD) C;have U:A≠B:=aK aD C;have Y:f≠I:=aK (by rw[aI M,aI L];exact aD) J;have n20:A≠I:=aK (by rw[aI U];exact aD) J;have n21:B≠I:=aK aD J;generalize hG:upd (upd (upd (upd (upd H f (.dK [])) A (.lst [])) B (.lst [])) I (.lst [])) f (.dK [(Sum.inr "hole",V.ref A),(Sum.inr "gap",.ref B),(Sum.inr "slot",.ref I)])=G;have gf:G f=some (oD A B I):=by rw[<- hG];exact aD
 have tri:ZW A B I G [] [] []:=by
  rw[<- hG];refine⟨?_,?_,?_,U,n20,n21⟩
  ·rw[aI (Tt L),aI n20,aI U];exact aD
  ·rw[aI (Tt M),aI n21];exact aD
  ·rw[aI (Tt Y)];exact aD
 have sG:Xe H G:=λx o O=>by have zf:=aK O hf;have z0:x≠A:=aK (by rw[aI zf];exact O) Z1;have z1:x≠B:=aK (by rw[aI z0,aI zf];exact O) C;have z2:x≠I:=aK (by rw[aI z1,aI z0,aI zf];exact O) J;rw[<- hG,aI zf,aI z2,aI z1,aI z0,aI zf];exact O
 have free0:H A=none:=by rw[aI (Tt L)]at Z1;exact Z1
 have free1:H B=none:=by rw[aI (Tt U),aI (Tt M)]at C;exact C
 have free2:H I=none:=by rw[aI (Tt n21),aI (Tt n20),aI (Tt Y)]at J;exact J
 refine LG (K:=K) (rL (jY (RE.use (K:=K) (d:=toP p) (bK (k:=1) (aB (sG.dat h0)) aF rfl) λw0 G1 s1 q0=>?_)));refine⟨_,rfl,_,rfl,p,t,w0,v1,f,A,B,I,[],[],[],rfl,okp,YT,dpt,dpp,⋯,q0,(sG.trans s1).dat h1,s1 _ _ gf,L,M,Y,tri.same s1,⋯,⋯,⋯,λH' a' b' c' bb N _ _ _ dd=>⟨_,rfl,?_⟩⟩;have sm:Xe H H':=λx o O=>bb x o (aK O free0) (aK O free1) (aK O free2) (s1 _ _ (sG _ _ O))
 cases hft:cW p t with
 |none =>refine mU ?_;rw[hft]at post;exact post _ _ sm Dat.Zt
 |some fd =>refine nZ ?_;obtain⟨d0,d1,d2⟩:=dd fd hft;have gf':H' f=some (.dK [(Sum.inr "hole",V.ref A),(Sum.inr "gap",.ref B),(Sum.inr "slot",.ref I)]):=bb _ _ L M Y (s1 _ _ gf);rw[hft]at post;exact bL (K:=K) (d:=fdD (some fd)) (a9 (aA (oI gf' (B4 A B I) N.h0 d0) (aA (oI gf' (Fi A B I) N.h1 d1) (aA (oI gf' (B5 A B I) N.h2 d2) aJ)))) λv Xu s qq=>post v Xu (sm.trans s) qq
abbrev uo(a:List D)(d:D):Prop:=∃x,a=[x]/\hU x=true/\d=.Xi
abbrev LPD:List D:=[.tup [.str "inc",.tup [.str "add",.tup [.str "hole",.int 0],.tup [.str "num",.int 1]],.tup [.int 12,.int 1]],
 .tup [.str "both",.tup [.str "add",.tup [.str "slot",.int 0],.tup [.str "slot",.int 1]],.tup [.int 3,.tup [.str "arg",.int 0],.int 3,.tup [.str "arg",.int 1],.int 4]],
 .tup [.str "twofold",.tup [.str "mul",.tup [.str "hole",.int 0],.tup [.str "num",.int 2]],.tup [.int 13,.int 4]],
 .tup [.str "fewer",.tup [.str "sub",.tup [.str "hole",.int 0],.tup [.str "gap",.int 0,.int 99]],.tup [.int 1,.tup [.str "low",.int 0],.int 5]],
 .tup [.str "addmul",.tup [.str "add",.tup [.str "mul",.tup [.str "hole",.int 0],.tup [.str "hole",.int 1]],.tup [.str "gap",.int 0,.int 99]],.tup [.int 6,.int 12,.tup [.str "low",.int 0]]],
 .tup [.str "turned",.tup [.str "less",.tup [.str "gap",.int 0,.int 99],.tup [.str "hole",.int 0]],.tup [.int 1,.tup [.str "low",.int 0],.int 14,.int 7]],
 .tup [.str "far",.tup [.str "add",.tup [.str "hole",.int 0],.tup [.str "gap",.int 0,.int 9999]],.tup [.int 2,.tup [.str "low",.int 0],.tup [.str "high",.int 0],.int 4]],
 .tup [.str "pair",.tup [.str "sub",.tup [.str "gap",.int 0,.int 99],.tup [.str "gap",.int 1,.int 99]],.tup [.int 1,.tup [.str "low",.int 0],.int 1,.tup [.str "low",.int 1],.int 5]]]
theorem rn(T:Txt P w K mg)  : Ok P w base (k+1) T.M9 (jL K λds es=>ds=[]/\es=LPD):=by
 refine XR T.M9.f sD λvs H Q E L h=>?_;obtain⟨ds,es,hd,⟨rfl,rfl⟩,post⟩:=h;have ez:=hd.YJ;subst ez;refine⟨rfl,λ_ _ _ _ hr=>?_⟩;refine'⟨_,?ybody,?yread⟩
 case' ybody=>refine' aC ?a ?b
 case' a=>refine' dQ ?c ?d ?e ?f
 case' c=>refine' aX ?g
 case' g=>refine' aU ?h ?i
 case h=>exact(aX (z2 aN aE))
 case' i=>refine' aU ?j ?k
 case j=>exact(aX (z2 aN aE))
 case' k=>refine' aU ?l ?m
 case l=>exact(aX (z3 aN aE aE))
 case m=>exact aQ
 case d=>exact(dP rfl (aP (zg 0 L) (aP (zg 1 L) (aP (zg 2 L) cD))))
 case e=>rfl
 case f=>kernel_rfl
 case' b=>refine' aC ?n ?o
 case' n=>refine' rG (i:=3) ?p ?q ?r ?s
 case p=>exact L
 case q=>exact rfl
 case r=>exact Or.inl rfl
 case' s=>refine' bZ ?t
 case' t=>refine' aU ?u ?v
 case' u=>refine' aX ?w
 case' w=>refine' aU ?x ?y
 case x=>exact aN
 case' y=>refine' aU ?z ?aa
 case' z=>refine' aX ?ab
 case' ab=>refine' aU ?ac ?ad
 case ac=>exact aN
 case' ad=>refine' aU ?ae ?af
 case ae=>exact(pv 0)
 case' af=>refine' aU ?ag ?ah
 case ag=>exact(aX (z2 aN aE))
 case ah=>exact aQ
 case' aa=>refine' aU ?ai ?aj
 case ai=>exact(aX (z2 aE aE))
 case aj=>exact aQ
 case v=>exact aQ
 case' o=>refine' aC ?ak ?al
 case' ak=>refine' bO ?am
 case' am=>refine' eB ?an ?ao ?ap ?aq ?ar ?au
 case an=>exact Ue
 case ao=>exact Uu
 case ap=>exact Uz
 case aq=>exact b8
 case ar=>exact(pv 3)
 case' au=>refine' aU ?av ?aw
 case' av=>refine' aX ?ax
 case' ax=>refine' aU ?ay ?az
 case ay=>exact aN
 case' az=>refine' aU ?ba ?bb
 case' ba=>refine' aX ?bc
 case' bc=>refine' aU ?bd ?be
 case bd=>exact aN
 case' be=>refine' aU ?bf ?bg
 case bf=>exact(aX (z2 aN aE))
 case' bg=>refine' aU ?bh ?bi
 case bh=>exact(aX (z2 aN aE))
 case bi=>exact aQ
 case' bb=>refine' aU ?bj ?bk
 case' bj=>refine' aX ?bl
 case' bl=>refine' aU ?bm ?bn
 case bm=>exact aE
 case' bn=>refine' aU ?bo ?bp
 case bo=>exact(aX (z2 aN aE))
 case' bp=>refine' aU ?bq ?br
 case bq=>exact aE
 case' br=>refine' aU ?bs ?bt
 case bs=>exact(aX (z2 aN aE))
 case' bt=>refine' aU ?bu ?bv
 case bu=>exact aE
 case bv=>exact aQ
 case bk=>exact aQ
 case aw=>exact aQ
 case' al=>refine' aC ?bw ?bx
 case' bw=>refine' bO ?bz
 case' bz=>refine' eB ?ca ?cb ?cc ?cd ?ce ?cf
 case ca=>exact Ue
 case cb=>exact Uu
 case cc=>exact Uz
 case cd=>exact b8
 case ce=>exact(pv 3)
 case' cf=>refine' aU ?cg ?ch
 case' cg=>refine' aX ?ci
 case' ci=>refine' aU ?cj ?ck
 case cj=>exact aN
 case' ck=>refine' aU ?cl ?cm
 case' cl=>refine' aX ?cn
 case' cn=>refine' aU ?co ?cp
 case co=>exact aN
 case' cp=>refine' aU ?cq ?cr
 case cq=>exact(pv 0)
 case' cr=>refine' aU ?cs ?ct
 case cs=>exact(aX (z2 aN aE))
 case ct=>exact aQ
 case' cm=>refine' aU ?cu ?cv
 case cu=>exact(aX (z2 aE aE))
 case cv=>exact aQ
 case ch=>exact aQ
 case' bx=>refine' aC ?cw ?cx
 case' cw=>refine' bO ?cy
 case' cy=>refine' eB ?cz ?da ?db ?dc ?dd ?de
 case cz=>exact Ue
 case da=>exact Uu
 case db=>exact Uz
 case dc=>exact b8
 case dd=>exact(pv 3)
 case' de=>refine' aU ?df ?dg
 case' df=>refine' aX ?dh
 case' dh=>refine' aU ?di ?dj
 case di=>exact aN
 case' dj=>refine' aU ?dk ?dl
 case dk=>exact(aX (z3 aN (pv 0) (pv 2)))
 case' dl=>refine' aU ?dm ?dn
 case' dm=>refine' aX ?dp
 case' dp=>refine' aU ?dq ?dr
 case dq=>exact aE
 case' dr=>refine' aU ?ds ?dt
 case ds=>exact(aX (z2 aN aE))
 case' dt=>refine' aU ?du ?dv
 case du=>exact aE
 case dv=>exact aQ
 case dn=>exact aQ
 case dg=>exact aQ
 case' cx=>refine' aC ?dw ?dx
 case' dw=>refine' bO ?dy
 case' dy=>refine' eB ?dz ?ea ?eb ?ec ?ed ?ee
 case dz=>exact Ue
 case ea=>exact Uu
 case eb=>exact Uz
 case ec=>exact b8
 case ed=>exact(pv 3)
 case' ee=>refine' aU ?ef ?eg
 case' ef=>refine' aX ?eh
 case' eh=>refine' aU ?ei ?ej
 case ei=>exact aN
 case' ej=>refine' aU ?ek ?el
 case' ek=>refine' aX ?em
 case' em=>refine' aU ?en ?eo
 case en=>exact aN
 case' eo=>refine' aU ?ep ?eq
 case ep=>exact(aX (z3 aN (pv 0) (pv 1)))
 case' eq=>refine' aU ?er ?es
 case er=>exact(pv 2)
 case es=>exact aQ
 case' el=>refine' aU ?et ?eu
 case' et=>refine' aX ?ev
 case' ev=>refine' aU ?ew ?ex
 case ew=>exact aE
 case' ex=>refine' aU ?ey ?ez
 case ey=>exact aE
 case' ez=>refine' aU ?fa ?fb
 case fa=>exact(aX (z2 aN aE))
 case fb=>exact aQ
 case eu=>exact aQ
 case eg=>exact aQ
 case' dx=>refine' aC ?fc ?fd
 case' fc=>refine' bO ?fe
 case' fe=>refine' eB ?ff ?fg ?fh ?fi ?fj ?fk
 case ff=>exact Ue
 case fg=>exact Uu
 case fh=>exact Uz
 case fi=>exact b8
 case fj=>exact(pv 3)
 case' fk=>refine' aU ?fl ?fm
 case' fl=>refine' aX ?fn
 case' fn=>refine' aU ?fo ?fp
 case fo=>exact aN
 case' fp=>refine' aU ?fq ?fr
 case fq=>exact(aX (z3 aN (pv 2) (pv 0)))
 case' fr=>refine' aU ?fs ?ft
 case' fs=>refine' aX ?fu
 case' fu=>refine' aU ?fv ?fw
 case fv=>exact aE
 case' fw=>refine' aU ?fx ?fy
 case fx=>exact(aX (z2 aN aE))
 case' fy=>refine' aU ?fz ?ga
 case fz=>exact aE
 case' ga=>refine' aU ?gb ?gc
 case gb=>exact aE
 case gc=>exact aQ
 case ft=>exact aQ
 case fm=>exact aQ
 case' fd=>refine' aC ?gd ?ge
 case' gd=>refine' bO ?gf
 case' gf=>refine' eB ?gg ?gh ?gi ?gj ?gk ?gl
 case gg=>exact Ue
 case gh=>exact Uu
 case gi=>exact Uz
 case gj=>exact b8
 case gk=>exact(pv 3)
 case' gl=>refine' aU ?gm ?gn
 case' gm=>refine' aX ?go
 case' go=>refine' aU ?gp ?gq
 case gp=>exact aN
 case' gq=>refine' aU ?gr ?gs
 case' gr=>refine' aX ?gt
 case' gt=>refine' aU ?gu ?gv
 case gu=>exact aN
 case' gv=>refine' aU ?gw ?gx
 case gw=>exact(pv 0)
 case' gx=>refine' aU ?gy ?gz
 case gy=>exact(aX (z3 aN aE aE))
 case gz=>exact aQ
 case' gs=>refine' aU ?ha ?hb
 case' ha=>refine' aX ?hc
 case' hc=>refine' aU ?hd ?he
 case hd=>exact aE
 case' he=>refine' aU ?hf ?hg
 case hf=>exact(aX (z2 aN aE))
 case' hg=>refine' aU ?hh ?hi
 case hh=>exact(aX (z2 aN aE))
 case' hi=>refine' aU ?hj ?hk
 case hj=>exact aE
 case hk=>exact aQ
 case hb=>exact aQ
 case gn=>exact aQ
 case' ge=>refine' aC ?hl ?hm
 case' hl=>refine' bO ?hn
 case' hn=>refine' eB ?ho ?hp ?hq ?hr ?hs ?ht
 case ho=>exact Ue
 case hp=>exact Uu
 case hq=>exact Uz
 case hr=>exact b8
 case hs=>exact(pv 3)
 case' ht=>refine' aU ?hu ?hv
 case' hu=>refine' aX ?hw
 case' hw=>refine' aU ?hx ?hy
 case hx=>exact aN
 case' hy=>refine' aU ?hz ?ia
 case' hz=>refine' aX ?ib
 case' ib=>refine' aU ?ic ?id
 case ic=>exact aN
 case' id=>refine' aU ?ie ?ig
 case ie=>exact(aX (z3 aN aE aE))
 case' ig=>refine' aU ?ih ?ii
 case ih=>exact(aX (z3 aN aE aE))
 case ii=>exact aQ
 case' ia=>refine' aU ?ij ?ik
 case' ij=>refine' aX ?il
 case' il=>refine' aU ?im ?io
 case im=>exact aE
 case' io=>refine' aU ?ip ?iq
 case ip=>exact(aX (z2 aN aE))
 case' iq=>refine' aU ?ir ?it
 case ir=>exact aE
 case' it=>refine' aU ?iu ?iv
 case iu=>exact(aX (z2 aN aE))
 case' iv=>refine' aU ?iw ?ix
 case iw=>exact aE
 case ix=>exact aQ
 case ik=>exact aQ
 case hv=>exact aQ
 case' hm=>refine' aR ?iy
 case iy=>exact(jX (pv 3))
 show let XH:=bA _ _;let XT:=bA _ XH;let Yt:=bA _ XT;let YG:=bA _ Yt;let ZX:=bA _ YG;let B:=bA _ ZX;let C:=bA _ B;let G:=bA _ C;bA _ G _ _ _;intro XH XT Yt YG ZX B C G;refine qk (K:=K) (d:=.tup [.str "hole",.int 0]) (e:=.tup [.str "hole",.int 1]) (f:=.tup [.str "gap",.int 0,.int 99]) (a9 (aA (a9 (aA aY (aA aF aJ))) (aA (a9 (aA aY (aA aF aJ))) (aA (a9 (aA aY (aA aF (aA aF aJ)))) aJ)))) λvh vo vg H1 s1 dh A dg=>?_;refine jk (K:=K) (iE (aA (a9 (aA aY (aA (a9 (aA aY (aA (aB dh) (aA (a9 (aA aY (aA aF aJ))) aJ)))) (aA (a9 (aA aF (aA aF aJ))) aJ)))) aJ)) λN x0 G0 hb M h0 e0=>?_;have I:H N=none:=s1.free hb;have dh:=M.dat dh;have A:=M.dat A;have dg:=M.dat dg;have O:Xv N H G0:=(s1.trans M).but;have l0:=e0.length;simp only[TQ,Ut,Tq]at l0;refine ji (K:=K) (a9 (aA aY (aA (a9 (aA aY (aA (a9 (aA aY (aA aF aJ))) (aA (a9 (aA aY (aA aF aJ))) aJ)))) (aA (a9 (aA aF (aA (a9 (aA aY (aA aF aJ))) (aA aF (aA (a9 (aA aY (aA aF aJ))) (aA aF aJ)))))) aJ)))) h0 (by first|lia | (simp only[Tq,TQ,Ut];lia)) λy1 G1 b1 U ZV=>?_;have g1:bW K _ G1:=b1.grow h0 U;have dh:=Dat.mono g1 _ dh;have A:=Dat.mono g1 _ A;have dg:=Dat.mono g1 _ dg;have e1:=Xd.append (Xd.mono g1 _ e0) (Xd.cons ZV Xd.nil);have l1:=e1.length;have Y:=O.trans b1;simp only[TQ,Ut,Tq]at l1;refine ji (K:=K) (a9 (aA aY (aA (a9 (aA aY (aA (aB dh) (aA (a9 (aA aY (aA aF aJ))) aJ)))) (aA (a9 (aA aF (aA aF aJ))) aJ)))) U (by first|lia | (simp only[Tq,TQ,Ut];lia)) λy2 G2 b2 h2 e2'=>?_;have g2:bW K _ G2:=b2.grow U h2;have dh:=Dat.mono g2 _ dh;have A:=Dat.mono g2 _ A;have dg:=Dat.mono g2 _ dg;have e2:=Xd.append (Xd.mono g2 _ e1) (Xd.cons e2' Xd.nil);have l2:=e2.length;have bb2:=Y.trans b2;simp only[TQ,Ut,Tq]at l2;refine ji (K:=K) (a9 (aA aY (aA (a9 (aA aY (aA (aB dh) (aA (aB dg) aJ)))) (aA (a9 (aA aF (aA (a9 (aA aY (aA aF aJ))) (aA aF aJ)))) aJ)))) h2 (by first|lia | (simp only[Tq,TQ,Ut];lia)) λy3 G3 b3 h3 e3'=>?_;have g3:bW K _ G3:=b3.grow h2 h3;have dh:=Dat.mono g3 _ dh;have A:=Dat.mono g3 _ A;have dg:=Dat.mono g3 _ dg;have e3:=Xd.append (Xd.mono g3 _ e2) (Xd.cons e3' Xd.nil);have l3:=e3.length;have bb3:=bb2.trans b3;simp only[TQ,Ut,Tq]at l3;refine ji (K:=K) (a9 (aA aY (aA (a9 (aA aY (aA (a9 (aA aY (aA (aB dh) (aA (aB A) aJ)))) (aA (aB dg) aJ)))) (aA (a9 (aA aF (aA aF (aA (a9 (aA aY (aA aF aJ))) aJ)))) aJ)))) h3 (by first|lia | (simp only[Tq,TQ,Ut];lia)) λy4 G4 b4 h4 e4'=>?_;have g4:bW K _ G4:=b4.grow h3 h4;have dh:=Dat.mono g4 _ dh;have A:=Dat.mono g4 _ A;have dg:=Dat.mono g4 _ dg;have e4:=Xd.append (Xd.mono g4 _ e3) (Xd.cons e4' Xd.nil);have l4:=e4.length;have bb4:=bb3.trans b4;simp only[TQ,Ut,Tq]at l4;refine ji (K:=K) (a9 (aA aY (aA (a9 (aA aY (aA (aB dg) (aA (aB dh) aJ)))) (aA (a9 (aA aF (aA (a9 (aA aY (aA aF aJ))) (aA aF (aA aF aJ))))) aJ)))) h4 (by first|lia | (simp only[Tq,TQ,Ut];lia)) λy5 G5 b5 h5 e5'=>?_;have g5:bW K _ G5:=b5.grow h4 h5;have dh:=Dat.mono g5 _ dh;have A:=Dat.mono g5 _ A;have dg:=Dat.mono g5 _ dg;have e5:=Xd.append (Xd.mono g5 _ e4) (Xd.cons e5' Xd.nil);have l5:=e5.length;have bb5:=bb4.trans b5;simp only[TQ,Ut,Tq]at l5;refine ji (K:=K) (a9 (aA aY (aA (a9 (aA aY (aA (aB dh) (aA (a9 (aA aY (aA aF (aA aF aJ)))) aJ)))) (aA (a9 (aA aF (aA (a9 (aA aY (aA aF aJ))) (aA (a9 (aA aY (aA aF aJ))) (aA aF aJ))))) aJ)))) h5 (by first|lia | (simp only[Tq,TQ,Ut];lia)) λy6 G6 b6 h6 e6'=>?_;have g6:bW K _ G6:=b6.grow h5 h6;have dh:=Dat.mono g6 _ dh;have A:=Dat.mono g6 _ A;have dg:=Dat.mono g6 _ dg;have e6:=Xd.append (Xd.mono g6 _ e5) (Xd.cons e6' Xd.nil);have l6:=e6.length;have bb6:=bb5.trans b6;simp only[TQ,Ut,Tq]at l6;refine ji (K:=K) (a9 (aA aY (aA (a9 (aA aY (aA (a9 (aA aY (aA aF (aA aF aJ)))) (aA (a9 (aA aY (aA aF (aA aF aJ)))) aJ)))) (aA (a9 (aA aF (aA (a9 (aA aY (aA aF aJ))) (aA aF (aA (a9 (aA aY (aA aF aJ))) (aA aF aJ)))))) aJ)))) h6 (by first|lia | (simp only[Tq,TQ,Ut];lia)) λy7 G7 b7 h7 e7'=>?_;have g7:bW K _ G7:=b7.grow h6 h7;have dh:=Dat.mono g7 _ dh;have A:=Dat.mono g7 _ A;have dg:=Dat.mono g7 _ dg;have e7:=Xd.append (Xd.mono g7 _ e6) (Xd.cons e7' Xd.nil);have l7:=e7.length;have bb7:=bb6.trans b7;have sm:Xe H G7:=λb o J=>bb7 b o (aK J I) J;exact⟨_,rfl,post N _ G7 sm h7 I e7⟩
end
section
variable{w:World}
structure Pc where
 nm:Str
 pt:Pa
 cs:List D
noncomputable def XW(p:Pc):D:=.tup [.str p.nm,toP p.pt,.tup p.cs]
noncomputable def gI:Pa->Bool
 | .hole _=>false
 |_=>true
structure Hy(p:Pc):Prop where
 nm:p.nm≠"pick"
 ok:AH p.pt
 dp:eK p.pt<=3
 cs:p.cs.length<=12
 nh:gI p.pt=true
structure Wy where
 nm:Str
 cs:List D
 ts:List Tr
noncomputable def wyD(w:Wy):D:=.tup [.str w.nm,.tup w.cs,.tup (w.ts.map toD)]
noncomputable def pO(t:Tr)(p:Pc):Option Wy:=(cW p.pt t).map λf=>⟨p.nm,p.cs,f.1⟩
noncomputable def Ay:Tr->Bool
 | .pick _ _ _=>true
 |_=>false
noncomputable def jc(a:List Pc)(t:Tr):List Wy:=if Ay t=true then [⟨"pick",[],cU t⟩]else a.filterMap (pO t)
noncomputable def js(b c a:Int):List Int:=if a<=9 then [b,a]else [c,a%100,a / 100]
noncomputable def hX(a:Int):Int:=if a<=9 then 2 else 3
theorem kK(b c a:Int):((js b c a).length:Int)=hX a:=by unfold js hX;split<;>rfl
theorem B2(h:a<=b):hX a<=hX b:=by unfold hX;split<;>split<;>lia
theorem EO(a:Int):2<=hX a/\hX a<=3:=by unfold hX;split<;>lia
noncomputable def uX(y z:Int):Int:=hX (y+hX z)+hX z
theorem FI(h:a<=b)(e:c<=d):uX a c<=uX b d:=by unfold uX;have f:=B2 e;have g:=B2 (show a+hX c<=b+hX d by lia);lia
noncomputable def t4(w:Wy)(a:eH):Int:=if w.nm="pick" then uX (a.getD 1 0) (a.getD 2 0)else (w.cs.length:Int)
noncomputable def dD(w:Wy)(a:eH):Int:=t4 w a+a.sum
noncomputable abbrev ZQ:Type:=Option (Int×D)
noncomputable def bD:ZQ->D
 |none=>.Xi
 |some b=>.tup [.int b.1,b.2]
noncomputable def iB:List ZQ->Option (List (Int×D))
 |[]=>some []
 |none::_=>none
 |some b::r=>(iB r).map (b::·)
noncomputable def cvD(a:Str)(bs:List (Int×D)):D:=.tup [.str a,.tup (bs.map (·.2))]
noncomputable def jQ(a:ZQ)(l:Int)(c:D):ZQ:=match a with
 |none=>some (l,c)
 |some b=>if l<b.1 then some (l,c)else some b
noncomputable def Je(a:ZQ)(w:Wy):Option (List (Int×D))->ZQ
 |none=>a
 |some bs=>jQ a (dD w (bs.map (·.1))) (cvD w.nm bs)
noncomputable def i8(f:Tr->ZQ)(a:ZQ)(w:Wy):ZQ:=Je a w (iB (w.ts.map f))
noncomputable def nR(a:List Pc)(f:Tr->ZQ)(t:Tr):ZQ:=(jc a t).foldl (i8 f) none
noncomputable def mM(a:List Pc):Nat->Tr->ZQ
 |0,_=>none
 |n+1,t=>nR a (mM a n) t
noncomputable def cH(a:List Pc)(t:Tr):ZQ:=mM a (aV t) t
theorem vF(t:Tr):1<=aV t:=by cases t<;>simp[aV]
theorem wg:∀(p:Pa)(t:Tr)(f:Zp),cW p t=some f->∀x∈f.1,x∈aW t
 | .hole i,t,f,h,x,hx=>by cases h;simp at hx;rw[hx,fY];exact Uq
 | .gap i m,t,f,h,x,hx=>by
  cases t with
  |num n =>
   have c:(if n<=m then some ([],[n],[])else none:Option Zp)=some f:=h;by_cases z:n<=m
   ·rw[TR z]at c;cases c;simp at hx
   ·rw[TN z]at c;cases c
  |_=>cases h
 | .slot i,t,f,h,x,hx=>by
  cases t with
  |arg n=>cases h;simp at hx
  |_=>cases h
 | .num m,t,f,h,x,hx=>by
  cases t with
  |num n =>
   have c:(if n=m then some ([],[],[])else none:Option Zp)=some f:=h;by_cases z:n=m
   ·rw[TR z]at c;cases c;simp at hx
   ·rw[TN z]at c;cases c
  |_=>cases h
 | .two o a b,t,f,h,x,hx=>by
  cases t with
  |two j u v =>
   obtain⟨_,e,g,e1,e2,e3⟩:=fL h;subst e3;have d:x∈e.1++g.1:=hx;simp only[aW,TY,Uw];rcases Uw.mp d with hx|hx
   ·exact .inr (.inl (wg a u e e1 x hx))
   ·exact .inr (.inr (wg b v g e2 x hx))
  |_=>cases h
theorem yB(j:gI p=true)(h:cW p t=some f):∀x∈f.1,x∈(cU t).flatMap aW:=by
 intro x hx
 cases p with
 |hole i=>cases j
 |gap i m =>
  cases t with
  |num n =>
   have c:(if n<=m then some ([],[n],[])else none:Option Zp)=some f:=h;by_cases z:n<=m
   ·rw[TR z]at c;cases c;simp at hx
   ·rw[TN z]at c;cases c
  |_=>cases h
 |slot i =>
  cases t with
  |arg n=>cases h;simp at hx
  |_=>cases h
 |num m =>
  cases t with
  |num n =>
   have c:(if n=m then some ([],[],[])else none:Option Zp)=some f:=h;by_cases z:n=m
   ·rw[TR z]at c;cases c;simp at hx
   ·rw[TN z]at c;cases c
  |_=>cases h
 |two o a b =>
  cases t with
  |two l u v =>
   obtain⟨_,e,g,e1,e2,e3⟩:=fL h;subst e3;have d:x∈e.1++g.1:=hx;simp only[cU,W9,List.flatMap_nil,Ub,Uw];rcases Uw.mp d with hx|hx
   ·exact .inl (wg a u e e1 x hx)
   ·exact .inr (wg b v g e2 x hx)
  |_=>cases h
theorem DB(t:Tr):t∈aW t:=by rw[fY];exact Uq
theorem qm{c:List Pc}(d:∀p∈c,gI p.pt=true){t:Tr}{w:Wy}(b:w∈jc c t):∀x∈w.ts,x∈(cU t).flatMap aW:=by
 unfold jc at b;split at b
 ·rw[Uj.mp b];intro x g;exact Wt.mpr ⟨x,g,DB x⟩
 ·obtain⟨p,i,a⟩:=UZ.mp b;unfold pO at a
  cases e:cW p.pt t with
  |none=>rw[e]at a;cases a
  |some f =>rw[e]at a;cases a;exact yB (d p i) e
theorem fD:∀(t x:Tr),x∈aW t->aV x<=aV t/\bE x<=bE t
 | .num n,x,h=>by
  have e:x=.num n:=by simpa[aW]using h
  subst e;exact⟨Tu _,Tu _⟩
 | .arg n,x,h=>by
  have e:x=.arg n:=by simpa[aW]using h
  subst e;exact⟨Tu _,Tu _⟩
 | .two o a b,x,h=>by
  simp only[aW,TY,Uw]at h;rcases h with rfl|h|h
  ·exact⟨Tu _,Tu _⟩
  ·have:=fD a x h;simp only[aV,bE];lia
  ·have:=fD b x h;simp only[aV,bE];lia
 | .pick a b c,x,h=>by
  simp only[aW,TY,Uw]at h;rcases h with rfl | (h|h)|h
  ·exact⟨Tu _,Tu _⟩
  ·have:=fD a x h;simp only[aV,bE];lia
  ·have:=fD b x h;simp only[aV,bE];lia
  ·have:=fD c x h;simp only[aV,bE];lia
theorem jg:∀(t x:Tr),YB t->x∈aW t->YB x
 | .num n,x,k,h=>by
  have e:x=.num n:=by simpa[aW]using h
  subst e;exact k
 | .arg n,x,k,h=>by
  have e:x=.arg n:=by simpa[aW]using h
  subst e;exact k
 | .two o a b,x,k,h=>by
  simp only[aW,TY,Uw]at h;rcases h with rfl|h|h
  ·exact k
  ·exact jg a x k.2.1 h
  ·exact jg b x k.2.2 h
 | .pick a b c,x,k,h=>by
  simp only[aW,TY,Uw]at h;rcases h with rfl | (h|h)|h
  ·exact k
  ·exact jg a x k.1 h
  ·exact jg b x k.2.1 h
  ·exact jg c x k.2.2 h
theorem C5(h:x∈cU t):aV x<aV t/\bE x<bE t:=by
 cases t with
 |num n=>simp[cU]at h
 |arg n=>simp[cU]at h
 |two o a b =>simp only[cU,TY,Ul,UX]at h;simp only[aV,bE];rcases h with rfl|rfl<;>lia
 |pick a b c =>simp only[cU,TY,Ul,UX]at h;simp only[aV,bE];rcases h with rfl|rfl|rfl<;>lia
theorem kg(h:x∈(cU t).flatMap aW):aV x<aV t/\bE x<bE t:=by obtain⟨k,a,b⟩:=Wt.mp h;have:=C5 a;have:=fD k x b;lia
theorem DF(h:x∈(cU t).flatMap aW):x∈aW t:=by rw[fY];exact Ug _ h
theorem Bq{w:Wy}(h:∀x∈w.ts,f x=g x)(b:ZQ):i8 f b w=i8 g b w:=by unfold i8;rw[WO h]
theorem mw:∀(a:List Wy)(b:ZQ),(∀w∈a,∀x∈w.ts,f x=g x)->a.foldl (i8 f) b=a.foldl (i8 g) b
 |[],_,_=>rfl
 |w::a,b,h=>by rw[V9,V9,Bq (h w Uq)];exact mw a _ λc d=>h c (Ug _ d)
theorem oZ(b:∀p∈a,gI p.pt=true):∀(n:Nat)(t:Tr),aV t<=n->mM a (n+1) t=mM a n t
 |0,t,h=>by have:=vF t;lia
 |n+1,t,h=>by show nR a (mM a (n+1)) t=nR a (mM a n) t;refine mw _ _ λw c x d=>oZ b n x ?_;have:=kg (qm b c x d);lia
theorem qB(b:∀p∈a,gI p.pt=true):∀{n:Nat},aV t<=n->mM a n t=cH a t:=by
 intro n
 induction n with
 |zero=>intro h;have:=vF t;lia
 |succ n c =>
  intro h;by_cases e:aV t=n+1
  ·unfold cH;rw[e]
  ·rw[oZ b n t ⋯];exact c ⋯
theorem yf(b:∀p∈a,gI p.pt=true)(t:Tr):cH a t=nR a (cH a) t:=by rw[<- qB b (V5 (aV t))];show nR a (mM a (aV t)) t=_;refine mw _ _ λw c x d=>qB b ?_;exact UJ (kg (qm b c x d)).1
inductive Yu{α β:Type}(R:α->β->Prop):List α->List β->Prop
 |nil:Yu R [] []
 |cons {a b as bs}:R a b->Yu R as bs->Yu R (a::as) (b::bs)
theorem Yu.mono{R S:α->β->Prop}(h:∀a b,R a b->S a b):∀{as:List α}{bs:List β},Yu R as bs->Yu S as bs:=by
 intro as bs q
 induction q with
 |nil=>exact .nil
 |cons r _ c=>exact .cons (h _ _ r) c
def vQ(a:List Pc):Nat->Tr->Int->Prop
 |0,_,_=>False
 |n+1,t,m=>∃w∈jc a t,∃b,Yu (vQ a n) w.ts b/\m=dD w b
def Yd(S:Int->Prop):ZQ->Prop
 |none=>∀m,¬ S m
 |some x=>S x.1/\∀m,S m->x.1<=m
theorem KW:∀{as bs:eH},Yu (λa b=>a<=b) as bs->as.sum<=bs.sum:=by
 intro as bs h
 induction h with
 |nil=>exact WT _
 |cons r _ c=>simp only[List.sum_cons];lia
theorem BS:∀{as bs:eH},Yu (λa b=>a<=b) as bs->∀i,as.getD i 0<=bs.getD i 0:=by
 intro as bs h
 induction h with
 |nil=>intro i;exact WT _
 |cons r _ c =>
  intro i
  cases i with
  |zero=>simpa using r
  |succ i=>simpa using c i
theorem EY(w:Wy)(h:Yu (λa b=>a<=b) as bs):dD w as<=dD w bs:=by
 unfold dD t4;have c:=KW h;split
 ·have:=FI (BS h 1) (BS h 2);lia
 ·lia
theorem uw(d:∀t,Yd (C t) (f t)):∀{a:List Tr},iB (a.map f)=none->∀c,¬ Yu C a c
 |[],h,c=>by cases h
 |t::a,h,c=>by
  intro q
  cases q with
  |cons r q =>
   cases e:f t with
   |none =>have z:=d t;rw[e]at z;exact z _ r
   |some b =>
    rw[T7,e]at h;have g:(iB (a.map f)).map (b::·)=none:=h
    cases e2:iB (a.map f)with
    |none=>exact uw d e2 _ q
    |some r=>rw[e2]at g;cases g
theorem ux(i:∀t,Yd (C t) (f t)):∀{c:List Tr}{bs:List (Int×D)},iB (c.map f)=some bs->Yu C c (bs.map (·.1))/\∀d,Yu C c d->Yu (λa b=>a<=b) (bs.map (·.1)) d
 |[],bs,h=>by cases h;exact⟨.nil,λd q=>by cases q;exact .nil⟩
 |t::c,bs,h=>by
  cases e:f t with
  |none=>rw[T7,e]at h;cases h
  |some b =>
   rw[T7,e]at h;have g:(iB (c.map f)).map (b::·)=some bs:=h
   cases e2:iB (c.map f)with
   |none=>rw[e2]at g;cases g
   |some r =>
    rw[e2]at g;cases g;obtain⟨j,l⟩:=ux i e2;have z:=i t;rw[e]at z;refine⟨.cons z.1 j,λd q=>?_⟩
    cases q with
    |cons m n=>exact .cons (z.2 _ m) (l _ n)
theorem Br(g:∀t,Yd (C t) (f t))(w:Wy)(h:Yd S b):Yd (λm=>S m\/∃a,Yu C w.ts a/\m=dD w a) (i8 f b w):=by
 unfold i8
 cases e:iB (w.ts.map f)with
 |none =>
  have i:=uw g e
  cases b with
  |none=>exactλm z=>z.elim (h m) λ⟨a,q,_⟩=>i a q
  |some x=>exact⟨.inl h.1,λm z=>z.elim (h.2 m) λ⟨a,q,_⟩=>absurd q (i a)⟩
 |some bs =>
  obtain⟨j,l⟩:=ux g e;have lo:∀a,Yu C w.ts a->dD w (bs.map (·.1))<=dD w a:=λa q=>EY w (l a q);show Yd _ (jQ b _ _);unfold jQ
  cases b with
  |none=>exact⟨.inr ⟨_,j,rfl⟩,λm z=>z.elim (λq=>absurd q (h m)) λ⟨a,q,c⟩=>by rw[c];exact lo a q⟩
  |some x =>
   dsimp only;split
   ·rename_i d;exact⟨.inr ⟨_,j,rfl⟩,λm z=>z.elim (λq=>Int.le_of_lt (Int.lt_of_lt_of_le d (h.2 m q))) λ⟨a,q,c⟩=>by rw[c];exact lo a q⟩
   ·rename_i n;exact⟨.inl h.1,λm z=>z.elim (h.2 m) λ⟨a,q,c⟩=>by rw[c];have:=lo a q;lia⟩
theorem Yd.iff(h:Yd S b)(e:∀m,S m↔T m):Yd T b:=by have z:S=T:=funext λm=>propext (e m);rw[<- z];exact h
theorem qL(d:∀t,Yd (C t) (f t)):∀(a:List Wy)(S:Int->Prop)(b:ZQ),Yd S b->Yd (λm=>S m\/∃w∈a,∃e,Yu C w.ts e/\m=dD w e) (a.foldl (i8 f) b)
 |[],S,b,h=>h.iff λm=>⟨λq=>.inl q,λq=>q.elim id λ⟨w,hw,_⟩=>absurd hw (by simp)⟩
 |w::a,S,b,h=>by
  rw[V9];refine(qL d a _ _ (Br d w h)).iff λm=>⟨λq=>?_,λq=>?_⟩
  ·rcases q with(q|q)|⟨c,hw,q⟩
   ·exact .inl q
   ·exact .inr ⟨w,Uq,q⟩
   ·exact .inr ⟨c,Ug _ hw,q⟩
  ·rcases q with q|⟨c,hw,q⟩
   ·exact .inl (.inl q)
   ·rcases TY.mp hw with rfl|hw
    ·exact .inl (.inr q)
    ·exact .inr ⟨c,hw,q⟩
theorem qC(a:List Pc):∀(n:Nat)(t:Tr),Yd (vQ a n t) (mM a n t)
 |0,t=>λm h=>h
 |n+1,t=>(qL (qC a n) (jc a t) (λ_=>False) none (λm h=>h)).iff λm=>⟨λq=>q.elim False.elim id,λq=>.inr q⟩
theorem yn:∀(n:Nat)(t:Tr)(m:Int),vQ a n t m->vQ a (n+1) t m
 |0,t,m,h=>h.elim
 |n+1,t,m,⟨w,b,c,q,e⟩=>⟨w,b,c,q.mono (yn n),e⟩
theorem vZ(h:n<=k)(q:vQ a n t m):vQ a k t m:=by
 induction h with
 |refl=>exact q
 |step _ b=>exact yn _ _ _ b
def Cov(a:List Pc)(t:Tr)(m:Int):Prop:=∃n,vQ a n t m
theorem Lr(c:∀p∈b,gI p.pt=true)(t:Tr):Yd (Cov b t) (cH b t):=by
 have a:∀n,Yd (vQ b (max n (aV t)) t) (cH b t):=λn=>by have:=qC b (max n (aV t)) t;rw[qB c (V1 _ _)]at this;exact this
 cases e:cH b t with
 |none =>rintro m ⟨n,q⟩;have k:=a n;rw[e]at k;exact k m (vZ (VO _ _) q)
 |some x =>
  refine⟨?_,?_⟩
  ·have k:=a 0;rw[e]at k;exact⟨_,k.1⟩
  ·rintro m ⟨n,q⟩;have k:=a n;rw[e]at k;exact k.2 m (vZ (VO _ _) q)
theorem JN:∀{a:List Tr}{b:eH},Yu (Cov c) a b->∃n,Yu (vQ c n) a b:=by
 intro a b h
 induction h with
 |nil=>exact⟨0,.nil⟩
 |cons r _ d =>obtain⟨n1,e⟩:=r;obtain⟨n2,f⟩:=d;exact⟨max n1 n2,.cons (vZ (VO _ _) e) (f.mono λ_ _=>vZ (V1 _ _))⟩
theorem Cov.intro{a:List Pc}{t:Tr}{w:Wy}{b:eH}(c:w∈jc a t)(h:Yu (Cov a) w.ts b):Cov a t (dD w b):=by obtain⟨n,q⟩:=JN h;exact⟨n+1,w,c,b,q,rfl⟩
theorem xU(a:p∈b)(c:Ay t=false)(h:cW p.pt t=some f):(⟨p.nm,p.cs,f.1⟩:Wy)∈jc b t:=by unfold jc;rw[TN (by rw[c];exact TH)];exact UZ.mpr ⟨p,a,by unfold pO;rw[h];rfl⟩
theorem GC:jc d (.pick a b c)=[⟨"pick",[],[a,b,c]⟩]:=rfl
noncomputable def iC:Pa->Nat
 | .hole _=>1
 | .two _ a b=>iC a+iC b
 |_=>0
theorem nV:∀(p:Pa)(t:Tr)(f:Zp),cW p t=some f->f.1.length=iC p
 | .hole i,t,f,h=>by cases h;rfl
 | .gap i m,t,f,h=>by
  cases t with
  |num n =>
   have c:(if n<=m then some ([],[n],[])else none:Option Zp)=some f:=h;by_cases z:n<=m
   ·rw[TR z]at c;cases c;rfl
   ·rw[TN z]at c;cases c
  |_=>cases h
 | .slot i,t,f,h=>by
  cases t with
  |arg n=>cases h;rfl
  |_=>cases h
 | .num m,t,f,h=>by
  cases t with
  |num n =>
   have c:(if n=m then some ([],[],[])else none:Option Zp)=some f:=h;by_cases z:n=m
   ·rw[TR z]at c;cases c;rfl
   ·rw[TN z]at c;cases c
  |_=>cases h
 | .two o a b,t,f,h=>by
  cases t with
  |two g u v =>obtain⟨_,d,e,e1,e2,e3⟩:=fL h;subst e3;show(d.1++e.1).length=iC a+iC b;rw[Tq,nV a u d e1,nV b v e e2]
  |_=>cases h
noncomputable abbrev Mc:Pc:=⟨"add",.two "add" (.hole 0) (.hole 1),[.int 4]⟩
noncomputable abbrev BP:List Pc:=[⟨"one",.gap 0 99,[.int 1,.tup [.str "low",.int 0]]⟩,⟨"two",.gap 0 9999,[.int 2,.tup [.str "low",.int 0],.tup [.str "high",.int 0]]⟩,⟨"slot",.slot 0,[.int 3,.tup [.str "arg",.int 0]]⟩,
 Mc,⟨"sub",.two "sub" (.hole 0) (.hole 1),[.int 5]⟩,⟨"mul",.two "mul" (.hole 0) (.hole 1),[.int 6]⟩,⟨"less",.two "less" (.hole 0) (.hole 1),[.int 7]⟩,⟨"more",.two "add" (.hole 0) (.gap 0 99),[.int 12,.tup [.str "low",.int 0]]⟩]
theorem JS(o:Str)(x y:Tr):cW (.two o (.hole 0) (.hole 1)) (.two o x y)=some ([x,y],[],[]):=by show(if o=o then _ else _)=_;rw[TR rfl];rfl
theorem Fp(h:okB o):∃c:D,(⟨o,.two o (.hole 0) (.hole 1),[c]⟩:Pc)∈BP:=by
 rcases h with rfl|rfl|rfl|rfl
 ·exact⟨.int 4,by simp[BP]⟩
 ·exact⟨.int 5,by simp[BP]⟩
 ·exact⟨.int 6,by simp[BP]⟩
 ·exact⟨.int 7,by simp[BP]⟩
theorem Fm(h:okB o):¬ o="pick":=by rcases h with rfl|rfl|rfl|rfl<;>decide +kernel
theorem GS(b:∀p∈BP,p∈a)(h:okB o)(d:Cov a x m)(f:Cov a y n):Cov a (.two o x y) (m+n+1):=by
 obtain⟨c,g⟩:=Fp h;have q:=Cov.intro (xU (t:=.two o x y) (b _ g) rfl (JS o x y)) (.cons d (.cons f .nil))
 have e:dD ⟨o,[c],[x,y]⟩ [m,n]=m+n+1:=by unfold dD t4;rw[TN (Fm h)];simp;lia
 rw[<- e];exact q
theorem jA(d:∀p∈BP,p∈j):∀t:Tr,YB t->∃m,Cov j t m
 | .num n,h=>by
  have e:cW (.gap 0 9999) (.num n)=some ([],[n],[]):=by show(if n<=9999 then _ else _)=_;rw[TR h.2]
  exact⟨_,Cov.intro (xU (t:=.num n) (p:=⟨"two",.gap 0 9999,[.int 2,.tup [.str "low",.int 0],.tup [.str "high",.int 0]]⟩) (d _ (by simp[BP])) rfl e) .nil⟩
 | .arg k,h=>⟨_,Cov.intro (xU (t:=.arg k) (p:=⟨"slot",.slot 0,[.int 3,.tup [.str "arg",.int 0]]⟩) (f:=([],[],[k])) (d _ (by simp[BP])) rfl rfl) .nil⟩
 | .two o a b,h=>by obtain⟨m,g⟩:=jA d a h.2.1;obtain⟨n,i⟩:=jA d b h.2.2;exact⟨_,GS d h.1 g i⟩
 | .pick a b c,h=>by obtain⟨m,g⟩:=jA d a h.1;obtain⟨n,i⟩:=jA d b h.2.1;obtain⟨l,q⟩:=jA d c h.2.2;exact⟨_,Cov.intro (w:=⟨"pick",[],[a,b,c]⟩) (by rw[GC];exact Uj.mpr rfl) (.cons g (.cons i (.cons q .nil)))⟩
theorem uy(a:∀p∈ps,gI p.pt=true)(h:∃m,Cov ps t m):∃b,cH ps t=some b/\Cov ps t b.1/\∀m,Cov ps t m->b.1<=m:=by
 have z:=Lr a t
 cases e:cH ps t with
 |none=>rw[e]at z;obtain⟨m,q⟩:=h;exact absurd q (z m)
 |some b=>rw[e]at z;exact⟨b,rfl,z.1,z.2⟩
end
section
variable{K:vc}
def BC(a b:List D):Prop:=∃m n f,a=[.int m,.tup [.int n,.int f]]/\b=(js n f m).map D.int
theorem LH(h:tA c H λa b=>a.length<=sizeLine/\∀p,b p=none->Q (.ref p) (upd b p (.tup a))):Gq tA c H Q:=h
theorem j5{a:Ends}(h:a.nx b H):zV a b H:=h
theorem Ij{a:Ends}(h:a.ct b H):Jh a b H:=h
theorem Cn{g:Ends}(h:RE K p f G d)(i:G l=some (.lst c))(t:c.length<=900)
  (q:∀y e,Xv l G e->e l=some (.lst (c++[y]))->Dat K e d y->g.nx f e) (r:f[j]?=some (some (.ref l)):=by rfl):vK (tBM K "list" xm (cV j) (bM p dC)) g f G:=by
 refine⟨_,r,.inl ⟨rfl,_,Xm.of i⟩,h.use λy m n s=>?_⟩;have a:=n _ _ i;refine⟨l,c,y,rfl,rfl,a,bP ⋯,?_⟩;have b:Xv l m (upd m l (.lst (c++[y]))):=Xv.upd (Xe.refl _).but;exact q y _ (n.but.trans b) aD (Dat.mono (b.grow a aD) _ s)
theorem xA{b:Ends}(h:RE K e c H d)(q:∀v a,Xe H a->Dat K a d v->b.nx (c.set k (some v)) a):lV e (bT k) b c H:=h.use q
theorem wR(T:Txt P w K mg)  : Ok P w base (k+1) T.N8 (jL K BC):=by
 refine XR T.N8.f xJ λG H Q E y h=>?_;obtain⟨I,J,g,⟨m,n,f,rfl,rfl⟩,post⟩:=h;obtain⟨L,M,rfl,d,z⟩:=gD g;refine⟨rfl,λ_ _ _ _ N=>⟨_,(aC (dQ (pv 1) (dP rfl (aP (zg 2 y) (aP (zg 3 y) cD))))
 (aC (bJ (zt kS (pv 0) (aZ (v:=.int 9) rfl T.RN ⟨_,rfl⟩)) (zr (bZ (z2 (pv 2) (pv 0)))) aO)
 (zr (bZ (z3 (pv 3) (bS gK (pv 0) aE) (bS m8 (pv 0) aE)))))),?_⟩⟩
 refine jl (K:=K) (aB z) λv w O q A B=>?_;have d:=q.dat d;refine aS (K:=K) (b:=decide (m<=9)) (aM (eR (p:=λi j=>decide (i<=j)) (aB d) aF)) (λc C a=>?_) (λc C a=>?_)
 ·have e:js n f m=[n,m]:=by unfold js;rw[TR (T4 c)]
  rw[e]at post;exact gS (RC.use (K:=K) (iE (aA (aB (a.dat A)) (aA (aB (a.dat d)) aJ))) λl r t u s x g=>post l r t (q.trans (a.trans s)) x ((q.trans a).free u) g)
 ·have e:js n f m=[f,m%100,m / 100]:=by unfold js;rw[TN (UP c)]
  rw[e]at post;exact gS (RC.use (K:=K) (iE (aA (aB (a.dat B)) (aA (xo (aB (a.dat d)) aF ⋯) (aA (Cj (aB (a.dat d)) aF ⟨⋯,⋯⟩) aJ)))) λl r t u s x g=>post l r t (q.trans (a.trans s)) x ((q.trans a).free u) g)
def xR(K:vc):Sp:=λf H Q _=>∃y z:Int,f=[.int y,.int z]/\∀(p a b:Addr)(d e:List V)(c:Hp),Xe H c->XG K c p [.ref a,.ref b]->c a=some (.lst d)->c b=some (.lst e)->H a=none->H b=none->a≠b ->
 Xd K c ((js 10 11 (y+hX z)).map D.int) d->Xd K c ((js 8 9 z).map D.int) e->Q (.ref p) c
theorem oz(T:Txt P w K mg)(l:Ok P w base k T.N8 (jL K BC)):Ok P w base (k+1) T.MK (xR K):=by
 refine XR T.MK.f oP λG H Q E m h=>?_;obtain⟨y,z,rfl,post⟩:=h;refine⟨rfl,λ_ _ _ _ n=>⟨_,(aC (zs 2 m (pc (D:=T.N8) l n (z2 (pv 1) (aZ (v:=.ref T.QN) rfl T.SE rfl))))
 (aC (zs 3 m (pc (D:=T.N8) l n (z2 (bS eQ (pv 0) (aL aT rfl T.MC bY (z1 (pv 2)))) (aZ (v:=.ref T.Rn) rfl T.SU rfl))))
 (zr (aX (z2 (pv 3) (pv 2)))))),?_⟩⟩
 refine jk (K:=K) (jZ (R:=BC) (aA (aB (k:=1) (Dat.Xs z)) (aA (kX T.SC) aJ)) ⟨z,8,9,rfl,rfl⟩) λb q I x r c d=>?_;have A:(q.length:Int)=hX z:=by rw[<- d.length,To,kK]
 have s:=qj (K:=K) (σ:=(fK ["second","third","behind","ahead"] [.int y,.int z]).set 2 (some (.ref b))) (k:=2) c;rw[A]at s;refine jk (K:=K) (jZ (R:=BC) (aA (fI (aB (k:=0) (Dat.Xs y)) s) (aA (kX T.SO) aJ)) ⟨_,10,11,rfl,rfl⟩) λa B t u g has i=>?_;refine gS (LH ⟨_,rfl,_,rfl,cA (by simp),λp C=>?_⟩);have e:Xe t (upd t p (.tup [.ref a,.ref b])):=aH C _;have j:a≠b:=Tt (aK c u);exact post p a b B q _ (r.trans (g.trans e)) (XG.of aD) (e _ _ has) (e _ _ (g _ _ c)) (r.free u) x j (e.Xo i) ((g.trans e).Xo d)
theorem uY{o:Str}(h:o="num"\/o="arg"\/okB o):decide (o=("pick":Str))=false/\o≠"call":=by rcases h with rfl|rfl|rfl|rfl|rfl|rfl<;>exact⟨⋯,⋯⟩
theorem ED(t:Tr)(e:YB t):∃d r,toD t=.tup (.str d::r)/\decide (d="pick")=Ay t/\d≠"call"/\(Ay t=true->r=(cU t).map toD):=by
 cases t with
 |num n=>exact⟨_,_,rfl,(uY (.inl rfl)).1,(uY (.inl rfl)).2,λz=>nomatch z⟩
 |arg n=>exact⟨_,_,rfl,(uY (.inr (.inl rfl))).1,(uY (.inr (.inl rfl))).2,λz=>nomatch z⟩
 |two o a b=>exact⟨_,_,rfl,(uY (.inr (.inr e.1))).1,(uY (.inr (.inr e.1))).2,λz=>nomatch z⟩
 |pick a b c=>exact⟨_,_,rfl,TZ rfl,⋯,λ_=>rfl⟩
structure je(ps:List Pc):Prop where
 ok:∀p∈ps,Hy p
 few:ps.length<=100
def DX(as:List Ar)(b:List D):Prop:=∃a t,as=[.d (toD t),.l (a.map XW)]/\je a/\YB t/\bE t<=8/\b=(jc a t).map wyD
theorem El(f:Zp):fdD (some f)=.tup [.tup (f.1.map toD),.tup (f.2.1.map D.int),.tup (f.2.2.map D.int)]:=rfl
theorem AS(T:Txt P w K mg)(PQ:Ok P w base k T.NV (XI K qu)):Ok P w base (k+1) T.Py (oU K DX):=by
 refine XR T.Py.f Bi λvs H Q E nd h=>?_;obtain⟨as,es,hd,⟨j,t,rfl,Zq,YT,dpt,rfl⟩,post⟩:=h;obtain⟨v0,v1,rfl,h0,h1⟩:=tN hd;have h0:Dat K H (toD t) v0:=h0;have h1:LD K H (j.map XW) v1:=h1;refine⟨rfl,λ_ _ _ _ hr=>⟨_,(aC (bJ (zt cM (a6 a7 (pv 0) aE) aN) (zr (bZ (z1 (aX (z3 aN (aX aQ) (kU xP (pv 0) (jW aE) xk)))))) aO)
 (aC (zs 2 nd (bZ aQ))
 (aC (gZ Ux rfl (cI (pv 1)) (zg 3 nd) (aC (zs 4 nd (pc (D:=T.NV) PQ hr (z2 (pv 3) (pv 0))))
 (aR (bJ (zt B7 (pv 4) gM) (aR (bO (eB Ue Uu Uz b8 (pv 2) (z1 (aX (z3 (a6 a7 (pv 3) aE) (a6 a7 (pv 3) aE) (a6 a7 (pv 4) aE))))))) aO))))
 (zr (pv 2))))),?_⟩⟩
 show let XH:=_;let XT:=bA _ XH;let Yt:=bA (Gm _ _ XT) _;let YG:=bA _ Yt;bA _ YG _ _ _;intro XH XT Yt YG;obtain⟨kd,r,ek,hpk,_,u⟩:=ED t YT;have C:Dat K H (.tup (.str kd::r)) v0:=by rw[<- ek];exact h0
 refine aS (K:=K) (b:=Ay t) (RT.as (aM (cC (bK (k:=0) (aB C) aF rfl) aY)) hpk) (λc H1 z=>?_) (λc H1 z=>?_)
 ·have e:(jc j t).map wyD=[.tup [.str "pick",.tup [],.tup r]]:=by
   unfold jc;rw[TR c,u c];rfl
  rw[e]at post;exact gS (RC.use (K:=K) (iE (aA (a9 (aA aY (aA (a9 aJ) (aA (oH (aB (z.dat C))) aJ)))) aJ)) λl g H' hl s hy hd=>post l g H' (z.trans s) hy (z.free hl) hd)
 have ew:jc j t=j.filterMap (pO t):=by unfold jc;rw[TN (by rw[c];exact TH)]
 rw[ew]at post;refine dS ⟨cA ⋯,λI J=>?_⟩;have q:Xe H1 (upd H1 I (.lst [])):=aH J _;have L:=z.trans q;obtain⟨a,vs,rfl,ha,M⟩:=h1;have la:=M.length;rw[To]at la;have hps:=Zq.few;have N:H I=none:=z.free J;let J_1:Nat->L2.St->Hp->Prop:=λi σ G=>∃(z3 z4:Option V)(g:List V),σ=[some v0,some (.ref a),some (.ref I),z3,z4]/\Xe H G/\G I=some (.lst g)/\Xd K G (((j.take i).filterMap (pO t)).map wyD) g;refine cQ ⟨_,rfl,a,rfl,⟨vs,(L.YS ha).YC⟩,iP (xs:=vs) J_1 ?_ (λi σ G _ ⟨_,_,_,_,p,_⟩=>(p.YS ha).YC) ?_ ?_⟩
 ·exact⟨none,none,[],rfl,L,aD,by rw[UM];exact Xd.nil⟩
 ·rintro i vx σ G hi ⟨z3,z4,g,rfl,A,v,B⟩;obtain⟨dx,ex,O⟩:=(A.Xo M).YQ hi;rw[Tv]at ex
  cases hp:j[i]? with
  |none=>rw[hp]at ex;cases ex
  |some p =>
   rw[hp]at ex;cases ex;have U:=Zq.ok p (Ui hp);have et:j.take (i+1)=j.take i++[p]:=by rw[Um,hp];rfl
   have lys:g.length<=100:=by have l1:=B.length;rw[To]at l1;have l2:=List.length_filterMap_le (pO t) (j.take i);rw[Uk]at l2;lia
   refine iK ?_;dsimp only;refine cY (K:=K) (d:=fdD (cW p.pt t)) (a8 (R:=qu) (aA (aB (k:=3) O) (aA (aB (k:=0) (A.dat h0)) aJ)) ⟨.str p.nm,p.pt,.tup p.cs,t,rfl,U.ok,YT,dpt,U.dp,rfl⟩) λvf G2 q Y=>?_;have hw2:=q _ _ v
   cases m:cW p.pt t with
   |none =>
    have eW:pO t p=none:=by unfold pO;rw[m];rfl
    rw[m]at Y;refine i4 (b:=false) (aM (xr (K:=K) (aB (k:=4) Y))) (λc=>nomatch c) (λ_ G3 n=>j5 ?_);refine⟨_,_,g,rfl,A.trans (q.trans n),n _ _ hw2,?_⟩;rw[et,List.filterMap_append];simp only[VI,List.filterMap_nil,eW,Ub];exact(q.trans n).Xo B
   |some f =>
    have eW:pO t p=some ⟨p.nm,p.cs,f.1⟩:=by unfold pO;rw[m];rfl
    rw[m,El]at Y;refine i4 (b:=true) (aM (xr (K:=K) (aB (k:=4) Y))) (λ_ G3 n=>?_) (λc=>nomatch c);have hw3:=n _ _ hw2;have hx3:=(q.trans n).dat O;refine Cn (K:=K) (d:=.tup [.str p.nm,.tup p.cs,.tup (f.1.map toD)]) (a9 (aA (bK (k:=0) (aB (k:=3) hx3) aF rfl) (aA (bK (k:=2) (aB (k:=3) hx3) aF rfl) (aA (bK (k:=0) (aB (k:=4) (n.dat Y)) aF rfl) aJ)))) hw3 ⋯ λy G4 b4 hw4 q4=>?_;have g4:bW K G3 G4:=b4.grow hw3 hw4;refine⟨_,_,g++[y],rfl,λx o O=>b4 x o (aK O N) (n _ _ (q _ _ (A _ _ O))),hw4,?_⟩;rw[et,List.filterMap_append,Uh];simp only[VI,List.filterMap_nil,eW];exact Xd.append (Xd.mono g4 _ ((q.trans n).Xo B)) (Xd.cons q4 Xd.nil)
 ·rintro σ G ⟨z3,z4,g,rfl,A,v,B⟩;rw[<- la,UE]at B;exact⟨_,rfl,post I g G A v N B⟩
end
section
variable{w:World}
theorem j4(h:b a H λx c=>g x a c (d e)):bA (lV b g) d e a H:=h
def Js(as:List Ar)(d:D):Prop:=∃(w:Wy)(a:eH),as=[.d (.str w.nm),.d (.tup w.cs),.l (a.map D.int)]/\(w.nm="pick"->a.length=3)/\d=.int (dD w a)
variable{K:vc}
theorem wV(T:Txt P w K mg)(Ob:Ok P w base k T.MK (xR K)):Ok P w base (k+1) T.OM (spA K Js):=by
 refine XR T.OM.f xM λvs H Q E l h=>?_;obtain⟨as,d,hd,⟨w,i,rfl,h3,rfl⟩,post⟩:=h;obtain⟨I,J,L,rfl,u,A,m⟩:=La hd;have u:Dat K H (.str w.nm) I:=u;have A:Dat K H (.tup w.cs) J:=A;have m:LD K H (i.map D.int) L:=m;refine⟨rfl,λ_ _ _ _ hr=>⟨_,(aC (zs 3 l (aL aT rfl T.MC bY (z1 (pv 1))))
 (aC (bJ (zt cM (pv 0) aN) (aC (dQ (pc (D:=T.MK) Ob hr (z2 (a6 cX (pv 2) aE) (a6 cX (pv 2) aE))) (dP rfl (aP (zg 4 l) (aP (zg 5 l) cD))))
 (aR (zs 3 l (bS eQ (aL aT rfl T.MC bY (z1 (pv 4))) (aL aT rfl T.MC bY (z1 (pv 5))))))) aO)
 (zr (bS eQ (pv 3) (aL (yi rfl) rfl T.S5 D3 (z1 (pv 2))))))),?_⟩⟩
 show let M:=bA _ _;let N:=bA (sV _ M _) _;bA _ N _ _ _;intro M N;refine cY (K:=K) (eT (aB A)) λvo H1 n qo=>?_;have eo:=qo.Xp;subst eo;refine xx (λO G=>∃z4 U:Option V,O=[some I,some J,some L,some (.int (t4 w i)),z4,U]/\Xe H G) ?_ (λg=>?_)
 case refine_2 =>
  refine i4 (b:=decide (w.nm="pick")) (aM (cC (K:=K) (aB (k:=0) (n.dat u)) aY)) (λc H2 r=>?_) (λc H2 r=>?_)
  ·have t:=T4 c
   obtain⟨x,y,z,rfl⟩:∃x y z,i=[x,y,z]:=by
    match i,h3 t with
    |[x,y,z],_=>exact⟨x,y,z,rfl⟩
   have j:=(n.trans r).ld m;refine j4 (rL (jY (RE.use (K:=K) (d:=.int y) (oE (k:=1) (bI (k:=2) j) aF rfl) λw1 H3 Y q3=>jY (RE.use (K:=K) (d:=.int z) (oE (k:=2) (bI (k:=2) (Y.ld j)) aF rfl) λw2 H4 s4 q4=>?_))));have e3:=q3.Xp;have e4:=q4.Xp;subst e3 e4;refine⟨y,z,rfl,λp a b us ws H5 s5 hp ha hb _ _ _ B C=>?_⟩;have lu:(us.length:Int)=hX (y+hX z):=by rw[<- B.length,To,kK]
   have lw:(ws.length:Int)=hX z:=by rw[<- C.length,To,kK]
   refine⟨p,_,rfl,hp,rfl,_,_,rfl,_,_,rfl,rfl,?_⟩;dsimp only;refine xA (K:=K) (d:=.int (t4 w [x,y,z])) (RE.as (fI (qj (k:=4) ha) (qj (k:=5) hb)) ?_) λv H6 s6 q6=>?_
   ·rw[lu,lw];unfold t4;rw[TR t];rfl
   ·have e6:=q6.Xp;subst e6;exact g _ _ ⟨_,_,rfl,n.trans (r.trans (Y.trans (s4.trans (s5.trans s6))))⟩
  ·have t:¬ w.nm="pick":=UP c;refine j5 (g _ _ ⟨none,none,?_,n.trans r⟩);have e:t4 w i=(w.cs.length:Int):=by unfold t4;rw[TN t]
   rw[e];rfl
 rintro O G ⟨z4,U,rfl,sG⟩;exact bL (K:=K) (d:=.int (dD w i)) (fI (aB (k:=3) (Dat.Xs _)) (Ih (bI (k:=2) (sG.ld m)))) λv H' s q=>post v H' (sG.trans s) q
theorem Ls:¬ ("num":Str)="arg":=⋯
theorem K9:¬ ("arg":Str)="num":=⋯
theorem GY(h:XM (toD (.num n)) (toD b)=true):b=.num n:=by
 cases b with
 |num m =>simp only[toD,fS,cO,eI,eF,eE,fR,fQ,Uv,UA,Tw,Uo]at h;rw[h.2]
 |arg m =>simp only[toD,fS,cO,eI,eF,eE,fR,fQ,Uv,UA,Tw,Uo]at h;exact absurd h.1 Ls
 |two o x y =>simp only[toD,fS,cO,eI,eF,eE,fR,fQ,Uv,UA,Tw,Uo]at h;cases h
 |pick x y z =>simp only[toD,fS,cO,eI,eF,eE,fR,fQ,Uv,UA,Tw,Uo]at h;cases h
theorem GX(h:XM (toD (.arg n)) (toD b)=true):b=.arg n:=by
 cases b with
 |num m =>simp only[toD,fS,cO,eI,eF,eE,fR,fQ,Uv,UA,Tw,Uo]at h;exact absurd h.1 K9
 |arg m =>simp only[toD,fS,cO,eI,eF,eE,fR,fQ,Uv,UA,Tw,Uo]at h;rw[h.2]
 |two o x y =>simp only[toD,fS,cO,eI,eF,eE,fR,fQ,Uv,UA,Tw,Uo]at h;cases h
 |pick x y z =>simp only[toD,fS,cO,eI,eF,eE,fR,fQ,Uv,UA,Tw,Uo]at h;cases h
theorem GZ(h:XM (toD (.two o x y)) (toD b)=true):∃a c,b=.two o a c/\XM (toD x) (toD a)=true/\XM (toD y) (toD c)=true:=by
 cases b with
 |num m =>simp only[toD,fS,cO,eI,eF,eE,fR,fQ,Uv,UA,Tw,Uo]at h;cases h
 |arg m =>simp only[toD,fS,cO,eI,eF,eE,fR,fQ,Uv,UA,Tw,Uo]at h;cases h
 |two d a c =>simp only[toD,fS,cO,eI,eF,eE,fR,fQ,Uv,UA,Tw,Uo]at h;exact⟨a,c,by rw[h.1],h.2.1,h.2.2⟩
 |pick x y z =>simp only[toD,fS,cO,eI,eF,eE,fR,fQ,Uv,UA,Tw,Uo]at h;cases h
theorem Ej(h:XM (toD (.pick x y z)) (toD b)=true):∃a c d,b=.pick a c d/\XM (toD x) (toD a)=true/\XM (toD y) (toD c)=true/\XM (toD z) (toD d)=true:=by
 cases b with
 |num m =>simp only[toD,fS,cO,eI,eF,eE,fR,fQ,Uv,UA,Tw,Uo]at h;cases h
 |arg m =>simp only[toD,fS,cO,eI,eF,eE,fR,fQ,Uv,UA,Tw,Uo]at h;cases h
 |two e a c =>simp only[toD,fS,cO,eI,eF,eE,fR,fQ,Uv,UA,Tw,Uo]at h;cases h
 |pick a c d =>simp only[toD,fS,cO,eI,eF,eE,fR,fQ,Uv,UA,Tw,Uo]at h;exact⟨a,c,d,rfl,h.2.1,h.2.2.1,h.2.2.2⟩
theorem Iy(a:Tr):∀b:Tr,XM (toD a) (toD b)=true->a=b:=by
 induction a with
 |num n=>intro b h;exact(GY h).symm
 |arg n=>intro b h;exact(GX h).symm
 |two o x y c d =>intro b h;obtain⟨e,f,rfl,g,i⟩:=GZ h;rw[c e g,d f i]
 |pick x y z c d j =>intro b h;obtain⟨e,f,l,rfl,g,i,m⟩:=Ej h;rw[c e g,d f i,j l m]
theorem i9:∀t:Tr,gE (toD t)=bE t
 | .num n=>by unfold toD bE;simp[gE,Xn]
 | .arg n=>by unfold toD bE;simp[gE,Xn]
 | .two o a b=>by unfold toD bE;simp[gE,Xn,i9 a,i9 b]
 | .pick a b c=>by unfold toD bE;simp[gE,Xn,i9 a,i9 b,i9 c]
theorem hW:∀t:Tr,Yj (toD t)=true
 | .num n=>by unfold toD;simp[Yj,XA]
 | .arg n=>by unfold toD;simp[Yj,XA]
 | .two o a b=>by unfold toD;simp[Yj,XA,hW a,hW b]
 | .pick a b c=>by unfold toD;simp[Yj,XA,hW a,hW b,hW c]
theorem yP:∀a:List Tr,XA (a.map toD)=true
 |[]=>by simp[XA]
 |t::a=>by simp[XA,hW t,yP a]
theorem uH:∀a:List Tr,(∀x∈a,bE x<=n)->Xn (a.map toD)<=n
 |[],_=>by simp[Xn]
 |t::a,h=>by have c:=h t (by simp);have d:=uH a λx b=>h x (by simp[b]);simp only[T7,Xn,i9];lia
theorem yA:∀{a:List Tr},(∀y∈a,YB y)->YB x->x∈a->∃j:Nat,a[j]?=some x/\∀(m:Nat) e,m<j->(a.map toD)[m]?=some e->XM e (toD x)=false
 |[],_,_,h=>by simp at h
 |y::a,c,i,h=>by
  by_cases e:XM (toD y) (toD x)=true
  ·have:=Iy y x e;exact⟨0,by rw[this];rfl,λm _ f=>absurd f (Nat.not_lt_zero m)⟩
  ·have b:x∈a:=by
    rcases TY.mp h with rfl|h
    ·exact absurd (kI _ (hW x)) e
    ·exact h
   obtain⟨j,l,n⟩:=yA (λz p=>c z (Ug _ p)) i b;refine⟨j+1,by simpa using l,λm d f g=>?_⟩
   cases m with
   |zero =>
    have q:toD y=d:=by simpa using g
    rw[<- q];exact VU.mpr e
   |succ m=>exact n m d ⋯ (by simpa using g)
theorem xZ:∀bs:List ZQ,(bs.map λb=>isN (bD b)).any id=(iB bs).isNone
 |[]=>rfl
 |none::bs=>rfl
 |some b::bs=>by have a:=xZ bs;show(false||(bs.map λb=>isN (bD b)).any id)=((iB bs).map (b::·)).isNone;rw[a,U6];cases iB bs<;>rfl
theorem yc:∀{bs:List ZQ}{a:List (Int×D)},iB bs=some a->bs=a.map some
 |[],a,h=>by cases h;rfl
 |none::bs,a,h=>by cases h
 |some b::bs,a,h=>by
  have c:(iB bs).map (b::·)=some a:=h
  cases e:iB bs with
  |none=>rw[e]at c;cases c
  |some r =>rw[e]at c;cases c;rw[yc e];rfl
theorem qQ:∀p:Pa,iC p<=2 ^ (eK p - 1)
 | .hole _=>by simp[iC,eK]
 | .gap _ _=>by simp[iC,eK]
 | .slot _=>by simp[iC,eK]
 | .num _=>by simp[iC,eK]
 | .two o a b=>by
  have c:=qQ a;have d:=qQ b;have d1:=nS a;have d2:=nS b;have e:eK (.two o a b) - 1=(max (eK a) (eK b) - 1)+1:=by simp only[eK];lia
  rw[e,Xc];have p1:2 ^ (eK a - 1)<=2 ^ (max (eK a) (eK b) - 1):=Vk ⋯ ⋯;have p2:2 ^ (eK b - 1)<=2 ^ (max (eK a) (eK b) - 1):=Vk ⋯ ⋯;simp only[iC];lia
def DR(as:List Ar)(d:D):Prop:=∃(b:List Pc)(t:Tr)(f:Tr->ZQ)(a:List Tr),as=[.d (toD t),.l (b.map XW),.l (a.map toD),.l (a.map λx=>bD (f x))]/\je b/\YB t/\bE t<=8/\a.length<=200/\(∀x∈a,YB x/\bE x<=8) /\
 (∀w∈jc b t,∀x∈w.ts,x∈a)/\d=bD (nR b f t)
theorem K2{i:List Pc}(h:∀p∈i,Hy p){t:Tr}{w:Wy}(g:w∈jc i t):w.ts.length<=8/\(w.nm="pick"->w.ts.length=3):=by
 unfold jc at g;split at g
 ·rename_i c;rw[Uj.mp g]
  cases t with
  |pick a b c=>exact⟨by simp[cU],λ_=>rfl⟩
  |_=>cases c
 ·obtain⟨p,j,d⟩:=UZ.mp g;unfold pO at d
  cases e:cW p.pt t with
  |none=>rw[e]at d;cases d
  |some f =>
   rw[e]at d;cases d;refine⟨?_,λz=>absurd z (h p j).nm⟩;show f.1.length<=8;rw[nV _ _ _ e];have:=qQ p.pt;have l:=(h p j).dp
   calc iC p.pt<=2 ^ (eK p.pt - 1):=this
    _<=2 ^ 2:=Vk ⋯ ⋯
    _<=8:=by decide
theorem pU(T:Txt P w K mg)(Sq:Ok P w base k T.Py (oU K DX))(RH:Ok P w base k T.OM (spA K Js)):Ok P w base (k+1) T.NR (spA K DR):=by
 refine XR T.NR.f p4 λvs H Q E U h=>?_;obtain⟨as,d,g,⟨Y,t,f,ts,rfl,Zq,YT,dpt,fts,C,hts,rfl⟩,post⟩:=h;obtain⟨v0,v1,v2,v3,rfl,h0,h1,h2,h3⟩:=GL g;have h0:Dat K H (toD t) v0:=h0;have h1:LD K H (Y.map XW) v1:=h1;have h2:LD K H (ts.map toD) v2:=h2;have h3:LD K H (ts.map λx=>bD (f x)) v3:=h3;refine⟨rfl,λ_ _ _ _ hr=>⟨_,(aC (bJ (zt cM (a6 a7 (pv 0) aE) aN) (zr (aX (z2 (aZ (v:=.int 3) rfl T.Ro ⟨_,rfl⟩) (aX aQ)))) aO)
 (aC (zs 4 U gM)
 (aC (gZ Ux rfl (cI (pc (D:=T.Py) Sq hr (z2 (pv 0) (pv 1)))) (dP rfl (aP (zg 5 U) (aP (zg 6 U) (aP (zg 7 U) cD)))) (aC (iW (i:=8) (own:=["one"]) (fr:=[2,3]) (N':=["one","done","bests"]) (iV (pv 7)) rfl (by show eV ["tree","some","done","bests","best","name","cells","trees","within","length"] (λx=>(aG i7).names.lookup x) _ _ _ _=true;decide +kernel) rfl (λ_ _ _ _ _=>(cF (i:=0) (by show List.Nodup [("one":Str),("done":Str),("bests":Str)];decide +kernel) rfl (Or.inl rfl))) (λ_ _ _ _ _=>fF) (λ_ _ _ _ _=>(a6 (r:=HS K) cX (pv 2) (Kl (r:=qi K) K rfl Ue Wl F.type_list_index (Dd hr) (pv 1) (z1 (pv 0))))) U rfl rfl rfl)
 (aC (bJ (bN (aL (D7 rfl) rfl T.Th JJ (z1 (zc [] ["one"] (cI (pv 8)) (λ_ _ _ _ _=>(dM xf (pv 0) gM (fC _)))))) (λ_=>rfl)) (aR zk) aO)
 (aC (zs 9 U (pc (D:=T.OM) RH hr (z3 (pv 5) (pv 6) (zc [] ["one"] (cI (pv 8)) (λ_ _ _ _ _=>(a6 (r:=rK K) a7 (pv 0) aE))))))
 (aR (bJ (PW.pt (fU (zt xf (pv 4) gM) (fG (zt pj (pv 9) (a6 a7 (pv 4) aE))))) (aR (zs 4 U (aX (z2 (pv 9) (aX (z2 (pv 5) (bR dJ rfl T.NP fA (z1 (zc [] ["one"] (cI (pv 8)) (λ_ _ _ _ _=>(a6 (r:=rK K) a7 (pv 0) aE))))))))))) aO))))))
 (zr (pv 4))))),?_⟩⟩
 show let XH:=_;let XT:=bA _ XH;let Yt:=bA _ XT;let YG:=bA _ Yt;let ZX:=bA (Gm _ _ YG) _;let z_6:=bA _ ZX;bA _ z_6 _ _ _;intro XH XT Yt YG ZX z_6;obtain⟨kd,r,ek,hpk,hcall,hkids⟩:=ED t YT;have h0':Dat K H (.tup (.str kd::r)) v0:=by rw[<- ek];exact h0
 refine aS (K:=K) (b:=false) (RT.as (aM (cC (bK (k:=0) (aB h0') aF rfl) aY)) (TU hcall)) (λc=>nomatch c) (λ_ H1 N=>?_);refine dS (F4 ?_);refine cQ (RC.use (K:=K) (iz (R:=DX) (gQ (aB (k:=0) (N.dat h0)) (fH (bI (k:=1) (N.ld h1)) dB)) ⟨Y,t,rfl,Zq,YT,dpt,rfl⟩) λl ys H2 hl s2 hy hdy=>?_);have s12:=N.trans s2;have ly:=hdy.length;rw[To]at ly;refine⟨l,rfl,⟨ys,Xm.of hy⟩,iP (xs:=ys) (λi σ G=>∃(A:V)(z5 z6 z7 z8 z9:Option V),σ=[some v0,some v1,some v2,some v3,some A,z5,z6,z7,z8,z9]/\Xe H2 G/\Dat K G (bD (((jc Y t).take i).foldl (i8 f) none)) A) ?_ (λi σ G _ ⟨_,_,_,_,_,_,_,p,_⟩=>Xm.of (p _ _ hy)) ?_ ?_⟩
 ·exact⟨.Xi,_,_,_,_,_,rfl,Xe.refl _,Dat.Zt⟩
 ·rintro i vx σ G hi ⟨A,z5,z6,z7,z8,z9,rfl,sG,hb⟩;have sHG:=s12.trans sG;obtain⟨dx,ex,q⟩:=(sG.Xo hdy).YQ hi;rw[Tv]at ex
  cases hw:(jc Y t)[i]? with
  |none=>rw[hw]at ex;cases ex
  |some w =>
   rw[hw]at ex;cases ex;have hwm:=Ui hw;obtain⟨few,few3⟩:=K2 Zq.ok hwm;have et:(jc Y t).take (i+1)=(jc Y t).take i++[w]:=by rw[Um,hw];rfl
   rw[et,W8,V9,List.foldl_nil];generalize ((jc Y t).take i).foldl (i8 f) none=I at hb ⊢;obtain⟨pa,us,rfl,hpa,hus⟩:=(show Dat K G (.tup [.str w.nm,.tup w.cs,.tup (w.ts.map toD)]) vx from q).XC;obtain⟨x5,x6,x7,rfl,k5,k6,k7⟩:=kG hus;refine⟨pa,_,rfl,hpa,rfl,_,_,rfl,_,_,rfl,_,_,rfl,rfl,?_⟩;dsimp only;refine jk (K:=K) (rP (aB (k:=7) k7) (by rw[To];lia) (w.ts.map λx=>bD (f x)) (by rw[To,To]) rfl (λG1 j c v d N a g L=>?_)) λlw zs G2 hlw s2 hzs dzs=>?_
   ·rw[Tv]at a g
    cases q:w.ts[j]? with
    |none=>rw[q]at a;cases a
    |some x =>rw[q]at a g;cases a;cases g;have hxt:=hts w hwm x (Ui q);obtain⟨m,hm1,hm2⟩:=yA (λy hy=>(C y hy).1) (C x hxt).1 hxt;have sH1:=sHG.trans N;refine oE (k:=m) (bI (k:=2) (sH1.ld h3)) (FW (k:=1) (sH1.ld h2) (aB (k:=0) L) (yP ts) (hW x) (T8 (uH (n:=8) ts λy hy=>(C y hy).2) ⋯) (by rw[To];lia) ⟨toD x,by rw[Tv,hm1];rfl,kI _ (hW x)⟩ hm2) (by rw[Tv,hm1];rfl)
   have M:LD K G2 (w.ts.map λx=>bD (f x)) (.ref lw):=LD.of hzs dzs;have eM:(w.ts.map λx=>bD (f x))=(w.ts.map f).map bD:=by rw[Vj];rfl
   have lM:(w.ts.map f).length<=8:=by rw[To];exact few
   rw[eM]at M;generalize hfb:w.ts.map f=O at M lM;have eS:∀b,i8 f b w=Je b w (iB O):=λb=>by unfold i8;rw[hfb]
   rw[eS];refine aS (K:=K) (b:=(iB O).isNone) (RT.as (bC (HZ (bs:=O.map λb=>isN (bD b)) (jF (bI (k:=8) M) (by rw[To];lia) _ (by simp) rfl (λG1 j c v d N a g L=>?_)))) (xZ O)) (λcN G3 s3=>Ij ?_) (λcS G3 s3=>?_)
   ·rw[Tv]at a g;rw[Tv]at g
    cases q:O[j]? with
    |none=>rw[q]at a;cases a
    |some b =>rw[q]at a g;cases a;cases g;exact rQ (aB (k:=0) L)
   ·have eN:iB O=none:=by cases e:iB O with|none=>rfl|some _=>rw[e]at cN;cases cN
    refine⟨A,_,_,_,_,_,rfl,sG.trans (s2.trans s3),?_⟩;rw[eN];exact(s2.trans s3).dat hb
   ·cases eb:iB O with
    |none=>rw[eb]at cS;cases cS
    |some bs =>
     have s:=yc eb;have lbs:bs.length<=8:=by rw[s,To]at lM;exact lM
     have lbw:bs.length=w.ts.length:=by have:=Up List.length hfb;rw[s,To,To]at this;exact this.symm
     have hL3:=s3.ld M;have s23:=s2.trans s3;refine cY (K:=K) (d:=.int (dD w (bs.map (·.1)))) (gO (R:=Js) (gQ (aB (k:=5) (s23.dat k5)) (gQ (aB (k:=6) (s23.dat k6)) (fH (ds:=(bs.map (·.1)).map D.int) (iZ (jF (bI (k:=8) hL3) (by rw[To];lia) _ (by rw[s];simp) rfl (λG1 j c v d N a g L=>?_))) dB))) ⟨w,bs.map (·.1),rfl,λz=>by rw[To,lbw];exact few3 z,rfl⟩) λvl G4 s4 q4=>?_
     ·rw[s]at a;simp only[Tv]at a g
      cases q:bs[j]? with
      |none=>rw[q]at a;cases a
      |some b =>rw[q]at a g;cases a;cases g;exact bK (k:=0) (aB (k:=0) L) aF rfl
     have s24:=s23.trans s4;have el:=q4.Xp;subst el;have hb4:=s24.dat hb
     have new:∀{B:Hp},Xe G4 B->RE K (Gq (bM (cV 9) (bM (Gq (bM (cV 5) (bM (Zm (λxs H Q=>∃p ys,xs=[.ref p]/\((Xm K H p ys/\∀l,H l=none->Q (.ref l) (upd H l (.tup ys)))\/(XG K H p ys/\Q (.ref p) H))) (bM (fO (kh K (cV 8)) (ZU ["one"] []) (bT 0) eO (Yn (rK K) (cV 0) (tC (.int 1)))) dC)) dC))) dC))) [some v0,some v1,some v2,some v3,some A,some x5,some x6,some x7,some (.ref lw),some (.int (dD w (bs.map (·.1))))] B (.tup [.int (dD w (bs.map (·.1))),cvD w.nm bs]):=λ{B} u=>by
      refine a9 (aA (aB (k:=9) (Dat.Xs _)) (aA (a9 (aA (aB (k:=5) ((s24.trans u).dat k5)) (aA (vj (es:=bs.map (·.2)) (jF (bI (k:=8) ((s4.trans u).ld hL3)) (by rw[To];lia) _ (by rw[s];simp) rfl (λG1 j c v d N a g L=>?_))) aJ))) aJ));rw[s]at a;simp only[Tv]at a g
      cases q:bs[j]? with
      |none=>rw[q]at a;cases a
      |some b =>rw[q]at a g;cases a;cases g;exact bK (k:=1) (aB (k:=0) L) aF rfl
     have done:∀{B:Hp}{d:D},Xe G4 B->d=bD (jQ I (dD w (bs.map (·.1))) (cvD w.nm bs))->∀v,Dat K B d v->∃(A:V)(z5 z6 z7 z8 z9:Option V),[some v0,some v1,some v2,some v3,some v,some x5,some x6,some x7,some (.ref lw),some (.int (dD w (bs.map (·.1))))]=[some v0,some v1,some v2,some v3,some A,z5,z6,z7,z8,z9]/\Xe H2 B/\Dat K B (bD (jQ I (dD w (bs.map (·.1))) (cvD w.nm bs))) A:=λ{B d} u e v L =>
      ⟨v,_,_,_,_,_,rfl,sG.trans (s24.trans u),e▸L⟩
     cases I with
     |none =>refine i4 (b:=true) (RT.as (dO (b:=true) (c:=true) (aM (rQ (K:=K) (aB (k:=4) hb4))) λc=>nomatch c) rfl) (λ_ B u=>?_) (λc=>nomatch c);exact xA (K:=K) (new u) λv G6 s6 q6=>done (u.trans s6) rfl v q6
     |some b0 =>
      have J:Dat K G4 (.tup [.int b0.1,b0.2]) A:=hb4;refine i4 (b:=decide (dD w (bs.map (·.1))<b0.1)) (RT.as (dO (b:=false) (aM (rQ (K:=K) (aB (k:=4) J))) λ_=>aM (eR (p:=λi j=>decide (i<j)) (aB (k:=9) (Dat.Xs _)) (bK (k:=0) (aB (k:=4) J) aF rfl))) (U6 _)) (λc B u=>?_) (λc B u=>j5 ?_)
      ·refine xA (K:=K) (new u) λv G6 s6 q6=>done (u.trans s6) ?_ v q6;show _=bD (if dD w (bs.map (·.1))<b0.1 then _ else _);rw[TR (T4 c)];rfl
      ·refine done (d:=bD (some b0)) u ?_ A (u.dat J);show _=bD (if dD w (bs.map (·.1))<b0.1 then _ else _);rw[TN (UP c)]
 ·rintro σ G ⟨A,z5,z6,z7,z8,z9,rfl,sG,hb⟩;rw[<- ly,UE]at hb;exact⟨_,rfl,post A G (s12.trans sG) hb⟩
end
section
theorem gY:∀(t:Tr)(j:Nat)(x:Tr),(aW t)[j]?=some x->∃r,(aW t).drop j=aW x++r
 | .num n,j,x,h=>by
  cases j with
  |zero=>cases h;exact⟨[],rfl⟩
  |succ j=>simp[aW]at h
 | .arg n,j,x,h=>by
  cases j with
  |zero=>cases h;exact⟨[],rfl⟩
  |succ j=>simp[aW]at h
 | .two o a b,j,x,h=>by
  cases j with
  |zero=>cases h;exact⟨[],by rw[List.drop_zero,Ub]⟩
  |succ j =>
   have d:(aW a++aW b)[j]?=some x:=by simpa[aW]using h
   show ∃r,(aW a++aW b).drop j=aW x++r;by_cases f:j<(aW a).length
   ·rw[UY f]at d;obtain⟨r,e⟩:=gY a j x d;exact⟨r++aW b,by rw[VR (UJ f),e,UW]⟩
   ·rw[UD ⋯]at d;obtain⟨r,e⟩:=gY b _ x d;refine⟨r,?_⟩;rw[List.drop_append,Wo ⋯,Wa];exact e
 | .pick a b c,j,x,h=>by
  cases j with
  |zero=>cases h;exact⟨[],by rw[List.drop_zero,Ub]⟩
  |succ j =>
   have d:(aW a++(aW b++aW c))[j]?=some x:=by simpa[aW]using h
   show ∃r,(aW a++aW b++aW c).drop j=aW x++r;rw[UW];by_cases f:j<(aW a).length
   ·rw[UY f]at d;obtain⟨r,e⟩:=gY a j x d;exact⟨r++(aW b++aW c),by rw[VR (UJ f),e,UW]⟩
   ·rw[UD ⋯]at d;rw[List.drop_append,Wo (l:=aW a) ⋯,Wa];generalize j - (aW a).length=i at d ⊢;by_cases g:i<(aW b).length
    ·rw[UY g]at d;obtain⟨r,e⟩:=gY b i x d;exact⟨r++aW c,by rw[VR (UJ g),e,UW]⟩
    ·rw[UD ⋯]at d;obtain⟨r,e⟩:=gY c _ x d;refine⟨r,?_⟩;rw[List.drop_append,Wo ⋯,Wa];exact e
theorem um(b:i<aV t)(h:(aW t)[aV t - 1 - i]?=some x)(a:y∈(cU x).flatMap aW):y∈(aW t).reverse.take i:=by
 obtain⟨r,e⟩:=gY t _ x h
 have e2:(aW t).drop (aV t - i)=(cU x).flatMap aW++r:=by
  have:aV t - i=aV t - 1 - i+1:=by lia
  rw[this,<- List.drop_drop,e,fY x];rfl
 rw[List.take_reverse,List.mem_reverse,bU,e2];exact Vg _ a
theorem Ii{α:Type}{l:List α}(h:i<l.length):l.reverse[i]?=l[l.length - 1 - i]?:=List.getElem?_reverse h
def Ad(as:List Ar)(d:D):Prop:=∃(a:List Pc)(t:Tr)(b:Int×D),as=[.d (toD t),.l (a.map XW)]/\je a/\YB t/\bE t<=8/\aV t<=200/\cH a t=some b/\d=.tup [.int b.1,b.2]
variable{K:vc}
theorem Kz{e:Ends}(h:p b H λq l=>∃a f,q=[.ref a]/\Xm K l a f/\∃W:Nat->Nat->L2.St->Hp->Prop,(∃m,W 0 m b l)/\∀i m b H,W i m b H ->
   ((Itv K a f).stop i H/\e.nx b H)\/((Itv K a f).go i H/\∃N:L2.St->Hp->Prop,(∀c d,N c d->∃n,n<m/\W (i+1) n c d)/\∀x d,(Itv K a f).Zd i H x d->g x b d λj r=>s {e with nx:=N,ct:=N,bk:=e.nx} j r)):Gm (Lk K p) g s e b H:=h
theorem IQ(h:je a):∀p∈a,gI p.pt=true:=λp b=>(h.ok p b).nh
def DO(N:Addr)(as:List Ar)(C:Addr):Prop:=∃(a:List Pc)(t:Tr),as=[.d (toD t),.l (a.map XW)]/\je a/\YB t/\bE t<=8/\aV t<=200/\cH a t=none/\C=N
theorem oy(T:Txt P w K mg)(QM:Ok P w base k T.OA (jL K (nP 8)))(QL:Ok P w base k T.NR (spA K DR)):Xj P w K mg base (Yw P w) (k+1) T.Mv.a T.Mv.d ["tree","some"] (zN K Ad (DO T.Mu)):=by
 refine T.Mv.f.ok2 Yp (λvs H Q E h=>?_) (λcdv A outer s H vs Q E hr h=>?_)
 ·obtain⟨as,hd,h⟩:=h;rcases h with⟨d,⟨e,t,b,rfl,_⟩,_⟩|⟨C,⟨e,t,rfl,_⟩,_⟩<;>exact hd.length.symm
 have nd:=Yp.nd;obtain⟨as,hd,h⟩:=h
 obtain⟨e,t,rfl,u,z,m,n,fin⟩:∃(e:List Pc)(t:Tr),as=[.d (toD t),.l (e.map XW)]/\je e/\YB t/\bE t<=8/\aV t<=200/\((∃b:Int×D,cH e t=some b/\∀v Y,Xe H Y->Dat K Y (.tup [.int b.1,b.2]) v->Q v Y)\/(cH e t=none/\∀Y,Xe H Y->E (.ref T.Mu) none Y)):=by
  rcases h with⟨d,⟨e,t,b,rfl,u,z,m,n,B,rfl⟩,post⟩|⟨C,⟨e,t,rfl,u,z,m,n,B,rfl⟩,post⟩
  ·exact⟨e,t,rfl,u,z,m,n,.inl ⟨b,B,post⟩⟩
  ·exact⟨e,t,rfl,u,z,m,n,.inr ⟨B,post⟩⟩
 obtain⟨v0,v1,rfl,h0,h1⟩:=tN hd;have h0:Dat K H (toD t) v0:=h0;have h1:LD K H (e.map XW) v1:=h1;refine⟨_,(aC (zs 2 nd (bZ aQ))
 (aC (zs 3 nd (bZ aQ))
 (aC (PS.nox (gZ Ux rfl (Ko rfl T.Q4 (z1 (pc (D:=T.OA) QM hr (z1 (pv 0))))) (zg 4 nd) (aC (bO (eB Ue Uu Uz b8 (pv 3) (z1 (pc (D:=T.NR) QL hr (aU (pv 4) (aU (pv 1) (aU (pv 2) (aU (pv 3) aQ))))))))
 (aR (bO (eB Ue Uu Uz b8 (pv 2) (z1 (pv 4))))))))
 (aC (bJ (zt xf (a6 cX (pv 3) (FD By aE)) gM) (aR (iM UR rfl UR T.Sy oV rfl T.Qe (z1 aN))) aO)
 (zr (a6 cX (pv 3) (FD By aE))))))),?_⟩
 show let XH:=bA _ _;let XT:=bA _ XH;bA _ XT _ _ _;intro XH XT;refine dS ⟨cA ⋯,λld I=>?_⟩;refine dS ⟨cA ⋯,λg J=>?_⟩;have L:ld≠g:=aK aD J;have s1:Xe H (upd (upd H ld (.lst [])) g (.lst [])):=(aH I _).trans (aH J _);have hlb0:H g=none:=(aH I _).free J;have M:upd (upd H ld (.lst [])) g (.lst []) ld=some (.lst []):=by rw[aI L];exact aD
 have N:upd (upd H ld (.lst [])) g (.lst []) g=some (.lst []):=aD;generalize upd (upd H ld (.lst [])) g (.lst [])=G1 at s1 M N ⊢;refine cQ (Kz (K:=K) (jY (RC.use (K:=K) (jZ (R:=nP 8) (aA (aB (k:=0) (s1.dat h0)) aJ) ⟨t,rfl,z,m,n,rfl⟩) λlw xs G2 hlw s2 hxs dxs=>?_)));have nwd:ld≠lw:=aK M hlw;have nwb:g≠lw:=aK N hlw;have lx:=dxs.length;rw[To,bU]at lx;refine⟨lw,xs,rfl,Xm.of hxs,Hc (xs:=xs) (λi σ G=>∃(z4:Option V)(us ws:List V),σ=[some v0,some v1,some (.ref ld),some (.ref g),z4]/\Xe H G/\G lw=some (.lst xs)/\Xd K G ((aW t).map toD) xs/\G ld=some (.lst us)/\Xd K G (((aW t).reverse.take i).map toD) us/\G g=some (.lst ws)/\Xd K G (((aW t).reverse.take i).map λx=>bD (cH e x)) ws) ?_ (λi σ G _ ⟨_,_,_,_,_,p,_⟩=>Xm.of p) ?_ ?_⟩
 ·exact⟨none,[],[],rfl,s1.trans s2,hxs,dxs,s2 _ _ M,Xd.nil,s2 _ _ N,Xd.nil⟩
 ·rintro i vx σ G hi hx ⟨z4,us,ws,rfl,sG,hwG,O,U,r,q,j⟩;obtain⟨dx,ex,hxd⟩:=O.YQ hx;rw[Tv]at ex
  cases hp:(aW t)[xs.length - 1 - i]? with
  |none=>rw[hp]at ex;cases ex
  |some x =>
   rw[hp]at ex;cases ex;have hp':(aW t)[aV t - 1 - i]?=some x:=by rw[lx];exact hp
   have hxm:=Ui hp;have okx:=jg t x z hxm;have dpx:=(fD t x hxm).2;have hi':i<(aW t).reverse.length:=by rw[V7,bU];lia
   have ei:(aW t).reverse[i]?=some x:=by rw[Ii (by rw[bU];lia),bU];exact hp'
   have et:(aW t).reverse.take (i+1)=(aW t).reverse.take i++[x]:=by rw[Um,ei];rfl
   have lus:us.length<=200:=by rw[<- r.length,To,Uk];lia
   have lws:ws.length<=200:=by rw[<- j.length,To,Uk];lia
   refine iK ?_;dsimp only;refine ji (K:=K) (d:=bD (cH e x)) (gO (R:=DR) (gQ (aB (k:=4) hxd) (fH (bI (k:=1) (sG.ld h1)) (fH (bI (k:=2) (LD.of U r)) (fH (bI (k:=3) (LD.of q j)) dB)))) ⟨e,x,cH e,(aW t).reverse.take i,rfl,u,okx,⋯,by rw[Uk];rw[V7,bU];lia,λy hy=>?_,λw hw y hy=>um ⋯ hp' (qm (IQ u) hw y hy),by rw[<- yf (IQ u)]⟩) q ⋯ λy G3 b3 hb3 q3=>?_
   ·have hym:y∈aW t:=List.mem_reverse.mp (List.mem_of_mem_take hy);have:=(fD t y hym).2;exact⟨jg t y z hym,⋯⟩
   have g3:bW K G G3:=b3.grow q hb3;have hd3:=b3 _ _ L U;have hw3:=b3 _ _ (Tt nwb) hwG;refine Cn (K:=K) (d:=toD x) (aB (k:=4) (Dat.mono g3 _ hxd)) hd3 ⋯ λy4 G4 b4 hd4 q4=>?_;have g4:bW K G3 G4:=b4.grow hd3 hd4;refine⟨_,us++[y4],ws++[y],rfl,λa o ha=>b4 a o (aK ha I) (b3 a o (aK ha hlb0) (sG _ _ ha)),b4 _ _ (Tt nwd) hw3,Xd.mono g4 _ (Xd.mono g3 _ O),hd4,?_,b4 _ _ (Tt L) hb3,?_⟩
   ·rw[et,Uh];exact Xd.append (Xd.mono g4 _ (Xd.mono g3 _ r)) (Xd.cons q4 Xd.nil)
   ·rw[et,Uh];exact Xd.append (Xd.mono g4 _ (Xd.mono g3 _ j)) (Xd.cons (Dat.mono g4 _ q3) Xd.nil)
 ·rintro σ G ⟨z4,us,ws,rfl,sG,hwG,O,U,r,q,j⟩
  have ea:((aW t).reverse.take xs.length).map (λx=>bD (cH e x))=(((cU t).flatMap aW).reverse.map λx=>bD (cH e x))++[bD (cH e t)]:=by rw[<- lx,<- bU,<- V7,UE,fY,List.reverse_cons,Uh,T7,Wc]
  rw[ea]at j;have hL:LD K G ((((cU t).flatMap aW).reverse.map λx=>bD (cH e x))++[bD (cH e t)]) (.ref g):=LD.of q j;dsimp only;rcases fin with⟨b,B,post⟩|⟨B,post⟩
  ·rw[B]at hL;refine aS (K:=K) (b:=false) (aM (rQ (oF (bI (K:=K) (σ:=[some v0,some v1,some (.ref ld),some (.ref g),z4]) (k:=3) hL) (FZ aF)))) (λc=>nomatch c) (λ_ G3 s3=>?_);exact bL (K:=K) (d:=bD (some b)) (oF (bI (k:=3) (s3.ld hL)) (FZ aF)) λv G4 s4 q4=>post v G4 (sG.trans (s3.trans s4)) q4
  ·rw[B]at hL;refine aS (K:=K) (b:=true) (aM (rQ (oF (bI (K:=K) (σ:=[some v0,some v1,some (.ref ld),some (.ref g),z4]) (k:=3) hL) (FZ aF)))) (λ_ G3 s3=>?_) (λc=>nomatch c);exact⟨cA ⋯,post _ (sG.trans s3)⟩
structure jT(ps:List Pc):Prop where
 lo:1<=ps.length
 hi:ps.length<=16
 pc:∀p∈ps,oB (XW p)=some true/\p.nm.length<=sizeLine
 nd:(ps.map (·.nm)).Nodup
def Jx(as:List Ar)(d:D):Prop:=∃a,as=[.l (a.map XW)]/\jT a/\d=.bl true
theorem Dj(T:Txt P w K mg)(A:Ok P w base k T.NW (XI K qv)):Ok P w base (k+1) T.P7 (spA K Jx):=by
 refine XR T.P7.f Dy λO H Q E U h=>?_;obtain⟨as,d,g,⟨l,rfl,n,rfl⟩,post⟩:=h;obtain⟨B,rfl,a⟩:=JG g;have a:LD K H (l.map XW) B:=a;have C:=n.lo;have G:=n.hi;refine⟨rfl,λ_ _ _ _ I=>⟨_,(aC (bJ (PW.pt (fU (cJ (bN (aL (gC Hk) rfl T.Ms bB (bF (pv 0) (bF (hV (v:=.ty "list") rfl T.Oe fW rfl) aQ))) (λ_=>rfl))) (fG (cJ (rJ kS kS aE (aL aT rfl T.MC bY (z1 (pv 0))) (aZ (v:=.int 16) rfl T.PL ⟨_,rfl⟩)))))) (zr dN) aO)
 (aC (bJ (cJ (bN (aL (kD rfl) rfl T.RS qD (z1 (zc [] ["piece"] (cI (pv 0)) (λ_ _ _ _ _=>(pc (D:=T.NW) A I (z1 (pv 0))))))) (λ_=>rfl))) (zr dN) aO)
 (zr (dM cM (aL yh rfl T.MC bY (z1 (bR (CM rfl) rfl T.Ti JK (z1 (zc [] ["piece"] (cI (pv 0)) (λ_ _ _ _ _=>(a6 (r:=rK K) a7 (pv 0) aE))))))) (aL aT rfl T.MC bY (z1 (pv 0))) (fC _))))),?_⟩⟩
 show let x:=_;let y:=bA _ x;bA _ y _ _ _;intro x y;refine aS (K:=K) (b:=false) ?_ (λc=>nomatch c) (λ_ Y t=>?_)
 ·refine RT.as (dO (b:=false) (RT.as (bV (bC (cP (aB a.lst)))) rfl) λ_=>bV (aM (nv (p:=λi j=>decide (i<=j)) (r:=λi j=>decide (i<=j)) aF (gP (bI a)) λ_=>aF))) ?_;rw[To,U6,TZ (show(1:Int)<=(l.length:Int) by lia),TZ (show(l.length:Int)<=16 by lia)];rfl
 have a:=t.ld a;refine aS (K:=K) (b:=false) ?_ (λc=>nomatch c) (λ_ H2 z=>?_)
 ·refine RT.as (bV (bC (nq (bs:=l.map λ_=>true) (jF (bI a) (by rw[To];lia) _ (by simp) rfl (λJ j c v d t e g u=>?_))))) ?_
  ·simp only[Tv]at e g
   cases m:l[j]? with
   |none=>rw[m]at e;cases e
   |some p =>rw[m]at e g;cases e;cases g;obtain⟨L,M⟩:=n.pc p (Ui m);exact a8 (R:=qv) (aA (aB (k:=0) u) aJ) ⟨XW p,true,rfl,M,L,rfl⟩
  ·rw[List.all_map];simp
 have a:=z.ld a;refine bL (K:=K) (d:=.bl true) (RE.as (iY (Dr (zs:=l.map (·.nm)) (jF (bI a) (by rw[To];lia) _ (by simp) rfl (λJ j c v d t e g u=>?_)) (by rw[To];lia)) (gP (bI a))) ?_) λv N s q=>post v N (t.trans (z.trans s)) q
 ·simp only[Tv]at e g
  cases m:l[j]? with
  |none=>rw[m]at e;cases e
  |some p =>rw[m]at e g;cases e;cases g;exact bK (k:=0) (aB (k:=0) u) aF rfl
 ·rw[(GU _).mpr n.nd,To,To];simp
def jM(as:List Ar)(d:D):Prop:=∃a,as=[.l (a.map XW)]/\jT a/\d=.Xi
theorem yZ(T:Txt P w K mg)(SB:Ok P w base k T.P7 (spA K Jx)):Ok P w base (k+1) T.Nd (spA K jM):=by refine XR T.Nd.f zL λp H Q E q h=>?_;obtain⟨as,d,g,⟨e,rfl,i,rfl⟩,post⟩:=h;obtain⟨j,rfl,a⟩:=JG g;have a:LD K H (e.map XW) j:=a;refine⟨rfl,λ_ _ _ _ l=>⟨_,(aR (bJ (cJ (bN (pc (D:=T.P7) SB l (z1 (pv 0))) (λ_=>rfl))) (aR dA) aO)),?_⟩⟩;exact i4 (b:=false) (bV (bC (gO (K:=K) (R:=Jx) (fH (bI a) dB) ⟨e,rfl,i,rfl⟩))) (λc=>nomatch c) (λ_ m n=>post _ m n Dat.Zt)
structure gT(ps:List Pc)(t:Tr):Prop where
 os:je ps
 gs:jT ps
 ot:YB t
 dp:bE t<=8
 sz:aV t<=40
def xX(as:List Ar)(d:D):Prop:=∃(a:List Pc)(t:Tr)(b:Int×D),as=[.d (toD t),.l (a.map XW)]/\gT a t/\cH a t=some b/\d=.int b.1
def tH(N:Addr)(as:List Ar)(C:Addr):Prop:=∃(a:List Pc)(t:Tr),as=[.d (toD t),.l (a.map XW)]/\gT a t/\cH a t=none/\C=N
theorem wW(T:Txt P w K mg)(G:Ok P w base k T.Nu (XI K uo))(I:Ok P w base k T.Nd (spA K jM))(J:Xj P w K mg base (Yw P w) k T.Mv.a T.Mv.d ["tree","some"] (zN K Ad (DO T.Mu))):Xj P w K mg base (Yw P w) (k+1) T.MX.a T.MX.d ["tree","some"] (zN K xX (tH T.Mu)):=by
 refine T.MX.f.ok2 Y5 (λL H Q E h=>?_) (λM A outer s H L Q E p h=>?_)
 ·obtain⟨as,n,h⟩:=h;rcases h with⟨d,⟨g,t,b,rfl,_⟩,_⟩|⟨C,⟨g,t,rfl,_⟩,_⟩<;>exact n.length.symm
 have nd:=Y5.nd;obtain⟨as,n,h⟩:=h;refine⟨_,(aC (bO (pc (D:=T.Nu) G p (z1 (pv 0))))
 (aC (bO (pc (D:=T.Nd) I p (z1 (pv 1))))
 (zr (a6 a7 (lK J p rfl T.Mv.m T.Mv.f.kp T.Mv.b .nil rE (z2 (pv 0) (pv 1))) aE)))),?_⟩
 rcases h with⟨d,⟨g,t,b,rfl,c,r,rfl⟩,post⟩|⟨C,⟨g,t,rfl,c,r,rfl⟩,post⟩
 ·obtain⟨u,x,rfl,i,j⟩:=tN n;have i:Dat K H (toD t) u:=i;have j:LD K H (g.map XW) x:=j;refine fJ (RE.use (a8 (R:=uo) (d:=.Xi) (aA (aB (K:=K) (k:=0) i) aJ) ⟨toD t,rfl,ql c.ot c.dp c.sz,rfl⟩) λN O l _=>?_);refine fJ (RE.use (gO (R:=jM) (d:=.Xi) (fH (bI (K:=K) (k:=1) (l.ld j)) dB) ⟨g,rfl,c.gs,rfl⟩) λU Y y _=>?_);have e:=l.trans y;exact bL (K:=K) (d:=.int b.1) (bK (k:=0) (oC (R:=Ad) (gQ (aB (k:=0) (e.dat i)) (fH (bI (k:=1) (e.ld j)) dB)) ⟨g,t,b,rfl,c.os,c.ot,c.dp,T8 c.sz ⋯,r,rfl⟩) aF rfl) λv z s q=>post v z (e.trans s) q
 ·obtain⟨u,x,rfl,i,j⟩:=tN n;have i:Dat K H (toD t) u:=i;have j:LD K H (g.map XW) x:=j;refine fJ (RE.use (a8 (R:=uo) (d:=.Xi) (aA (aB (K:=K) (k:=0) i) aJ) ⟨toD t,rfl,ql c.ot c.dp c.sz,rfl⟩) λN O l _=>?_);refine fJ (RE.use (gO (R:=jM) (d:=.Xi) (fH (bI (K:=K) (k:=1) (l.ld j)) dB) ⟨g,rfl,c.gs,rfl⟩) λU Y y _=>?_);have e:=l.trans y;exact gS (oK (R:=Ad) (B:=DO T.Mu) (gQ (aB (k:=0) (e.dat i)) (fH (bI (k:=1) (e.ld j)) dB)) ⟨g,t,rfl,c.os,c.ot,c.dp,T8 c.sz ⋯,r,rfl⟩ λz s=>post _ (e.trans s))
end
section
variable{k:Nat}
noncomputable def uM:Pa->Nat
 | .gap _ _=>1
 | .two _ a b=>uM a+uM b
 |_=>0
noncomputable def oS:Pa->Nat
 | .slot _=>1
 | .two _ a b=>oS a+oS b
 |_=>0
theorem qJ:∀(p:Pa)(t:Tr)(f:Zp),cW p t=some f->f.2.1.length=uM p/\f.2.2.length=oS p
 | .hole i,t,f,h=>by cases h;exact⟨rfl,rfl⟩
 | .gap i m,t,f,h=>by
  cases t with
  |num n =>
   have c:(if n<=m then some ([],[n],[])else none:Option Zp)=some f:=h;by_cases z:n<=m
   ·rw[TR z]at c;cases c;exact⟨rfl,rfl⟩
   ·rw[TN z]at c;cases c
  |_=>cases h
 | .slot i,t,f,h=>by
  cases t with
  |arg n=>cases h;exact⟨rfl,rfl⟩
  |_=>cases h
 | .num m,t,f,h=>by
  cases t with
  |num n =>
   have c:(if n=m then some ([],[],[])else none:Option Zp)=some f:=h;by_cases z:n=m
   ·rw[TR z]at c;cases c;exact⟨rfl,rfl⟩
   ·rw[TN z]at c;cases c
  |_=>cases h
 | .two o a b,t,f,h=>by
  cases t with
  |two l u v =>
   obtain⟨_,d,e,e1,e2,e3⟩:=fL h;subst e3;have g:=qJ a u d e1;have j:=qJ b v e e2;refine⟨?_,?_⟩
   ·show(d.2.1++e.2.1).length=uM a+uM b;rw[Tq,g.1,j.1]
   ·show(d.2.2++e.2.2).length=oS a+oS b;rw[Tq,g.2,j.2]
  |_=>cases h
inductive Cl where
 |n (i:Int)
 |arg (k:Nat)
 |low (k:Nat)
 |high (k:Nat)
noncomputable def clD:Cl->D
 | .n i=>.int i
 | .arg k=>.tup [.str "arg",.int k]
 | .low k=>.tup [.str "low",.int k]
 | .high k=>.tup [.str "high",.int k]
noncomputable def GR(g s:Nat):Cl->Bool
 | .n _=>true
 | .arg k=>decide (k<s)
 | .low k=>decide (k<g)
 | .high k=>decide (k<g)
noncomputable def BQ(a b:eH):Cl->Int
 | .n i=>i
 | .arg k=>b.getD k 0
 | .low k=>a.getD k 0%100
 | .high k=>a.getD k 0 / 100
structure xV(p:Pc)(cl:List Cl):Prop where
 eq:p.cs=cl.map clD
 ok:∀c∈cl,GR (uM p.pt) (oS p.pt) c=true
inductive AllL(R:Tr->D->List D->Prop):List Tr->List D->List (List D)->Prop
 |nil:AllL R [] [] []
 |cons {t c es ts cs Xw}:R t c es->AllL R ts cs Xw->AllL R (t::ts) (c::cs) (es::Xw)
theorem AllL.len(h:AllL R a c d):a.length=c.length/\d.length=a.length:=by
 induction h with
 |nil=>exact⟨rfl,rfl⟩
 |cons _ _ b=>exact⟨by simp[b.1],by simp[b.2]⟩
noncomputable def oh(a b:Int)(n:Nat):List D:=(js a b n).map D.int
theorem mV(a b:Int)(n:Nat):((oh a b n).length:Int)=hX n:=by unfold oh;rw[To,kK]
noncomputable def gF(x y z:List D):List D:=x++oh 10 11 (y++oh 8 9 z.length).length++(y++oh 8 9 z.length)++z
noncomputable def eU(a:List (List D))(f:Zp)(b:List Cl):List D:=a.flatten++b.map λc=>D.int (BQ f.2.1 f.2.2 c)
def tL(e:List Pc):Nat->Tr->D->List D->Prop
 |0,_,_,_=>False
 |n+1,t,c,i=>(∃a b d ca j cd l m q,t=.pick a b d/\c=.tup [.str "pick",.tup [ca,j,cd]]/\tL e n a ca l/\tL e n b j m/\tL e n d cd q/\i=gF l m q) \/
  (∃p f r s g,Ay t=false/\p∈e/\cW p.pt t=some f/\xV p r/\c=.tup [.str p.nm,.tup s]/\AllL (tL e n) f.1 s g/\i=eU g f r)
theorem yD:∀(a:List Wy)(b x:ZQ),a.foldl (i8 f) b=x->x=b\/∃w∈a,∃bs,iB (w.ts.map f)=some bs/\x=some (dD w (bs.map (·.1)),cvD w.nm bs)
 |[],b,x,h=>.inl h.symm
 |w::a,b,x,h=>by
  rw[V9]at h;rcases yD a _ x h with e|⟨g,i,r⟩
  ·unfold i8 at e
   cases c:iB (w.ts.map f)with
   |none=>rw[c]at e;exact .inl e
   |some bs =>
    rw[c]at e;have e:x=jQ b (dD w (bs.map (·.1))) (cvD w.nm bs):=e
    have d:jQ b (dD w (bs.map (·.1))) (cvD w.nm bs)=b\/jQ b (dD w (bs.map (·.1))) (cvD w.nm bs)=some (dD w (bs.map (·.1)),cvD w.nm bs):=by
     unfold jQ
     cases b with
     |none=>exact .inr rfl
     |some y =>
      dsimp only;split
      ·exact .inr rfl
      ·exact .inl rfl
    rcases d with z|z
    ·exact .inl (e.trans z)
    ·exact .inr ⟨w,Uq,bs,c,e.trans z⟩
  ·exact .inr ⟨g,Ug _ i,r⟩
theorem yb:∀{a:List Tr}{bs:List (Int×D)},iB (a.map f)=some bs->a.map f=bs.map some
 |[],bs,h=>by cases h;rfl
 |t::a,bs,h=>by
  cases e:f t with
  |none=>rw[T7,e]at h;cases h
  |some b =>
   rw[T7,e]at h;have c:(iB (a.map f)).map (b::·)=some bs:=h
   cases e2:iB (a.map f)with
   |none=>rw[e2]at c;cases c
   |some r =>rw[e2]at c;cases c;rw[T7,T7,e,yb e2]
theorem B3(f:∀x b,bE x<=n->cH e x=some b->∃d,tL e n x b.2 d/\(d.length:Int)=b.1):∀{c:List Tr}{bs:List (Int×D)},(∀x∈c,bE x<=n)->c.map (cH e)=bs.map some ->
  ∃a,AllL (tL e n) c (bs.map (·.2)) a/\(a.flatten.length:Int)=(bs.map (·.1)).sum
 |[],[],_,_=>⟨[],.nil,rfl⟩
 |[],b::bs,_,h=>by cases h
 |t::c,[],_,h=>by cases h
 |t::c,b::bs,g,h=>by rw[T7,T7]at h;injection h with i j;obtain⟨d,l,q⟩:=f t b (g t Uq) i;obtain⟨a,m,r⟩:=B3 f (λx p=>g x (Ug _ p)) j;refine⟨d::a,.cons l m,?_⟩;rw[VW,Tq,T7,List.sum_cons];lia
theorem kC{i:List Pc}(l:∀p∈i,gI p.pt=true/\p.nm≠"pick"/\∃m,xV p m):∀(n:Nat)(t:Tr)(b:Int×D),bE t<=n->cH i t=some b->∃G,tL i n t b.2 G/\(G.length:Int)=b.1
 |0,t,b,h,_=>by
  have:1<=bE t:=by cases t<;>simp[bE]
  lia
 |n+1,t,b,h,H=>by
  have I:∀p∈i,gI p.pt=true:=λp q=>(l p q).1;rw[yf I]at H;rcases yD _ _ _ H with e|⟨w,s,bs,N,e⟩
  ·cases e
  injection e with e;subst e
  have cA:∀x∈w.ts,bE x<=n:=λx O=>by have:=(kg (qm I s x O)).2;lia
  have a:=yb N;obtain⟨j,Q,r2⟩:=B3 (kC l n) cA a;unfold jc at s;split at s
  ·rename_i c;have T:=Uj.mp s;subst T
   cases t with
   |pick x y z =>
    have U:bs.length=3:=by have:=Up List.length a;simpa[cU]using this.symm
    match bs,U,a with
    |[r,d,g],_,a =>
     have a:[cH i x,cH i y,cH i z]=[some r,some d,some g]:=a;injection a with m1 a;injection a with m2 a;injection a with m3 _;obtain⟨J,Y,j1⟩:=kC l n x r (cA x (by simp[cU])) m1;obtain⟨B,i2,j2⟩:=kC l n y d (cA y (by simp[cU])) m2;obtain⟨u,i3,j3⟩:=kC l n z g (cA z (by simp[cU])) m3;refine⟨gF J B u,.inl ⟨x,y,z,r.2,d.2,g.2,J,B,u,rfl,rfl,Y,i2,i3,rfl⟩,?_⟩;show _=dD ⟨"pick",[],[x,y,z]⟩ [r.1,d.1,g.1]
     have el:dD ⟨"pick",[],[x,y,z]⟩ [r.1,d.1,g.1]=uX d.1 g.1+(r.1+d.1+g.1):=by unfold dD t4;rw[TR rfl];simp;lia
     rw[el];unfold gF uX;have k1:=mV 8 9 u.length;have L:=mV 10 11 (B++oh 8 9 u.length).length;rw[Tq]at L;simp only[Tq];rw[j3]at k1;have k3:((B.length+(oh 8 9 u.length).length:Nat):Int)=d.1+hX g.1:=by lia
     rw[k3]at L;lia
   |_=>cases c
  ·rename_i c;obtain⟨p,M,v⟩:=UZ.mp s;unfold pO at v
   cases C:cW p.pt t with
   |none=>rw[C]at v;cases v
   |some f =>
    rw[C]at v;cases v;obtain⟨_,E,m,A⟩:=l p M;refine⟨eU j f m,.inr ⟨p,f,m,bs.map (·.2),j,by simpa using c,M,C,A,rfl,Q,rfl⟩,?_⟩;show((j.flatten++m.map _).length:Int)=dD ⟨p.nm,p.cs,f.1⟩ (bs.map (·.1));have lc:p.cs.length=m.length:=by rw[A.eq,To]
    unfold dD t4;rw[TN E,Tq,To];show _=(p.cs.length:Int)+_;lia
end
section
theorem LK{K:vc}(h:RT m c H b)(n:b=true->RC K p c H i)(r:b=false->RC K t c H i):RC K (tIf m p t) c H i:=λu s Q q =>
 (h.mono s).use λj a=>by
  cases b with
  |true=>exact mU (n rfl j (s.trans a) Q λl d e f g=>q l d e (a.free f) (a.trans g))
  |false=>exact nZ (r rfl j (s.trans a) Q λl d e f g=>q l d e (a.free f) (a.trans g))
theorem wF{a:eH}(h:k<a.length):(a.map D.int)[k]?=some (.int (a.getD k 0)):=by rw[Tv,Uc,M1 h];rfl
noncomputable def qF:D->Option (Str×List D)
 | .tup [.str a,.tup b]=>some (a,b)
 |_=>none
end
section
variable{k:Nat}
structure Kb(ps:List Pc):Prop where
 nd:(ps.map (·.nm)).Nodup
 nl:∀p∈ps,Yj (XW p)=true/\gE (XW p)<=19
noncomputable def Ht(a:Str):D->Bool
 | .tup (.str x::_)=>decide (x=a)
 |_=>false
theorem uK:∀{a:List Pc},(∀p∈a,p.nm≠b)->(a.map XW).filter (Ht b)=[]
 |[],_=>rfl
 |p::a,h=>by
  rw[T7,Vp,TN]
  ·exact uK λq c=>h q (Ug _ c)
  ·show ¬ decide (p.nm=b)=true;rw[TU (h p Uq)];exact TH
theorem yv:∀{a:List Pc},(a.map (·.nm)).Nodup->p∈a->(a.map XW).filter (Ht p.nm)=[XW p]
 |[],_,h=>by cases h
 |q::a,b,h=>by
  rw[T7,Vw]at b;rcases TY.mp h with rfl|h
  ·rw[T7,Vp,TR (show Ht p.nm (XW p)=true from TZ rfl),uK λx c z=>b.1 (UB.mpr ⟨x,c,z⟩)]
  ·rw[T7,Vp,TN]
   ·exact yv b.2 h
   ·show ¬ decide (q.nm=p.nm)=true;rw[TU λz=>b.1 (UB.mpr ⟨p,h,z.symm⟩)];exact TH
theorem E1{α:Type}{a:List (List α)}(h:a.flatten.length<=n):∀{i:Nat}{x:List α},a[i]?=some x->(a.take i).flatten.length+x.length<=n:=by
 intro i x b;have e:a.take (i+1)=a.take i++[x]:=by rw[Um,b];rfl
 have l:(a.take (i+1)).flatten.length<=a.flatten.length:=by have z:a=a.take (i+1)++a.drop (i+1):=(Vc _ _).symm;rw[Up List.flatten z,WQ,Tq];lia
 rw[e,WQ,Tq]at l;simp only[VW,List.flatten_nil,Ub]at l;lia
noncomputable def Le:D->Cl
 | .tup [.str k,.int j]=>if k="arg" then .arg j.toNat else if k="low" then .low j.toNat else .high j.toNat
 | .int i=>.n i
 |_=>.n 0
noncomputable def cR(p:Pc):List Cl:=p.cs.map Le
noncomputable def mS(a:Str)(b:List Pc):Option Pc:=b.find? λp=>decide (p.nm=a)
noncomputable def pM:List (Option (List D))->Option (List (List D))
 |[]=>some []
 |none::_=>none
 |some x::r=>(pM r).map (x::·)
noncomputable def gR(f:Tr->D->Option (List D))(a:List Tr)(b:List D):List (Option (List D)):=(a.zip b).map λp=>f p.1 p.2
noncomputable def Ka:List (List D)->Option (List D)
 |[a,b,c]=>some (gF a b c)
 |_=>none
noncomputable def mW(f:Tr->D->Option (List D))(t:Tr)(c:List D):Option (List D):=match t with
 | .pick a b d=>if c.length=3 then (pM (gR f [a,b,d] c)).bind Ka else none
 |_=>none
noncomputable def kL(f:Tr->D->Option (List D))(c:List Pc)(t:Tr)(d:Str)(b:List D):Option (List D):=match mS d c with
 |none=>none
 |some p=>match cW p.pt t with
  |none=>none
  |some g=>if g.1.length=b.length then (pM (gR f g.1 b)).map λa=>eU a g (cR p)else none
noncomputable def dY(a:List Pc):Nat->Tr->D->Option (List D)
 |0,_,_=>none
 |n+1,t,c=>match qF c with
  |none=>none
  |some x=>if x.1="pick" then mW (dY a n) t x.2 else kL (dY a n) a t x.1 x.2
theorem ur:∀{os:List (Option (List D))},os.any Option.isNone=true->pM os=none
 |[],h=>by cases h
 |none::os,_=>rfl
 |some x::os,h=>by rw[Vm]at h;have a:=ur (os:=os) (by simpa using h);show(pM os).map _=none;rw[a];rfl
theorem xY:∀a:List (List D),pM (a.map some)=some a
 |[]=>rfl
 |x::a=>by show(pM (a.map some)).map _=_;rw[xY a];rfl
theorem Dl(b:d[k]?=some t)(e:g[k]?=some c)(a:(gR f d g)[k]?=some o):o=f t c:=by unfold gR at a;rw[Tv,(List.getElem?_zip_eq_some (z:=(t,c))).mpr ⟨b,e⟩]at a;cases a;rfl
theorem Dm{a:List Tr}{b:List D}(h:a.length=b.length):(gR f a b).length=a.length:=by unfold gR;rw[To,List.length_zip];lia
theorem uU(b:∀t c d,f t c=some d->d.length<=12*aV t):∀{ts:List Tr}{cs:List D}{a:List (List D)},ts.length=cs.length->gR f ts cs=a.map some->a.flatten.length<=12*(ts.map aV).sum
 |[],[],a,_,h=>by
  have:a=[]:=by cases a with|nil=>rfl|cons _ _=>cases h
  subst this;simp
 |t::ts,c::cs,a,e,h=>by
  cases a with
  |nil=>cases h
  |cons x a =>have g:f t c::gR f ts cs=some x::a.map some:=h;injection g with i j;have l:=b t c x i;have m:=uU b (ts:=ts) (cs:=cs) (by simpa using e) j;rw[VW,Tq,T7,List.sum_cons];lia
 |[],c::cs,_,h,_=>by simp at h
 |t::ts,[],_,h,_=>by simp at h
end
section
structure oo(ps:List Pc):Prop where
 ls:Kb ps
 cl:∀p∈ps,xV p (cR p)
theorem wj:∀(p:Pa)(t:Tr)(f:Zp),cW p t=some f->(f.1.map aV).sum<=aV t/\(gI p=true->(f.1.map aV).sum+1<=aV t)
 | .hole i,t,f,h=>by cases h;exact⟨by simp,λz=>nomatch z⟩
 | .gap i m,t,f,h=>by
  cases t with
  |num n =>
   have c:(if n<=m then some ([],[n],[])else none:Option Zp)=some f:=h;by_cases z:n<=m
   ·rw[TR z]at c;cases c;exact⟨by simp,λ_=>by simp[aV]⟩
   ·rw[TN z]at c;cases c
  |_=>cases h
 | .slot i,t,f,h=>by
  cases t with
  |arg n=>cases h;exact⟨by simp,λ_=>by simp[aV]⟩
  |_=>cases h
 | .num m,t,f,h=>by
  cases t with
  |num n =>
   have c:(if n=m then some ([],[],[])else none:Option Zp)=some f:=h;by_cases z:n=m
   ·rw[TR z]at c;cases c;exact⟨by simp,λ_=>by simp[aV]⟩
   ·rw[TN z]at c;cases c
  |_=>cases h
 | .two o a b,t,f,h=>by
  cases t with
  |two j u v =>
   obtain⟨_,d,g,e1,e2,e3⟩:=fL h;subst e3;have l:=(wj a u d e1).1;have q:=(wj b v g e2).1;have e:((d.1++g.1).map aV).sum=(d.1.map aV).sum+(g.1.map aV).sum:=by simp
   refine⟨?_,λ_=>?_⟩
   ·show((d.1++g.1).map aV).sum<=_;simp only[aV];lia
   ·show((d.1++g.1).map aV).sum+1<=_;simp only[aV];lia
  |_=>cases h
theorem iO(h:mS a b=some p):p∈b/\p.nm=a:=by unfold mS at h;have c:decide (p.nm=a)=true:=List.find?_some (p:=λp:Pc=>decide (p.nm=a)) h;exact⟨List.mem_of_find?_eq_some h,T4 c⟩
theorem Ap(h:mS a b=none):∀p∈b,p.nm≠a:=λp c e=>by unfold mS at h;rw[List.find?_eq_none]at h;exact absurd (TZ e) (h p c)
theorem iS(h:kL f d t i a=some l):∃p g b,mS i d=some p/\cW p.pt t=some g/\g.1.length=a.length/\gR f g.1 a=b.map some/\l=eU b g (cR p):=by
 unfold kL at h
 cases e1:mS i d with
 |none=>rw[e1]at h;cases h
 |some p =>
  rw[e1]at h;dsimp only at h
  cases e2:cW p.pt t with
  |none=>rw[e2]at h;cases h
  |some g =>
   rw[e2]at h;dsimp only at h;by_cases c:g.1.length=a.length
   ·rw[TR c]at h
    cases j:(gR f g.1 a).any Option.isNone with
    |true=>rw[ur j]at h;cases h
    |false =>obtain⟨b,e⟩:=uv j;rw[e,xY]at h;cases h;exact⟨p,g,b,rfl,e2,c,e,rfl⟩
   ·rw[TN c]at h;cases h
theorem jU(h:mW f t g=some p):∃a b d ca c cd i j l,t=.pick a b d/\g=[ca,c,cd]/\f a ca=some i/\f b c=some j/\f d cd=some l/\p=gF i j l:=by
 cases t with
 |pick a b d =>
  have h:(if g.length=3 then (pM (gR f [a,b,d] g)).bind Ka else none)=some p:=h;by_cases q:g.length=3
  ·rw[TR q]at h
   match g,q with
   |[ca,c,cd],_ =>
    have e:gR f [a,b,d] [ca,c,cd]=[f a ca,f b c,f d cd]:=rfl;rw[e]at h
    cases m:f a ca with
    |none=>rw[m]at h;cases h
    |some i =>
     cases n:f b c with
     |none=>rw[m,n]at h;cases h
     |some j =>
      cases r:f d cd with
      |none=>rw[m,n,r]at h;cases h
      |some l =>rw[m,n,r]at h;have h:some (gF i j l)=some p:=h;cases h;exact⟨a,b,d,ca,c,cd,i,j,l,rfl,rfl,m,n,r,rfl⟩
  ·rw[TN q]at h;cases h
 |_=>cases h
theorem iR(ok:∀p∈l,Hy p):∀(n:Nat)(t:Tr)(c:D)(m:List D),dY l n t c=some m->m.length<=12*aV t
 |0,_,_,_,h=>by cases h
 |n+1,t,c,m,h=>by
  have h:(match qF c with|none=>none|some x=>if x.1="pick" then mW (dY l n) t x.2 else kL (dY l n) l t x.1 x.2)=some m:=h
  cases r:qF c with
  |none=>rw[r]at h;cases h
  |some x =>
   rw[r]at h;dsimp only at h;by_cases s:x.1="pick"
   ·rw[TR s]at h;obtain⟨a,b,d,ca,v,cd,q,i,f,rfl,_,w,y,ld,rfl⟩:=jU h;have A:=iR ok n a ca q w;have B:=iR ok n b v i y;have C:=iR ok n d cd f ld;have G:=mV 8 9 f.length;have H:=mV 10 11 (i++oh 8 9 f.length).length;have I:=EO (f.length:Int);have J:=EO ((i++oh 8 9 f.length).length:Int);have L:(gF q i f).length=q.length+(oh 10 11 (i++oh 8 9 f.length).length).length+(i.length+(oh 8 9 f.length).length)+f.length:=by unfold gF;simp only[Tq]
    simp only[aV];lia
   ·rw[TN s]at h;obtain⟨p,g,u,e1,e2,E,e,rfl⟩:=iS h;have j:=ok p (iO e1).1;have A:=uU (iR ok n) E e;have B:=(wj _ _ _ e2).2 j.nh;have C:=j.cs;have z:(eU u g (cR p)).length=u.flatten.length+p.cs.length:=by unfold eU cR;rw[Tq,To,To]
    lia
theorem Eo(h:gI p=true)(a b c:Tr):cW p (.pick a b c)=none:=by
 cases p with
 |hole i=>cases h
 |_=>rfl
theorem CQ(h:qF c=some x):c=.tup [.str x.1,.tup x.2]:=by
 unfold qF at h;split at h
 ·cases h;rfl
 ·cases h
def qr(e:List D)(d:D):Prop:=∃(c:Cl)(a b:eH),e=[clD c,.tup (a.map D.int),.tup (b.map D.int)]/\GR a.length b.length c=true/\d=.int (BQ a b c)
variable{K:vc}
theorem rp(T:Txt P w K mg)  : Ok P w base (k+1) T.Na (XI K qr):=by
 refine XR T.Na.f sI λJ H Q E L h=>?_;obtain⟨M,d,C,⟨c,i,G,rfl,XR,rfl⟩,post⟩:=h;obtain⟨r,N,O,rfl,a,z,I⟩:=kG C;refine⟨rfl,λ_ _ _ _ U=>⟨_,(aC (bJ (bN (aL (gC EF) rfl T.Ms bB (bF (pv 0) (bF (hV (v:=.ty "int") rfl T.SZ D1 rfl) aQ))) (λ_=>rfl)) (zr (pv 0)) aO)
 (aC (bJ (zt cM (a6 a7 (pv 0) aE) aN) (zr (bS gK (a6 a7 (pv 1) (a6 a7 (pv 0) aE)) aE)) aO)
 (aC (bJ (zt cM (a6 a7 (pv 0) aE) aN) (zr (bS m8 (a6 a7 (pv 1) (a6 a7 (pv 0) aE)) aE)) aO)
 (zr (a6 a7 (pv 2) (a6 a7 (pv 0) aE)))))),?_⟩⟩
 show let A:=bA _ _;let B:=bA _ A;bA _ B _ _ _;intro A B
 cases c with
 |n j =>have a:Dat K H (.int j) r:=a;refine aS (K:=K) (b:=true) (bC (cP (aB (k:=0) a))) (λ_ t g=>?_) (λc=>nomatch c);exact bL (K:=K) (d:=.int j) (aB (k:=0) (g.dat a)) λv s l q=>post v s (g.trans l) q
 |low j =>have a:Dat K H (.tup [.str "low",.int j]) r:=a;have XR:=T4 XR;refine aS (K:=K) (b:=false) (bC (cP (aB (k:=0) a))) (λc=>nomatch c) (λ_ t g=>?_);refine aS (K:=K) (b:=true) (RT.as (aM (cC (bK (k:=0) (aB (k:=0) (g.dat a)) aF rfl) aY)) (TZ rfl)) (λ_ s l=>?_) (λc=>nomatch c);have e:=g.trans l;exact bL (K:=K) (d:=.int (i.getD j 0%100)) (xo (bK (k:=j) (aB (k:=1) (e.dat z)) (bK (k:=1) (aB (k:=0) (e.dat a)) aF rfl) (wF XR)) aF ⋯) λv u p q=>post v u (e.trans p) q
 |high j =>have a:Dat K H (.tup [.str "high",.int j]) r:=a;have XR:=T4 XR;refine aS (K:=K) (b:=false) (bC (cP (aB (k:=0) a))) (λc=>nomatch c) (λ_ t g=>?_);refine aS (K:=K) (b:=false) (RT.as (aM (cC (bK (k:=0) (aB (k:=0) (g.dat a)) aF rfl) aY)) (TU ⋯)) (λc=>nomatch c) (λ_ s l=>?_);have e:=g.trans l;refine aS (K:=K) (b:=true) (RT.as (aM (cC (bK (k:=0) (aB (k:=0) (e.dat a)) aF rfl) aY)) (TZ rfl)) (λ_ u p=>?_) (λc=>nomatch c);have m:=e.trans p;exact bL (K:=K) (d:=.int (i.getD j 0 / 100)) (Cj (bK (k:=j) (aB (k:=1) (m.dat z)) (bK (k:=1) (aB (k:=0) (m.dat a)) aF rfl) (wF XR)) aF ⟨⋯,⋯⟩) λv x y q=>post v x (m.trans y) q
 |arg j =>have a:Dat K H (.tup [.str "arg",.int j]) r:=a;have XR:=T4 XR;refine aS (K:=K) (b:=false) (bC (cP (aB (k:=0) a))) (λc=>nomatch c) (λ_ t g=>?_);refine aS (K:=K) (b:=false) (RT.as (aM (cC (bK (k:=0) (aB (k:=0) (g.dat a)) aF rfl) aY)) (TU ⋯)) (λc=>nomatch c) (λ_ s l=>?_);have e:=g.trans l;refine aS (K:=K) (b:=false) (RT.as (aM (cC (bK (k:=0) (aB (k:=0) (e.dat a)) aF rfl) aY)) (TU ⋯)) (λc=>nomatch c) (λ_ u p=>?_);have m:=e.trans p;exact bL (K:=K) (d:=.int (G.getD j 0)) (bK (k:=j) (aB (k:=2) (m.dat I)) (bK (k:=1) (aB (k:=0) (m.dat a)) aF rfl) (wF XR)) λv x y q=>post v x (m.trans y) q
def ku(n:Nat)(as:List Ar)(b:List D):Prop:=∃(a:List Pc)(t:Tr)(c:D),as=[.d (toD t),.l (a.map XW),.d c,.l []]/\je a/\oo a/\YB t/\bE t<=n/\n<=8/\aV t<=40/\dY a n t c=some b
def Jr(n:Nat)(as:List Ar)(e:List D):Prop:=∃(c:List Pc)(a b d:Tr)(ca f cd:D)(g i j:List D),as=[.d (.tup [.str "pick",toD a,toD b,toD d]),.l (c.map XW),.d (.tup [.str "pick",.tup [ca,f,cd]]),.l []]/\je c/\oo c/\(YB a/\YB b/\YB d)/\(bE a<=n/\bE b<=n/\bE d<=n)/\n<=8/\(aV a<=40/\aV b<=40/\aV d<=40) /\
 dY c n a ca=some g/\dY c n b f=some i/\dY c n d cd=some j/\e.length<=900/\e=gF g i j
def Jq(n:Nat)(as:List Ar)(c:List D):Prop:=∃(a:List Pc)(t:Tr)(p:Pc)(b:List D)(g:Zp)(e:List (List D)),as=[.d (toD t),.l (a.map XW),.d (.tup [.str p.nm,.tup b]),.l []]/\je a/\oo a/\YB t/\bE t<=n+1/\n+1<=8/\aV t<=40/\p∈a/\cW p.pt t=some g/\g.1.length=b.length/\gR (dY a n) g.1 b=e.map some/\c.length<=900/\c=eU e g (cR p)
theorem pd(x y z:List D):gF x y z=x++(js 10 11 ((y.length:Int)+hX z.length)).map D.int++y++(js 8 9 z.length).map D.int++z:=by
 unfold gF oh
 have e:((y++(js 8 9 (z.length:Int)).map D.int).length:Int)=(y.length:Int)+hX z.length:=by rw[Tq,To];have:=kK 8 9 z.length;lia
 rw[e];simp only[UW]
theorem wU(T:Txt P w K mg)(NB:Ok P w base k T.MH (oU K (ku n)))(Ob:Ok P w base k T.MK (xR K)):Ok P w base (k+1) T.OL (oU K (Jr n)):=by
 refine XR T.OL.f xK λvs H Q E u h=>?_;obtain⟨as,es,hd,⟨B,a,b,d,ca,L,cd,C,q,c,rfl,M,t,⟨oa,ob,od⟩,⟨da,db,dd⟩,N,⟨za,zb,zd⟩,la,lb,ld,e,rfl⟩,post⟩:=h;obtain⟨v0,v1,v2,v3,rfl,O,U,Y,h3⟩:=GL hd;have O:Dat K H (.tup [.str "pick",toD a,toD b,toD d]) v0:=O;have U:LD K H (B.map XW) v1:=U;have Y:Dat K H (.tup [.str "pick",.tup [ca,L,cd]]) v2:=Y;have h3:LD K H [] v3:=h3;rw[pd]at post e;refine⟨rfl,λ_ _ _ _ hr=>⟨_,(aC (dQ (iJ (own:=["one","within"]) (fr:=[1,3]) (N':=["one","within","some","places"]) (FG rfl T.S6 (z2 (kU xP (pv 0) (jW aE) xk) (a6 a7 (pv 2) aE))) rfl (by show eV ["tree","some","cover","places","first","second","third","ahead","behind"] (λx=>(aG lh).names.lookup x) _ _ _ _=true;decide +kernel) rfl (λ_ _ _ _ _=>(qh (K:=K) (n:=2) rfl rfl (aP (cF (i:=0) (by show List.Nodup [("one":Str),("within":Str),("some":Str),("places":Str)];decide +kernel) rfl (Or.inl rfl)) (aP (cF (i:=1) (by show List.Nodup [("one":Str),("within":Str),("some":Str),("places":Str)];decide +kernel) rfl (Or.inl rfl)) cD)))) (λ_ _ _ _ _=>fF) (λ_ _ _ _ _=>(pc (D:=T.MH) NB hr (aU (pv 0) (aU (pv 2) (aU (pv 1) (aU (pv 3) aQ))))))) (HD rfl (aP (zg 4 u) (aP (zg 5 u) (aP (zg 6 u) cD)))))
 (aC (dQ (pc (D:=T.MK) Ob hr (z2 (aL aT rfl T.MC bY (z1 (pv 5))) (aL aT rfl T.MC bY (z1 (pv 6))))) (dP rfl (aP (zg 7 u) (aP (zg 8 u) cD))))
 (zr (bS jf (bS jf (bS jf (bS jf (pv 4) (pv 7)) (pv 5)) (pv 8)) (pv 6))))),?_⟩⟩
 show let XH:=bA _ _;bA _ XH _ _ _;intro XH;refine j4 (RCL.use (K:=K) (HY (cs:=[toD a,toD b,toD d]) (ds:=[ca,L,cd]) (aA (oH (aB (k:=0) O)) (aA (bK (k:=1) (aB (k:=2) Y) aF rfl) aJ)) rfl (by simp) [C,q,c] rfl ⋯ rfl (λG j x y z v w sG m g s hv hw=>?_)) λl ys H1 hl s1 g dy=>?_)
 ·have hL:=sG.ld U;have hP:=sG.ld h3
  match j,m,g,s with
  |0,m,g,s=>cases m;cases g;cases s;exact iz (R:=ku n) (gQ (aB (k:=0) hv) (fH (bI (k:=2) hL) (gQ (aB (k:=1) hw) (fH (bI (k:=3) hP) dB)))) ⟨B,a,ca,rfl,M,t,oa,da,N,za,la⟩
  |1,m,g,s=>cases m;cases g;cases s;exact iz (R:=ku n) (gQ (aB (k:=0) hv) (fH (bI (k:=2) hL) (gQ (aB (k:=1) hw) (fH (bI (k:=3) hP) dB)))) ⟨B,b,L,rfl,M,t,ob,db,N,zb,lb⟩
  |2,m,g,s=>cases m;cases g;cases s;exact iz (R:=ku n) (gQ (aB (k:=0) hv) (fH (bI (k:=2) hL) (gQ (aB (k:=1) hw) (fH (bI (k:=3) hP) dB)))) ⟨B,d,cd,rfl,M,t,od,dd,N,zd,ld⟩
  |j+3,m,g,s=>cases m
 obtain⟨w4,w5,w6,rfl,k4,I,J⟩:∃w4 w5 w6,ys=[w4,w5,w6]/\LD K H1 C w4/\LD K H1 q w5/\LD K H1 c w6:=by
  cases dy with
  |cons k4 r =>
   cases r with
   |cons I r =>
    cases r with
    |cons J r =>cases r;exact⟨_,_,_,rfl,k4,I,J⟩
 refine⟨l,_,rfl,Xm.of g,rfl,_,_,rfl,_,_,rfl,_,_,rfl,rfl,?_⟩
 try dsimp only
 refine j4 (rL (jY (RE.use (K:=K) (d:=.int q.length) (gP (bI (k:=5) I)) λw1 H3 s3 q3=>jY (RE.use (K:=K) (d:=.int c.length) (gP (bI (k:=6) (s3.ld J))) λw2 H4 s4 q4=>?_))));have e3:=q3.Xp;have e4:=q4.Xp;subst e3 e4;refine⟨_,_,rfl,λp aa bb us ws H5 s5 hp ha hb _ _ _ dus dws=>?_⟩;refine⟨p,_,rfl,hp,rfl,_,_,rfl,_,_,rfl,rfl,?_⟩
 try dsimp only
 have A:=s3.trans (s4.trans s5);have kA:LD K H5 _ (.ref aa):=LD.of ha dus;have kB:LD K H5 _ (.ref bb):=LD.of hb dws;have ll:(C++(js 10 11 ((q.length:Int)+hX c.length)).map D.int++q++(js 8 9 c.length).map D.int++c).length=C.length+((js 10 11 ((q.length:Int)+hX c.length)).map D.int).length+q.length+((js 8 9 (c.length:Int)).map D.int).length+c.length:=by simp only[Tq]
 generalize (js 10 11 ((q.length:Int)+hX c.length)).map D.int=ja at kA post ll e;generalize (js 8 9 (c.length:Int)).map D.int=jb at kB post ll e;exact gS (RC.use (K:=K) (jh (iZ (jh (iZ (jh (iZ (jh (bI (k:=4) (A.ld k4)) (bI (k:=7) kA) ⋯)) (bI (k:=5) (A.ld I)) (by rw[Tq];lia))) (bI (k:=8) kB) (by rw[Tq,Tq];lia))) (bI (k:=6) (A.ld J)) (by rw[Tq,Tq,Tq];lia)) λl3 us H7 hl3 s7 hu du=>post l3 us H7 (s1.trans (A.trans s7)) hu ((s1.trans A).free hl3) du)
theorem tY(T:Txt P w K mg)(NB:Ok P w base k T.MH (oU K (ku n)))(PQ:Ok P w base k T.NV (XI K qu))(ON:Ok P w base k T.Na (XI K qr)):Ok P w base (k+1) T.On (oU K (Jq n)):=by
 refine XR T.On.f uh λvs H Q E B h=>?_;obtain⟨as,es,hd,⟨ps,t,p,cv,g,e,rfl,Zq,O,YT,dpt,n8,szt,hp,U,hlen,l,l900,rfl⟩,post⟩:=h;obtain⟨v0,v1,v2,v3,rfl,h0,h1,h2,h3⟩:=GL hd;have h0:Dat K H (toD t) v0:=h0;have h1:LD K H (ps.map XW) v1:=h1;have h2:Dat K H (.tup [.str p.nm,.tup cv]) v2:=h2;have h3:LD K H [] v3:=h3;have C:=Zq.ok p hp;have Y:=O.cl p hp;have few:=Zq.few;refine⟨rfl,λ_ _ _ _ hr=>⟨_,(aC (dQ (pv 2) (dP rfl (aP (zg 4 B) (aP (zg 5 B) cD))))
 (aC (zs 6 B (a6 cX (iJ (own:=["one"]) (fr:=[4]) (N':=["one","name"]) (cI (pv 1)) rfl (by show eV ["tree","some","cover","places","name","within","piece","holes","nums","ks","cells","hole","inner"] (λx=>(aG j8).names.lookup x) _ _ _ _=true;decide +kernel) rfl (λ_ _ _ _ _=>(cF (i:=0) (by show List.Nodup [("one":Str),("name":Str)];decide +kernel) rfl (Or.inl rfl))) (λ_ _ _ _ _=>(kW (zt cM (a6 (r:=rK K) a7 (pv 0) aE) (pv 1)))) (λ_ _ _ _ _=>(pv 0))) aE))
 (aC (dQ (pc (D:=T.NV) PQ hr (z2 (pv 6) (pv 0))) (dP rfl (aP (zg 7 B) (aP (zg 8 B) (aP (zg 9 B) cD)))))
 (aC (zs 10 B (bZ aQ))
 (aC (gZ Ux rfl (FG rfl T.S6 (z2 (pv 7) (pv 5))) (dP rfl (aP (zg 11 B) (aP (zg 12 B) cD))) (aR (bO (eB Ue U1 Ve fZ (pv 10) (z1 (pc (D:=T.MH) NB hr (aU (pv 11) (aU (pv 1) (aU (pv 12) (aU (pv 3) aQ))))))))))
 (zr (bS jf (pv 10) (zc [8,9] ["cell","nums","ks"] (iV (a6 a7 (pv 6) aE)) (λ_ _ _ _ _=>(pc (D:=T.Na) ON hr (z3 (pv 0) (pv 1) (pv 2)))))))))))),?_⟩⟩
 show let XH:=bA _ _;let XT:=bA _ XH;let Yt:=bA _ XT;let YG:=bA _ Yt;bA _ YG _ _ _;intro XH XT Yt YG;refine jl (K:=K) (aB (k:=2) h2) λv4 v5 H1 s1 q4 q5=>?_;refine cY (K:=K) (d:=XW p) (oE (k:=0) (ds:=[XW p]) (iZ (RC.as (Cg (bI (k:=1) (s1.ld h1)) (by rw[To];lia) (Ht p.nm) rfl (λG j c v I m hv=>?_)) (yv O.ls.nd hp))) aF rfl) λv6 H2 s2 q6=>?_
 ·rw[Tv]at m
  cases b:ps[j]? with
  |none=>rw[b]at m;cases m
  |some q =>rw[b]at m;cases m;exact⟨aM (cC (bK (k:=0) (aB (k:=0) (show Dat K G (.tup [.str q.nm,toP q.pt,.tup q.cs]) v from hv)) aF rfl) (aB (k:=1) (I.dat q4))),aB (k:=0) hv⟩
 have s12:=s1.trans s2;have q6:Dat K H2 (.tup [.str p.nm,toP p.pt,.tup p.cs]) v6:=q6;refine qk (K:=K) (RE.as (a8 (R:=qu) (d:=fdD (cW p.pt t)) (aA (aB (k:=6) q6) (aA (aB (k:=0) (s12.dat h0)) aJ)) ⟨.str p.nm,p.pt,.tup p.cs,t,rfl,C.ok,YT,⋯,C.dp,rfl⟩) (by rw[U];rfl)) λv7 v8 v9 H3 s3 q7 q8 q9=>?_;have XF:=s12.trans s3;refine dS ⟨cA ⋯,λlc hlc=>?_⟩;have s4:Xe H3 (upd H3 lc (.lst [])):=aH hlc _;have X3:=XF.trans s4;obtain⟨ah,us,rfl,hah,dus⟩:=(s4.dat q7).XC;obtain⟨aw,ws,rfl,haw,dws⟩:=((s2.trans (s3.trans s4)).dat q5).XC;have lu:=dus.length;have lw:=dws.length;rw[To]at lu;have less:e.length=g.1.length:=by have:=Up List.length l;rw[Dm hlen,To]at this;exact this.symm
 have hlcn:H lc=none:=XF.free hlc
 have lle:e.flatten.length+(cR p).length<=900:=by
  have z:(eU e g (cR p)).length=e.flatten.length+(cR p).length:=by unfold eU;rw[Tq,To]
  lia
 have lfl:e.flatten.length<=900:=by lia
 generalize hG4:upd H3 lc (.lst [])=G4 at s4 X3 hah haw dus dws;have hc4:G4 lc=some (.lst []):=by rw[<- hG4];exact aD
 let J_1:Nat->L2.St->Hp->Prop:=λi σ G=>∃(z11 z12:Option V)(zs:List V),σ=[some v0,some v1,some v2,some v3,some v4,some (.ref aw),some v6,some (.ref ah),some v8,some v9,some (.ref lc),z11,z12]/\Xe H3 G/\XG K G ah us/\XG K G aw ws/\Xd K G (g.1.map toD) us/\Xd K G cv ws/\G lc=some (.lst zs)/\Xd K G (e.take i).flatten zs;refine cQ ⟨_,rfl,_,rfl,ah,aw,us,ws,rfl,hah,haw,Hd (K:=K) (xs:=us) (ys:=ws) J_1 ⋯ ?_ (λi σ G _ ⟨_,_,_,_,_,p1,p2,_⟩=>⟨p1,p2⟩) ?_ ?_⟩
 ·exact⟨none,none,[],rfl,s4,hah,haw,dus,dws,hc4,by rw[UM];exact Xd.nil⟩
 ·rintro i u w pp σ G hu hw hpp ⟨z11,z12,zs,rfl,I,L,M,duG,dwG,J,dz⟩;have s:Xe G (upd G pp (.tup [u,w])):=aH hpp _;obtain⟨du,y,hdu⟩:=duG.YQ hu;obtain⟨dw,edw,hdw⟩:=dwG.YQ hw;rw[Tv]at y
  cases b:g.1[i]? with
  |none=>rw[b]at y;cases y
  |some x =>
   rw[b]at y;cases y;have hix:i<e.length:=by rw[less];exact(T9.mp b).1
   have hx:e[i]?=some e[i]:=M1 hix;have lz:=E1 lfl hx;have hlx:dY ps n x dw=some e[i]:=(Dl b edw (by rw[l,Tv,hx];rfl)).symm;have N:=yB C.nh U x (Ui b);have dsm:=kg N;refine⟨pp,_,rfl,XG.of aD,rfl,_,_,rfl,_,_,rfl,rfl,?_⟩;dsimp only;have A:=XF.trans (I.trans s);have lzs:=dz.length;refine Ik (K:=K) (iz (R:=ku n) (gQ (aB (k:=11) (s.dat hdu)) (fH (bI (k:=1) (A.ld h1)) (gQ (aB (k:=12) (s.dat hdw)) (fH (bI (k:=3) (A.ld h3)) dB)))) ⟨ps,x,dw,rfl,Zq,O,jg t x YT (DF N),⋯,⋯,⋯,hlx⟩) (s _ _ J) ⋯ λys G2 b2 hc2 dy=>?_;have g2:bW K (upd G pp (.tup [u,w])) G2:=b2.grow (s _ _ J) hc2;refine⟨_,_,zs++ys,rfl,λa o ha=>b2 a o (aK ha hlc) ((I.trans s) _ _ ha),g2.tup _ _ (s.sqT L),g2.tup _ _ (s.sqT M),Xd.mono g2 _ (s.Xo duG),Xd.mono g2 _ (s.Xo dwG),hc2,?_⟩;rw[Um,hx,WQ];simp only[Option.toList_some,VW,List.flatten_nil,Ub];exact Xd.append (Xd.mono g2 _ (s.Xo dz)) dy
 ·rintro σ G ⟨z11,z12,zs,rfl,I,L,M,duG,dwG,J,dz⟩;rw[<- lu,<- less,UE]at dz;dsimp only;have A:=XF.trans I
  have q6G:Dat K G (.tup [.str p.nm,toP p.pt,.tup ((cR p).map clD)]) v6:=by have z:=(s3.trans I).dat q6;rw[Y.eq]at z;exact z
  obtain⟨g1,g2⟩:=qJ _ _ _ U;have lcl:(cR p).length<=12:=by have:=C.cs;rw[Y.eq,To]at this;exact this
  refine gS (RC.use (K:=K) (es:=eU e g (cR p)) (jh (bI (k:=10) (LD.of J dz)) (iZ (rP (cs:=(cR p).map clD) (bK (k:=2) (aB (k:=6) q6G) aF rfl) (by rw[To];lia) ((cR p).map λc=>D.int (BQ g.2.1 g.2.2 c)) (by rw[To,To]) rfl (λG1 j c v d s1 m hd hv=>?_))) (by rw[To];lia)) λl3 vs G2 hl3 s2 hw dw=>post l3 vs G2 (A.trans s2) hw (A.free hl3) dw);rw[Tv]at m hd
  cases b:(cR p)[j]? with
  |none=>rw[b]at m;cases m
  |some x =>rw[b]at m hd;cases m;cases hd;refine a8 (R:=qr) (aA (aB (k:=0) hv) (aA (aB (k:=1) ((I.trans s1).dat q8)) (aA (aB (k:=2) ((I.trans s1).dat q9)) aJ))) ⟨x,g.2.1,g.2.2,rfl,?_,rfl⟩;rw[g1,g2];exact Y.ok x (Ui b)
theorem tX(T:Txt P w K mg)(RG:Ok P w base k T.OL (oU K (Jr n)))(Rm:Ok P w base k T.On (oU K (Jq n))):Ok P w base (k+1) T.MH (oU K (ku (n+1))):=by
 refine XR T.MH.f ug λvs H Q E nd h=>?_;obtain⟨as,N,hd,⟨m,t,c,rfl,O,A,B,C,n8,G,i⟩,post⟩:=h;obtain⟨v0,v1,v2,v3,rfl,I,U,Y,h3⟩:=GL hd;have I:Dat K H (toD t) v0:=I;have U:LD K H (m.map XW) v1:=U;have Y:Dat K H c v2:=Y;have h3:LD K H [] v3:=h3;have q:N.length<=900:=by have:=iR O.ok (n+1) t c N i;lia
 refine⟨rfl,λ_ _ _ _ hr=>⟨_,(aC (bJ (zt cM (a6 a7 (pv 0) aE) aN) (aC (zs 4 nd (a6 cX (pv 3) (a6 a7 (pv 0) aE)))
 (zr (bZ (z3 (aZ (v:=.int 15) rfl T.S8 ⟨_,rfl⟩) (bS gK (pv 4) aE) (bS m8 (pv 4) aE))))) aO)
 (aC (bJ (zt cM (a6 a7 (pv 0) aE) aN) (zr (pc (D:=T.OL) RG hr (aU (pv 0) (aU (pv 1) (aU (pv 2) (aU (pv 3) aQ)))))) aO)
 (zr (pc (D:=T.On) Rm hr (aU (pv 0) (aU (pv 1) (aU (pv 2) (aU (pv 3) aQ)))))))),?_⟩⟩
 show let XH:=bA _ _;bA _ XH _ _ _;intro XH;obtain⟨kd,r,ek,hpk,s,hkids⟩:=ED t B;have J:Dat K H (.tup (.str kd::r)) v0:=by rw[<- ek];exact I
 refine aS (K:=K) (b:=false) (RT.as (aM (cC (bK (k:=0) (aB (k:=0) J) aF rfl) aY)) (TU s)) (λc=>nomatch c) (λ_ H1 s1=>?_)
 obtain⟨y,L,rfl⟩:∃y L,c=.tup [.str y,.tup L]:=by
  cases e:qF c with
  |none =>have h:(match qF c with|none=>none|some x=>if x.1="pick" then mW (dY m n) t x.2 else kL (dY m n) m t x.1 x.2)=some N:=i;rw[e]at h;cases h
  |some x=>exact⟨x.1,x.2,CQ e⟩
 have i:(if y="pick" then mW (dY m n) t L else kL (dY m n) m t y L)=some N:=i;refine aS (K:=K) (b:=Ay t) (RT.as (aM (cC (bK (k:=0) (aB (k:=0) (s1.dat J)) aF rfl) aY)) hpk) (λcp H2 s2=>?_) (λcp H2 s2=>?_)
 ·have j:=s1.trans s2
  have hn:y="pick":=by
   apply Classical.byContradiction;intro z;rw[TN z]at i;obtain⟨p,g,Xw,e1,e2,_⟩:=iS i
   cases t with
   |pick a b d=>rw[Eo (O.ok p (iO e1).1).nh]at e2;cases e2
   |_=>cases cp
  subst hn;rw[TR rfl]at i;obtain⟨a,b,d,ca,cb,cd,xa,xb,xd,rfl,rfl,la,lb,ld,rfl⟩:=jU i;simp only[bE]at C;simp only[aV]at G;exact gS (RC.use (K:=K) (iz (R:=Jr n) (gQ (aB (k:=0) (j.dat I)) (fH (bI (k:=1) (j.ld U)) (gQ (aB (k:=2) (j.dat Y)) (fH (bI (k:=3) (j.ld h3)) dB)))) ⟨m,a,b,d,ca,cb,cd,xa,xb,xd,rfl,O,A,⟨B.1,B.2.1,B.2.2⟩,⟨⋯,⋯,⋯⟩,⋯,⟨⋯,⋯,⋯⟩,la,lb,ld,q,rfl⟩) λl ys H3 M s3 hy dy=>post l ys H3 (j.trans s3) hy (j.free M) dy)
 ·have j:=s1.trans s2
  have hn:¬ y="pick":=by intro z;rw[TR z]at i;obtain⟨a,b,d,_,_,_,_,_,_,e,_⟩:=jU i;subst e;cases cp
  rw[TN hn]at i;obtain⟨p,g,Xw,e1,e2,M,u,rfl⟩:=iS i;obtain⟨hp,rfl⟩:=iO e1;exact gS (RC.use (K:=K) (iz (R:=Jq n) (gQ (aB (k:=0) (j.dat I)) (fH (bI (k:=1) (j.ld U)) (gQ (aB (k:=2) (j.dat Y)) (fH (bI (k:=3) (j.ld h3)) dB)))) ⟨m,t,p,L,g,Xw,rfl,O,A,B,C,n8,G,hp,e2,M,u,q,rfl⟩) λl ys H3 M s3 hy dy=>post l ys H3 (j.trans s3) hy (j.free M) dy)
end
section
variable{K:vc}
theorem IR:∀{a:List Pc},(a.map (·.nm)).Nodup->∀p∈a,∀q∈a,p.nm=q.nm->p=q
 |[],_,p,c,_,_,_=>by cases c
 |x::a,b,p,c,q,d,e=>by
  rw[T7,Vw]at b;rcases TY.mp c with e1|h1
  ·rcases TY.mp d with e2|h2
   ·rw[e1,e2]
   ·exact absurd (UB.mpr ⟨q,h2,by rw[<- e,e1]⟩) b.1
  ·rcases TY.mp d with e2|h2
   ·exact absurd (UB.mpr ⟨p,h1,by rw[e,e2]⟩) b.1
   ·exact IR b.2 p h1 q h2 e
theorem Ed:∀c:Cl,Le (clD c)=c
 | .n i=>rfl
 | .arg k=>by kernel_rfl
 | .low k=>by kernel_rfl
 | .high k=>by kernel_rfl
theorem Ec(h:xV p a):cR p=a:=by unfold cR;rw[h.eq,Vj];exact(WO λc _=>Ed c).trans (List.map_id a)
theorem JE(i:∀t c b,tL a n t c b->dY a n t c=some b)(h:AllL (tL a n) d e f):pM (gR (dY a n) d e)=some f:=by
 induction h with
 |nil=>rfl
 |cons r _ g =>rename_i t c b d e j _;show pM (dY a n t c::gR (dY a n) d e)=_;rw[i t c b r];show(pM (gR (dY a n) d e)).map (b::·)=_;rw[g];rfl
theorem qV{g:List Pc}(j:(g.map (·.nm)).Nodup)(np:∀p∈g,p.nm≠"pick"):∀(n:Nat)(t:Tr)(c:D)(m:List D),tL g n t c m->dY g n t c=some m
 |0,_,_,_,h=>h.elim
 |n+1,t,c,m,.inl ⟨a,b,d,ca,l,cd,u,v,w,e1,e2,x,y,A,e3⟩=>by subst e1 e2 e3;have z:dY g (n+1) (.pick a b d) (.tup [.str "pick",.tup [ca,l,cd]])=(if ("pick":Str)="pick" then mW (dY g n) (.pick a b d) [ca,l,cd]else kL (dY g n) g (.pick a b d) "pick" [ca,l,cd]):=rfl;rw[z,TR rfl];show(pM [dY g n a ca,dY g n b l,dY g n d cd]).bind Ka=_;rw[qV j np n a ca u x,qV j np n b l v y,qV j np n d cd w A];rfl
 |n+1,t,c,m,.inr ⟨p,f,I,r,B,C,s,E,G,e1,i,e2⟩=>by
  subst e1 e2
  have e:mS p.nm g=some p:=by
   cases e:mS p.nm g with
   |none=>exact absurd rfl (Ap e p s)
   |some q=>obtain⟨H,en⟩:=iO e;rw[IR j q H p s en]
  have z:dY g (n+1) t (.tup [.str p.nm,.tup r])=(if p.nm="pick" then mW (dY g n) t r else kL (dY g n) g t p.nm r):=rfl;rw[z,TN (np p s)];unfold kL;rw[e];dsimp only;rw[E];dsimp only;rw[TR i.len.1,JE (qV j np n) i,Ec G];rfl
theorem Ah(os:je d)(e:oo d)(f:bE t<=8)(g:cH d t=some b):∃a,dY d 8 t b.2=some a/\(a.length:Int)=b.1:=by obtain⟨a,i,j⟩:=kC (λp c=>⟨(os.ok p c).nh,(os.ok p c).nm,_,e.cl p c⟩) 8 t b f g;exact⟨a,qV e.ls.nd (λp c=>(os.ok p c).nm) 8 t b.2 a i,j⟩
def kr(as:List Ar)(e:List D):Prop:=∃(a:List Pc)(t:Tr)(b:Int×D)(c:List D),as=[.d (toD t),.l (a.map XW)]/\gT a t/\oo a/\cH a t=some b/\dY a 8 t b.2=some c/\e=c++[.int 0]
def vG(K:vc)(R:List Ar->List D->Prop)(B:List Ar->Addr->Prop):Sp:=λd H Q E =>
 ∃as,Ars K H as d/\((∃b,R as b/\∀r c a,Xe H a->a r=some (.lst c)->H r=none->Xd K a b c->Q (.ref r) a)\/∃C,B as C/\∀a,Xe H a->E (.ref C) none a)
theorem rM{K:vc}(h:RB K tA d H a)(r:R a b):RC K (f6 (vG K R B) [] E tA) d H b:=λe s Q q =>
 h e s _ λt u c f=>⟨a,by rw[Ub];exact f,.inl ⟨b,r,λl g i j m n p=>q l g i (c.free n) (c.trans j) m p⟩⟩
theorem rT{K:vc}(h:RB K tA c H a)(r:B a C)(q:∀b,Xe H b->E (.ref C) none b):f6 (vG K R B) [] E tA c H Q :=
 h.use λg i d e=>⟨a,by rw[Ub];exact e,.inr ⟨C,r,λj f=>q _ (d.trans f)⟩⟩
theorem AI(T:Txt P w K mg)(I:Xj P w K mg base (Yw P w) k T.Mv.a T.Mv.d ["tree","some"] (zN K Ad (DO T.Mu)))(J:Ok P w base k T.MH (oU K (ku 8))):Xj P w K mg base (Yw P w) (k+1) T.Nr.a T.Nr.d ["tree","some"] (vG K kr (tH T.Mu)):=by
 refine T.Nr.f.ok2 ZF (λL H Q E h=>?_) (λM A outer s H L Q E y h=>?_)
 ·obtain⟨as,n,h⟩:=h;rcases h with⟨d,⟨g,t,b,q,rfl,_⟩,_⟩|⟨C,⟨g,t,rfl,_⟩,_⟩<;>exact n.length.symm
 have z:=ZF.nd;obtain⟨as,n,h⟩:=h;refine⟨_,(aC (dQ (lK I y rfl T.Mv.m T.Mv.f.kp T.Mv.b .nil rE (z2 (pv 0) (pv 1))) (dP rfl (aP (zg 2 z) (aP (zg 3 z) cD))))
 (zr (bS jf (pc (D:=T.MH) J y (aU (pv 0) (aU (pv 1) (aU (pv 3) (aU (bZ aQ) aQ))))) (bZ (z1 (aZ (v:=.int 0) rfl T.Tg ⟨_,rfl⟩)))))),?_⟩
 rcases h with⟨es,⟨g,t,b,q,rfl,c,N,O,G,rfl⟩,post⟩|⟨C,⟨g,t,rfl,c,U,rfl⟩,post⟩
 ·obtain⟨r,u,rfl,i,j⟩:=tN n;have i:Dat K H (toD t) r:=i;have j:LD K H (g.map XW) u:=j;have sz:=c.sz;have l9:=iR c.os.ok 8 t b.2 q G;refine jl (K:=K) (d:=.int b.1) (e:=b.2) (oC (R:=Ad) (gQ (aB (k:=0) i) (fH (bI (k:=1) j) dB)) ⟨g,t,b,rfl,c.os,c.ot,c.dp,⋯,O,rfl⟩) λv2 v3 H1 p q2 Y=>?_;exact gS (RC.use (K:=K) (jh (iZ (iz (R:=ku 8) (gQ (aB (k:=0) (p.dat i)) (fH (bI (k:=1) (p.ld j)) (gQ (aB (k:=3) Y) (fH (iZ (iE aJ)) dB)))) ⟨g,t,b.2,rfl,c.os,N,c.ot,c.dp,⋯,c.sz,G⟩)) (iZ (iE (aA aF aJ))) (by show q.length+1<=1000;lia)) λl ys H4 x s4 hy dy=>post l ys H4 (p.trans s4) hy (p.free x) dy)
 ·obtain⟨r,u,rfl,i,j⟩:=tN n;have i:Dat K H (toD t) r:=i;have j:LD K H (g.map XW) u:=j;exact j4 (oK (R:=Ad) (B:=DO T.Mu) (gQ (aB (k:=0) i) (fH (bI (k:=1) j) dB)) ⟨g,t,rfl,c.os,c.ot,c.dp,T8 c.sz ⋯,U,rfl⟩ λH' s=>post _ s)
theorem Kf(T:Txt P w K mg)(z:Ok P w base k T.Nu (XI K uo))(G:Ok P w base k T.Nd (spA K jM))(I:Xj P w K mg base (Yw P w) k T.Nr.a T.Nr.d ["tree","some"] (vG K kr (tH T.Mu))):Xj P w K mg base (Yw P w) (k+1) T.Qs.a T.Qs.d ["tree","some"] (vG K kr (tH T.Mu)):=by
 refine T.Qs.f.ok2 sc_lay (λJ H Q E h=>?_) (λL A outer s H J Q E q h=>?_)
 ·obtain⟨as,p,h⟩:=h;rcases h with⟨d,⟨g,t,b,y,rfl,_⟩,_⟩|⟨C,⟨g,t,rfl,_⟩,_⟩<;>exact p.length.symm
 have nd:=sc_lay.nd;obtain⟨as,p,h⟩:=h;refine⟨_,(aC (bO (pc (D:=T.Nu) z q (z1 (pv 0))))
 (aC (bO (pc (D:=T.Nd) G q (z1 (pv 1))))
 (zr (lK I q rfl T.Nr.m T.Nr.f.kp T.Nr.b .nil rE (z2 (pv 0) (pv 1)))))),?_⟩
 rcases h with⟨es,⟨g,t,b,y,rfl,e,M,N,O,rfl⟩,post⟩|⟨C,⟨g,t,rfl,e,U,rfl⟩,post⟩
 ·obtain⟨r,u,rfl,i,j⟩:=tN p;have i:Dat K H (toD t) r:=i;have j:LD K H (g.map XW) u:=j;refine fJ (RE.use (a8 (R:=uo) (d:=.Xi) (aA (aB (K:=K) (k:=0) i) aJ) ⟨toD t,rfl,ql e.ot e.dp e.sz,rfl⟩) λY H1 n _=>?_);refine fJ (RE.use (gO (R:=jM) (d:=.Xi) (fH (bI (K:=K) (k:=1) (n.ld j)) dB) ⟨g,rfl,e.gs,rfl⟩) λv5 H2 v _=>?_);have c:=n.trans v;exact gS (RC.use (K:=K) (rM (R:=kr) (gQ (aB (k:=0) (c.dat i)) (fH (bI (k:=1) (c.ld j)) dB)) ⟨g,t,b,y,rfl,e,M,N,O,rfl⟩) λl ys H4 x s4 hy dy=>post l ys H4 (c.trans s4) hy (c.free x) dy)
 ·obtain⟨r,u,rfl,i,j⟩:=tN p;have i:Dat K H (toD t) r:=i;have j:LD K H (g.map XW) u:=j;refine fJ (RE.use (a8 (R:=uo) (d:=.Xi) (aA (aB (K:=K) (k:=0) i) aJ) ⟨toD t,rfl,ql e.ot e.dp e.sz,rfl⟩) λY H1 n _=>?_);refine fJ (RE.use (gO (R:=jM) (d:=.Xi) (fH (bI (K:=K) (k:=1) (n.ld j)) dB) ⟨g,rfl,e.gs,rfl⟩) λv5 H2 v _=>?_);have c:=n.trans v;exact gS (rT (R:=kr) (B:=tH T.Mu) (gQ (aB (k:=0) (c.dat i)) (fH (bI (k:=1) (c.ld j)) dB)) ⟨g,t,rfl,e,U,rfl⟩ λH' s=>post _ (c.trans s))
theorem mT(h:H b=some o)(e:(∃c,o=.lst c)\/∃C g fs,o=.ins C g fs)(i:∀c,o=.lst c->∃f,j=.lst f):bW K H (upd H b j):=by
 refine⟨λa c q=>?_,λa c q=>?_⟩
 ·rcases q with(q|⟨u,q⟩)|q
  ·refine .inl (.inl ?_);rw[aI (λz=>?_)]
   ·exact q
   ·rw[z,h]at q;rcases e with⟨_,rfl⟩|⟨_,_,_,rfl⟩<;>cases q
  ·refine .inl (.inr ⟨u,?_⟩);rw[aI (λz=>?_)]
   ·exact q
   ·rw[z,h]at q;rcases e with⟨_,rfl⟩|⟨_,_,_,rfl⟩<;>cases q
  ·exact .inr q
 ·by_cases d:a=b
  ·subst d;rcases q with(q|⟨u,q⟩)|q
   ·rw[h]at q;cases q;obtain⟨f,rfl⟩:=i _ rfl;exact⟨f,Xm.of aD⟩
   ·rw[h]at q;rcases e with⟨_,rfl⟩|⟨_,_,_,rfl⟩<;>cases q
   ·exact⟨c,.inr q⟩
  ·rcases q with(q|⟨u,q⟩)|q
   ·exact⟨c,.inl (.inl (by rw[aI d];exact q))⟩
   ·exact⟨c,.inl (.inr ⟨u,by rw[aI d];exact q⟩)⟩
   ·exact⟨c,.inr q⟩
theorem Il(h:RC K g d H j)(q:∀l b a,H l=none->Xe H a->a l=some (.lst b)->Xd K a j b->∃C c fs,a x=some (.ins C c fs)/\Z9 K C/\XE K C f/\fs.length<1000/\m p d (upd a x (.ins C c (f9 f (.ref l) fs))))
  (e:d[i]?=some (some (.ref x)):=by rfl):bA (LO K (cV i) g f) m p d H :=
 h.use λl b a n s r t=>let⟨C,c,fs,u,v,w,a4,y⟩:=q l b a n s r t;⟨_,e,x,C,c,fs,rfl,u,v,w,a4,y⟩
def DW(a:List D)(d:D):Prop:=a=[.int 3,.int 5]/\d=.Xi
theorem wX(T:Txt P w K mg)(e:Ok P w base k T.Mz (XI K gW)):Xj P w K mg base X5 (k+1) T.OF T.OJ ["size","most"] (XI K DW):=by
 refine T.OK.ok Y6 (λf H Q E h=>?_) (λg A outer s H f Q E i h=>?_)
 ·obtain⟨j,d,a,⟨rfl,_⟩,_⟩:=h;exact a.length.symm
 have p:=Y6.nd;obtain⟨j,d,a,⟨rfl,rfl⟩,post⟩:=h;obtain⟨q,r,rfl,q0,l⟩:=gD a;refine⟨_,(aR (bJ (cJ (bN (pc (D:=T.Mz) e i (z3 (pv 0) aE (pv 1))) (λ_=>rfl))) (aR dA) aO)),?_⟩;exact i4 (b:=false) (RT.as (bV (bC (a8 (aA (aB q0) (aA aF (aA (aB l) aJ))) ⟨_,_,_,rfl,rfl⟩))) rfl) (λc=>nomatch c) (λ_ m n=>post .Xi m n Dat.Zt)
structure MA where
 m:Addr
 dx:Addr
 lp:Addr
 lk:Addr
 lc:Addr
 vg:V
noncomputable def mF(A:MA)(p:Nat):List (Str×V):=[("cells",.ref A.lc),("given",A.vg),("size",.int 3),("pile",.ref A.lp),("place",.int p),("kept",.ref A.lk),("ended",.bl false)]
structure MZ(C:Addr)(A:MA)(p:Nat)(l:eH)(H:Hp):Prop where
 ins:H A.m=some (.ins C A.dx (mF A p))
 cells:H A.lc=some (.lst [.int 1,.int 0])
 pile:H A.lp=some (.lst (l.map V.int))
 c1:A.lc≠A.lp
section
theorem MZ.same(M:MZ C A p l H)(s:Xe H a):MZ C A p l a:=⟨s _ _ M.ins,s _ _ M.cells,s _ _ M.pile,M.c1⟩
theorem MZ.np(M:MZ C A p l H):A.m≠A.lp/\A.m≠A.lc:=⟨λz=>(by have:=M.ins;rw[z,M.pile]at this;cases this),λz=>(by have:=M.ins;rw[z,M.cells]at this;cases this)⟩
theorem ny(h:H x=some (.ins C a fs))(c:Z9 K C)(n:XE K C f)(lk:fs.lookup f=some v)(b:Dat K H d v)(e:g[i]?=some (some (.ref x)):=by rfl):RE K (zU K (cV i) f) g H d:=λj s Q q=>⟨_,e,x,C,a,fs,v,rfl,s _ _ h,c,n,lk,q _ _ (Xe.refl _) (s.dat b)⟩
theorem xw(h:H x=some (.ins C a fs))(c:Z9 K C)(n:XE K C f)(lk:fs.lookup f=some v)(b:LD K H d v)(e:g[i]?=some (some (.ref x)):=by rfl):RL K (zU K (cV i) f) g H d:=λj s Q q=>⟨_,e,x,C,a,fs,v,rfl,s _ _ h,c,n,lk,q _ _ (Xe.refl _) (s.ld b)⟩
end
noncomputable abbrev ZJ:List D:=([1,0]:eH).map D.int
noncomputable abbrev z4:D:=.tup (([0,0,0,0]:eH).map D.int)
noncomputable abbrev zP:D:=.tup [.str "num",.int 0]
noncomputable abbrev zC:D:=.tup [.str "zero",zP,.tup [.int 1,.int 0]]
noncomputable abbrev zT:D:=.tup [.tup [],.tup [],.tup [],z4]
def Jo(as:List Ar)(d:D):Prop:=as=[.l ZJ,.d (.int 0)]/\d=.tup [.str "put",.tup [.int 0]]
def Jt(a:List D)(d:D):Prop:=a=[.tup [.int 0]]/\d=.int 0
theorem mB(T:Txt P w K mg)  : Ok P w base (k+1) T.MB (spA K Jo):=by
 refine XR T.MB.f jn λJ H Q E l h=>?_;obtain⟨as,d,A,⟨rfl,rfl⟩,post⟩:=h;obtain⟨B,C,rfl,g,a⟩:=tN A;have g:LD K H ZJ B:=g;have a:Dat K H (.int (0:Nat)) C:=a;refine⟨rfl,λ_ _ _ _ L=>⟨_,(aC (bJ (PW.pt (fU (zt y9 (pv 1) (aL aT rfl T.MC bY (z1 (pv 0)))) (fG (zt y9 (a6 cX (pv 0) (pv 1)) (aL aT rfl T.MC bY (z1 (aZ (v:=.ref T.MO) rfl T.NM rfl))))))) (aR dA) aO)
 (aC (dQ (a6 a7 (aZ (v:=.ref T.MO) rfl T.NM rfl) (a6 cX (pv 0) (pv 1))) (dP rfl (aP (zg 2 l) (aP (zg 3 l) cD))))
 (aC (zs 4 l (bR dJ rfl T.NP fA (z1 (kU Iu (pv 0) (jW (bS eQ (pv 1) aE)) (jW (bS eQ (bS eQ (pv 1) aE) (pv 3)))))))
 (aC (bJ (zt pj (aL aT rfl T.MC bY (z1 (pv 4))) (pv 3)) (aR dA) aO)
 (zr (aX (z2 (pv 2) (pv 4)))))))),?_⟩⟩
 show let u:=bA _ _;let x:=bA _ u;bA _ x _ _ _;intro u x;refine aS (K:=K) (b:=false) (RT.as (dO (b:=false) (c:=false) (RT.as (aM (eR (p:=λi j=>decide (j<=i)) (aB a) (gP (bI g)))) rfl) λ_=>RT.as (aM (eR (p:=λi j=>decide (j<=i)) (oE (k:=0) (bI g) (aB a) rfl) (eT (kX T.NH)))) rfl) rfl) (λc=>nomatch c) (λ_ M m=>?_);have g:=m.ld g;have a:=m.dat a;refine jl (K:=K) (d:=.str "put") (e:=.int (1:Nat)) (bK (k:=1) (kX T.NH) (oE (k:=0) (d:=.int (1:Nat)) (bI g) (aB a) rfl) rfl) λN O U n G y=>?_;have g:=n.ld g;have a:=n.dat a;refine cY (K:=K) (d:=.tup [.int 0]) (RE.as (vj (HV (lo:=1) (hi:=2) (bI g) (RE.as (fI (aB a) aF) rfl) (RE.as (fI (fI (aB a) aF) (aB y)) rfl))) rfl) λY H3 r z=>?_;refine aS (K:=K) (b:=false) (RT.as (aM (eR (p:=λi j=>decide (i<j)) (eT (aB z)) (aB (r.dat y)))) rfl) (λc=>nomatch c) (λ_ H4 t=>?_);exact bL (K:=K) (d:=.tup [.str "put",.tup [.int 0]]) (a9 (aA (aB (t.dat (r.dat G))) (aA (aB (t.dat z)) aJ))) λv I s q=>post v I (m.trans (n.trans (r.trans (t.trans s)))) q
theorem rC(T:Txt P w K mg)  : Ok P w base (k+1) T.N0 (XI K Jt):=by
 refine XR T.N0.f sL λn H Q E e h=>?_;obtain⟨B,d,p,⟨rfl,rfl⟩,post⟩:=h;obtain⟨C,rfl,q⟩:=fB p;refine⟨rfl,λ_ _ _ _ I=>⟨_,(aC (zs 1 e aE)
 (aC (gZ Ux rfl (HF rfl T.Q4 (z1 (pv 0))) (zg 2 e) (aR (zs 1 e (bS eQ (bS AU (pv 1) aE) (pv 2)))))
 (zr (pv 1)))),?_⟩⟩
 refine cY (K:=K) (d:=.int 0) aF λJ r l t=>?_;obtain rfl:=t.Xp;obtain⟨a,n,rfl,m,g⟩:=(l.dat q).XC;obtain⟨v,rfl,u⟩:=fB g;obtain rfl:=u.Xp;let j:Nat->L2.St->Hp->Prop:=λ_ c G=>∃z:Option V,c=[some (.ref a),some (.int 0),z]/\Xe r G;refine cQ ⟨_,rfl,a,_,rfl,m,Er (K:=K) (a:=a) (xs:=[.int 0]) j ⟨none,rfl,Xe.refl _⟩ (λi c G _ ⟨z,_,b⟩=>b.sqT m) (λi x c G y A h=>?_) (λc G h=>?_)⟩
 ·obtain⟨z,rfl,b⟩:=h;obtain rfl:i=0:=by have:i<1:=y;lia
  cases A;exact iK (KN (K:=K) (d:=.int 0) (RE.as (fI (KJ (aB (k:=1) (Dat.Xs 0)) aF (.inr ⟨⋯,⋯⟩)) (aB (k:=2) (Dat.Xs 0))) rfl) λv L s d=>⟨some (.int 0),by rw[d.Xp];rfl,b.trans s⟩)
 ·obtain⟨z,rfl,b⟩:=h;exact⟨_,rfl,post _ _ (l.trans b) (Dat.Xs _)⟩
theorem GI:∀p∈TTO,∃i,p.2=.flat (.int i):=by intro p a;simp only[TTO,TY,Ul,UX]at a;rcases a with rfl|rfl|rfl<;>exact⟨_,rfl⟩
def Gd(C:Addr):Sp:=λb H Q _=>∃A,b=[.ref A.m,.int 0]/\MZ C A 0 [1] H/\∀a,Xv A.lp H a->MZ C A 0 [1,0] a->Q .Xi a
def IZ(C:Addr):Sp:=λb H Q _=>∃A,b=[.ref A.m,.str "put",.int 0]/\MZ C A 0 [1] H/\∀a,Xv A.lp H a->MZ C A 0 [1,0] a->Q .Xi a
def Ge(C:Addr):Sp:=λb H Q _=>∃A,b=[.ref A.m]/\MZ C A 0 [1] H/\∀a,(∀x o,x≠A.m->x≠A.lp->H x=some o->a x=some o)->MZ C A 2 [1,0] a->Q .Xi a
theorem pR(T:Txt P w K mg)  : Xj P w K mg base X5 (k+1) T.ND T.NJ ["self","number"] (Gd T.Mt):=by
 refine XR T.Pg pX λe H Q E f h=>?_;obtain⟨A,rfl,M,post⟩:=h;refine⟨rfl,λ_ _ _ _ g=>⟨_,(aC (bJ (zt cM (aL aT rfl T.MC bY (z1 (dF (pv 0) rfl))) (aZ (v:=.int 64) rfl T.RO ⟨_,rfl⟩)) (aR dA) aO)
 (aR (bO (eB Ue Uu Uz b8 (dF (pv 0) rfl) (z1 (bS gK (pv 1) (dF (pv 0) rfl))))))),?_⟩⟩
 refine aS (K:=K) (b:=false) (RT.as (aM (iY (gP (xw (K:=K) (i:=0) M.ins T.Xk T.ZA (by kernel_rfl) (LD.of M.pile (gX [1])))) aF)) rfl) (λc=>nomatch c) (λ_ j d=>?_);have M:=M.same d;refine⟨_,rfl,A.m,T.Mt,A.dx,_,.ref A.lp,rfl,M.ins,T.Xk,T.ZA,by kernel_rfl,.inl ⟨rfl,_,Xm.of M.pile⟩,RE.use (xo (aB (K:=K) (k:=1) (Dat.Xs 0)) (ny (i:=0) M.ins T.Xk T.na_size (by kernel_rfl) (Dat.Xs 3)) ⋯) λv l a q=>⟨A.lp,_,v,rfl,rfl,a _ _ M.pile,bP ⋯,?_⟩⟩;have M:=M.same a;rw[q.Xp];exact post _ (Xv.upd (d.trans a).but) ⟨by rw[aI M.np.1];exact M.ins,by rw[aI M.c1];exact M.cells,aD,M.c1⟩
theorem mY(T:Txt P w K mg)(c:Xj P w K mg base X5 k T.ND T.NJ ["self","number"] (Gd T.Mt)):Xj P w K mg base X5 (k+1) T.Nf T.Nh ["self","name","number"] (IZ T.Mt):=by
 refine XR T.OU nJ λg H Q E i h=>?_;obtain⟨A,rfl,M,post⟩:=h;refine⟨rfl,λ_ _ _ _ d=>⟨_,(aC (bJ (zt lJ (pv 1) (aX (z2 aN aN))) (aC (bO (gL (pv 0) T.Xk T.Zu c d (qy T) .nil fE (z1 (pv 2))))
 (aR HL)) aO)
 lL),?_⟩⟩
 refine cQ (RT.use (b:=true) (RT.as (aM (A2 (K:=K) (ys:=["put","far"]) (aB (k:=1) (Dat.XN "put")) (a9 (aA aY (aA aY aJ))))) rfl) λj a=>mU ?_);have M:=M.same a;exact⟨_,rfl,A.m,A.dx,_,rfl,M.ins,by kernel_rfl,_,rfl,A,rfl,M,λe f M2=>post e (a.but.trans f) M2⟩
theorem pS(T:Txt P w K mg)(C:Ok P w base k T.MB (spA K Jo))(G:Ok P w base k T.N0 (XI K Jt))(I:Xj P w K mg base X5 k T.Nf T.Nh ["self","name","number"] (IZ T.Mt)):Xj P w K mg base X5 (k+1) T.NF T.NK ["self"] (Ge T.Mt):=by
 refine XR T.Ph pY λvs H Q E g h=>?_;obtain⟨A,rfl,M,post⟩:=h;refine⟨rfl,λ_ _ _ _ n=>⟨_,(aC (dQ (pc (D:=T.MB) C n (z2 (dF (pv 0) rfl) (dF (pv 0) rfl))) (dP rfl (aP (zg 1 g) (aP (zg 2 g) cD))))
 (aC (zs 3 g (pc (D:=T.N0) G n (z1 (pv 2))))
 (aC (bJ (zt rD (pv 3) (uV (aZ (v:=.ref T.Pe) rfl T.RP rfl) (pv 1) (pv 3) ⟨rfl,rfl,rfl,rfl⟩)) (aR dA) aO)
 (aC (zs 4 g (bS eQ (bS eQ (dF (pv 0) rfl) aE) (aL aT rfl T.MC bY (z1 (pv 2)))))
 (aC (bJ (zt lJ (pv 1) (aZ (v:=.ref T.R9) rfl T.Ta rfl)) (aR dA) (aR (bJ (zt cM (pv 1) aN) (aR dA) (aR (bO (gL (pv 0) T.Xk T.Za I n (nQ T) .nil fE (z2 (pv 1) (pv 3))))))))
 (aR (iD (pv 0) (pv 4) rfl))))))),?_⟩⟩
 show let r:=bA _ _;let s:=bA _ r;let t:=bA _ s;let u:=bA _ t;bA _ u _ _ _;intro r s t u;refine jl (K:=K) (d:=.str "put") (e:=.tup [.int 0]) (gO (R:=Jo) (fH (xw (i:=0) M.ins T.Xk T.na_cells (by kernel_rfl) (LD.of M.cells (gX [1,0]))) (gQ (ny (i:=0) M.ins T.Xk T.Ys (by kernel_rfl) (Dat.Xs 0)) dB)) ⟨rfl,rfl⟩) λv1 v2 H1 J L l=>?_;obtain rfl:=L.Xz;refine cY (K:=K) (d:=.int 0) (a8 (R:=Jt) (aA (aB (k:=2) l) aJ) ⟨rfl,rfl⟩) λv3 H2 y N=>?_;obtain rfl:=N.Xp;have l:=y.dat l;have q:=J.trans y;refine aS (K:=K) (b:=false) (RT.as (aM (eR (p:=λi j=>decide (j<i)) (aB (k:=3) (Dat.Xs 0)) (vi T.R3 (aB (k:=1) (Dat.XN "put")) (aB (k:=3) (Dat.Xs 0)) GI))) (by kernel_rfl)) (λc=>nomatch c) (λ_ H3 z=>?_);have B:=q.trans z;have M:=M.same B;refine cY (K:=K) (d:=.int 2) (RE.as (fI (fI (ny (i:=0) M.ins T.Xk T.Ys (by kernel_rfl) (Dat.Xs 0)) aF) (eT (aB (k:=2) (z.dat l)))) rfl) λv4 H4 O U=>?_;obtain rfl:=U.Xp;refine cQ (RT.use (b:=false) (RT.as (aM (A2 (K:=K) (ys:=["skip","jump","zero","none","call","back"]) (aB (k:=1) (Dat.XN "put")) (kX T.S7))) rfl) λH5 Y=>nZ ?_);refine RT.use (b:=false) (RT.as (aM (cC (aB (K:=K) (k:=1) (Dat.XN "put")) aY)) rfl) λH6 s6=>nZ ?_;have f:=O.trans (Y.trans s6);have M:=M.same f;refine⟨_,rfl,A.m,A.dx,_,rfl,M.ins,by kernel_rfl,_,rfl,_,rfl,A,rfl,M,λH7 b7 a=>?_⟩;refine⟨_,rfl,_,rfl,A.m,_,A.dx,_,rfl,a.ins,T.Xk,T.Ys,by show 7<1000;decide,?_⟩;refine post _ (λx o n1 n2 e=>?_) ⟨?_,by rw[aI (Tt a.np.2)];exact a.cells,by rw[aI (Tt a.np.1)];exact a.pile,a.c1⟩
 ·rw[aI n1];exact b7 _ _ n2 (f _ _ (B _ _ e))
 ·rw[aD];kernel_rfl
def LU(K:vc)(C:Addr):Sp:=λd H Q _=>∃(x e a c:Addr)(f:V),d=[.ref x,.ref a,f,.int 3,.ref c]/\H x=some (.ins C e [])/\H a=some (.lst [.int 1,.int 0])/\H c=some (.lst [.int 1]) /\
 ∀(A:MA)(b:Hp),A.m=x->A.lc=a->Xv x H b->H A.lp=none->MZ C A 0 [1] b->Q .Xi b
theorem lQ(T:Txt P w K mg)  : Xj P w K mg base X5 (k+1) T.M0 T.M3 ["self","cells","given","size","pile"] (LU K T.Mt):=by
 refine XR T.Oy lS λO H Q E U h=>?_;obtain⟨x,a,f,A,i,rfl,m,j,n,post⟩:=h;refine⟨rfl,λ_ _ _ _ Y=>⟨_,(aC (iD (pv 0) (pv 1) rfl)
 (aC (iD (pv 0) (pv 2) rfl)
 (aC (iD (pv 0) (pv 3) rfl)
 (aC (iD (pv 0) (bR eP rfl T.Oe fW (z1 (pv 4))) rfl)
 (aC (iD (pv 0) aE rfl)
 (aC (iD (pv 0) (bZ aQ) rfl)
 (aR (iD (pv 0) dN rfl)))))))),?_⟩⟩
 show let B:=bA _ _;let C:=bA _ B;bA _ C _ _ _;intro B C;have d:f≠x:=λz=>by rw[z,m]at j;cases j
 have p:A≠x:=λz=>by rw[z,m]at n;cases n
 refine⟨_,rfl,_,rfl,x,_,a,_,rfl,m,T.Xk,T.na_cells,by show 0<1000;decide,?_⟩;refine⟨_,rfl,_,rfl,x,_,a,_,rfl,aD,T.Xk,T.na_given,by show 1<1000;decide,?_⟩;refine⟨_,rfl,_,rfl,x,_,a,_,rfl,aD,T.Xk,T.na_size,by show 2<1000;decide,?_⟩;generalize e3:upd (upd (upd H x _) x _) x _=q;have l:Xv x H q:=by rw[<- e3];exact Xv.upd (Xv.upd (Xv.upd (Xe.refl _).but))
 have G:q x=some (.ins T.Mt a [("cells",.ref f),("given",i),("size",.int 3)]):=by rw[<- e3,aD];kernel_rfl
 refine⟨_,rfl,A,_,rfl,.inl (Xm.of (l _ _ p n)),λb np=>?_⟩;have c:b≠x:=λz=>by rw[z,G]at np;cases np
 refine⟨_,rfl,x,_,a,_,rfl,(aH np _) _ _ G,T.Xk,T.ZA,by show 3<1000;decide,?_⟩;refine⟨_,rfl,x,_,a,_,rfl,aD,T.Xk,T.Ys,by show 4<1000;decide,?_⟩;generalize r:upd (upd (upd q b _) x _) x _=g;have I:Xv x H g:=by rw[<- r];exact Xv.upd (Xv.upd (l.trans (aH np _).but))
 have M:g b=some (.lst [.int 1]):=by rw[<- r,aI c,aI c];exact aD
 have J:g x=some (.ins T.Mt a [("cells",.ref f),("given",i),("size",.int 3),("pile",.ref b),("place",.int 0)]):=by rw[<- r,aD];kernel_rfl
 refine⟨cA ⋯,λlk s=>?_⟩;have t:lk≠x:=λz=>by rw[z,J]at s;cases s
 refine⟨_,rfl,x,_,a,_,rfl,by rw[aI (Tt t)];exact J,T.Xk,T.na_kept,by show 5<1000;decide,?_⟩;refine⟨_,rfl,x,_,a,_,rfl,aD,T.Xk,T.na_ended,by show 6<1000;decide,?_⟩;generalize L:upd (upd (upd g lk _) x _) x _=u;have v:Xv x g u:=by rw[<- L];exact Xv.upd (Xv.upd (aH s _).but)
 have N:u x=some (.ins T.Mt a (mF ⟨x,a,b,lk,f,i⟩ 0)):=by rw[<- L,aD];kernel_rfl
 have c3:=l _ _ d j
 have y:H b=none:=by
  cases e:H b with
  |none=>rfl
  |some o=>rw[l _ _ c e]at np;cases np
 exact post ⟨x,a,b,lk,f,i⟩ u rfl rfl (I.trans v) y ⟨N,v _ _ d (I _ _ d j),v _ _ c M,λz=>by show False;rw[show b=f from z.symm,c3]at np;cases np⟩
end
section
variable{K:vc}{k:Nat}
theorem CU(a:eH):(a.map V.int).all lY=true:=by rw[U4];intro v b;obtain⟨y,_,rfl⟩:=UB.mp b;rfl
theorem GV(x y:Int):eqV (.int x) (.int y)=decide (x=y):=by unfold eqV;by_cases h:x=y<;>simp[h]
theorem BW(x:Int):∀a:List Int,inV (.int x) (a.map V.int)=decide (x∈a)
 |[]=>by simp[inV]
 |y::a=>by
  have b:=BW x a;unfold inV at b ⊢;rw[T7,Vm,b,GV];by_cases h:y=x
  ·subst h;simp
  ·have c:¬ x=y:=λz=>h z.symm;simp[h,c]
theorem KI{b:eH}(f:RE K g c H (.int x))(i:RE K j c H (.tup (b.map D.int))):RE K (Yn (rIn K false) g j) c H (.bl (decide (x∈b))):=λl s Q q =>
 f l s _ λv m d n=>i m (s.trans d) _ λw z p r=>by obtain⟨a,A,t,u,y⟩:=r.XC;have e:=yp y;subst e;rw[n.Xp];refine⟨a,_,t,.inr u,rfl,CU b,?_⟩;rw[BW];exact q _ _ (d.trans p) (Dat.YE _)
noncomputable abbrev tI(a:eH):D:=.tup (a.map D.int)
noncomputable def vI(a:List (List Int))(some:eH):List (List Int):=a.flatMap λr=>some.map λx=>r++[x]
noncomputable def me(a:List (List Int)):List (List Int):=a.foldl vI [[]]
theorem Dv(a:List (List Int))(c:eH):me (a++[c])=vI (me a) c:=by unfold me;rw[W8];rfl
theorem yJ:∀(a:List (List Int))(rs:List (List Int))(n:Nat),(∀r∈rs,r.length=n)->∀r∈a.foldl vI rs,r.length=n+a.length
 |[],rs,n,h,r,b=>h r b
 |c::a,rs,n,h,r,b=>by
  have:=yJ a (vI rs c) (n+1) (λr b=>by
   obtain⟨d,e,f⟩:=Wt.mp b;obtain⟨x,_,rfl⟩:=UB.mp f;rw[Tq,h d e];rfl) r b
  rw[this,TQ];lia
theorem E3(a:List (List Int)):∀r∈me a,r.length=a.length:=λr b=>by have:=yJ a [[]] 0 (λr h=>by rw[Uj.mp h];rfl) r b;lia
def rj(a:List (List Int)):Prop:=a.length<=20/\∀i,i<a.length->(me (a.take i)).length*(a.getD i []).length<=1000
noncomputable def Lc:D->D->D
 | .tup a,e=>.tup (a++[e])
 |d,_=>d
theorem Eb(a:List (List Int))(some:eH):((a.map tI).flatMap λc=>(some.map D.int).map (Lc c))=(vI a some).map tI:=by
 unfold vI;rw[List.flatMap_map,List.map_flatMap];congr 1
 funext r
 rw[Vj,Vj];apply WO;intro x _;show D.tup (r.map D.int++[D.int x])=D.tup ((r++[x]).map D.int);rw[Uh];rfl
def sS(K:vc):Sp:=λf H Q _=>∃(a:Addr)(d:List V)(b:List (List Int)),f=[.ref a]/\Xm K H a d/\YX K H (b.map (·.map D.int)) d/\rj b/\∀r e c,Xe H c->c r=some (.lst e)->H r=none->Xd K c ((me b).map tI) e->Q (.ref r) c
theorem AR(T:Txt P w K mg)  : Ok P w base (k+1) T.Nw (sS K):=by
 refine XR T.Nw.f Bh λvs H Q E u h=>?_;obtain⟨a,A,b,rfl,U,Y,⟨h20,B⟩,post⟩:=h;refine⟨rfl,λ_ _ _ _ hr=>⟨_,(aC (zs 1 u (bZ (z1 (aX aQ))))
 (aC (gZ Ux rfl (cI (pv 0)) (zg 2 u) (aR (zm (i:=1) (own:=["row","one"]) (fr:=[2]) (N':=["row","one","some"]) (cI (pv 1)) rfl (by show eV ["choices","rows","some"] (λx=>(aG oO).names.lookup x) _ _ _ _=true;decide +kernel) rfl (λ_ _ _ _ _=>(cF (i:=0) (by show List.Nodup [("row":Str),("one":Str),("some":Str)];decide +kernel) rfl (Or.inl rfl))) (λ_ _ _ _ _=>(FF (K:=K) rfl (pv 2))) (λ_ _ _ _ _=>(cF (i:=1) (by show List.Nodup [("row":Str),("one":Str),("some":Str)];decide +kernel) rfl (Or.inl rfl))) (λ_ _ _ _ _=>(bS (r:=Ce K) HA (pv 0) (aX (z1 (pv 1))))) u rfl rfl rfl)))
 (zr (pv 1)))),?_⟩⟩
 have ll:=Y.length;rw[To]at ll;refine jk (K:=K) (es:=[.tup []]) (iE (aA (a9 aJ) aJ)) λl g H1 q s1 p m=>?_;let C:Nat->L2.St->Hp->Prop:=λi t G=>∃(z:Option V)(l:Addr)(g:List V),t=[some (.ref a),some (.ref l),z]/\Xe H G/\H l=none/\G l=some (.lst g)/\Xd K G ((me (b.take i)).map tI) g;refine cQ ⟨_,rfl,a,rfl,⟨A,s1.seq U⟩,iP (K:=K) (a:=a) (xs:=A) C ?_ ?_ ?_ ?_⟩
 ·exact⟨none,l,g,rfl,s1,q,p,m⟩
 ·rintro i t G hi ⟨z,l,g,rfl,n,q,p,m⟩;exact n.seq U
 ·rintro i x t G hx ⟨z,l,g,rfl,n,q,p,m⟩;have hi:i<A.length:=(T9.mp hx).1;have d:i<b.length:=by lia
  obtain⟨v,hv,I⟩:=(n.lds Y).get (i:=i) (es:=b[i].map D.int) (by rw[Tv,M1 d];rfl);rw[hx]at hv;cases hv;refine iK ?_;dsimp only;have eg:b.getD i []=b[i]:=by rw[Uc,M1 d];rfl
  have hm:=B i d;rw[eg]at hm;refine RC.use (K:=K) (KD (K:=K) (i:=0) (j:=1) (kk:=2) (cs:=(me (b.take i)).map tI) (es:=b[i].map D.int) Lc (bI (k:=1) (LD.of p m)) I rfl ⋯ ⋯ ⋯ (by rw[To,To];exact hm) rfl rfl (λG c v e w sG' hc he J L=>?_)) λl2 M G2 N s2 O s=>?_
  ·obtain⟨r,hr,rfl⟩:=UB.mp hc;obtain⟨y,hy3,rfl⟩:=UB.mp he;have lr:=E3 _ r hr;rw[Uk]at lr;exact Ia (aB (k:=0) J) (a9 (aA (aB (k:=1) L) aJ)) (by rw[To,TQ,Ut];lia)
  ·refine⟨some x,l2,M,rfl,n.trans s2,n.free N,O,?_⟩;rw[Eb,<- Dv]at s;rw[Um,M1 d];exact s
 ·rintro t G ⟨z,l,g,rfl,n,q,p,m⟩;rw[<- ll,UE]at m;exact⟨_,rfl,post l g G n p q m⟩
noncomputable def CO(a:eH)(b:Nat):List (List Int):=(List.range 4).map λk:Nat=>if (k:Int)∈a then (List.range b).map λi:Nat=>(i:Int)else [0]
def Ac(c d:List D):Prop:=∃(a:eH)(b:Nat),c=[.tup (a.map D.int),.int b]/\b<=1000/\rj (CO a b)/\d=(me (CO a b)).map tI
theorem yU(T:Txt P w K mg)(q:Ok P w base k T.Nw (sS K)):Ok P w base (k+1) T.O4 (jL K Ac):=by
 refine XR T.O4.f zG λO H Q E U h=>?_;obtain⟨Y,s,t,⟨a,b,rfl,u,d,rfl⟩,post⟩:=h;obtain⟨v0,v1,rfl,x,y⟩:=gD t;refine⟨rfl,λ_ _ _ _ e=>⟨_,(zr (pc (D:=T.Nw) q e (z1 (zc [0,1] ["k","ks","size"] (uW rfl T.Pt (z1 (aZ (v:=.int 4) rfl T.Qp ⟨_,rfl⟩))) (λ_ _ _ _ _=>(ni (zt (show Ye _ _ (rIn K false) from lJ) (pv 0) (pv 1)) (bR (hE rfl) rfl T.Oe fW (z1 (bR mP rfl T.Pt mO (z1 (pv 2))))) (bZ (z1 aE)))))))),?_⟩⟩;refine gS (rL (jY (RCL.use (K:=K) (HX (n:=4) (aA aF aJ) ⋯ ((CO a b).map (·.map D.int)) (by unfold CO;rw[To,To,W7]) rfl (λG i s m g=>?_)) λl z H1 nl p A B=>?_)))
 ·unfold CO at g;rw[Tv,Tv]at g;obtain⟨c,C,rfl⟩:=UU.mp g;obtain⟨k',hk,rfl⟩:=UU.mp C;have j:i<4:=by have:=(T9.mp hk).1;rwa [W7]at this
  rw[List.getElem?_range j]at hk;cases hk;refine LK (b:=decide ((i:Int)∈a)) (aM (KI (aB (k:=0) (Dat.Xs (i:Int))) (aB (k:=1) (m.dat x)))) (λc=>?_) (λc=>?_)
  ·rw[TR (T4 c)];refine RC.as (nj (n:=b) (aB (k:=2) (m.dat y)) u) ?_;rw[Vj];rfl
  ·rw[TN (UP c)];exact iE (aA aF aJ)
 ·exact⟨l,z,CO a b,rfl,Xm.of A,B,d,λr I J L e M N=>post r I J (p.trans L) e (p.free M) N⟩
end
section
variable{K:vc}
theorem Lg(h:Xd K H [a,b,c,e] d):∃u v w x,d=[u,v,w,x]/\Dat K H a u/\Dat K H b v/\Dat K H c w/\Dat K H e x:=by obtain⟨u,r,e,f,h⟩:=h.Xx;obtain⟨v,w,x,q,g⟩:=kG h;subst q e;exact⟨u,v,w,x,rfl,f,g⟩
theorem Co(h:RE K n c H (.tup [d,e,f,g]))(q:∀v w x y b,Xe H b->Dat K b d v->Dat K b e w->Dat K b f x->Dat K b g y->p r ((((c.set i (some v)).set j (some w)).set l (some x)).set m (some y)) b) :
  bA (lV n (As K 4 (iQ (bT i) (iQ (bT j) (iQ (bT l) (iQ (bT m) CW)))))) p r c H :=
 h.use λx s t u=>by obtain⟨a,I,e1,z,A⟩:=u.XC;obtain⟨v,w,x,y,e2,B,C,E,G⟩:=Lg A;subst e1 e2;exact⟨a,_,rfl,z,rfl,v,_,rfl,w,_,rfl,x,_,rfl,y,_,rfl,rfl,q v w x y s t B C E G⟩
theorem GD(Pv:Nat->L2.St->Hp->Prop)(n:Nat)(i:Pv n d H)
  (j:∀n d H,Pv n d H->∃b,RT c d H b/\∀e,Xe H e->if b=true then l {g with nx:=λa f=>∃m,m<n/\Pv m a f,ct:=λa f=>∃m,m<n/\Pv m a f,bk:=g.nx} d e else g.nx d e):sX c l g d H:=by
 refine⟨Pv,⟨_,i⟩,?_⟩;intro m d H p;obtain⟨b,r,q⟩:=j m d H p;refine r H (Xe.refl _) _ λe s=>?_;have z:=q e s
 cases b with
 |true=>exact⟨_,λa f h=>h,z⟩
 |false=>exact z
section
theorem Ib{K:vc}(j:RL K l f H c)(m:RL K p f H e)(n:XA c=true)(n2:XA e=true)(d:Xn c<=20):RE K (Yn (HR K false) l p) f H (.bl (XO c e)):=λr s Q q =>
 j r s _ λv t g u=>m t (s.trans g) _ λw G i x=>by obtain⟨a,y,rfl,z,A⟩:=i.ld u;obtain⟨b,B,rfl,C,E⟩:=x;exact⟨a,b,y,B,c,e,rfl,rfl,z.YC,C.YC,A,E,n,n2,d,q _ _ (g.trans i) (Dat.YE _)⟩
end
def Jn(a:List D)(d:D):Prop:=a=[zP,zT]/\d=zP
def Jw(a:List D)(d:D):Prop:=a=[zP,z4,.int 3]/\d=.int 0
def Jp(a:List D)(d:D):Prop:=a=[zC,zT,.int 3]/\d=.bl true
def IF(a:List D)(d:D):Prop:=a=[zC,.int 3]/\d=.Xi
theorem m4(T:Txt P w K mg)  : Ok P w base (k+1) T.Nj (XI K Jn):=by
 refine XR T.Nj.f nL λu H Q E a h=>?_;obtain⟨v,d,j,⟨rfl,rfl⟩,post⟩:=h;obtain⟨x,y,rfl,g,l⟩:=gD j;refine⟨rfl,λ_ _ _ _ z=>⟨_,(aC (zs 2 a (a6 a7 (pv 0) aE))
 (aC (dQ (pv 1) (dP rfl (aP (zg 3 a) (aP (zg 4 a) (aP (zg 5 a) (aP (zg 6 a) cD))))))
 (aC (bJ (zt cM (pv 2) aN) (aR dA) aO)
 (aC (bJ (zt cM (pv 2) aN) (aR dA) aO)
 (aC (bJ (zt cM (pv 2) aN) (aR dA) aO)
 (aC (bJ (zt cM (pv 2) aN) (zr (pv 0)) aO)
 lL)))))),?_⟩⟩
 refine cY (K:=K) (d:=.str "num") (bK (k:=0) (aB (k:=0) g) aF rfl) λA B i m=>?_;obtain rfl:=m.Xz;refine Co (K:=K) (aB (k:=1) (i.dat l)) λC G I J L n _ _ _ _=>?_;refine aS (K:=K) (b:=false) (RT.as (aM (cC (aB (K:=K) (k:=2) (Dat.XN "num")) aY)) rfl) (λc=>nomatch c) (λ_ M p=>?_);refine aS (K:=K) (b:=false) (RT.as (aM (cC (aB (K:=K) (k:=2) (Dat.XN "num")) aY)) rfl) (λc=>nomatch c) (λ_ N q=>?_);refine aS (K:=K) (b:=false) (RT.as (aM (cC (aB (K:=K) (k:=2) (Dat.XN "num")) aY)) rfl) (λc=>nomatch c) (λ_ O r=>?_);refine cQ (RT.use (b:=true) (RT.as (aM (cC (aB (K:=K) (k:=2) (Dat.XN "num")) aY)) rfl) λs t=>mU ?_);have e:=i.trans (n.trans (p.trans (q.trans (r.trans t))));exact⟨_,rfl,post _ s e (e.dat g)⟩
theorem y8(T:Txt P w K mg)  : Ok P w base (k+1) T.O5 (XI K Jw):=by
 refine XR T.O5.f zM λp H Q E e h=>?_;obtain⟨r,d,g,⟨rfl,rfl⟩,post⟩:=h;obtain⟨t,u,x,rfl,c,y,i⟩:=kG g;refine⟨rfl,λ_ _ _ _ z=>⟨_,(aC (zs 3 e (a6 a7 (pv 0) aE))
 (aC (bJ (zt cM (pv 3) aN) (zr (bS gK (a6 a7 (pv 0) aE) (pv 2))) aO)
 lL)),?_⟩⟩
 refine cY (K:=K) (d:=.str "num") (bK (k:=0) (aB (k:=0) c) aF rfl) λA B j l=>?_;refine cQ (RT.use (b:=true) (RT.as (aM (cC (aB (K:=K) (k:=3) l) aY)) rfl) λC m=>mU ?_);have a:=j.trans m;exact bL (K:=K) (d:=.int 0) (RE.as (xo (bK (k:=1) (d:=.int 0) (aB (k:=0) (a.dat c)) aF rfl) (aB (k:=2) (a.dat i)) ⋯) rfl) λv n s q=>post v n (a.trans s) q
theorem Fl(T:Txt P w K mg)(ON:Ok P w base (k+1) T.Na (XI K qr))(PN:Xj P w K mg base X5 k T.M0 T.M3 ["self","cells","given","size","pile"] (LU K T.Mt))(QJ:Xj P w K mg base X5 (k+1) T.NF T.NK ["self"] (Ge T.Mt))(P9:Ok P w base (k+1) T.Nj (XI K Jn))(R8:Ok P w base (k+1) T.O5 (XI K Jw)):Ok P w base (k+1+1) T.QH (XI K Jp):=by
 refine XR T.QH.f F8 λvs H Q E a h=>?_;obtain⟨ds,d,l,⟨rfl,rfl⟩,post⟩:=h;obtain⟨v0,v1,v2,rfl,h0,h1,h2⟩:=kG l;obtain rfl:=h2.Xp;refine⟨rfl,λ_ _ _ _ t=>⟨_,(aC (dQ (pv 0) (dP rfl (aP (zg 3 a) (aP (zg 4 a) (aP (zg 5 a) cD)))))
 (aC (dQ (pv 1) (dP rfl (aP (zg 6 a) (aP (zg 7 a) (aP (zg 8 a) (aP (zg 9 a) cD))))))
 (aC (iW (i:=10) (own:=["cell"]) (fr:=[7,8]) (N':=["cell","nums","ks"]) (iV (pv 5)) rfl (by show eV ["piece","trial","size","name","pattern","cells","holes","nums","ks","args","laid_cells","machine"] (λx=>(aG xC).names.lookup x) _ _ _ _=true;decide +kernel) rfl (λ_ _ _ _ _=>(cF (i:=0) (by show List.Nodup [("cell":Str),("nums":Str),("ks":Str)];decide +kernel) rfl (Or.inl rfl))) (λ_ _ _ _ _=>fF) (λ_ _ _ _ _=>(pc (D:=T.Na) ON t (z3 (pv 0) (pv 1) (pv 2)))) a rfl rfl rfl)
 (aC (zs 11 a (xj T.mk_Machine PN t rfl T.Ss (mn T) .nil fE (aU (pv 10) (aU (pv 9) (aU (pv 2) (aU (bS jf (bZ (z1 (aZ (v:=.int 1) rfl T.O8 ⟨_,rfl⟩))) (bR eP rfl T.Oe fW (z1 (pv 6)))) aQ))))))
 (aC (Ca (aR (rH Ux (zt pj (dF (pv 11) rfl) (aL aT rfl T.MC bY (z1 (pv 10)))) (aR (bO (hZ (pv 11) T.Xk T.Zv QJ t (qz T) .nil fE))))))
 (zr (dM (xc t) (dF (pv 11) rfl) (bZ (z2 (aZ (v:=.int 1) rfl T.O8 ⟨_,rfl⟩) (pc (D:=T.O5) R8 t (z3 (pc (D:=T.Nj) P9 t (z2 (pv 4) (pv 1))) (pv 9) (pv 2))))) (fC _)))))))),?_⟩⟩
 refine qk (K:=K) (d:=.str "zero") (e:=zP) (f:=.tup [.int 1,.int 0]) (aB (k:=0) h0) λv3 v4 v5 H1 s1 q3 q4 q5=>?_;refine Co (K:=K) (aB (k:=1) (s1.dat h1)) λv6 v7 v8 v9 H2 s2 N q7 q8 O=>?_;refine jk (K:=K) (es:=ZJ) (rP (aB (k:=5) (s2.dat q5)) ⋯ _ rfl rfl (λG i c v d u b l hv=>?_)) λlc ys L nc U b dc=>?_
 ·obtain⟨n,rfl,rfl⟩:∃n:Int,c=.int n/\d=.int n:=by
   match i,b,l with
   |0,b,l=>cases b;cases l;exact⟨_,rfl,rfl⟩
   |1,b,l=>cases b;cases l;exact⟨_,rfl,rfl⟩
   |i+2,b,_=>simp at b
  exact a8 (R:=qr) (aA (aB (k:=0) hv) (aA (aB (k:=1) (u.dat q7)) (aA (aB (k:=2) (u.dat q8)) aJ))) ⟨.n n,[],[],rfl,rfl,rfl⟩
 obtain rfl:=yp (ns:=[1,0]) dc;have XF:=s2.trans U;have B:=s1.trans XF;have N:=U.dat N;have O:=U.dat O;refine dS ⟨_,rfl,_,rfl,_,rfl,RC.use (K:=K) (jh (iZ (iE (aA aF aJ))) (iZ (rO (aB (k:=6) N))) ⋯) λl0 y0 H4 nl0 s4 Yk d4 x Y nx ndx hne=>?_⟩;obtain rfl:=yp (ns:=[1]) d4;have s5:Xe H4 (upd (upd H4 Y (.own x)) x (.ins T.Mt Y [])):=(aH ndx _).trans (aH (by rw[aI (Tt hne)];exact nx) _);have r:=s4.trans s5;refine⟨x,Y,lc,l0,v9,rfl,aD,r _ _ b,s5 _ _ Yk,λA HM em elc bm nlp M=>⟨rfl,?_⟩⟩;subst em elc;have C:L A.m=none:=s4.free nx;have np3:L A.lp=none:=r.free nlp;have sM:Xe L HM:=λb' o e=>bm b' o (λz=>by rw[z,C]at e;cases e) (r _ _ e);have len:∀{G:Hp}{I:L2.St},MZ T.Mt A 0 [1] G\/MZ T.Mt A 2 [1,0] G->I[10]?=some (some (.ref A.lc))->RE K _ I G (.int (ZJ.length:Nat)):=λM e=>gP (bI (K:=K) (k:=10) (LD.of (M.elim MZ.cells MZ.cells) (gX [1,0])) e);refine cQ (GD (λn I G=>I=[some v0,some v1,some (.int 3),some v3,some v4,some v5,some v6,some v7,some v8,some v9,some (.ref A.lc),some (.ref A.m)]/\Xe L G/\((n=1/\MZ T.Mt A 0 [1] G)\/(n=0/\MZ T.Mt A 2 [1,0] G))) 1 ⟨rfl,sM,.inl ⟨rfl,M⟩⟩ ?_);rintro n I G ⟨rfl,u,⟨rfl,M⟩|⟨rfl,M⟩⟩
 ·refine⟨true,RT.as (aM (eR (p:=λi j=>decide (i<j)) (ny (i:=11) M.ins T.Xk T.Ys (by kernel_rfl) (Dat.Xs 0)) (len (.inl M) rfl))) rfl,λG1 J=>mU ?_⟩;have M:=M.same J;exact⟨_,rfl,A.m,A.dx,_,rfl,M.ins,by kernel_rfl,A,rfl,M,λG2 b2 M2=>⟨0,⋯,rfl,λy o e=>b2 y o (aK e C) (aK e np3) (J _ _ (u _ _ e)),.inr ⟨rfl,M2⟩⟩⟩
 ·refine⟨false,RT.as (aM (eR (p:=λi j=>decide (i<j)) (ny (i:=11) M.ins T.Xk T.Ys (by kernel_rfl) (Dat.Xs 2)) (len (.inr M) rfl))) rfl,λG1 J=>nZ ?_⟩;have M:=M.same J;have g:=u.trans J;exact bL (K:=K) (d:=.bl true) (RE.as (Ib (xw (i:=11) M.ins T.Xk T.ZA (by kernel_rfl) (LD.of M.pile (gX [1,0]))) (iZ (iE (aA aF (aA (a8 (R:=Jw) (aA (a8 (R:=Jn) (aA (aB (k:=4) ((XF.trans g).dat q4)) (aA (aB (k:=1) ((B.trans g).dat h1)) aJ)) ⟨rfl,rfl⟩) (aA (aB (k:=9) (g.dat O)) (aA (aB (k:=2) (Dat.Xs 3)) aJ))) ⟨rfl,rfl⟩) aJ)))) rfl rfl ⋯) rfl) λv H' s q=>post v H' (B.trans (g.trans s)) q
theorem xy{css:List (List Int)}(h:RCL K d b H (css.map (·.map D.int)))(ok:rj css)
  (q:∀r c a,Xe H a->a r=some (.lst c)->H r=none->Xd K a ((me css).map tI) c->e f (b.set i (some (.ref r))) a):bA (lV (f6 (sS K) [] E (bM d dC)) (bT i)) e f b H :=
 show d b H (λx g=>sS K ([x]++[]) g (λv m=>e f (b.set i (some v)) m) E) from
  RCL.use (K:=K) h λl n g z j p s=>⟨l,n,css,rfl,Xm.of p,s,ok,λr c a t u w y=>q r c a (j.trans t) u (j.free w) y⟩
theorem vU(T:Txt P w K mg):Binds K T.OJ ["size","most"] []:=by obtain⟨oc,od,kV,doc,i,j,a,ct,b,e,lk,c⟩:=T.OK.ex;obtain⟨o,n,l,h⟩:=T.OK.df;intro s d f g;obtain⟨m,p,rfl⟩:=ZG (show d.length=2 by simpa using g);rw[e];exact .of_defaults (T:=T.Qr) rfl (f _ _ l) h rfl rfl
theorem wZ{α:Type}{a x:α}{i:Nat}(h:[a][i]?=some x):x=a:=by
 cases i with
 |zero=>cases h;rfl
 |succ i=>simp at h
theorem AZ{E:XK}{b:L2.St}{a:Str}{mk:L2.St->L2.St}(d:Dat K H zP v)(hk:a="hole"\/a="gap"\/a="slot")(f:(mk b).set 0 none=mk b)(e:b[2]?=some (some v):=by rfl):RCL K (fO (kh K (f6 (jL K (iN 3)) [] E (bM (cV 2) (bM (tC (.str a)) dC)))) mk (bT 0) eO j) b H [] :=
 FT (cs:=[]) (iZ (jZ (R:=iN 3) (aA (aB (k:=2) d e) (aA aY aJ)) ⟨zP,a,rfl,by rcases hk with rfl|rfl|rfl<;>decide,⋯,by rcases hk with rfl|rfl|rfl<;>decide +kernel⟩)) ⋯ [] rfl f (λF i c v l sF g m d=>by simp at g)
theorem AJ(T:Txt P w K mg)(OX:Ok P w base k T.Nk (XI K mI))(RJ:Xj P w K mg base X5 k T.OF T.OJ ["size","most"] (XI K DW))(OO:Ok P w base k T.Nw (sS K))(MY:Ok P w base k T.MF (jL K (iN 3)))(R7:Ok P w base k T.O4 (jL K Ac))(SN:Ok P w base k T.QH (XI K Jp)):Xj P w K mg base X5 (k+1) T.Pq T.Pr ["piece","size"] (XI K IF):=by
 refine XR T.Qd Ba λvs H Q E l h=>?_;obtain⟨ds,d,hd,⟨rfl,rfl⟩,post⟩:=h;obtain⟨O,v1,rfl,A,h1⟩:=gD hd;obtain rfl:=h1.Xp;refine⟨rfl,λ_ _ _ _ j=>⟨_,(aC (bO (pc (D:=T.Nk) OX j (z1 (pv 0))))
 (aC (bO (lK RJ j rfl T.RQ T.OK.kp (vU T) .nil fE (z2 (pv 1) (aZ (v:=.int 5) rfl T.P4 ⟨_,rfl⟩))))
 (aC (zs 2 l (a6 a7 (pv 0) aE))
 (aC (zs 3 l (pc (D:=T.Nw) OO j (z1 (zc [1] ["mark","size"] (cI (pc (D:=T.MF) MY j (z2 (pv 2) aN))) (λ_ _ _ _ _=>(bR (hE rfl) rfl T.Oe fW (z1 (bR mP rfl T.Pt mO (z1 (pv 1))))))))))
 (aC (zs 4 l (pc (D:=T.Nw) OO j (z1 (Fy (x0:="mark") (own:=["mark"]) (fr:=[]) (N':=["mark"]) (cI (pc (D:=T.MF) MY j (z2 (pv 2) aN))) rfl (BF (by show qa "mark" ["piece","size","pattern","all_holes","all_nums","all_ks","holes","nums","ks","args","trial"] (λx=>(aG oN).names.lookup x) _ _ _ _=true;decide +kernel)) rfl (λ_ _=>rfl) (λ_=>rfl) rfl (λ_ _ _ _ _ _=>(cF (i:=0) (by show List.Nodup [("mark":Str)];decide +kernel) rfl (Or.inr rfl))) (λ_ _ _ _ _ _=>fF) (λ_ _ _ _ _ _=>(iJ (own:=["num"]) (fr:=[0]) (N':=["num","mark"]) (B8 (K:=K) rfl (aZ (v:=.ref T.O0) rfl T.Rt rfl)) rfl (by kernel_rfl) rfl (λ_ _ _ _ _=>(cF (i:=0) (by show List.Nodup [("num":Str),("mark":Str)];decide +kernel) rfl (Or.inl rfl))) (λ_ _ _ _ _=>(kW (zt kS (pv 0) (a6 (r:=rK K) a7 (pv 1) aE)))) (λ_ _ _ _ _=>(pv 0))))))))
 (aC (zs 5 l (pc (D:=T.Nw) OO j (z1 (zc [] ["mark"] (cI (pc (D:=T.MF) MY j (z2 (pv 2) aN))) (λ_ _ _ _ _=>(bR (hE rfl) rfl T.Oe fW (z1 (bR mP rfl T.Pt mO (z1 (aZ (v:=.int 4) rfl T.Qp ⟨_,rfl⟩))))))))))
 (aC (gZ Ux rfl (cI (pv 3)) (zg 6 l) (aR (gZ Ux rfl (cI (pv 4)) (zg 7 l) (aR (gZ Ux rfl (cI (pv 5)) (zg 8 l) (aR (gZ Ux rfl (cI (pc (D:=T.O4) R7 j (z2 (pv 8) (pv 1)))) (zg 9 l) (aC (zs 10 l (aX (aU (pv 6) (aU (pv 7) (aU (pv 8) (aU (pv 9) aQ))))))
 (aR (bJ (cJ (bN (pc (D:=T.QH) SN j (z3 (pv 0) (pv 10) (pv 1))) (λ_=>rfl))) (zr (pv 10)) aO))))))))))
 (zr gM)))))))),?_⟩⟩
 refine fJ (RE.use (a8 (R:=mI) (d:=.Xi) (aA (aB (K:=K) (k:=0) A) aJ) ⟨_,rfl,show(4:Nat)<=sizeLine by decide,⋯,rfl⟩) λv3 H1 s1 _=>?_);refine fJ (RE.use (a8 (R:=DW) (d:=.Xi) (aA (aB (K:=K) (k:=1) (Dat.Xs 3)) (aA aF aJ)) ⟨rfl,rfl⟩) λv4 H2 s2 _=>?_);have B:=s1.trans s2;refine cY (K:=K) (d:=zP) (bK (k:=1) (aB (k:=0) (B.dat A)) aF rfl) λU H3 s3 q2=>?_;have XF:=B.trans s3;have o0:rj []:=⟨⋯,λi h=>absurd h (Nat.not_lt_zero _)⟩
 refine xy (K:=K) (css:=[]) (AZ q2 (.inl rfl) rfl) o0 λu y3 H4 s4 m nr3 d3=>?_;refine xy (K:=K) (css:=[]) (AZ (s4.dat q2) (.inr (.inl rfl)) rfl) o0 λy y4 H5 s5 n nr4 d4=>?_;have C:=s4.trans s5;refine xy (K:=K) (css:=[]) (AZ (C.dat q2) (.inr (.inr rfl)) rfl) o0 λz y5 H6 Y G nr5 d5=>?_;have I:=s5.trans Y;have J:=XF.trans (C.trans Y);have A:=J.dat A;obtain⟨x6,rfl,q6⟩:=fB (I.Xo d3);obtain⟨x7,rfl,q7⟩:=fB (Y.Xo d4);obtain⟨x8,rfl,q8⟩:=fB d5;have m:=I _ _ m;have n:=Y _ _ n;let J_1:Nat->L2.St->Hp->Prop:=λ_ e F=>∃z6 p g f ZJ:Option V,e=[some O,some (.int 3),some U,some (.ref u),some (.ref y),some (.ref z),z6,p,g,f,ZJ]/\Xe H6 F;refine cQ ⟨_,rfl,u,rfl,⟨_,Xm.of m⟩,iP (K:=K) (a:=u) (xs:=[x6]) J_1 ⟨none,none,none,none,none,rfl,Xe.refl _⟩ (λ_ e F _ ⟨_,_,_,_,_,_,sF⟩=>Xm.of (sF _ _ m)) (λi x e F q h=>?_) (λe F h=>?_)⟩
 ·obtain⟨z6,p,g,f,ZJ,rfl,L⟩:=h;obtain rfl:=(wZ q).symm;refine iK ?_;dsimp only;let J_2:Nat->L2.St->Hp->Prop:=λ_ e F=>∃p g f ZJ:Option V,e=[some O,some (.int 3),some U,some (.ref u),some (.ref y),some (.ref z),some x6,p,g,f,ZJ]/\Xe H6 F;refine⟨_,rfl,y,rfl,⟨_,Xm.of (L _ _ n)⟩,iP (K:=K) (a:=y) (xs:=[x7]) J_2 ⟨p,g,f,ZJ,rfl,L⟩ (λ_ e F _ ⟨_,_,_,_,_,sF⟩=>Xm.of (sF _ _ n)) (λi x e F q h=>?_) (λe F h=>?_)⟩
  ·obtain⟨p,g,f,ZJ,rfl,M⟩:=h;obtain rfl:=(wZ q).symm;refine iK ?_;dsimp only;let J_3:Nat->L2.St->Hp->Prop:=λ_ e F=>∃g f ZJ:Option V,e=[some O,some (.int 3),some U,some (.ref u),some (.ref y),some (.ref z),some x6,some x7,g,f,ZJ]/\Xe H6 F;refine⟨_,rfl,z,rfl,⟨_,Xm.of (M _ _ G)⟩,iP (K:=K) (a:=z) (xs:=[x8]) J_3 ⟨g,f,ZJ,rfl,M⟩ (λ_ e F _ ⟨_,_,_,_,sF⟩=>Xm.of (sF _ _ G)) (λi x e F q h=>?_) (λe F h=>?_)⟩
   ·obtain⟨g,f,ZJ,rfl,s⟩:=h;obtain rfl:=(wZ q).symm;refine iK ?_;dsimp only;refine RC.use (K:=K) (jZ (R:=Ac) (aA (aB (k:=8) (s.dat q8)) (aA (aB (k:=1) (Dat.Xs 3)) aJ)) ⟨[],3,rfl,⋯,by unfold rj;decide +kernel,rfl⟩) λra ya Fa na sa N da=>?_;obtain⟨x9,rfl,q9⟩:=fB (a:=z4) da;let J_4:Nat->L2.St->Hp->Prop:=λ_ e F=>∃f ZJ:Option V,e=[some O,some (.int 3),some U,some (.ref u),some (.ref y),some (.ref z),some x6,some x7,some x8,f,ZJ]/\Xe Fa F;refine⟨ra,rfl,⟨_,Xm.of N⟩,iP (K:=K) (a:=ra) (xs:=[x9]) J_4 ⟨f,ZJ,rfl,Xe.refl _⟩ (λ_ e F _ ⟨_,_,_,sF⟩=>Xm.of (sF _ _ N)) (λi x e F q h=>?_) (λe F h=>?_)⟩
    ·obtain⟨f,ZJ,rfl,t⟩:=h;obtain rfl:=(wZ q).symm;refine iK ?_;dsimp only;have sA:=s.trans (sa.trans t);refine cY (K:=K) (d:=zT) (a9 (aA (aB (k:=6) (sA.dat q6)) (aA (aB (k:=7) (sA.dat q7)) (aA (aB (k:=8) (sA.dat q8)) (aA (aB (k:=9) (t.dat q9)) aJ))))) λv10 Ft st qt=>?_;refine i4 (b:=false) (RT.as (bV (bC (a8 (K:=K) (R:=Jp) (aA (aB (k:=0) ((sA.trans st).dat A)) (aA (aB (k:=10) qt) (aA (aB (k:=1) (Dat.Xs 3)) aJ))) ⟨rfl,rfl⟩))) rfl) (λc=>nomatch c) (λ_ Fk sk=>?_);exact(show zV _ _ _ from ⟨_,_,rfl,t.trans (st.trans sk)⟩)
    ·obtain⟨f,ZJ,rfl,sF⟩:=h;exact⟨_,_,_,rfl,s.trans (sa.trans sF)⟩
   ·obtain⟨g,f,ZJ,rfl,sF⟩:=h;exact⟨_,_,_,_,rfl,sF⟩
  ·obtain⟨p,g,f,ZJ,rfl,sF⟩:=h;exact⟨_,_,_,_,_,rfl,sF⟩
 ·obtain⟨z6,p,g,f,ZJ,rfl,sF⟩:=h;exact post _ _ (J.trans sF) Dat.Zt
end
section
variable{K:vc}
structure SA where
 s:Addr
 dx:Addr
 lr:Addr
 od:Addr
noncomputable def sF(S:SA):List (Str×V):=[("ready",.ref S.lr),("orders",.ref S.od)]
structure Od where
 nm:Str
 t:Tr
 cs:List Int
noncomputable def ZR(o:Od):D:=.tup [toD o.t,.tup (o.cs.map D.int)]
noncomputable def Yv(os:List Od)(a:List V):List (Key×V):=(os.map λo=>(Sum.inr o.nm:Key)).zip a
structure Xg(K:vc)(C:Addr)(S:SA)(ps:List Pc)(os:List Od)(H:Hp):Prop where
 ins:H S.s=some (.ins C S.dx (sF S))
 rd:∃xs,H S.lr=some (.lst xs)/\Xd K H (ps.map XW) xs
 ord:∃vs,Rd H S.od (.dK (Yv os vs))/\Xd K H (os.map ZR) vs
def YH(S:SA)(H:Hp):Prop:=∃a,H S.od=some (.dK a)
theorem Ci(s:Xe H b)(h:Rd H a u):Rd b a u:=by
 rcases h with h|⟨o,h⟩
 ·exact .inl (s _ _ h)
 ·exact .inr ⟨o,s _ _ h⟩
theorem A1(s:Xv b H c)(n:a≠b)(h:Rd H a u):Rd c a u:=by
 rcases h with h|⟨o,h⟩
 ·exact .inl (s _ _ n h)
 ·exact .inr ⟨o,s _ _ n h⟩
theorem IW(h:Rd H a u)(e:H b=some o)(n1:u≠o)(n2:∀x,o≠.Yx x u):b≠a:=λz=>by
 rcases h with h|⟨x,h⟩
 ·rw[<- z,e]at h;cases h;exact n1 rfl
 ·rw[<- z,e]at h;cases h;exact n2 _ rfl
section
variable{os:List Od}
theorem Xg.same(h:Xg K C S a os H)(s:Xe H b):Xg K C S a os b:=by obtain⟨c,⟨d,e,f⟩,g,i,h5⟩:=h;exact⟨s _ _ c,⟨d,s _ _ e,s.Xo f⟩,g,Ci s i,s.Xo h5⟩
theorem Xg.ne(h:Xg K C S d os H):S.s≠S.lr/\S.s≠S.od/\S.lr≠S.od:=by obtain⟨a,⟨e,b,_⟩,f,c,_⟩:=h;exact⟨λz=>(by rw[z,b]at a;cases a),IW c a (λz=>by cases z) (λ_ z=>by cases z),IW c b (λz=>by cases z) (λ_ z=>by cases z)⟩
theorem fV(h:Xg K C S a os H)(c:Z9 K C)(n:XE K C "ready")(e:b[i]?=some (some (.ref S.s)):=by rfl):RL K (zU K (cV i) "ready") b H (a.map XW):=λj s Q q=>by obtain⟨d,⟨l,f,g⟩,_⟩:=h.same s;exact⟨_,e,S.s,C,S.dx,_,_,rfl,d,c,n,rfl,q _ _ (Xe.refl _) (LD.of f g)⟩
noncomputable def eL(os:List Od)(n:Str):Option Od:=os.find? λo=>decide (o.nm=n)
theorem tD:∀{os:List Od}{b:List V},Xd K H (os.map ZR) b->eL os n=some o->∃v,jw (Yv os b) (.inr n)=some v/\Dat K H (ZR o) v
 |[],_,_,h=>nomatch h
 |a::os,b,d,h=>by
  obtain⟨v,r,rfl,c,f⟩:=d.Xx;unfold eL at h;rw[UN]at h;unfold jw Yv;rw[T7,List.zip_cons_cons,UN];by_cases e:a.nm=n
  ·rw[TZ e]at h;cases h;have e2:decide ((Sum.inr o.nm:Key)=.inr n)=true:=TZ (by rw[e]);dsimp only;rw[e2];exact⟨v,rfl,c⟩
  ·rw[TU e]at h;have e2:decide ((Sum.inr a.nm:Key)=.inr n)=false:=TU λz=>e (WS z);dsimp only;rw[e2];exact tD f h
theorem zY:∀{os:List Od}{b:List V},Xd K H (os.map ZR) b->eL os n=none->jw (Yv os b) (.inr n)=none
 |[],_,_,_=>rfl
 |a::os,b,d,h=>by
  obtain⟨v,r,rfl,f,c⟩:=d.Xx;unfold eL at h;rw[UN]at h;unfold jw Yv;rw[T7,List.zip_cons_cons,UN];by_cases e:a.nm=n
  ·rw[TZ e]at h;cases h
  ·rw[TU e]at h;have e2:decide ((Sum.inr a.nm:Key)=.inr n)=false:=TU λz=>e (WS z);dsimp only;rw[e2];exact zY c h
theorem vk(h:Xg K C S m os H)(c:Z9 K C)(b:XE K C "orders")(e1:a[j]?=some (some (.ref S.s)):=by rfl)(e2:a[i]?=some (some (.str n)):=by rfl):RT (tB (CB (cV i) (zU K (cV j) "orders"))) a H (!(eL os n).isSome):=λp s Q q=>by
 obtain⟨d,_,f,g,h5⟩:=h.same s;refine⟨_,e2,_,e1,S.s,C,S.dx,_,_,rfl,d,c,b,rfl,S.od,jw (Yv os f) (.inr n),rfl,.inl ⟨_,.inr n,g,rfl,rfl⟩,_,rfl,?_⟩
 cases e:eL os n with
 |none=>rw[zY h5 e];rw[e]at q;exact q _ (Xe.refl _)
 |some o =>obtain⟨v,l,_⟩:=tD h5 e;rw[l];rw[e]at q;exact q _ (Xe.refl _)
theorem FY(h:Xg K C S m os H)(c:Z9 K C)(b:XE K C "orders")(d:eL os n=some o)(e1:a[j]?=some (some (.ref S.s)):=by rfl)(e2:a[i]?=some (some (.str n)):=by rfl):RE K (Gk (zU K (cV j) "orders") (cV i)) a H (ZR o):=λp s Q q=>by obtain⟨e,_,r,f,h5⟩:=h.same s;obtain⟨v,g,l⟩:=tD h5 d;exact⟨_,e1,S.s,C,S.dx,_,_,rfl,e,c,b,rfl,_,e2,S.od,v,rfl,by rw[<- g];exact .inl ⟨_,.inr n,f,rfl,rfl⟩,q _ _ (Xe.refl _) l⟩
end
def Ga(K:vc)(C:Addr):Sp:=λc H Q _=>∃(S:SA)(v:V)(a:List Pc)(os:List Od)(n:Str),c=[.ref S.s,v]/\Xg K C S a os H/\Dat K H (.str n) v/\dW (.str n)=true/\n.length<=sizeLine/\a.length<=16 /\
 ∀b,Xe H b->Q (.bl ((a.map (·.nm)).any λm=>decide (m=n))) b
theorem JF(a:List Pc)(n:Str):((a.map λp=>D.str p.nm).any λe=>XM e (.str n))=(a.map (·.nm)).any λm=>decide (m=n):=by rw[Xb,Xb];rfl
theorem qc:∀a:List Pc,XA (a.map λp=>D.str p.nm)=true/\Xn (a.map λp=>D.str p.nm)<=20
 |[]=>⟨rfl,⋯⟩
 |p::a=>⟨(qc a).1,Nat.max_le.mpr ⟨by show 0<=20;decide,(qc a).2⟩⟩
theorem mZ(T:Txt P w K mg)(u:Ok P w base k T.Nb (XI K lW)):Xj P w K mg base X5 (k+1) T.MQ T.MR ["self","name"] (Ga K T.Mq):=by
 refine XR T.OV nK λC H Q E G h=>?_;obtain⟨S,v,a,os,n,rfl,x,g,y,z,I,post⟩:=h;refine⟨rfl,λ_ _ _ _ l=>⟨_,(zr (jt (pc (D:=T.Nb) u l (z1 (pv 1))) (iU (dM (show Ye _ _ (Kw K false) from Kh l) (pv 1) (zc [] ["piece"] (cI (dF (pv 0) rfl)) (λ_ _ _ _ _=>(a6 (r:=rK K) a7 (pv 0) aE))) (by with_unfolding_all rfl))))),?_⟩⟩;refine bL (K:=K) (d:=.bl ((a.map (·.nm)).any λm=>decide (m=n))) (RE.as (dR (b:=true) (a8 (R:=lW) (aA (aB (k:=1) g) aJ) ⟨_,rfl,z,Up D.bl y.symm⟩) λ_=>KH (neg:=false) (ds:=a.map λp:Pc=>D.str p.nm) (d:=.str n) (aB (k:=1) g) (iZ (jF (K:=K) (fV (i:=0) x T.Xh T.XD) (by rw[To];lia) _ (by simp) rfl (λJ j c v d L e f A=>?_))) (qc a).1 rfl (qc a).2) ?_) λv B s q=>by rw[q.Zf];exact post B s
 ·simp only[Tv]at e f
  cases t:a[j]? with
  |none=>rw[t]at e;cases e
  |some p =>rw[t]at e f;cases e;cases f;exact bK (k:=0) (aB (k:=0) A) aF rfl
 ·rw[Va,TN ⋯,JF]
def vH(K:vc)(N C:Addr):Sp:=λb H Q E=>∃(S:SA)(v:V)(c:List Pc)(os:List Od)(n:Str),b=[.ref S.s,v]/\Xg K C S c os H/\Dat K H (.str n) v/\dW (.str n)=true/\n.length<=sizeLine /\
 (∀o,eL os n=some o->∀u a,Xe H a->Dat K a (ZR o) u->Q u a)/\(eL os n=none->∀a,Xe H a->E (.ref N) none a)
theorem tR(T:Txt P w K mg)(t:Ok P w base k T.Nb (XI K lW)):Xj P w K mg base (Yw P w) (k+1) T.Ng T.Ni ["self","name"] (vH K T.Mr T.Mq):=by
 refine T.P1.ok2 YM (λx H Q E h=>?_) (λy A outer s H x Q E f h=>?_)
 ·obtain⟨S,v,z,os,n,rfl,_⟩:=h;rfl
 have I:=YM.nd;obtain⟨S,v,z,os,n,rfl,g,l,p,r,m,B⟩:=h;refine⟨_,(aC (bJ (PW.pt (fU (cJ (bN (pc (D:=T.Nb) t f (z1 (pv 1))) (λ_=>rfl))) (fG (Ks (Dn (qR f) (pv 1) (dF (pv 0) rfl)) (by with_unfolding_all rfl))))) (aR (iM UR rfl UR T.Q5 oV rfl T.P5 (z1 aN))) aO)
 (zr (ng (qR f) (dF (pv 0) rfl) (pv 1) (λ_ _=>rfl)))),?_⟩
 obtain rfl:=l.Xz
 cases e:eL os n with
 |none =>refine aS (K:=K) (b:=true) (RT.as (dO (b:=false) (RT.as (bV (bC (a8 (R:=lW) (aA (aB (k:=1) l) aJ) ⟨_,rfl,r,Up D.bl p.symm⟩))) rfl) λ_=>vk (i:=1) (j:=0) (n:=n) g T.Xh T.XJ) (by rw[e];rfl)) (λ_ C a=>?_) (λc=>nomatch c);exact⟨cA ⋯,B e _ a⟩
 |some o =>refine aS (K:=K) (b:=false) (RT.as (dO (b:=false) (RT.as (bV (bC (a8 (R:=lW) (aA (aB (k:=1) l) aJ) ⟨_,rfl,r,Up D.bl p.symm⟩))) rfl) λ_=>vk (i:=1) (j:=0) (n:=n) g T.Xh T.XJ) (by rw[e];rfl)) (λc=>nomatch c) (λ_ C a=>?_);exact bL (K:=K) (d:=ZR o) (FY (i:=1) (j:=0) (g.same a) T.Xh T.XJ e) λu G s q=>m o e u G (a.trans s) q
section
variable{os:List Od}
theorem xp{S:SA}(f:Xg K C S g os H)(l:dW (.str n)=true)(m:n.length<=sizeLine)(e:eL os n=some o)(e1:b[j]?=some (some (.ref S.s)):=by rfl)(e2:b[i]?=some (some (.str n)):=by rfl):RE K (sW C "order" (vH K N C) [] E (cV j) (bM (cV i) dC)) b H (ZR o):=λt s Q q=>by have c:=f.same s;exact⟨_,e1,S.s,S.dx,_,rfl,c.ins,rfl,_,e2,S,_,g,os,n,rfl,c,Dat.XN n,l,m,λv a u p r d=>by rw[e]at a;cases a;exact q u p r d,λa=>by rw[e]at a;cases a⟩
theorem Cr{S:SA}(a:Xg K C S f os H)(g:dW (.str n)=true)(l:n.length<=sizeLine)(e:eL os n=none)(q:∀b,Xe H b->E (.ref N) none b)(e1:c[j]?=some (some (.ref S.s)):=by rfl)(e2:c[i]?=some (some (.str n)):=by rfl):sW C "order" (vH K N C) [] E (cV j) (bM (cV i) dC) c H Q :=
 ⟨_,e1,S.s,S.dx,_,rfl,a.ins,rfl,_,e2,S,_,f,os,n,rfl,a,Dat.XN n,g,l,λm d=>by rw[e]at d;(cases d),λ_=>q⟩
end
def Cv(K:vc)(C:Addr):Sp:=λd H Q _=>∃(S:SA)(b:List Pc)(os:List Od),d=[.ref S.s]/\Xg K C S b os H/\∀r c a,Xe H a->a r=some (.lst c)->H r=none->Xd K a (b.map XW) c->Q (.ref r) a
def Bl(K:vc)(N C:Addr):Sp:=λc H Q E=>∃(S:SA)(v:V)(d:List Pc)(os:List Od)(n:Str),c=[.ref S.s,v]/\Xg K C S d os H/\Dat K H (.str n) v/\dW (.str n)=true/\n.length<=sizeLine /\
 (∀o,eL os n=some o->∀r b a,Xe H a->a r=some (.lst b)->H r=none->Xd K a (o.cs.map D.int) b->Q (.ref r) a)/\(eL os n=none->∀a,Xe H a->E (.ref N) none a)
def Jd(K:vc)(N C:Addr):Sp:=λb H Q E=>∃(S:SA)(v:V)(c:List Pc)(os:List Od)(n:Str),b=[.ref S.s,v]/\Xg K C S c os H/\Dat K H (.str n) v/\dW (.str n)=true/\n.length<=sizeLine /\
 (∀o,eL os n=some o->∀u a,Xe H a->Dat K a (toD o.t) u->Q u a)/\(eL os n=none->∀a,Xe H a->E (.ref N) none a)
theorem rl(T:Txt P w K mg)  : Xj P w K mg base X5 (k+1) T.Nl T.Nm ["self"] (Cv K T.Mq):=by refine XR T.PH sC λf H Q E g h=>?_;obtain⟨S,j,os,rfl,a,post⟩:=h;refine⟨rfl,λ_ _ _ _ l=>⟨_,(zr (bR eP rfl T.Oe fW (z1 (dF (pv 0) rfl)))),?_⟩⟩;exact RC.use (K:=K) (rN (fV (i:=0) a T.Xh T.XD)) λr b c n s d e=>post r b c s d n e
theorem wH(T:Txt P w K mg)(g:Xj P w K mg base (Yw P w) k T.Ng T.Ni ["self","name"] (vH K T.Mr T.Mq)):Xj P w K mg base (Yw P w) (k+1) T.N6 T.N7 ["self","name"] (Bl K T.Mr T.Mq):=by
 refine T.Ql.ok2 Y8 (λl H Q E h=>?_) (λm A outer s H l Q E p h=>?_)
 ·obtain⟨S,v,q,os,n,rfl,_⟩:=h;rfl
 have B:=Y8.nd;obtain⟨S,v,q,os,n,rfl,c,t,d,f,a,u⟩:=h;refine⟨_,(zr (bR eP rfl T.Oe fW (z1 (a6 a7 (gL (pv 0) T.Xh T.Ym g p (jO T) .nil rE (z1 (pv 1))) aE)))),?_⟩;obtain rfl:=t.Xz
 cases e:eL os n with
 |none=>exact Cr (i:=1) (j:=0) c d f e λb s=>u e b s
 |some o=>exact gS (RC.use (K:=K) (rO (bK (k:=1) (xp (i:=1) (j:=0) c d f e) aF rfl)) λr x b n s y z=>a o e r x b s y n z)
theorem wJ(T:Txt P w K mg)(l:Xj P w K mg base (Yw P w) k T.Ng T.Ni ["self","name"] (vH K T.Mr T.Mq)):Xj P w K mg base (Yw P w) (k+1) T.OD T.OH ["self","name"] (Jd K T.Mr T.Mq):=by
 refine T.Qn.ok2 Y9 (λm H Q E h=>?_) (λp A outer s H m Q E r h=>?_)
 ·obtain⟨S,v,x,os,n,rfl,_⟩:=h;rfl
 have B:=Y9.nd;obtain⟨S,v,x,os,n,rfl,c,y,f,g,a,z⟩:=h;refine⟨_,(zr (a6 a7 (gL (pv 0) T.Xh T.Ym l r (jO T) .nil rE (z1 (pv 1))) aE)),?_⟩;obtain rfl:=y.Xz
 cases e:eL os n with
 |none=>exact Cr (i:=1) (j:=0) c f g e λb s=>z e b s
 |some o=>exact bL (K:=K) (d:=toD o.t) (bK (k:=0) (xp (i:=1) (j:=0) c f g e) aF rfl) λu b s q=>a o e u b s q
section
theorem eJ(a:bW K H d)(b:bW K d f):bW K H f:=⟨λx c h=>b.1 x c (a.1 x c h),λx g h=>by obtain⟨i,e⟩:=a.2 x g h;exact b.2 x i e⟩
variable{os:List Od}
theorem Xg.frame{S:SA}(h:Xg K C S d os H)(b:Xv a H c)(g:bW K H c)(n1:S.s≠a)(n2:S.lr≠a)(n3:S.od≠a):Xg K C S d os c:=by obtain⟨e,⟨f,i,j⟩,l,m,h5⟩:=h;exact⟨b _ _ n1 e,⟨f,b _ _ n2 i,Xd.mono g _ j⟩,l,A1 b n3 m,Xd.mono g _ h5⟩
theorem Xg.setR{S:SA}{b:List Pc}(h:Xg K C S m os H)(a:H l=some (.lst c))(e:Xd K H (b.map XW) c):Xg K C {S with lr:=l} b os (upd H S.s (.ins C S.dx (f9 "ready" (.ref l) (sF S))))/\bW K H (upd H S.s (.ins C S.dx (f9 "ready" (.ref l) (sF S)))):=by
 have ne:=h.ne;obtain⟨d,_,f,i,h5⟩:=h;have g:bW K H (upd H S.s (.ins C S.dx (f9 "ready" (.ref l) (sF S)))):=mT d (.inr ⟨_,_,_,rfl⟩) λ_ z=>by cases z
 have j:l≠S.s:=λz=>by rw[z,d]at a;cases a
 exact⟨⟨by rw[aD];kernel_rfl,⟨c,by rw[aI j];exact a,Xd.mono g _ e⟩,f,A1 (Xv.upd (Xe.refl H).but) (Tt ne.2.1) i,Xd.mono g _ h5⟩,g⟩
end
noncomputable abbrev qO(a:List Pc)(n:Str):Bool:=(a.map (·.nm)).any λm=>decide (m=n)
def F9(K:vc)(N c C:Addr):Sp:=λd H Q E=>∃(S:SA)(v:V)(b:List Pc)(os:List Od)(n:Str),d=[.ref S.s,v]/\Xg K C S b os H/\Dat K H (.str n) v/\dW (.str n)=true/\n.length<=sizeLine/\b.length<=16 /\
 (qO b n=false->∀a,Xe H a->E (.ref N) none a)/\(qO b n=true->b.length=1->∀a,Xe H a->E (.ref c) none a) /\
 (qO b n=true->b.length≠1->∀l a,Xv S.s H a->bW K H a->H l=none->Xg K C {S with lr:=l} (b.filter λp=>!decide (p.nm=n)) os a->Q .Xi a)
noncomputable def Lx(n:Str):D->Bool
 | .tup (.str m::_)=>!decide (m=n)
 |_=>false
theorem G9(n:Str):∀a:List Pc,(a.map XW).filter (Lx n)=(a.filter λp=>!decide (p.nm=n)).map XW:=λa=>by rw[List.filter_map];rfl
theorem wI(T:Txt P w K mg)(M:Xj P w K mg base X5 k T.MQ T.MR ["self","name"] (Ga K T.Mq)):Xj P w K mg base (Yw P w) (k+1) T.OC T.OG ["self","name"] (F9 K T.Mr T.Mw T.Mq):=by
 refine T.Qm.ok2 Y7 (λN H Q E h=>?_) (λO A outer s H N Q E U h=>?_)
 ·obtain⟨S,v,d,os,n,rfl,_⟩:=h;rfl
 have nd:=Y7.nd;obtain⟨S,v,d,os,n,rfl,f,z,Y,nl,lp,no,one,q⟩:=h;refine⟨_,(aC (bJ (cJ (bN (gL (pv 0) T.Xh T.Yi M U (jz T) .nil fE (z1 (pv 1))) (λ_=>rfl))) (aR (iM VA rfl VA T.Q5 oV rfl T.P5 (z1 aN))) aO)
 (aC (bJ (zt cM (aL aT rfl T.MC bY (z1 (dF (pv 0) rfl))) aE) (aR (iM VA rfl VA T.Si oV rfl T.Rq (z1 aN))) aO)
 (aR (iD (pv 0) (iJ (own:=["piece"]) (fr:=[1]) (N':=["piece","name"]) (cI (dF (pv 0) rfl)) rfl (by show eV ["self","name"] (λx=>(aG k9).names.lookup x) _ _ _ _=true;decide +kernel) rfl (λ_ _ _ _ _=>(cF (i:=0) (by show List.Nodup [("piece":Str),("name":Str)];decide +kernel) rfl (Or.inl rfl))) (λ_ _ _ _ _=>(kW (zt pq (a6 (r:=rK K) a7 (pv 0) aE) (pv 1)))) (λ_ _ _ _ _=>(pv 0))) rfl)))),?_⟩
 obtain rfl:=z.Xz;refine cQ ⟨_,rfl,S.s,S.dx,_,rfl,f.ins,rfl,_,rfl,S,.str n,d,os,n,rfl,f,z,Y,nl,lp,λH1 j=>?_⟩
 cases e:qO d n with
 |false =>rw[show((d.map (·.nm)).any λm=>decide (m=n))=false from e];exact⟨false,rfl,mU ⟨cA ⋯,no e _ j⟩⟩
 |true =>
 rw[show((d.map (·.nm)).any λm=>decide (m=n))=true from e];refine⟨true,rfl,nZ (j5 ?_)⟩;dsimp only;have B:=f.same j;by_cases C:d.length=1
 ·refine aS (K:=K) (b:=true) (RT.as (aM (iY (gP (fV (i:=0) B T.Xh T.XD)) aF)) (by rw[To];exact TZ ⋯)) (λ_ H2 t=>?_) (λc=>nomatch c);exact⟨cA ⋯,one e C _ (j.trans t)⟩
 refine aS (K:=K) (b:=false) (RT.as (aM (iY (gP (fV (i:=0) B T.Xh T.XD)) aF)) (by rw[To];exact TU ⋯)) (λc=>nomatch c) (λ_ H2 t=>?_);have a:=j.trans t;have g:=f.same a;refine RC.use (K:=K) (Cg (fV (i:=0) g T.Xh T.XD) (by rw[To];lia) (Lx n) rfl (λF i c v sF G I=>?_)) λl ys H3 u J hy L=>?_
 ·rw[Tv]at G;obtain⟨p,_,rfl⟩:=UU.mp G;exact⟨RT.as (aM (xq (bK (k:=0) (aB (k:=0) I) aF rfl) (aB (k:=1) (Dat.XN n)))) rfl,aB (k:=0) I⟩
 rw[G9]at L;obtain⟨Z7,g4⟩:=(g.same J).setR hy L;have y:=a.trans J;exact⟨_,rfl,S.s,T.Mq,S.dx,_,rfl,y _ _ f.ins,T.Xh,T.XD,by show 2<1000;decide,q e C l _ (Xv.upd y.but) (eJ y.grow g4) (a.free u) Z7⟩
theorem FU{K:vc}(h:RA K tA b H ds)(hk:RA K g b H es)(i:∀H a zs,Xd K H ds a->Xd K H es zs->Xd K H fs (j a zs))(e:R fs d) :
  RE K (Gi (XI K R) j E tA g) b H d:=λl s Q q =>
 h l s _ λa m c n=>hk m (s.trans c) _ λzs u f p=>⟨fs,d,i _ _ _ (f.Xo n) p,e,λv w r t=>q _ _ (c.trans (f.trans r)) t⟩
noncomputable abbrev iG:Pc:=⟨"zero",.num 0,[.int 1,.int 0]⟩
def Ja(K:vc)(N C:Addr):Sp:=λc H Q E=>∃(S:SA)(v:V)(b:List Pc)(os:List Od),c=[.ref S.s,v]/\Xg K C S b os H/\Dat K H (XW iG) v/\b.length<=16/\qO b "zero"=false /\
 (b.length=16->∀a,Xe H a->E (.ref N) none a)/\(b.length≠16->∀a,Xv S.lr H a->bW K H a->Xg K C S (b++[iG]) os a->Q .Xi a)
theorem yR(T:Txt P w K mg)(OX:Ok P w base k T.Nk (XI K mI))(NS:Xj P w K mg base X5 k T.MQ T.MR ["self","name"] (Ga K T.Mq))(Sk:Xj P w K mg base X5 k T.Pq T.Pr ["piece","size"] (XI K IF)):Xj P w K mg base (Yw P w) (k+1) T.OZ T.O1 ["self","piece"] (Ja K T.Mw T.Mq):=by
 refine T.QR.ok2 Zn (λM H Q E h=>?_) (λcdv A outer s H M Q E t h=>?_)
 ·obtain⟨S,v,l,os,rfl,_⟩:=h;rfl
 have nd:=Zn.nd;obtain⟨S,v,l,os,rfl,n,e,lp,hh,f,u⟩:=h;refine⟨_,(aC (bO (pc (D:=T.Nk) OX t (z1 (pv 1))))
 (aC (bJ (bN (gL (pv 0) T.Xh T.Yi NS t (jz T) .nil fE (z1 (a6 a7 (pv 1) aE))) (λ_=>rfl)) (aR dA) aO)
 (aC (bJ (zt cM (aL aT rfl T.MC bY (z1 (dF (pv 0) rfl))) (aZ (v:=.int 16) rfl T.PL ⟨_,rfl⟩)) (aR (iM UR rfl UR T.Si oV rfl T.Rq (z1 aN))) aO)
 (aC (zs 2 nd (Fw Sk t rfl T.Sx T.Qd.kp (CG T) fE (z1 (pv 1)) (HI (aZ (v:=.int 3) rfl T.Ru ⟨_,rfl⟩) Kr)))
 (aC (bJ (zt B7 (pv 2) gM) (aR dA) aO)
 (aR (bO (eB Ue Uu Uz b8 (dF (pv 0) rfl) (z1 (pv 1)))))))))),?_⟩
 refine fJ (RE.use (a8 (R:=mI) (d:=.Xi) (aA (aB (K:=K) (k:=1) e) aJ) ⟨_,rfl,show(4:Nat)<=sizeLine by decide,⋯,rfl⟩) λv3 H1 x _=>?_);have N:=n.same x;have y:=x.dat e;refine cQ ⟨_,rfl,S.s,S.dx,_,rfl,N.ins,rfl,RE.use (bK (k:=0) (aB (K:=K) (k:=1) y) aF rfl) λvn H2 O qn=>⟨S,vn,l,os,"zero",rfl,N.same O,qn,⋯,⋯,lp,λH3 s3=>?_⟩⟩;rw[show((l.map (·.nm)).any λm=>decide (m=("zero":Str)))=false from hh];refine⟨false,rfl,nZ (j5 ?_)⟩;dsimp only;have B:=(x.trans O).trans s3;have g:=n.same B;by_cases U:l.length=16
 ·refine aS (K:=K) (b:=true) (RT.as (aM (iY (gP (fV (i:=0) g T.Xh T.XD)) aF)) (by rw[To];exact TZ ⋯)) (λ_ H4 C=>?_) (λc=>nomatch c);exact⟨cA ⋯,f U _ (B.trans C)⟩
 refine aS (K:=K) (b:=false) (RT.as (aM (iY (gP (fV (i:=0) g T.Xh T.XD)) aF)) (by rw[To];exact TU ⋯)) (λc=>nomatch c) (λ_ H4 C=>?_);have Y:=B.trans C;have G:=Y.dat e
 refine cY (K:=K) (d:=.Xi) (FU (ds:=[zC]) (es:=[.int (3:Nat)]) (fs:=[zC,.int (3:Nat)]) (aA (aB (k:=1) G) aJ) (aA aF aJ) (λH M zs p j=>by
  obtain⟨v,rfl,e⟩:=fB p;obtain⟨z,rfl,hz⟩:=fB j;exact Xd.cons e (Xd.cons hz Xd.nil)) ⟨rfl,rfl⟩) λvt H5 s5 qt=>?_
 refine aS (K:=K) (b:=false) (aM (xr (K:=K) (aB (k:=2) qt))) (λc=>nomatch c) (λ_ q s6=>?_);have a:=(Y.trans s5).trans s6;have I:=n.same a;have ne:=n.ne;obtain⟨p,⟨xs,j,h3⟩,J,h4,h5⟩:=I;have L:=a.dat e;have lx:=h3.length;rw[To]at lx;refine⟨_,rfl,S.s,T.Mq,S.dx,_,_,rfl,p,T.Xh,T.XD,rfl,.inl ⟨rfl,_,Xm.of j⟩,_,rfl,S.lr,xs,v,rfl,rfl,j,bP ⋯,?_⟩;have r:bW K q (upd q S.lr (.lst (xs++[v]))):=(Xv.upd (Xe.refl q).but).grow j aD;refine u U _ (Xv.upd a.but) (eJ a.grow r) ⟨by rw[aI ne.1];exact p,⟨_,aD,?_⟩,J,A1 (Xv.upd (Xe.refl q).but) (Tt ne.2.2) h4,Xd.mono r _ h5⟩;rw[Uh];refine Xd.append (Xd.mono r _ h3) (Xd.cons (Dat.mono r _ L) Xd.nil)
def Gc(K:vc)(C:Addr):Sp:=λd H Q _=>∃(x c:Addr)(v:V)(b:List Pc),d=[.ref x,v]/\H x=some (.ins C c [])/\LD K H (b.map XW) v/\jT b /\
 ∀(S:SA)(a:Hp),S.s=x->S.dx=c->Xv x H a->bW K H a->H S.lr=none->H S.od=none->Xg K C S b [] a->YH S a->Q .Xi a
theorem KO(e:b[i]?=some (some (.ref a)):=by rfl):RT (nO (Yn (λx y H Q=>y=V.Xi/\Q (.bl (decide (x=V.Xi))) H) (cV i) (tC V.Xi))) b H false:=λc s Q q=>⟨_,e,rfl,_,rfl,q _ (Xe.refl _)⟩
theorem ow(T:Txt P w K mg)(O:Ok P w base k T.Nd (spA K jM)):Xj P w K mg base X5 (k+1) T.M6 T.M8 ["self","some"] (Gc K T.Mq):=by
 refine T.Oc.ok Yq (λU H Q E h=>?_) (λY A outer s H U Q E hr h=>?_)
 ·obtain⟨x,g,v,ps,rfl,_⟩:=h;rfl
 have nd:=Yq.nd;obtain⟨x,g,v,ps,rfl,B,J,gs,post⟩:=h;refine⟨_,(aC (bJ (zt xf (pv 1) gM) (aR (zs 1 nd (bR eP rfl T.Oe fW (z1 (aZ (v:=.ref T.QG) rfl T.Sh rfl))))) aO)
 (aC (bO (pc (D:=T.Nd) O hr (z1 (pv 1))))
 (aC (iD (pv 0) (bR eP rfl T.Oe fW (z1 (pv 1))) rfl)
 (aR (iD (pv 0) Fz rfl))))),?_⟩
 obtain⟨a,us,rfl,hu,du⟩:=id J;refine aS (K:=K) (b:=false) (KO (i:=1)) (λc=>nomatch c) (λ_ H1 L=>?_);have n:=L.ld J;refine fJ (RE.use (gO (R:=jM) (d:=.Xi) (fH (bI (K:=K) (k:=1) n) dB) ⟨_,rfl,gs,rfl⟩) λv3 H3 M _=>?_);have C:=L.trans M;refine Il (K:=K) (x:=x) (rN (bI (k:=1) (M.ld n))) λlr N l np s4 hy dy=>?_;have t:=C.trans s4;refine⟨_,g,_,t _ _ B,T.Xh,T.XD,by show 0<1000;decide,?_⟩;have G:Xv x H (upd l x (.ins T.Mq g (f9 "ready" (.ref lr) []))):=Xv.upd t.but;have p:lr≠x:=λz=>by rw[z,C _ _ B]at np;cases np
 have j:upd l x (.ins T.Mq g (f9 "ready" (.ref lr) [])) lr=some (.lst N):=by rw[aI p];exact hy
 have u:upd l x (.ins T.Mq g (f9 "ready" (.ref lr) [])) x=some (.ins T.Mq g (f9 "ready" (.ref lr) [])):=aD;have g5:bW K l (upd l x (.ins T.Mq g (f9 "ready" (.ref lr) []))):=mT (t _ _ B) (.inr ⟨_,_,_,rfl⟩) λ_ z=>by cases z
 have q:=Xd.mono g5 _ dy;have r:=eJ t.grow g5;generalize upd l x (.ins T.Mq g (f9 "ready" (.ref lr) []))=y at G j u q r;intro od f;have nox:od≠x:=λz=>by rw[z,u]at f;cases f
 have nol:od≠lr:=λz=>by rw[z,j]at f;cases f
 have m:Xe y (upd y od (.dK [])):=aH f _;refine⟨_,rfl,x,_,g,_,rfl,m _ _ u,T.Xh,T.XJ,by show 1<1000;decide,?_⟩;have x6:=m _ _ u;have g6:bW K (upd y od (.dK [])) (upd (upd y od (.dK [])) x (.ins T.Mq g (f9 "orders" (.ref od) (f9 "ready" (.ref lr) [])))):=mT x6 (.inr ⟨_,_,_,rfl⟩) λ_ z=>by cases z
 have I:H od=none:=by
  cases e:H od with
  |none=>rfl
  |some o=>rw[G _ _ nox e]at f;cases f
 refine post ⟨x,g,lr,od⟩ _ rfl rfl (Xv.upd (G.trans m.but)) (eJ r (eJ m.grow g6)) (C.free np) I ⟨by rw[aD];kernel_rfl,⟨N,by rw[aI p];exact m _ _ j,Xd.mono g6 _ (m.Xo q)⟩,[],.inl (by rw[aI nox,aD];rfl),Xd.nil⟩ ⟨[],by show upd _ x _ od=_;rw[aI nox,aD]⟩
theorem uT(g:∀t c i,f t c=some i->∃e:List Int,i=e.map D.int):∀{b:List Tr}{d:List D}{a:List (List D)},gR f b d=a.map some->∃e:List Int,a.flatten=e.map D.int
 |[],d,a,h=>by
  have:a=[]:=by cases a with|nil=>rfl|cons _ _=>cases h
  subst this;exact⟨[],rfl⟩
 |t::b,[],a,h=>by
  have:a=[]:=by cases a with|nil=>rfl|cons _ _=>cases h
  subst this;exact⟨[],rfl⟩
 |t::b,c::d,a,h=>by
  cases a with
  |nil=>cases h
  |cons x a =>have j:f t c::gR f b d=some x::a.map some:=h;injection j with l m;obtain⟨n1,e1⟩:=g t c x l;obtain⟨n2,e2⟩:=uT g m;exact⟨n1++n2,by rw[VW,e1,e2,Uh]⟩
theorem jD:∀(n:Nat)(t:Tr)(c:D)(f:List D),dY i n t c=some f->∃j:List Int,f=j.map D.int
 |0,_,_,_,h=>by cases h
 |n+1,t,c,f,h=>by
  have h:(match qF c with|none=>none|some x=>if x.1="pick" then mW (dY i n) t x.2 else kL (dY i n) i t x.1 x.2)=some f:=h
  cases l:qF c with
  |none=>rw[l]at h;cases h
  |some x =>
   rw[l]at h;dsimp only at h;by_cases m:x.1="pick"
   ·rw[TR m]at h;obtain⟨a,b,d,ca,q,cd,r,s,u,rfl,_,v,w,ld,rfl⟩:=jU h;obtain⟨n1,e1⟩:=jD n a ca r v;obtain⟨n2,e2⟩:=jD n b q s w;obtain⟨n3,e3⟩:=jD n d cd u ld;rw[pd,e1,e2,e3];refine⟨n1++js 10 11 (((n2.map D.int).length:Int)+hX ((n3.map D.int).length:Int))++n2++js 8 9 ((n3.map D.int).length:Int)++n3,?_⟩;simp only[Uh]
   ·rw[TN m]at h;obtain⟨p,g,y,e1,e2,z,e,rfl⟩:=iS h;obtain⟨j,en⟩:=uT (jD n) e;unfold eU;rw[en];exact⟨j++(cR p).map (BQ g.2.1 g.2.2),by rw[Uh,Vj];rfl⟩
noncomputable def jE(os:List Od)(o:Od):List Od:=if (os.any λp=>decide (p.nm=o.nm))=true then os.map (λp=>if p.nm=o.nm then o else p)else os++[o]
section
theorem ET:∀{os:List Od}{vs:List V},vs.length=os.length->((Yv os vs).any λb=>decide (b.1=.inr n))=os.any λp=>decide (p.nm=n)
 |[],_,_=>rfl
 |a::os,[],h=>nomatch h
 |a::os,v::vs,h=>by
  have e:decide ((Sum.inr a.nm:Key)=.inr n)=decide (a.nm=n):=by
   by_cases z:a.nm=n
   ·rw[TZ z,TZ (by rw[z])]
   ·rw[TU z,TU λq=>z (WS q)]
  show(decide ((Sum.inr a.nm:Key)=.inr n)||_)=(decide (a.nm=n)||_)
  rw[e];exact Up (decide (a.nm=n)||·) (ET (os:=os) (vs:=vs) (Nat.succ.inj h))
theorem EV{o:Od}(n:Str)(f:o.nm=n):∀{os:List Od}{c:List V},Xd K H (os.map ZR) c->Dat K H (ZR o) v->∃b,(Yv os c).map (λe=>if e.1=.inr n then (e.1,v)else e)=Yv (os.map λp=>if p.nm=n then o else p) b/\Xd K H ((os.map λp=>if p.nm=n then o else p).map ZR) b
 |[],c,d,_=>⟨[],rfl,Xd.nil⟩
 |a::os,c,d,g=>by
  obtain⟨u,r,rfl,i,j⟩:=d.Xx;obtain⟨b,e1,e2⟩:=EV n f j g;by_cases z:a.nm=n
  ·refine⟨v::b,?_,?_⟩
   ·show(if (Sum.inr a.nm:Key)=.inr n then ((Sum.inr a.nm:Key),v)else _)::(Yv os r).map _=((Sum.inr (if a.nm=n then o else a).nm:Key),v)::Yv _ b;rw[TR (by rw[z]),TR z,e1,f,z]
   ·show Xd K H (ZR (if a.nm=n then o else a)::_) _;rw[TR z];exact Xd.cons g e2
  ·refine⟨u::b,?_,?_⟩
   ·show(if (Sum.inr a.nm:Key)=.inr n then _ else ((Sum.inr a.nm:Key),u))::(Yv os r).map _=((Sum.inr (if a.nm=n then o else a).nm:Key),u)::Yv _ b;rw[TN (λq=>z (WS q)),TN z,e1]
   ·show Xd K H (ZR (if a.nm=n then o else a)::_) _;rw[TN z];exact Xd.cons i e2
variable{os:List Od}
theorem J8{o:Od}{a:List V}(h:a.length=os.length):Yv os a++[(.inr o.nm,v)]=Yv (os++[o]) (a++[v]):=by unfold Yv;rw[Uh,List.zip_append (by rw[To,h])];rfl
theorem J9(d:Xd K H (os.map ZR) b)(c:Dat K H (ZR o) v):∃e,kq (Yv os b) (.inr o.nm) v=Yv (jE os o) e/\Xd K H ((jE os o).map ZR) e:=by
 have a:=d.length;rw[To]at a;unfold kq jE;rw[ET a.symm]
 cases (os.any λp=>decide (p.nm=o.nm))with
 |true=>exact EV o.nm rfl d c
 |false =>refine⟨b++[v],J8 a.symm,?_⟩;show Xd K H ((os++[o]).map ZR) _;rw[Uh];exact Xd.append d (Xd.cons c Xd.nil)
theorem AB{a:List V}(h:a.length=os.length):(Yv os a).length=os.length:=by unfold Yv;rw[List.length_zip,To,h,Nat.min_self]
theorem EA(h:H b=some (.dK e)):bW K H (upd H b (.dK c)):=by
 refine⟨λa d q=>?_,λa d q=>⟨d,?_⟩⟩
 ·rcases q with(q|⟨u,q⟩)|q
  ·exact .inl (.inl (by rw[aI (λz=>by rw[z,h]at q;cases q)];exact q))
  ·exact .inl (.inr ⟨u,by rw[aI (λz=>by rw[z,h]at q;cases q)];exact q⟩)
  ·exact .inr q
 ·rcases q with(q|⟨u,q⟩)|q
  ·exact .inl (.inl (by rw[aI (λz=>by rw[z,h]at q;cases q)];exact q))
  ·exact .inl (.inr ⟨u,by rw[aI (λz=>by rw[z,h]at q;cases q)];exact q⟩)
  ·exact .inr q
end
def Bm(K:vc)(N C:Addr):Sp:=λg H Q E=>∃(S:SA)(v e:V)(c:List Pc)(os:List Od)(n:Str)(t:Tr),g=[.ref S.s,v,e]/\Xg K C S c os H/\Dat K H (.str n) v/\dW (.str n)=true/\n.length<=sizeLine/\Dat K H (toD t) e/\gT c t/\oo c/\os.length<=100/\YH S H /\
 (∀(b:Int×D)(d:eH),cH c t=some b->dY c 8 t b.2=some (d.map D.int)->∀r f a,Xv S.od H a->bW K H a->H r=none->a r=some (.lst f)->Xd K a ((d++[0]).map D.int) f->Xg K C S c (jE os ⟨n,t,d++[0]⟩) a->YH S a->Q (.ref r) a) /\
 (cH c t=none->∀a,Xe H a->E (.ref N) none a)
theorem yQ(T:Txt P w K mg)(NU:Ok P w base k T.Nb (XI K lW))(Tf:Xj P w K mg base (Yw P w) k T.Qs.a T.Qs.d ["tree","some"] (vG K kr (tH T.Mu))):Xj P w K mg base (Yw P w) (k+1) T.Ow T.Ox ["self","name","tree"] (Bm K T.Mu T.Mq):=by
 refine T.QQ.ok2 Zo (λvs H Q E h=>?_) (λcdv A outer s H vs Q E J h=>?_)
 ·obtain⟨S,v,vt,r,os,n,t,rfl,_⟩:=h;rfl
 have nd:=Zo.nd;obtain⟨S,v,vt,r,os,n,t,rfl,x,hn,nk,nl,L,y,la,lo,C,M,no⟩:=h;refine⟨_,(aC (bJ (cJ (bN (pc (D:=T.Nb) NU J (z1 (pv 1))) (λ_=>rfl))) (aR (iM UR rfl UR T.Q5 oV rfl T.P5 (z1 aN))) aO)
 (aC (zs 3 nd (lK Tf J rfl T.Z3 T.Qs.f.kp T.Qs.b .nil rE (z2 (pv 2) (dF (pv 0) rfl))))
 (aC (HK (qR J) (dF (pv 0) rfl) (pv 1) (aX (z2 (pv 2) (bR dJ rfl T.NP fA (z1 (pv 3))))) rfl)
 (zr (pv 3))))),?_⟩
 obtain rfl:=hn.Xz;refine aS (K:=K) (b:=false) (RT.as (bV (bC (a8 (R:=lW) (aA (aB (k:=1) hn) aJ) ⟨_,rfl,nl,Up D.bl nk.symm⟩))) rfl) (λc=>nomatch c) (λ_ H1 j=>?_);have Z6:=x.same j
 cases m:cH r t with
 |none=>exact j4 (rT (R:=kr) (B:=tH T.Mu) (gQ (aB (k:=2) (j.dat L)) (fH (fV (i:=0) Z6 T.Xh T.XD) dB)) ⟨r,t,rfl,y,m,rfl⟩ λH' s=>no m _ (j.trans s))
 |some b =>
 obtain⟨es,N,_⟩:=Ah y.os la y.dp m;obtain⟨O,rfl⟩:=jD 8 t b.2 es N;refine j4 (RC.use (K:=K) (rM (R:=kr) (gQ (aB (k:=2) (j.dat L)) (fH (fV (i:=0) Z6 T.Xh T.XD) dB)) ⟨r,t,b,_,rfl,y,la,m,N,rfl⟩) λl ys H2 U s2 G dy=>?_);have e:=j.trans s2;have sh2:=x.same e;have p:Xd K H2 ((O++[0]).map D.int) ys:=by rw[Uh];exact dy
 refine cQ (RE.use (K:=K) (d:=ZR ⟨n,t,O++[0]⟩) (a9 (aA (aB (k:=2) (e.dat L)) (aA (Du (k:=3) G p) aJ))) λu Y s3 du=>?_);have I:=e.trans s3;obtain⟨h1,⟨xs,h2,h3⟩,ws,g,h5⟩:=x.same I;have ne:=x.ne;obtain⟨kv0,C⟩:=C
 have g:Y S.od=some (.dK (Yv os ws)):=by
  have z:=I _ _ C;rcases g with g|⟨_,g⟩
  ·exact g
  ·rw[z]at g;cases g
 have lw:=h5.length;rw[To]at lw;obtain⟨zs,ek,dz⟩:=J9 h5 du;have g4:bW K Y (upd Y S.od (.dK (kq (Yv os ws) (.inr n) u))):=EA g;have nlo:l≠S.od:=λz=>by rw[z,e _ _ C]at G;cases G
 refine⟨_,rfl,S.s,T.Mq,S.dx,_,_,rfl,h1,T.Xh,T.XJ,rfl,_,rfl,S.od,_,rfl,DPut.k (k:=.inr n) g (by rw[AB lw.symm];exact VN lo ⋯),?_⟩;have q:=M b O m N l ys _ (Xv.upd I.but) (eJ I.grow g4) (j.free U) (by rw[aI nlo];exact s3 _ _ G) (Xd.mono g4 _ (s3.Xo p)) ⟨by rw[aI ne.2.1];exact h1,⟨xs,by rw[aI ne.2.2];exact h2,Xd.mono g4 _ h3⟩,zs,.inl (by rw[aD,ek]),Xd.mono g4 _ dz⟩ ⟨_,aD⟩;exact⟨_,rfl,q⟩
noncomputable def lA(a:List Pc)(o:Od):Bool:=match cH a o.t with
 |none=>true
 |some b=>!decide (b.1+1=(o.cs.length:Int))
def Gf(K:vc)(C:Addr):Sp:=λc H Q _=>∃(S:SA)(v:V)(a:List Pc)(os:List Od)(n:Str)(o:Od),c=[.ref S.s,v]/\Xg K C S a os H/\Dat K H (.str n) v/\dW (.str n)=true/\n.length<=sizeLine/\eL os n=some o/\gT a o.t/\∀b,Xe H b->Q (.bl (lA a o)) b
theorem ox(T:Txt P w K mg)(I:Xj P w K mg base (Yw P w) k T.Ng T.Ni ["self","name"] (vH K T.Mr T.Mq))(J:Xj P w K mg base (Yw P w) k T.MX.a T.MX.d ["tree","some"] (zN K xX (tH T.Mu))):Xj P w K mg base (Yw P w) (k+1) T.Nn T.Np ["self","name"] (Gf K T.Mq):=by
 refine T.O7.ok2 Yr (λL H Q E h=>?_) (λM A outer s H L Q E x h=>?_)
 ·obtain⟨S,v,c,os,n,o,rfl,_⟩:=h;rfl
 have y:=Yr.nd;obtain⟨S,v,c,os,n,o,rfl,z,N,O,U,Y,C,post⟩:=h;refine⟨_,(aC (dQ (gL (pv 0) T.Xh T.Ym I x (jO T) .nil rE (z1 (pv 1))) (dP rfl (aP (zg 2 y) (aP (zg 3 y) cD))))
 (aR (HN (t:=λE=>Gp (Yn rNe (Yn (rI0 λi j=>V.int (i+j)) (λG=>f6 (zN K xX (tH T.Mu)) [] (E G) (bM (cV 2) (bM (zU K (cV 0) "ready") dC)) G) (tC (.int 1))) (Zm (λxs H Q=>∃p r,xs=[V.ref p]/\(Xm K H p r\/XG K H p r)/\Q (V.int (r.length:Nat)) H) (bM (cV 3) dC)))) (λpn xe E hx=>(zr (dM pq (bS eQ (Fx J x rfl T.MX.m T.MX.f.kp T.MX.b .nil hx (z2 (pv 2) (dF (pv 0) rfl))) aE) (aL aT rfl T.MC bY (z1 (pv 3))) (fC _)))) rfl T.Qe (λe=>(zr dN))))),?_⟩
 obtain rfl:=N.Xz;refine jl (K:=K) (d:=toD o.t) (e:=.tup (o.cs.map D.int)) (xp (i:=1) (j:=0) z O U Y) λv2 v3 H1 u q2 q3=>?_;have Z6:=z.same u;have rA:RB K (bM (cV 2) (bM (zU K (cV 0) "ready") dC)) [some (.ref S.s),some (.str n),some v2,some v3] H1 [.d (toD o.t),.l (c.map XW)]:=gQ (aB (k:=2) q2) (fH (fV (i:=0) Z6 T.Xh T.XD) dB)
 cases g:cH c o.t with
 |none =>
  have e:lA c o=true:=by unfold lA;rw[g]
  rw[e]at post;refine oK (R:=xX) (B:=tH T.Mu) rA ⟨c,o.t,rfl,C,g,rfl⟩ λH2 s2=>?_;exact⟨T.P0,post _ (u.trans s2)⟩
 |some b =>
  have e:lA c o=!decide (b.1+1=(o.cs.length:Int)):=by unfold lA;rw[g]
  rw[e]at post;refine bL (K:=K) (d:=.bl (!decide (b.1+1=(o.cs.length:Int)))) (RE.as (mD (fI (oC (R:=xX) rA ⟨c,o.t,b,rfl,C,g,rfl⟩) aF) (eT (aB (k:=3) q3))) (by rw[To])) λv' H' s q=>by rw[q.Zf];exact post _ (u.trans s)
def Gb(K:vc)(C:Addr):Sp:=λa H Q _=>∃(S:SA)(b:List Pc)(os:List Od),a=[.ref S.s]/\Xg K C S b os H/\YH S H/\Q (.int os.length) H
theorem pT(T:Txt P w K mg)  : Xj P w K mg base X5 (k+1) T.NG T.NL ["self"] (Gb K T.Mq):=by
 refine XR T.Pi pZ λb H Q E i h=>?_;obtain⟨S,j,os,rfl,d,⟨e,f⟩,post⟩:=h;refine⟨rfl,λ_ _ _ _ l=>⟨_,(zr (aL CI rfl T.MC bY (z1 (dF (pv 0) rfl)))),?_⟩⟩;obtain⟨g,_,b,a,h5⟩:=id d
 have a:H S.od=some (.dK (Yv os b)):=by
  rcases a with a|⟨_,a⟩
  ·exact a
  ·rw[f]at a;cases a
 have c:=h5.length;rw[To]at c;refine⟨_,rfl,S.s,T.Mq,S.dx,_,_,rfl,g,T.Xh,T.XJ,rfl,S.od,_,rfl,a,?_⟩;rw[AB c.symm];exact post
theorem jy(T:Txt P w K mg):Binds K T.M8 ["self","some"] []:=by
 obtain⟨oc,od,kV,doc,j,m,b,ct,c,e,lk,d⟩:=T.Oc.ex;obtain⟨o,n,l,h⟩:=T.Oc.df;intro s f g i;have a:f.length=2:=by simpa using i
 obtain⟨p,q,rfl⟩:=ZG a;rw[e];exact .of_defaults (T:=T.O9) rfl (g _ _ l) h rfl rfl
def Gg(K:vc)(C:Addr):Sp:=λd H Q _=>∃(S:SA)(c:List Pc)(os:List Od),d=[.ref S.s]/\Xg K C S c os H/\jT c /\
 ∀(a:SA)(b:Hp),Xe H b->H a.s=none->H a.lr=none->H a.od=none->Xg K C a c os b->YH a b->Q (.ref a.s) b
theorem wK(T:Txt P w K mg)(J:Xj P w K mg base X5 k T.M6 T.M8 ["self","some"] (Gc K T.Mq)):Xj P w K mg base X5 (k+1+1) T.OE T.OI ["self"] (Gg K T.Mq):=by
 refine XR T.Qo xD λvs H Q E L h=>?_;obtain⟨S,M,os,rfl,N,O,post⟩:=h;refine⟨rfl,λ_ _ _ _ U=>⟨_,(aC (zs 1 L (xj T.mk_Shop J U rfl T.SJ (jy T) .nil fE (z1 (dF (pv 0) rfl))))
 (aC (iD (pv 1) (bR Am rfl T.Tc GQ (z1 (dF (pv 0) rfl))) rfl)
 (zr (pv 1)))),?_⟩⟩
 obtain⟨I,⟨xs,Y,h3⟩,j,h4,h5⟩:=id N;refine dS ⟨_,rfl,S.s,T.Mq,S.dx,_,_,rfl,I,T.Xh,T.XD,rfl,λx r nx t u=>?_⟩;have v:Xe H (upd (upd H r (.own x)) x (.ins T.Mq r [])):=(aH t _).trans (aH (by rw[aI (Tt u)];exact nx) _);refine⟨x,r,.ref S.lr,M,rfl,aD,v.ld (LD.of Y h3),O,λc f e1 e2 b g nl no m _=>⟨rfl,?_⟩⟩;subst e1;have n:Xe H f:=λa o e=>b a o (λz=>by rw[z,nx]at e;cases e) (v _ _ e);obtain⟨y,⟨ys,k2,k3⟩,us,k4,k5⟩:=id m;have A:=m.ne;refine cQ ⟨_,rfl,S.s,T.Mq,S.dx,_,_,rfl,n _ _ I,T.Xh,T.XJ,rfl,S.od,_,rfl,Ci n h4,λl d=>?_⟩;have i:Xe f (upd f l (.dK (Yv os j))):=aH d _;have p:c.s≠l:=λz=>by rw[<- z,y]at d;cases d
 have B:c.lr≠c.s:=Tt A.1;have g7:bW K (upd f l (.dK (Yv os j))) (upd (upd f l (.dK (Yv os j))) c.s (.ins T.Mq c.dx (f9 "orders" (.ref l) (sF c)))):=mT (i _ _ y) (.inr ⟨_,_,_,rfl⟩) λ_ z=>by cases z
 refine⟨_,rfl,c.s,T.Mq,c.dx,_,rfl,i _ _ y,T.Xh,T.XJ,by show 2<1000;decide,?_⟩
 have C:Xe H (upd (upd f l (.dK (Yv os j))) c.s (.ins T.Mq c.dx (f9 "orders" (.ref l) (sF c)))):=λa o e=>by rw[aI (λz=>by rw[z,nx]at e;cases e)];exact i _ _ (n _ _ e)
 have q:H c.lr=none:=v.free nl;have G:H l=none:=n.free d;exact⟨_,rfl,post {c with od:=l} _ C nx q G ⟨by rw[aD];kernel_rfl,⟨ys,by rw[aI B];exact i _ _ k2,Xd.mono g7 _ (i.Xo k3)⟩,j,.inl (by rw[aI (Tt p),aD]),Xd.mono g7 _ (i.Xo (n.Xo h5))⟩ ⟨_,by show upd _ c.s _ l=_;rw[aI (Tt p),aD]⟩⟩
end
section
section
variable{K:vc}
theorem CY(h:G a=some (.Yx o (.dK e))):bW K G (upd G a (.dK c)):=by
 refine⟨λb d q=>?_,λb d q=>⟨d,?_⟩⟩
 ·rcases q with(q|⟨u,q⟩)|q
  ·exact .inl (.inl (by rw[aI (λz=>by rw[z,h]at q;cases q)];exact q))
  ·exact .inl (.inr ⟨u,by rw[aI (λz=>by rw[z,h]at q;cases q)];exact q⟩)
  ·exact .inr q
 ·rcases q with(q|⟨u,q⟩)|q
  ·exact .inl (.inl (by rw[aI (λz=>by rw[z,h]at q;cases q)];exact q))
  ·exact .inl (.inr ⟨u,by rw[aI (λz=>by rw[z,h]at q;cases q)];exact q⟩)
  ·exact .inr q
theorem FS{H:Hp}{ks:e9}{Q:VK}(Y:H a=some (.dK kvs))(hk:kvs.map (·.1)=ks.map (Sum.inr:Str->Key))(hc:ks.length<=1000)(p:Str->Bool)(I:∀(L:Hp)(R:VK),(∃o,L=upd H a (.Yx o (.dK kvs)))->R (.ref a) L->tl s L R)(h0:(mk s).set M none=mk s)
  (t:∀(o:Obj)(G:Hp)(i:Nat)(k:Str),Xe (upd H a (.Yx o (.dK kvs))) G->ks[i]?=some k->RT tt ((mk s).set M (some (.str k))) G (p k)/\RE K te ((mk s).set M (some (.str k))) G (.str k))
  (q:∀l ys c,H l=none->Xe H c->c l=some (.lst ys)->Xd K c ((ks.filter p).map D.str) ys->Q (.ref l) c) :
  ∃a kvs,H a=some (.dK kvs)/\∀o,fO (IK tl) mk (bT M) tt te s (upd H a (.Yx o (.dK kvs))) λv c=>c a=some (.Yx o (.dK kvs))/\Q v (upd c a (.dK kvs)):=by
 refine⟨a,kvs,Y,λo=>I _ _ ⟨o,rfl⟩ ?_⟩;have ll:kvs.length=ks.length:=by have:=Up List.length hk;simpa using this
 have ik:∀(i:Nat)(k:Str),ks[i]?=some k->∃y:Key×V,kvs[i]?=some y/\kV y.1=.str k:=λi k e=>by
  have z:(kvs.map (·.1))[i]?=some (Sum.inr k:Key):=by rw[hk,Tv,e];rfl
  rw[Tv]at z;obtain⟨y,e1,e2⟩:=UU.mp z;exact⟨y,e1,by rw[e2];rfl⟩
 refine⟨a,o,kvs,rfl,aD,λl j=>?_⟩;refine kE (Q:=λv c=>c a=some (.Yx o (.dK kvs))/\Q v (upd c a (.dK kvs))) (J:=ItD a o kvs) (n:=ks.length) (item:=λi=>.str (ks.getD i "")) (λG=>G a=some (.Yx o (.dK kvs))) (λi G N d=>⟨⟨N,by rw[ll];exact d⟩,λx G2 ⟨e1,y,e2,e3⟩=>⟨e1,?_⟩⟩) (λG N=>⟨N,ll.symm⟩) h0 l (λi G=>Xe (upd H a (.Yx o (.dK kvs))) G/\∃zs,G l=some (.lst zs)/\Xd K G (((ks.take i).filter p).map D.str) zs) ⟨aH j _,[],aD,by rw[UM];exact Xd.nil⟩ (λi G _ w=>w.1 _ _ aD) (λi G d w=>?_) (λG w=>?_)
 ·obtain⟨kv',e4,e5⟩:=ik i ks[i] (M1 d);rw[e2]at e4;cases e4;rw[e3,e5,Uc,M1 d];rfl
 ·obtain⟨m,zs,E,r⟩:=w;have e1:ks.getD i ""=ks[i]:=by rw[Uc,M1 d];rfl
  simp only[e1];obtain⟨t1,t2⟩:=t o G i ks[i] m (M1 d);have et:ks.take (i+1)=ks.take i++[ks[i]]:=by rw[Um,M1 d];rfl
  have lz:zs.length<1000:=by rw[<- r.length,To];exact VN (Vy _ _) (by rw[Uk];lia)
  refine t1.use λG2 f=>?_
  cases hp:p ks[i]with
  |true =>
   refine mU ((t2.mono f).use λO A T q3=>?_);have B:=(f.trans T) _ _ E;have bl:Xv l A (upd A l (.lst (zs++[O]))):=Xv.upd (Xe.refl A).but;have g:bW K A (upd A l (.lst (zs++[O]))):=bl.grow B aD;refine⟨zs,B,bP ⋯,⟨_,rfl⟩,λx o hx=>?_,zs++[O],aD,?_⟩
   ·rw[aI (aK hx j)];exact(f.trans T) _ _ (m _ _ hx)
   ·rw[et,Wf];have e2:[ks[i]].filter p=[ks[i]]:=by rw[Vp,TR hp];rfl
    rw[e2,Uh];exact Xd.append (Xd.mono g _ ((f.trans T).Xo r)) (Xd.cons (Dat.mono g _ q3) Xd.nil)
  |false =>
   refine nZ ⟨⟨_,rfl⟩,m.trans f,zs,f _ _ E,?_⟩;rw[et,Wf];have e2:[ks[i]].filter p=[]:=by rw[Vp,TN (by rw[hp];exact TH)];rfl
   rw[e2,Ub];exact f.Xo r
 ·obtain⟨m,zs,E,r⟩:=w;have eg:G a=some (.Yx o (.dK kvs)):=m _ _ aD;have C:l≠a:=λz=>by rw[z,aD]at j;cases j
  refine⟨eg,q l zs _ (by rw[aI C]at j;exact j) (λb u e=>?_) (by rw[aI C];exact E) ?_⟩
  ·by_cases U:b=a
   ·subst U;rw[Y]at e;cases e;rw[aD]
   ·rw[aI U];exact m _ _ (by rw[aI U];exact e)
  ·rw[UE]at r;exact Xd.mono (CY eg) _ r
end
end
section
variable{K:vc}{k:Nat}
noncomputable def stN(a:List Pc)(os:List Od)(k:Str):Bool:=match eL os k with
 |some o=>lA a o
 |none=>false
structure Lz(ps:List Pc)(os:List Od):Prop where
 n:∀o∈os,dW (.str o.nm)=true/\o.nm.length<=sizeLine
 nd:(os.map (·.nm)).Nodup
 g:∀o∈os,gT ps o.t
 l:os.length<=50
theorem we:∀{os:List Od}{i:Nat}{o:Od},(os.map (·.nm)).Nodup->os[i]?=some o->eL os o.nm=some o
 |[],_,_,_,h=>by simp at h
 |a::os,i,o,d,h=>by
  have b:=Vw.mp d;unfold eL;rw[UN]
  cases i with
  |zero=>simp at h;subst h;rw[TZ rfl]
  |succ i =>
   have c:os[i]?=some o:=by simpa using h
   have z:¬ a.nm=o.nm:=λz=>b.1 (by show a.nm∈os.map (·.nm);rw[z];exact List.mem_map_of_mem (Ui c));rw[TU z];exact we b.2 c
theorem uG:∀{a:e9}{b:List V},Xd K H (a.map D.str) b->b=a.map V.str
 |[],_,h=>h.YJ
 |x::a,_,h=>by obtain⟨v,r,rfl,c,d⟩:=h.Xx;rw[c.Xz,uG d];rfl
section
theorem BU(h:H b=some (.dK d)):bW K H (upd H b e):=by
 refine⟨λa c q=>?_,λa c q=>⟨c,?_⟩⟩
 ·rcases q with(q|⟨u,q⟩)|q
  ·exact .inl (.inl (by rw[aI (λz=>by rw[z,h]at q;cases q)];exact q))
  ·exact .inl (.inr ⟨u,by rw[aI (λz=>by rw[z,h]at q;cases q)];exact q⟩)
  ·exact .inr q
 ·rcases q with(q|⟨u,q⟩)|q
  ·exact .inl (.inl (by rw[aI (λz=>by rw[z,h]at q;cases q)];exact q))
  ·exact .inl (.inr ⟨u,by rw[aI (λz=>by rw[z,h]at q;cases q)];exact q⟩)
  ·exact .inr q
theorem Xg.known{S:SA}{os:List Od}(h:Xg K C S b os H)(e:H S.od=some (.dK (Yv os a)))(d:Xd K H (os.map ZR) a):Xg K C S b os (upd H S.od (.Yx o (.dK (Yv os a)))):=by have ne:=h.ne;obtain⟨c,⟨f,i,j⟩,_⟩:=h;have g:bW K H (upd H S.od (.Yx o (.dK (Yv os a)))):=BU e;exact⟨by rw[aI ne.2.1];exact c,⟨f,by rw[aI ne.2.2];exact i,Xd.mono g _ j⟩,a,.inr ⟨o,aD⟩,Xd.mono g _ d⟩
end
def Cw(K:vc)(C:Addr):Sp:=λd H Q _=>∃(S:SA)(a:List Pc)(os:List Od),d=[.ref S.s]/\Xg K C S a os H/\YH S H/\Lz a os /\
 ∀r b c,Xe H c->H r=none->c r=some (.lst (b.map V.str))->b.Perm ((os.map (·.nm)).filter (stN a os))->sortedS b=true->Q (.ref r) c
theorem tS(T:Txt P w K mg)(B:Xj P w K mg base X5 k T.Nn T.Np ["self","name"] (Gf K T.Mq)):Xj P w K mg base X5 (k+1) T.Og T.Oi ["self"] (Cw K T.Mq):=by
 refine XR T.P2 uc λvs H Q E nd h=>?_;obtain⟨S,d,os,rfl,m,⟨C,I⟩,ok,post⟩:=h;refine⟨rfl,λ_ _ _ _ J=>⟨_,(zr (aL vY rfl T.SL CH (z1 (FA (iJ (own:=["name"]) (fr:=[0]) (N':=["name","self"]) (HE (dF (pv 0) rfl)) rfl (by show eV ["self"] (λx=>(aG j6).names.lookup x) _ _ _ _=true;decide +kernel) rfl (λ_ _ _ _ _=>(cF (i:=0) (by show List.Nodup [("name":Str),("self":Str)];decide +kernel) rfl (Or.inl rfl))) (λ_ _ _ _ _=>(kW (show PT _ _ (λL H Q=>sW T.Mq "is_stale" (Gf K T.Mq) [] E0 (cV 1) (bM (cV 0) dC) L H λx p=>∃k,CF K x p k/\Q k p) from (bN (gL (pv 1) T.Xh T.Zk B J (pN T) .nil fE (z1 (pv 0))) (λ_=>rfl))))) (λ_ _ _ _ _=>(pv 0))))))),?_⟩⟩;obtain⟨M,_,v,c,h5⟩:=id m
 have c:H S.od=some (.dK (Yv os v)):=by
  rcases c with c|⟨_,c⟩
  ·exact c
  ·rw[I]at c;cases c
 have lw:=h5.length;rw[To]at lw;have lo:=ok.l;refine gS ?_;refine FS (K:=K) (a:=S.od) (kvs:=Yv os v) (ks:=os.map (·.nm)) c (by unfold Yv;rw[List.map_fst_zip (by rw[To];lia),Vj];rfl) (by rw[To];lia) (stN d os) (λp R ⟨o,e2⟩ q=>?_) rfl (λo G i k N hk=>?_) (λl ys O nl s U Y=>?_)
 ·subst e2;exact⟨_,rfl,S.s,T.Mq,S.dx,_,_,rfl,by rw[aI m.ne.2.1];exact M,T.Xh,T.XJ,rfl,q⟩
 ·rw[Tv]at hk;obtain⟨od,f,rfl⟩:=UU.mp hk;have t:=Ui f;have j:=(m.known (o:=o) c h5).same N;have y:=we ok.nd f;have e:stN d os od.nm=lA d od:=by unfold stN;rw[y]
  refine⟨?_,aB (k:=0) (Dat.XN od.nm)⟩;rw[e];exact bC (K:=K) (b:=lA d od) λG1 z Q1 q1=>⟨_,rfl,S.s,S.dx,_,rfl,(j.same z).ins,rfl,_,rfl,S,_,d,os,od.nm,od,rfl,j.same z,Dat.XN _,(ok.n od t).1,(ok.n od t).2,y,ok.g od t,λO s'=>q1 _ _ s' (Dat.YE _)⟩
 ·have ld:((os.map (·.nm)).filter (stN d os)).length<=os.length:=T8 (Vy _ _) (by rw[To];exact Tu _);have ey:=uG Y;subst ey;exact⟨l,_,rfl,Xm.of U,⋯,λr u A pm so=>post r u _ (s.trans (aH A _)) (s.free A) aD pm so⟩
end
section
variable{K:vc}
noncomputable def EZ(o:Od):Int:=(o.cs.length:Int)
def Jc(K:vc)(C:Addr):Sp:=λb H Q _=>∃(S:SA)(c:List Pc)(os:List Od),b=[.ref S.s]/\Xg K C S c os H/\YH S H/\os.length<=50/\∀a,Xe H a->Q (.int (os.map EZ).sum) a
theorem tT(T:Txt P w K mg)  : Xj P w K mg base X5 (k+1) T.Oh T.Oj ["self"] (Jc K T.Mq):=by
 refine XR T.P3 ud λvs H Q E nd h=>?_;obtain⟨S,ps,os,rfl,U,⟨kv0,op⟩,lo,post⟩:=h;refine⟨rfl,λ_ _ _ _ hr=>⟨_,(zr (aL (yi rfl) rfl T.S5 D3 (z1 (FA (iJ (own:=["tree","cells"]) (fr:=[]) (N':=["tree","cells"]) (HG (dF (pv 0) rfl)) rfl (by show eV ["self"] (λx=>(aG j7).names.lookup x) _ _ _ _=true;decide +kernel) rfl (λ_ _ _ _ _=>(qh (K:=K) (n:=2) rfl rfl (aP (cF (i:=0) (by show List.Nodup [("tree":Str),("cells":Str)];decide +kernel) rfl (Or.inl rfl)) (aP (cF (i:=1) (by show List.Nodup [("tree":Str),("cells":Str)];decide +kernel) rfl (Or.inl rfl)) cD)))) (λ_ _ _ _ _=>fF) (λ_ _ _ _ _=>(show PE _ _ (Zm (λxs H Q=>∃p A,xs=[V.ref p]/\(Xm K H p A\/XG K H p A)/\Q (V.int (A.length:Nat)) H) (bM (cV 1) dC)) from (aL aT rfl T.MC bY (z1 (pv 1)))))))))),?_⟩⟩;obtain⟨h1,_,j,f,h5⟩:=id U
 have f:H S.od=some (.dK (Yv os j)):=by
  rcases f with f|⟨_,f⟩
  ·exact f
  ·rw[op]at f;cases f
 have lw:=h5.length;rw[To]at lw;refine gS ?_;refine⟨S.od,Yv os j,f,λo=>?_⟩;have B:=U.known (o:=o) f h5;have C:Xd K (upd H S.od (.Yx o (.dK (Yv os j)))) (os.map ZR) j:=Xd.mono (BU f) _ h5;refine⟨_,rfl,S.s,T.Mq,S.dx,_,_,rfl,B.ins,T.Xh,T.XJ,rfl,S.od,o,Yv os j,rfl,aD,λl t=>?_⟩;refine⟨λi m r G=>i<=os.length/\m=os.length - i/\(∃Y z1,r=[Y,z1])/\Xe (upd H S.od (.Yx o (.dK (Yv os j)))) G/\G l=some (.lst ((os.take i).map λo=>V.int (EZ o))),⟨_,Us _,rfl,⟨none,none,rfl⟩,aH t _,aD⟩,?_⟩;rintro i m r G ⟨hi,rfl,⟨Y,z1,rfl⟩,y,I⟩;have J:=y _ _ aD;have ek:(Yv os j).length=os.length:=AB lw.symm;by_cases hn:i=os.length
 ·refine .inl ⟨⟨J,by rw[ek];exact hn⟩,J,?_⟩;subst hn;rw[UE]at I;have L:l≠S.od:=λz=>by rw[z,aD]at t;cases t
  have sE:Xe H (upd G S.od (.dK (Yv os j))):=λb u e=>by
   by_cases M:b=S.od
   ·subst M;rw[f]at e;cases e;rw[aD]
   ·rw[aI M];exact y _ _ (by rw[aI M];exact e)
  exact⟨l,os.map EZ,rfl,Xm.of (by rw[aI L,Vj];exact I),post _ sE⟩
 ·have g:i<os.length:=by lia
  refine .inr ⟨⟨J,by rw[ek];exact g⟩,_,λσ'' Xu hN=>⟨os.length - (i+1),⋯,hN⟩,?_⟩;rintro x G2 ⟨rfl,kv,q,rfl⟩;obtain⟨v,ev,dv⟩:=(y.Xo C).get (i:=i) (d:=ZR os[i]) (by rw[Tv,M1 g];rfl)
  have e2:kv.2=v:=by unfold Yv at q;rw[List.getElem?_zip_eq_some]at q;obtain⟨_,z⟩:=q;rw[ev]at z;cases z;rfl
  rw[e2];obtain⟨a,us,rfl,hq,hd⟩:=dv.XC;obtain⟨u0,u1,rfl,d0,d1⟩:=gD hd;obtain⟨b,cs,rfl,N,O⟩:=d1.XC;have lc:=O.length;rw[To]at lc;refine⟨a,_,rfl,hq,rfl,u0,_,rfl,_,_,rfl,rfl,?_⟩;unfold eO;dsimp only;rw[TR rfl];refine⟨_,rfl,b,cs,rfl,.inr N,_,I,by rw[To,Uk];exact bP ⋯,g,rfl,⟨_,_,rfl⟩,λc u e=>?_,?_⟩
  ·rw[aI (aK e t)];exact y _ _ e
  ·rw[aD,Um,M1 g,Uh,<- lc];rfl
end
section
variable{P:Program}{w:World}{K:vc}{mg:cL}
def K7(T:Txt P w K mg)(D:Addr)(j:Nat):Prop:=(D=T.Mr/\j=10)\/(D=T.Mw/\j=7)
noncomputable abbrev xu(j:Nat):D:=.tup [.str "refused",.int j]
def Cy(T:Txt P w K mg):Sp:=λb H Q _=>∃(x D:Addr)(j:Nat),b=[.ref x]/\H x=some (pL x D)/\K7 T D j/\∀v a,Xe H a->Dat K a (xu j) v->Q v a
theorem tU(T:Txt P w K mg)  : Bz P w K mg base (k+1) T.MN.a T.MN.d ["_law_e"] (Cy T):=by
 refine T.MN.f.okH YN (λvs H Q E h=>?_) (λcdv A outer s H vs Q E hr h=>?_)
 ·obtain⟨x,D,j,rfl,_⟩:=h;rfl
 have nd:=YN.nd;obtain⟨x,D,j,rfl,t,hw,post⟩:=h;refine⟨_,(aC (zs 1 nd (bZ (aU (aL cG rfl T.Ms bB (bF (pv 0) (bF (aZ (v:=.ref T.OS) rfl T.SH rfl) aQ))) (aU (aL cG rfl T.Ms bB (bF (pv 0) (bF (aZ (v:=.ref T.OT) rfl T.SI rfl) aQ))) (aU (aL cG rfl T.Ms bB (bF (pv 0) (bF (aZ (v:=.ref T.OQ) rfl T.SF rfl) aQ))) (aU (aL cG rfl T.Ms bB (bF (pv 0) (bF (aZ (v:=.ref T.OR) rfl T.SG rfl) aQ))) aQ))))))
 (aC (bO (eB Ue U1 Ve fZ (pv 1) (z1 (bZ (aU (aL cG rfl T.Ms bB (bF (pv 0) (bF (aZ (v:=.ref T.Os) rfl T.Sw rfl) aQ))) (aU (aL cG rfl T.Ms bB (bF (pv 0) (bF (aZ (v:=.ref T.Qb) rfl T.S9 rfl) aQ))) (aU (aL cG rfl T.Ms bB (bF (pv 0) (bF (aZ (v:=.ref T.Oq) rfl T.Sv rfl) aQ))) (aU (aL cG rfl T.Ms bB (bF (pv 0) (bF (aZ (v:=.ref T.Mw) rfl T.Rq rfl) aQ))) aQ))))))))
 (aC (bO (eB Ue U1 Ve fZ (pv 1) (z1 (bZ (aU (aL cG rfl T.Ms bB (bF (pv 0) (bF (aZ (v:=.ref T.Mu) rfl T.Qe rfl) aQ))) (aU (aL cG rfl T.Ms bB (bF (pv 0) (bF (aZ (v:=.ref T.Oo) rfl T.Su rfl) aQ))) (aU (aL cG rfl T.Ms bB (bF (pv 0) (bF (aZ (v:=.ref T.Mr) rfl T.P5 rfl) aQ))) (aU (aL cG rfl T.Ms bB (bF (pv 0) (bF (aZ (v:=.ref T.Pp) rfl T.SW rfl) aQ))) aQ))))))))
 (aC (bO (eB Ue U1 Ve fZ (pv 1) (z1 (bZ (z2 (aL cG rfl T.Ms bB (bF (pv 0) (bF (aZ (v:=.ref T.Po) rfl T.SV rfl) aQ))) (aL cG rfl T.Ms bB (bF (pv 0) (bF (aZ (v:=.ref T.N5) rfl T.RK rfl) aQ))))))))
 (aC (bJ (PW.pt (fU (zt pq (eB Ue F.slot_list_count F.type_list_count C8 (pv 1) (z1 dN)) aE) (fG (cJ (bN (aL cG rfl T.Ms bB (bF (pv 0) (bF (hV (v:=.ty "ValueError") rfl T.Rw tO rfl) aQ))) (λ_=>rfl)))))) (zr (aX (z2 aN (FD By aE)))) aO)
 (zr (aX (z2 aN (eB Ue Wl F.type_list_index C9 (pv 1) (z1 dN)))))))))),?_⟩
 show let XH:=bA _ _;let XT:=bA _ XH;let Yt:=bA _ XT;let YG:=bA _ Yt;bA _ YG _ _ _;intro XH XT Yt YG;rcases hw with⟨rfl,rfl⟩|⟨rfl,rfl⟩
 ·refine dS (oJ (K:=K) (aA (bQ (c:=.ref T.OS) t T.MJ T.Qz (.inl ⟨_,rfl⟩)) (aA (bQ (c:=.ref T.OT) t T.MJ T.QA (.inl ⟨_,rfl⟩)) (aA (bQ (c:=.ref T.OQ) t T.MJ T.Qw (.inl ⟨_,rfl⟩)) (aA (bQ (c:=.ref T.OR) t T.MJ T.Qx (.inl ⟨_,rfl⟩)) aJ)))) λl i G B n C=>?_);have e:upd G l (.lst i) x=some (pL x T.Mr):=(B.trans (aH n _)) _ _ t;have p:l≠x:=λz=>by rw[z]at n;rw[B _ _ t]at n;cases n
  have I:H l=none:=B.free n;have C:=(aH n (.lst i)).Xo C;have h0:upd G l (.lst i) l=some (.lst i):=aD;have l0:i.length=4:=C.length.symm;have J:Xv l H (upd G l (.lst i)):=(B.trans (aH n _)).but;refine lN (K:=K) (aA (bQ (c:=.ref T.Os) e T.MJ T.Qi (.inl ⟨_,rfl⟩)) (aA (bQ (c:=.ref T.Qb) e T.MJ T.Rb (.inl ⟨_,rfl⟩)) (aA (bQ (c:=.ref T.Oq) e T.MJ T.Qh (.inl ⟨_,rfl⟩)) (aA (bQ (c:=.ref T.Mw) e T.MJ T.QU (.inl ⟨_,rfl⟩)) aJ)))) h0 ⋯ λL G1 M N f1=>?_;have g:=M _ _ (Tt p) e;have e1:=Xd.append (Xd.mono (M.grow h0 N) _ C) f1;have l1:(i++L).length=8:=e1.length.symm;have O:=J.trans M;refine lN (K:=K) (aA (bQ (c:=.ref T.Mu) g T.MJ T.Qf (.inl ⟨_,rfl⟩)) (aA (bQ (c:=.ref T.Oo) g T.MJ T.Qg (.inl ⟨_,rfl⟩)) (aA (bQ (c:=.ref T.Mr) g T.MJ T.Qy (.inl ⟨_,rfl⟩)) (aA (bQ (c:=.ref T.Pp) g T.MJ T.QV (.inl ⟨_,rfl⟩)) aJ)))) N ⋯ λx2 G2 U Y f2=>?_;have r:=U _ _ (Tt p) g;have e2:=Xd.append (Xd.mono (U.grow N Y) _ e1) f2;have l2:(i++L++x2).length=12:=e2.length.symm;have bb2:=O.trans U;refine lN (K:=K) (aA (bQ (c:=.ref T.Po) r T.MJ T.QT (.inl ⟨_,rfl⟩)) (aA (bQ (c:=.ref T.N5) r T.MJ T.Qv (.inl ⟨_,rfl⟩)) aJ)) Y ⋯ λx3 G3 b3 h3 f3=>?_;have hx4:=b3 _ _ (Tt p) r;have e3:=Xd.append (Xd.mono (b3.grow Y h3) _ e2) f3;have l3:(i++L++x2++x3).length=14:=e3.length.symm;have bb3:=bb2.trans b3;have sm:Xe H G3:=λb o u=>bb3 b o (aK u I) u;have ev:=yo (bs:=[false,false,false,false,false,false,false,false,false,false,true,false,false,false]) e3;have y:G3 l=some (.lst (blV [false,false,false,false,false,false,false,false,false,false,true,false,false,false])):=by rw[<- show _=blV [false,false,false,false,false,false,false,false,false,false,true,false,false,false] from ev];exact h3
  refine aS (K:=K) (b:=false) ?_ (λc=>nomatch c) (λ_ H5 s5=>?_)
  ·exact RT.as (dO (aM (mD (va y) aF)) λ_=>bV (bC (bQ (c:=.ty "ValueError") hx4 T.MJ T.PB (.inr ⟨_,rfl⟩)))) rfl
  ·refine bL (K:=K) (d:=xu 10) (a9 (aA aY (aA (ve (j:=10) (s5 _ _ y) ⋯ rfl (λm hm=>?_)) aJ))) λv H' s q=>post v H' (sm.trans (s5.trans s)) q
   match m,hm with
   |0,_=>rfl
   |1,_=>rfl
   |2,_=>rfl
   |3,_=>rfl
   |4,_=>rfl
   |5,_=>rfl
   |6,_=>rfl
   |7,_=>rfl
   |8,_=>rfl
   |9,_=>rfl
 ·refine dS (oJ (K:=K) (aA (bQ (c:=.ref T.OS) t T.M4 T.Q0 (.inl ⟨_,rfl⟩)) (aA (bQ (c:=.ref T.OT) t T.M4 T.Q3 (.inl ⟨_,rfl⟩)) (aA (bQ (c:=.ref T.OQ) t T.M4 T.QX (.inl ⟨_,rfl⟩)) (aA (bQ (c:=.ref T.OR) t T.M4 T.QY (.inl ⟨_,rfl⟩)) aJ)))) λl i G B n C=>?_);have e:upd G l (.lst i) x=some (pL x T.Mw):=(B.trans (aH n _)) _ _ t;have p:l≠x:=λz=>by rw[z]at n;rw[B _ _ t]at n;cases n
  have I:H l=none:=B.free n;have C:=(aH n (.lst i)).Xo C;have h0:upd G l (.lst i) l=some (.lst i):=aD;have l0:i.length=4:=C.length.symm;have J:Xv l H (upd G l (.lst i)):=(B.trans (aH n _)).but;refine lN (K:=K) (aA (bQ (c:=.ref T.Os) e T.M4 T.QE (.inl ⟨_,rfl⟩)) (aA (bQ (c:=.ref T.Qb) e T.M4 T.Rv (.inl ⟨_,rfl⟩)) (aA (bQ (c:=.ref T.Oq) e T.M4 T.QD (.inl ⟨_,rfl⟩)) (aA (bQ (c:=.ref T.Mw) e T.M4 T.Re (.inl ⟨_,rfl⟩)) aJ)))) h0 ⋯ λL G1 M N f1=>?_;have g:=M _ _ (Tt p) e;have e1:=Xd.append (Xd.mono (M.grow h0 N) _ C) f1;have l1:(i++L).length=8:=e1.length.symm;have O:=J.trans M;refine lN (K:=K) (aA (bQ (c:=.ref T.Mu) g T.M4 T.QB (.inl ⟨_,rfl⟩)) (aA (bQ (c:=.ref T.Oo) g T.M4 T.QC (.inl ⟨_,rfl⟩)) (aA (bQ (c:=.ref T.Mr) g T.M4 T.QZ (.inl ⟨_,rfl⟩)) (aA (bQ (c:=.ref T.Pp) g T.M4 T.Rf (.inl ⟨_,rfl⟩)) aJ)))) N ⋯ λx2 G2 U Y f2=>?_;have r:=U _ _ (Tt p) g;have e2:=Xd.append (Xd.mono (U.grow N Y) _ e1) f2;have l2:(i++L++x2).length=12:=e2.length.symm;have bb2:=O.trans U;refine lN (K:=K) (aA (bQ (c:=.ref T.Po) r T.M4 T.Rc (.inl ⟨_,rfl⟩)) (aA (bQ (c:=.ref T.N5) r T.M4 T.QW (.inl ⟨_,rfl⟩)) aJ)) Y ⋯ λx3 G3 b3 h3 f3=>?_;have hx4:=b3 _ _ (Tt p) r;have e3:=Xd.append (Xd.mono (b3.grow Y h3) _ e2) f3;have l3:(i++L++x2++x3).length=14:=e3.length.symm;have bb3:=bb2.trans b3;have sm:Xe H G3:=λb o u=>bb3 b o (aK u I) u;have ev:=yo (bs:=[false,false,false,false,false,false,false,true,false,false,false,false,false,false]) e3;have y:G3 l=some (.lst (blV [false,false,false,false,false,false,false,true,false,false,false,false,false,false])):=by rw[<- show _=blV [false,false,false,false,false,false,false,true,false,false,false,false,false,false] from ev];exact h3
  refine aS (K:=K) (b:=false) ?_ (λc=>nomatch c) (λ_ H5 s5=>?_)
  ·exact RT.as (dO (aM (mD (va y) aF)) λ_=>bV (bC (bQ (c:=.ty "ValueError") hx4 T.M4 T.PY (.inr ⟨_,rfl⟩)))) rfl
  ·refine bL (K:=K) (d:=xu 7) (a9 (aA aY (aA (ve (j:=7) (s5 _ _ y) ⋯ rfl (λm hm=>?_)) aJ))) λv H' s q=>post v H' (sm.trans (s5.trans s)) q
   match m,hm with
   |0,_=>rfl
   |1,_=>rfl
   |2,_=>rfl
   |3,_=>rfl
   |4,_=>rfl
   |5,_=>rfl
   |6,_=>rfl
end
section
variable{K:vc}
abbrev LPP:List Pc:=[⟨"inc",.two "add" (.hole 0) (.num 1),[.int 12,.int 1]⟩,⟨"both",.two "add" (.slot 0) (.slot 1),[.int 3,.tup [.str "arg",.int 0],.int 3,.tup [.str "arg",.int 1],.int 4]⟩,⟨"twofold",.two "mul" (.hole 0) (.num 2),[.int 13,.int 4]⟩,⟨"fewer",.two "sub" (.hole 0) (.gap 0 99),[.int 1,.tup [.str "low",.int 0],.int 5]⟩,⟨"addmul",.two "add" (.two "mul" (.hole 0) (.hole 1)) (.gap 0 99),[.int 6,.int 12,.tup [.str "low",.int 0]]⟩,⟨"turned",.two "less" (.gap 0 99) (.hole 0),[.int 1,.tup [.str "low",.int 0],.int 14,.int 7]⟩,⟨"far",.two "add" (.hole 0) (.gap 0 9999),[.int 2,.tup [.str "low",.int 0],.tup [.str "high",.int 0],.int 4]⟩,⟨"pair",.two "sub" (.gap 0 99) (.gap 1 99),[.int 1,.tup [.str "low",.int 0],.int 1,.tup [.str "low",.int 1],.int 5]⟩]
theorem L7:BP.map XW=BAS:=rfl
noncomputable abbrev YV:List Pc:=BP++LPP
structure gdP(p:Pc):Prop where
 ok:Hy p
 pc:oB (XW p)=some true/\p.nm.length<=sizeLine
 nl:Yj (XW p)=true/\gE (XW p)<=19
 cl:xV p (cR p)
theorem Et:∀p∈YV,gdP p:=by intro p a;simp only[YV,BP,LPP,List.cons_append,Wa,Ub,TY,Ul,UX]at a;rcases a with rfl|rfl|rfl|rfl|rfl|rfl|rfl|rfl|rfl|rfl|rfl|rfl|rfl|rfl|rfl|rfl<;>exact⟨⟨⋯,by simp[AH,okB],⋯,⋯,rfl⟩,⟨⋯,⋯⟩,⟨⋯,⋯⟩,by kernel_rfl,λc b=>U4.mp (show List.all (cR _) (GR _ _)=true by decide +kernel) c b⟩
theorem Jj:(YV.map (·.nm)).Nodup:=⋯
structure gdS(ps:List Pc):Prop where
 gs:jT ps
 ok:je ps
 la:oo ps
 hp:∀p∈ps,gI p.pt=true/\p.nm≠"pick"
 bp:∀p∈BP,p∈ps
theorem Hf{sub:List Pc}(h:sub.Sublist LPP):gdS (BP++sub):=by have b:(BP++sub).Sublist YV:=(Wm BP).append h;have c:=(b.map (·.nm)).nodup Jj;have d:sub.length<=8:=h.length_le;have g:∀p∈BP++sub,gdP p:=λp a=>Et p (b.subset a);exact⟨⟨by rw[Tq];show 1<=8+sub.length;lia,by rw[Tq];show 8+sub.length<=16;lia,λp a=>(g p a).pc,c⟩,⟨λp a=>(g p a).ok,by rw[Tq];show 8+sub.length<=100;lia⟩,⟨⟨c,λp a=>(g p a).nl⟩,λp a=>(g p a).cl⟩,λp a=>⟨(g p a).ok.nh,(g p a).ok.nm⟩,λp a=>Vg _ a⟩
def Jb(K:vc):Sp:=λe H Q _=>∃(a t:Addr)(f:eH)(p q:Int)(rest:List V),e=[.ref a,.ref t]/\Scr K H a f/\H t=some (.lst (.int p::.int q::rest))/\0<=p /\
 ∀(sub:List Pc)(l:Addr)(c:List V)(b:Hp)(d g:Int),Xv t H b->b t=some (.lst (.int d::.int g::rest))->0<=d->sub.Sublist LPP->H l=none->b l=some (.lst c)->Xd K b ((BP++sub).map XW) c->Q (.ref l) b
theorem yT(T:Txt P w K mg)(Q7:Ok P w base k T.M9 (jL K λds es=>ds=[]/\es=LPD))(ML:Ok P w base k T.ME (sR K)):Ok P w base (k+1) T.O2 (Jb K):=by
 refine XR T.O2.f zF λvs H Q E nd h=>?_;obtain⟨a,t,ns,p,q,rest,rfl,hS,hT,hp,post⟩:=h;refine⟨rfl,λ_ _ _ _ u=>⟨_,(aC (iW (i:=2) (own:=["_law_piece"]) (fr:=[0,1]) (N':=["_law_piece","_law_script","_law_town"]) (cI (Fu Q7 u rfl T.M9.m T.M9.f.kp T.M9.b .nil fE)) rfl (by show eV ["_law_script","_law_town","_law_more"] (λx=>(aG mE).names.lookup x) _ _ _ _=true;decide +kernel) rfl (λ_ _ _ _ _=>(cF (i:=0) (by show List.Nodup [("_law_piece":Str),("_law_script":Str),("_law_town":Str)];decide +kernel) rfl (Or.inl rfl))) (λ_ _ _ _ _=>(kW (zt cM (pc (D:=T.ME) ML u (z3 (pv 1) (pv 2) aE)) aE))) (λ_ _ _ _ _=>(pv 0)) nd rfl rfl rfl)
 (zr (bS jf (aZ (v:=.ref T.QG) rfl T.Sh rfl) (pv 2)))),?_⟩⟩
 refine dS (zu (K:=K) (λr g y=>Xe H y/\H r=none/\Xd K y LPD g) (λR hR=>⟨[],LPD,Xd.nil,⟨rfl,rfl⟩,λr g y U u z hd=>hR r g y u ⟨U,z,hd⟩⟩) rfl (λr g y l u hM hl=>?_));obtain⟨U,z,hd⟩:=hM;have A:=U _ _ hT;have nrt:r≠t:=Tt (aK hT z);have B:l≠t:=Tt (aK A hl);have nlr:r≠l:=aK u hl;have lu:=hd.length;have lu8:g.length=8:=by rw[<- lu];rfl
 refine⟨
  (λi G=>∃(sub:List Pc)(n:List V)(Y q':Int),Xv t y G/\G t=some (.lst (.int Y::.int q'::rest))/\0<=Y/\sub.Sublist (LPP.take i)/\G l=some (.lst n)/\Xd K G (sub.map XW) n/\sub.length<=i),?_,(λi G hi ⟨_,_,_,_,b,_⟩=>Xm.of (b _ _ nrt u)),(λi G hi pn=>?_),(λG pn=>?_)⟩
 ·exact⟨[],[],p,q,(aH hl _).but,by rw[aI (Tt B)];exact A,hp,List.nil_sublist _,aD,Xd.nil,Tu _⟩
 ·obtain⟨sub,n,Y,q',C,tG,gp,d,I,dG,lsub⟩:=pn;have ly:=dG.length;rw[To]at ly;have gG:bW K y G:=C.grow A tG;have hdG:Xd K G LPD g:=Xd.mono gG _ hd;obtain⟨dx,ex,hx⟩:=hdG.YQ (M1 hi);have j:(LPP.map XW)[i]?=some dx:=ex;rw[Tv]at j
  cases J:LPP[i]? with
  |none=>rw[J]at j;cases j
  |some pp =>
   rw[J]at j;cases j;have et:LPP.take (i+1)=LPP.take i++[pp]:=by rw[Um,J];rfl
   have L:g.getD i .Xi=g[i]:=by rw[Uc,M1 hi];rfl
   refine⟨_,rfl,_,rfl,a,t,ns,2,Y,q',rest,rfl,hS.but (U.but.trans C) hT,tG,gp,⋯,⋯,λr3 G3 p3 q3 b3 t3 g3 r3a r3b=>?_⟩;refine⟨rfl,_,rfl,?_⟩;have M:=b3 _ _ B I;have N:bW K G G3:=b3.grow tG t3;refine tQ (λc=>?_) (λc=>?_)
   ·refine⟨_,rfl,n,M,bP ⋯,⟨_,rfl⟩,?_⟩;rw[L];have b4:Xv l G3 (upd G3 l (.lst (n++[g[i]]))):=Xv.upd (Xe.refl _).but;have g4:bW K G3 (upd G3 l (.lst (n++[g[i]]))):=b4.grow M aD;refine⟨sub++[pp],n++[g[i]],p3,q3,λb o nb hb=>b4 b o (aK hb hl) (b3 b o nb (C b o nb hb)),b4 _ _ (Tt B) t3,g3,?_,aD,?_,?_⟩
    ·rw[et];exact d.append (Wm _)
    ·rw[Uh];exact Xd.append (Xd.mono g4 _ (Xd.mono N _ dG)) (Xd.cons (Dat.mono g4 _ (Dat.mono N _ hx)) Xd.nil)
    ·rw[Tq];simp;lia
   ·refine⟨⟨_,rfl⟩,sub,n,p3,q3,C.trans b3,t3,g3,?_,M,Xd.mono N _ dG,⋯⟩;rw[et];exact d.trans (List.sublist_append_left _ _)
 ·obtain⟨sub,n,Y,q',C,tG,gp,d,I,dG,lsub⟩:=pn;have hL:LD K G (sub.map XW) (.ref l):=LD.of I dG;have O:sub.Sublist LPP:=d.trans (List.take_sublist _ _);refine gS (RC.use (K:=K) (jh (KM T.SQ) (bI (k:=2) hL) (by rw[To];show 8+sub.length<=1000;lia)) λlz zs G2 s s2 hzs dzs=>?_);refine post sub lz zs G2 Y q' ((U.but.trans C).trans s2.but) (s2 _ _ tG) gp O ?_ hzs ?_
  ·cases h:H lz with
   |none=>rfl
   |some o =>
    have h1:=U _ _ h;by_cases e:lz=t
    ·rw[e,tG]at s;cases s
    ·rw[C _ _ e h1]at s;cases s
  ·rw[Uh,L7];exact dzs
noncomputable abbrev Cu:Pc:=⟨"slot",.slot 0,[.int 3,.tup [.str "arg",.int 0]]⟩
theorem Hg:gdP iG:=⟨⟨⋯,by simp[AH,okB],⋯,⋯,rfl⟩,⟨⋯,⋯⟩,⟨⋯,⋯⟩,by kernel_rfl,λc a=>U4.mp (show List.all (cR _) (GR _ _)=true by decide +kernel) c a⟩
theorem JU:∀p∈YV++[iG],gdP p:=λp a=>(Uw.mp a).elim (Et p) λh=>by rw[Uj.mp h];exact Hg
theorem JD:((YV++[iG]).map (·.nm)).Nodup:=⋯
structure gd2(ps:List Pc):Prop where
 gs:jT ps
 ok:je ps
 la:oo ps
theorem He{b:List Pc}(c:b.Sublist (YV++[iG]))(lo:1<=b.length)(d:b.length<=16):gd2 b:=by have e:=(c.map (·.nm)).nodup JD;have g:∀p∈b,gdP p:=λp a=>JU p (c.subset a);exact⟨⟨lo,d,λp a=>(g p a).pc,e⟩,⟨λp a=>(g p a).ok,T8 d ⋯⟩,⟨⟨e,λp a=>(g p a).nl⟩,λp a=>(g p a).cl⟩⟩
theorem GJ:∀p∈YV++[iG],∀g,cW p.pt (.arg 0)=some g->g=([],[],[0])/\cR p=[.n 3,.arg 0]:=by intro p a;simp only[YV,BP,LPP,List.cons_append,Wa,Ub,TY,Ul,UX]at a;rcases a with rfl|rfl|rfl|rfl|rfl|rfl|rfl|rfl|rfl|rfl|rfl|rfl|rfl|rfl|rfl|rfl|rfl<;>intro g h<;>first | (cases h;exact⟨rfl,rfl⟩)|cases h
theorem GK{a:List Pc}(n:a.Sublist (YV++[iG]))(ok:je a)(q:oo a)(r:Cu∈a):∃b,cH a (.arg 0)=some b/\dY a 8 (.arg 0) b.2=some (([3,0]:eH).map D.int):=by
 obtain⟨b,i,_⟩:=uy (ps:=a) (t:=.arg 0) (λp c=>(ok.ok p c).nh) ⟨_,Cov.intro (xU (p:=Cu) (f:=([],[],[0])) r rfl rfl) .nil⟩;obtain⟨s,j,_⟩:=Ah (t:=.arg 0) ok q (by show 1<=8;decide) i;refine⟨b,i,?_⟩;rw[j];have h:(match qF b.2 with|none=>none|some x=>if x.1="pick" then mW (dY a 7) (.arg 0) x.2 else kL (dY a 7) a (.arg 0) x.1 x.2)=some s:=j
 cases l:qF b.2 with
 |none=>rw[l]at h;cases h
 |some x =>
  rw[l]at h;dsimp only at h;by_cases c:x.1="pick"
  ·rw[TR c]at h;cases h
  ·rw[TN c]at h;obtain⟨p,g,m,e1,e2,u,e,rfl⟩:=iS h;obtain⟨rfl,d⟩:=GJ p (n.subset (iO e1).1) g e2;have:m=[]:=by cases m with|nil=>rfl|cons _ _=>cases e
   subst this;unfold eU;rw[d];rfl
end
section
variable{w:World}{K:vc}
noncomputable def jx(os:List Od)(j:Int)(n:Str):Nv:=match eL os n with
 |none=>.d (xu 10)
 |some o=>if j=3 then .l ((o.cs.map D.int).map Nv.d)else .d (toD o.t)
def zO(K:vc)(C:Addr):Sp:=λf H Q _=>∃(S:SA)(c:List Pc)(os:List Od)(x v u:V),f=[.ref S.s,x,v,u]/\Xg K C S c os H /\
 ((x=.int 0/\Dat K H (XW iG) v/\c.length<=16/\qO c "zero"=false/\(c.length=16->∀w a,Xe H a->Dat K a (xu 7) w->Q w a)/\(c.length≠16->∀a,Xv S.lr H a->bW K H a->Xg K C S (c++[iG]) os a->Q .Xi a)) \/
  (∃n,x=.int 1/\v=.str n/\dW (.str n)=true/\n.length<=sizeLine/\c.length<=16/\qO c n=true/\c.length≠1/\∀l a,Xv S.s H a->bW K H a->H l=none->Xg K C {S with lr:=l} (c.filter λp=>!decide (p.nm=n)) os a->Q .Xi a) \/
  (∃n t b d,x=.int 2/\v=.str n/\dW (.str n)=true/\n.length<=sizeLine/\Dat K H (toD t) u/\gT c t/\oo c/\os.length<=100/\YH S H/\cH c t=some b/\dY c 8 t b.2=some (d.map D.int) /\
    ∀r e a,Xv S.od H a->bW K H a->H r=none->a r=some (.lst e)->Xd K a ((d++[0]).map D.int) e->Xg K C S c (jE os ⟨n,t,d++[0]⟩) a->YH S a->Q (.ref r) a) \/
  (∃j n,x=.int j/\v=.str n/\(j=3\/j=4)/\dW (.str n)=true/\n.length<=sizeLine/\∀w a,Xe H a->NI K H a (jx os j n) w->Q w a))
section
theorem tF(K:vc)(h:¬ j=i)(e:a[1]?=some (some (.int j)):=by rfl):RT (nO (Yn rEq (cV 1) (tC (.int i)))) a H false:=RT.as (aM (iY (K:=K) (aB (k:=1) (Dat.Xs j) e) aF)) (TU h)
theorem zZ(K:vc)(h:j=i)(e:a[1]?=some (some (.int j)):=by rfl):RT (nO (Yn rEq (cV 1) (tC (.int i)))) a H true:=RT.as (aM (iY (K:=K) (aB (k:=1) (Dat.Xs j) e) aF)) (TZ h)
end
theorem yS(T:Txt P w K mg)(R5:Xj P w K mg base (Yw P w) k T.OZ T.O1 ["self","piece"] (Ja K T.Mw T.Mq))(RD:Xj P w K mg base (Yw P w) k T.OC T.OG ["self","name"] (F9 K T.Mr T.Mw T.Mq))(OW:Xj P w K mg base (Yw P w) k T.Ow T.Ox ["self","name","tree"] (Bm K T.Mu T.Mq))(Pb:Xj P w K mg base (Yw P w) k T.N6 T.N7 ["self","name"] (Bl K T.Mr T.Mq))(RF:Xj P w K mg base (Yw P w) k T.OD T.OH ["self","name"] (Jd K T.Mr T.Mq))(Rj:Bz P w K mg base k T.MN.a T.MN.d ["_law_e"] (Cy T)):Ok P w base (k+1) T.Nc (zO K T.Mq):=by
 refine XR T.Nc.f zE λvs H Q E nd h=>?_;obtain⟨S,M,os,x,v,u,rfl,N,h⟩:=h;refine⟨rfl,λ_ _ _ _ G=>⟨_,(aR (FM (i:=4) (i':=4) (λpn xe E O=>(aC (bJ (zt cM (pv 1) aE) (zr (kT (pv 0) T.Xh T.mt_Shop_put R5 G (Ag T) .nil O (z1 (pv 2)))) aO) (aC (bJ (zt cM (pv 1) aE) (zr (kT (pv 0) T.Xh T.Z4 RD G (yd T) .nil O (z1 (pv 2)))) aO) (aC (bJ (zt cM (pv 1) aE) (zr (kT (pv 0) T.Xh T.YF OW G (mq T) .nil O (z2 (pv 2) (pv 3)))) aO) (aC (bJ (zt cM (pv 1) aE) (zr (kT (pv 0) T.Xh T.Zb Pb G (oX T) .nil O (z1 (pv 2)))) aO) (zr (ni (zt cM (pv 1) aE) (kT (pv 0) T.Xh T.Z5 RF G (ye T) .nil O (z1 (pv 2))) FB))))))) rfl T.RK nd rfl rfl (λe=>lL) rfl T.Rr rfl rfl (λe=>(zr (Fv (E:=E0) Rj G.h.mark rfl T.MN.m T.MN.f.kp T.MN.b .nil (z1 (pv 4))))))),?_⟩⟩;rcases h with⟨rfl,hv,lp,hh,U,g⟩|⟨n,rfl,rfl,I,J,lp,hh,l1,g⟩|⟨n,t,b,cs,rfl,rfl,I,J,ht,gi,la,lo,op,hb,hl,g⟩|⟨j,n,rfl,rfl,hj,I,J,post⟩
 ·refine i4 (b:=true) (zZ K (i:=0) rfl) (λ_ H1 p=>?_) (λc=>nomatch c);have Z6:=N.same p;exact⟨_,rfl,S.s,S.dx,_,rfl,Z6.ins,rfl,_,rfl,S,v,M,os,rfl,Z6,p.dat hv,lp,hh,λe Y C=>.inr ⟨T.QP,T.PV,T.Mw,rfl,λa ha=>⟨_,rfl,a,T.Mw,7,rfl,aD,.inr ⟨rfl,rfl⟩,λv Xu s q=>U e v Xu (p.trans (C.trans ((aH ha _).trans s))) q⟩⟩,λe Y b2 g2 y=>g e Y (p.but.trans b2) (eJ p.grow g2) y⟩
 ·refine aS (K:=K) (b:=false) (tF K (j:=1) (i:=0) ⋯) (λc=>nomatch c) (λ_ H1 p=>?_);refine i4 (b:=true) (zZ K (i:=1) rfl) (λ_ Y C=>?_) (λc=>nomatch c);have z:=p.trans C;have y:=N.same z;exact⟨_,rfl,S.s,S.dx,_,rfl,y.ins,rfl,_,rfl,S,_,M,os,n,rfl,y,Dat.XN n,I,J,lp,λe=>(by rw[hh]at e;cases e),λ_ e=>(l1 e).elim,λ_ _ l H3 b3 g3 n3 A=>g l H3 (z.but.trans b3) (eJ z.grow g3) (z.free n3) A⟩
 ·refine aS (K:=K) (b:=false) (tF K (j:=2) (i:=0) ⋯) (λc=>nomatch c) (λ_ H1 p=>?_);refine aS (K:=K) (b:=false) (tF K (j:=2) (i:=1) ⋯) (λc=>nomatch c) (λ_ Y C=>?_);refine i4 (b:=true) (zZ K (i:=2) rfl) (λ_ H3 s3=>?_) (λc=>nomatch c);have B:=(p.trans C).trans s3;have A:=N.same B;obtain⟨kv0,op⟩:=op;refine⟨_,rfl,S.s,S.dx,_,rfl,A.ins,rfl,_,rfl,_,rfl,S,_,u,M,os,n,t,rfl,A,Dat.XN n,I,J,B.dat ht,gi,la,lo,⟨kv0,B _ _ op⟩,λb' cs' e1 e2 r us H4 b4 g4 n4 h4 d4 Z7 o4=>?_,λe=>by rw[hb]at e;cases e⟩;rw[hb]at e1;cases e1;rw[hl]at e2;obtain rfl:cs=cs':=List.map_inj_right (λ_ _ h=>D.int.inj h) |>.mp (Ur e2);exact g r us H4 (B.but.trans b4) (eJ B.grow g4) (B.free n4) h4 d4 Z7 o4
 ·refine aS (K:=K) (b:=false) (tF K (j:=j) (i:=0) (by rcases hj with rfl|rfl<;>decide)) (λc=>nomatch c) (λ_ H1 p=>?_);refine aS (K:=K) (b:=false) (tF K (j:=j) (i:=1) (by rcases hj with rfl|rfl<;>decide)) (λc=>nomatch c) (λ_ Y C=>?_);refine aS (K:=K) (b:=false) (tF K (j:=j) (i:=2) (by rcases hj with rfl|rfl<;>decide)) (λc=>nomatch c) (λ_ H3 s3=>?_);have B:=(p.trans C).trans s3;have e10:∀(w:V)(H':Hp),eL os n=none->Xe H H'->Dat K H' (xu 10) w->Q w H':=λw H' e s d=>post w H' s (by unfold jx;rw[e];exact NI.dI d);rcases hj with rfl|rfl
  ·refine i4 (b:=true) (zZ K (i:=3) rfl) (λ_ H4 s4=>?_) (λc=>nomatch c);have L:=B.trans s4;have Z7:=N.same L;exact⟨_,rfl,S.s,S.dx,_,rfl,Z7.ins,rfl,_,rfl,S,_,M,os,n,rfl,Z7,Dat.XN n,I,J,λo eo r us H5 s5 h5 n5 d5=>post _ H5 (L.trans s5) (by unfold jx;rw[eo];exact NI.lI (L.free n5) h5 (XS.ofD d5)),λe H5 s5=>.inr ⟨T.O6,T.Of,T.Mr,rfl,λa ha=>⟨_,rfl,a,T.Mr,10,rfl,aD,.inl ⟨rfl,rfl⟩,λv Xu s q=>e10 v Xu e (L.trans (s5.trans ((aH ha _).trans s))) q⟩⟩⟩
  ·refine aS (K:=K) (b:=false) (tF K (j:=4) (i:=3) ⋯) (λc=>nomatch c) (λ_ H4 s4=>?_);have L:=B.trans s4;refine RT.use (b:=true) (zZ K (i:=4) rfl) λH5 s5=>mU ?_;have Zx:=L.trans s5;have sh5:=N.same Zx;exact⟨_,rfl,S.s,S.dx,_,rfl,sh5.ins,rfl,_,rfl,S,_,M,os,n,rfl,sh5,Dat.XN n,I,J,λo eo w H6 s6 d6=>post w H6 (Zx.trans s6) (by unfold jx;rw[eo];exact NI.dI d6),λe H6 s6=>.inr ⟨T.O6,T.Of,T.Mr,rfl,λa ha=>⟨_,rfl,a,T.Mr,10,rfl,aD,.inl ⟨rfl,rfl⟩,λv Xu s q=>e10 v Xu e (Zx.trans (s6.trans ((aH ha _).trans s))) q⟩⟩⟩
end
section
variable{K:vc}
noncomputable def KU(a:List Pc)(os:List Od):List Str:=(["f","g"]:e9).filter λx=>decide (x∈(os.map (·.nm)).filter (stN a os))
theorem LS{l a:e9}(g:∀x∈l,x="f"\/x="g")(i:l.Nodup)(p:a.Perm l)(b:sortedS a=true):a=(["f","g"]:e9).filter λx=>decide (x∈l):=by
 have c:a.Nodup:=p.nodup_iff.mpr i;have d:∀x∈a,x="f"\/x="g":=λx j=>g x (p.mem_iff.mp j)
 have e:(λx=>decide (x∈l))=λx=>decide (x∈a):=by
  funext x
  by_cases h:x∈l
  ·rw[TZ h,TZ (p.mem_iff.mpr h)]
  ·rw[TU h,TU λz=>h (p.mem_iff.mp z)]
 rw[e];clear e p g i
 match a,c,d,b with
 |[],_,_,_=>rfl
 |[x],_,f,_=>rcases f x (by simp)with rfl|rfl<;>decide +kernel
 |[x,y],n,f,b =>
  rcases f x (by simp)with rfl|rfl<;>rcases f y (by simp)with rfl|rfl
  ·simp at n
  ·decide +kernel
  ·exact absurd b ⋯
  ·simp at n
 |x::y::z::r,n,f,_ =>rcases f x (by simp)with rfl|rfl<;>rcases f y (by simp)with rfl|rfl<;>rcases f z (by simp)with rfl|rfl<;>simp at n
noncomputable def vE(a:List Pc)(os:List Od):List Nv:=[.l ((a.map XW).map Nv.d),.l [.l [jx os 3 "f",jx os 4 "f"],.l [jx os 3 "g",jx os 4 "g"]],.l (((KU a os).map D.str).map Nv.d),.d (.int (os.map EZ).sum),.d (.int os.length)]
structure okG(ps:List Pc)(os:List Od):Prop where
 ok:Lz ps os
 fg:∀o∈os,o.nm="f"\/o.nm="g"
def Bp(K:vc)(C:Addr):Sp:=λc H Q _=>∃(S:SA)(a:List Pc)(os:List Od),c=[.ref S.s]/\Xg K C S a os H/\YH S H/\okG a os/\∀v b,Xe H b->NI K H b (.l (vE a os)) v->Q v b
theorem bX(h:YH S H)(s:Xe H a):YH S a:=let⟨b,e⟩:=h;⟨b,s _ _ e⟩
theorem F2{S:SA}{os:List Od}(b:Xg K C S c os H)(d:j=3\/j=4)(e:dW (.str n)=true)(f:n.length<=sizeLine)(g:a[0]?=some (some (.int j)))(e1:a[1]?=some (some (.str n)))(e2:a[2]?=some (some (.ref S.s))) :
  RNv K (f6 (zO K C) [] E (bM (cV 2) (bM (cV 0) (bM (cV 1) (bM (tC .Xi) dC))))) a H (jx os j n):=λm s Q q =>
 ⟨_,e2,_,g,_,e1,S,c,os,_,_,_,rfl,b.same s,.inr (.inr (.inr ⟨j,n,rfl,rfl,d,e,f,λw i l h=>q w i l h⟩))⟩
theorem mR{n:Str}(h:n="f"\/n="g"):dW (.str n)=true/\n.length<=sizeLine:=by rcases h with rfl|rfl<;>exact⟨⋯,⋯⟩
theorem Jf:∀a:List Str,Xd K H (a.map D.str) (a.map V.str)
 |[]=>Xd.nil
 |x::a=>Xd.cons (Dat.XN x) (Jf a)
theorem wN(T:Txt P w K mg)(QK:Xj P w K mg base X5 k T.NG T.NL ["self"] (Gb K T.Mq))(Ou:Ok P w base (k+1) T.Nc (zO K T.Mq))(NX:Xj P w K mg base X5 (k+1) T.Nl T.Nm ["self"] (Cv K T.Mq))(Rh:Xj P w K mg base X5 (k+1) T.Og T.Oi ["self"] (Cw K T.Mq))(Ri:Xj P w K mg base X5 (k+1) T.Oh T.Oj ["self"] (Jc K T.Mq)):Ok P w base (k+1+1) T.MU (Bp K T.Mq):=by
 refine XR T.MU.f xG λvs H Q E nd h=>?_;obtain⟨S,r,os,rfl,t,J,ok,post⟩:=h;refine⟨rfl,λ_ _ _ _ u=>⟨_,(aC (zo (i:=1) (x0:="_law_name") (own:=["_law_name"]) (fr:=[0]) (N':=["_law_name","_law_shop"]) (iV (aX (z2 aN aN))) rfl (BF (by show qa "_law_name" ["_law_shop","_law_codes"] (λx=>(aG lg).names.lookup x) _ _ _ _=true;decide +kernel)) rfl (λ_ _=>rfl) (λ_=>rfl) rfl (λ_ _ _ _ _ _=>(cF (i:=0) (by show List.Nodup [("_law_name":Str),("_law_shop":Str)];decide +kernel) rfl (Or.inr rfl))) (λ_ _ _ _ _ _=>fF) (λ_ _ _ _ _ _=>(iJ (own:=["_law_what"]) (fr:=[0,1]) (N':=["_law_what","_law_name","_law_shop"]) (B8 (K:=K) rfl (aX (z2 aE aE))) rfl (by kernel_rfl) rfl (λ_ _ _ _ _=>(cF (i:=0) (by show List.Nodup [("_law_what":Str),("_law_name":Str),("_law_shop":Str)];decide +kernel) rfl (Or.inl rfl))) (λ_ _ _ _ _=>fF) (λ_ _ _ _ _=>(pc (D:=T.Nc) Ou u (aU (pv 2) (aU (pv 0) (aU (pv 1) (aU gM aQ)))))))) nd rfl rfl rfl)
 (zr (bZ (aU (hZ (pv 0) T.Xh T.Yc NX u (jq T) .nil fE) (aU (pv 1) (aU (hZ (pv 0) T.Xh T.ZN Rh u (vS T) .nil fE) (aU (hZ (pv 0) T.Xh T.ZO Ri u (vT T) .nil fE) (aU (aL (CJ (j:=k) T.Zw QK u (qA T)) rfl T.MC bY (z1 (pv 0))) aQ)))))))),?_⟩⟩
 have gs:=ok.ok.l;refine j4 (RNv.use (K:=K) (n:=.l [.l [jx os 3 "f",jx os 4 "f"],.l [jx os 3 "g",jx os 4 "g"]]) (F3 (cs:=[.str "f",.str "g"]) (a9 (aA aY (aA aY aJ))) ⋯ rfl rfl (λG i c v n sG p y hv=>?_)) λv1 H1 L q1=>?_)
 ·have hi:(c=.str "f"/\n=.l [jx os 3 "f",jx os 4 "f"])\/(c=.str "g"/\n=.l [jx os 3 "g",jx os 4 "g"]):=by
   match i,p,y with
   |0,p,y=>cases p;cases y;exact .inl ⟨rfl,rfl⟩
   |1,p,y=>cases p;cases y;exact .inr ⟨rfl,rfl⟩
   |i+2,p,_=>simp at p
  rcases hi with⟨rfl,rfl⟩|⟨rfl,rfl⟩<;>obtain rfl:=hv.Xz
  all_goals
   refine F3 (K:=K) (cs:=[.int 3,.int 4]) (a9 (aA aF (aA aF aJ))) ⋯ rfl rfl λG2 i2 c2 v2 n2 C b d z=>?_;have e:=t.same (sG.trans C)
   match i2,b,d with
   |0,b,d=>cases b;cases d;obtain rfl:=z.Xp;exact F2 e (.inl rfl) ⋯ ⋯ rfl rfl rfl
   |1,b,d=>cases b;cases d;obtain rfl:=z.Xp;exact F2 e (.inr rfl) ⋯ ⋯ rfl rfl rfl
   |i2+2,b,_=>simp at b
 have O:=t.same L;refine⟨_,rfl,S.s,S.dx,_,rfl,O.ins,rfl,S,r,os,rfl,O,λr2 u2 H2 C h2 n2 d2=>?_⟩;have m:=L.trans C;have e:=t.same m;refine⟨_,rfl,_,rfl,S.s,S.dx,_,rfl,e.ins,rfl,S,r,os,rfl,e,bX J m,ok.ok,λr3 ss H3 U n3 h3 pm so=>?_⟩;have M:=m.trans U;have A:=t.same M;refine⟨_,rfl,S.s,S.dx,_,rfl,A.ins,rfl,S,r,os,rfl,A,bX J M,gs,λY N=>?_⟩;have I:=M.trans N;have Z7:=t.same I;refine⟨_,rfl,S.s,S.dx,_,rfl,Z7.ins,S,r,os,rfl,Z7,bX J I,os.length,rfl,⋯,cA (show 5<=1000 by decide),λl hl=>?_⟩
 have es:ss=KU r os:=LS (λx hx=>by
  obtain⟨o,ho,rfl⟩:=UB.mp (Wz.mp hx).1;exact ok.fg o ho) (ok.ok.nd.filter _) pm so
 subst es;have g:Xe Y (upd Y l (.lst [.ref r2,v1,.ref r3,.int (os.map EZ).sum,.int (os.length:Nat)])):=aH hl _;have q:=U.trans (N.trans g);have B:=C.trans q;refine post _ _ (I.trans g) (NI.lI (I.free hl) aD (XS.cons (NI.lI (L.free n2) (q _ _ h2) (XS.ofD (q.Xo d2))) (XS.cons (NI.mono B.grow (λa vs k1 k2=>⟨k1,B _ _ k2⟩) _ q1) (XS.cons (NI.lI (m.free n3) ((N.trans g) _ _ h3) (XS.ofD ?_)) (XS.cons (NI.dI (Dat.Xs _)) (XS.cons (NI.dI (Dat.Xs _)) XS.nil))))));exact Jf _
end
section
def Nin(x:Addr)(S:SA):Prop:=x≠S.s/\x≠S.lr/\x≠S.od
def YW(S:SA)(H a:Hp):Prop:=∀b o,Nin b S->H b=some o->a b=some o
def Al(H:Hp)(S:SA):Prop:=H S.s≠none/\H S.lr≠none/\H S.od≠none
section
theorem F7(s:Xe H a):YW S H a:=λb o _ h=>s b o h
theorem Lb{S:SA}(b:Xv S.s H a):YW S H a:=λc o n h=>b c o n.1 h
theorem JM{S:SA}(b:Xv S.lr H a):YW S H a:=λc o n h=>b c o n.2.1 h
theorem Ak{S:SA}(b:Xv S.od H a):YW S H a:=λc o n h=>b c o n.2.2 h
theorem LL(h:Rd H x u):H x≠none:=λz=>by rcases h with h|⟨o,h⟩<;>rw[z]at h<;>cases h
variable{K:vc}{os:List Od}
theorem Xg.al{S:SA}(h:Xg K C S d os H):Al H S:=by obtain⟨a,⟨e,b,_⟩,f,c,_⟩:=h;exact⟨λz=>(by rw[z]at a;cases a),λz=>(by rw[z]at b;cases b),LL c⟩
theorem Al.nin(h:Al H S)(e:H x=none):Nin x S:=⟨λz=>h.1 (z▸e),λz=>h.2.1 (z▸e),λz=>h.2.2 (z▸e)⟩
theorem lH{S:SA}{H:Hp}(e:H x=some o)(n1:H S.s=none)(n2:H S.lr=none)(n3:H S.od=none):Nin x S:=⟨λz=>(by rw[z,n1]at e;cases e),λz=>(by rw[z,n2]at e;cases e),λz=>(by rw[z,n3]at e;cases e)⟩
theorem YW.free(b:YW S H a)(al:Al a S)(e:a x=none):H x=none:=by
 cases h:H x with
 |none=>rfl
 |some o=>rw[b x o (al.nin e) h]at e;cases e
theorem Xg.frameS(h:Xg K C c d e H)(b:YW S H f)(g:bW K H f)(n1:Nin c.s S)(n2:Nin c.lr S)(n3:Nin c.od S):Xg K C c d e f:=by
 obtain⟨i,⟨j,l,m⟩,n,a,h5⟩:=h;refine⟨b _ _ n1 i,⟨j,b _ _ n2 l,Xd.mono g _ m⟩,n,?_,Xd.mono g _ h5⟩;rcases a with a|⟨o,a⟩
 ·exact .inl (b _ _ n3 a)
 ·exact .inr ⟨o,b _ _ n3 a⟩
theorem Lv(h:NI K a H n v)(al:Al a S)(b:YW S H c)(g:bW K H c):NI K a c n v:=NI.mono g (λ_ _ d e=>⟨d,b _ _ (al.nin d) e⟩) _ h
theorem Lw(h:XS K a H n v)(al:Al a S)(b:YW S H c)(g:bW K H c):XS K a c n v:=XS.mono g (λ_ _ d e=>⟨d,b _ _ (al.nin d) e⟩) _ h
theorem LR{S:SA}(h:Scr K H a d)(e:Xg K C S j os H)(c:YH S H)(b:YW S H f):Scr K f a d:=by
 obtain⟨g,⟨l,i,_⟩,_⟩:=e;obtain⟨m,c⟩:=c;rcases h with⟨o,h⟩|h
 ·exact .inl ⟨o,b _ _ ⟨λz=>(by rw[z,g]at h;cases h),λz=>(by rw[z,i]at h;cases h),λz=>(by rw[z,c]at h;cases h)⟩ h⟩
 ·exact .inr h
end
noncomputable def gN(a:List Pc):List Pc:=if a.length=16 then a else a++[iG]
noncomputable def DY(a:List Pc)(b:eH):List Nv:=[.l (((b++[0]).map D.int).map Nv.d),.d (if a.length=16 then xu 7 else .Xi),.d .Xi]
structure ok3(ps:List Pc)(os:List Od)(nm dn:Str)(X:Tr)(b:Int×D)(cs:eH):Prop where
 n1:dW (.str nm)=true/\nm.length<=sizeLine
 gi:gT ps X
 la:oo ps
 lo:os.length<=100
 hb:cH ps X=some b
 hl:dY ps 8 X b.2=some (cs.map D.int)
 z:qO ps "zero"=false
 n2:dW (.str dn)=true/\dn.length<=sizeLine
 l2:(gN ps).length<=16
 d2:qO (gN ps) dn=true
 e2:(gN ps).length≠1
variable{K:vc}{os:List Od}
theorem do3{S:SA}{j:List Pc}{H:Hp}{σ:L2.St}{Q:VK}{E:XK}{mk:L2.St->L2.St}{ld:Addr}{ds:List V}{X:Tr}{b:Int×D}{A:eH}(hm:mk σ=[none,none,none,some (.ref S.s)])(hd:σ[10]?=some (some (.ref ld)))(hl:H ld=some (.lst ds))(nl:Nin ld S)(dd:Xd K H [.tup [.int 2,.str N,toD X],.tup [.int 0,XW iG,.Xi],.tup [.int 1,.str dn,.Xi]] ds)(sh:Xg K C S j os H)(op:YH S H)(ok:ok3 j os N dn X b A)
  (q:∀r lr H',YW S H H'->bW K H H'->H lr=none->Xg K C {S with lr:=lr} ((gN j).filter λp=>!decide (p.nm=dn)) (jE os ⟨N,X,A++[0]⟩) H'->YH S H'->NI K H H' (.l (DY j A)) (.ref r)->Q (.ref r) H') :
  fO (kh K (cV 10)) mk (As K 3 (iQ (bT 0) (iQ (bT 1) (iQ (bT 2) CW)))) eO (f6 (zO K C) [] E (bM (cV 3) (bM (cV 0) (bM (cV 1) (bM (cV 2) dC))))) σ H Q:=by
 refine⟨_,hd,ld,rfl,⟨ds,Xm.of hl⟩,λDa O=>?_⟩;have al:=sh.al;have g:=al.nin O;have alD:Al (upd H Da (.lst [])) S:=⟨by rw[aI (Tt g.1)];exact al.1,by rw[aI (Tt g.2.1)];exact al.2.1,by rw[aI (Tt g.2.2)];exact al.2.2⟩
 have ldD:ld≠Da:=λz=>by rw[z,O]at hl;cases hl
 have push:∀(G a:Hp)(e:List V)(n:Nv)(nss:List Nv)(v:V),YW S H G->bW K H G->G Da=some (.lst e)->XS K (upd H Da (.lst [])) G nss e->YW S G a->bW K G a->NI K (upd H Da (.lst [])) a n v ->
   a Da=some (.lst e)/\YW S H (upd a Da (.lst (e++[v])))/\bW K H (upd a Da (.lst (e++[v])))/\XS K (upd H Da (.lst [])) (upd a Da (.lst (e++[v]))) (nss++[n]) (e++[v])/\Xv Da a (upd a Da (.lst (e++[v])))/\bW K a (upd a Da (.lst (e++[v]))):=λG a e n nss v b1 g1 L qs B g4 qn=>by
  have J:=B _ _ g L;have u:Xv Da a (upd a Da (.lst (e++[v]))):=Xv.upd (Xe.refl a).but;have y:bW K a (upd a Da (.lst (e++[v]))):=u.grow J aD;have st:∀c zs,upd H Da (.lst []) c=none->a c=some (.lst zs)->upd H Da (.lst []) c=none/\upd a Da (.lst (e++[v])) c=some (.lst zs):=λc zs T k2=>⟨T,u _ _ (λz=>by rw[z,aD]at T;cases T) k2⟩
  refine⟨J,λc o nc hc=>?_,eJ g1 (eJ g4 y),XS.snoc (NI.mono y st _ qn) (XS.mono y st _ (Lw qs alD B g4)),u,y⟩;have ncD:c≠Da:=λz=>by rw[z,O]at hc;cases hc
  exact u _ _ ncD (B _ _ nc (b1 _ _ nc hc))
 rw[hm]
 refine⟨λi m σ' G=>∃(lr:Addr)(e:List V)(z0 z1 z2:Option V),σ'=[z0,z1,z2,some (.ref S.s)]/\YW S H G/\bW K H G/\YH S G/\G Da=some (.lst e)/\m=3 - i/\XS K (upd H Da (.lst [])) G ((DY j A).take i) e/\e.length<=i /\
  ((i=0/\lr=S.lr/\Xg K C S j os G)\/(i=1/\lr=S.lr/\Xg K C S j (jE os ⟨N,X,A++[0]⟩) G)\/(i=2/\lr=S.lr/\Xg K C S (gN j) (jE os ⟨N,X,A++[0]⟩) G)\/(i=3/\H lr=none/\Xg K C {S with lr:=lr} ((gN j).filter λp=>!decide (p.nm=dn)) (jE os ⟨N,X,A++[0]⟩) G)),
  ⟨3,S.lr,[],none,none,none,rfl,F7 (aH O _),(aH O _).grow,bX op (aH O _),aD,rfl,XS.nil,Tu _,.inl ⟨rfl,rfl,sh.same (aH O _)⟩⟩,?_⟩
 rintro i m σ' G ⟨lr,e,z0,z1,z2,rfl,U,gG,oG,L,rfl,qs,ly,st⟩;have M:=U _ _ nl hl;obtain⟨w0,w1,w2,rfl,e0,e1,e2⟩:=kG (Xd.mono gG _ dd);rcases st with⟨rfl,rfl,f⟩|⟨rfl,rfl,f⟩|⟨rfl,rfl,f⟩|⟨rfl,hlr,f⟩
 ·obtain⟨c0,v0,rfl,k0,j0⟩:=e0.XC;obtain⟨x0,x1,x2,rfl,a0,a1,a2⟩:=kG j0;obtain rfl:=a0.Xp;obtain rfl:=a1.Xz;obtain⟨gg,yy⟩:=kJ (K:=K) 0 G (Xm.of M) (show 0<3 by decide);refine .inr ⟨gg,_,λY Xu hN=>⟨2,⋯,hN⟩,λx G2 yx=>?_⟩;obtain⟨eG,rfl⟩:=yy x G2 yx;rw[eG];refine⟨c0,_,rfl,k0,rfl,_,_,rfl,_,_,rfl,_,_,rfl,rfl,?_⟩;unfold eO;dsimp only;rw[TR rfl];refine⟨_,rfl,_,rfl,_,rfl,_,rfl,S,j,os,_,_,_,rfl,f,.inr (.inr (.inl ⟨N,X,b,A,rfl,rfl,ok.n1.1,ok.n1.2,a2,ok.gi,ok.la,ok.lo,oG,ok.hb,ok.hl,λr us a B g4 n4 h4 d4 Z7 o4=>?_⟩))⟩;have nr:r≠Da:=λz=>by rw[z,L]at n4;cases n4
  obtain⟨J,b5,g5,q5,u,y⟩:=push G a e (.l (((A++[0]).map D.int).map Nv.d)) _ (.ref r) U gG L qs (Ak B) g4 (NI.lI (by rw[aI nr];exact U.free f.al n4) h4 (XS.ofD d4));have al4:=Z7.al;exact⟨e,J,bP ⋯,S.lr,_,_,_,_,rfl,b5,g5,⟨_,u _ _ (Tt g.2.2) o4.choose_spec⟩,aD,rfl,q5,by rw[Tq];exact Wu ly,.inr (.inl ⟨rfl,rfl,Z7.frame u y (Tt g.1) (Tt g.2.1) (Tt g.2.2)⟩)⟩
 ·obtain⟨c0,v0,rfl,k0,j0⟩:=e1.XC;obtain⟨x0,x1,x2,rfl,a0,a1,a2⟩:=kG j0;obtain rfl:=a0.Xp;obtain⟨gg,yy⟩:=kJ (K:=K) 1 G (Xm.of M) (show 1<3 by decide);refine .inr ⟨gg,_,λY Xu hN=>⟨1,⋯,hN⟩,λx G2 yx=>?_⟩;obtain⟨eG,rfl⟩:=yy x G2 yx;rw[eG];refine⟨c0,_,rfl,k0,rfl,_,_,rfl,_,_,rfl,_,_,rfl,rfl,?_⟩;unfold eO;dsimp only;rw[TR rfl];have lp:=ok.gi.gs.hi;refine⟨_,rfl,_,rfl,_,rfl,_,rfl,S,j,_,_,_,_,rfl,f,.inl ⟨rfl,a1,lp,ok.z,λl6 w a s4 d4=>?_,λl6 a B g4 Z7=>?_⟩⟩
  ·have I:Xg K C S (gN j) (jE os ⟨N,X,A++[0]⟩) a:=by unfold gN;rw[TR l6];exact f.same s4
   obtain⟨J,b5,g5,q5,u,y⟩:=push G a e (.d (if j.length=16 then xu 7 else .Xi)) _ w U gG L qs (F7 s4) s4.grow (NI.dI (by rw[TR l6];exact d4));exact⟨e,J,bP ⋯,S.lr,_,_,_,_,rfl,b5,g5,⟨_,u _ _ (Tt g.2.2) (s4.but (t:=S.lr) _ _ (Tt I.ne.2.2) oG.choose_spec)⟩,aD,rfl,q5,by rw[Tq];exact Wu ly,.inr (.inr (.inl ⟨rfl,rfl,I.frame u y (Tt g.1) (Tt g.2.1) (Tt g.2.2)⟩))⟩
  ·have I:Xg K C S (gN j) (jE os ⟨N,X,A++[0]⟩) a:=by unfold gN;rw[TN l6];exact Z7
   obtain⟨J,b5,g5,q5,u,y⟩:=push G a e (.d (if j.length=16 then xu 7 else .Xi)) _ .Xi U gG L qs (JM B) g4 (NI.dI (by rw[TN l6];exact Dat.Zt));exact⟨e,J,bP ⋯,S.lr,_,_,_,_,rfl,b5,g5,⟨_,u _ _ (Tt g.2.2) (B _ _ (Tt I.ne.2.2) oG.choose_spec)⟩,aD,rfl,q5,by rw[Tq];exact Wu ly,.inr (.inr (.inl ⟨rfl,rfl,I.frame u y (Tt g.1) (Tt g.2.1) (Tt g.2.2)⟩))⟩
 ·obtain⟨c0,v0,rfl,k0,j0⟩:=e2.XC;obtain⟨x0,x1,x2,rfl,a0,a1,a2⟩:=kG j0;obtain rfl:=a0.Xp;obtain rfl:=a1.Xz;obtain⟨gg,yy⟩:=kJ (K:=K) 2 G (Xm.of M) (show 2<3 by decide);refine .inr ⟨gg,_,λY Xu hN=>⟨0,⋯,hN⟩,λx G2 yx=>?_⟩;obtain⟨eG,rfl⟩:=yy x G2 yx;rw[eG];refine⟨c0,_,rfl,k0,rfl,_,_,rfl,_,_,rfl,_,_,rfl,rfl,?_⟩;unfold eO;dsimp only;rw[TR rfl];refine⟨_,rfl,_,rfl,_,rfl,_,rfl,S,gN j,_,_,_,_,rfl,f,.inr (.inl ⟨dn,rfl,rfl,ok.n2.1,ok.n2.2,ok.l2,ok.d2,ok.e2,λl a B g4 n4 Z7=>?_⟩)⟩;obtain⟨J,b5,g5,q5,u,y⟩:=push G a e (.d .Xi) _ .Xi U gG L qs (Lb B) g4 (NI.dI Dat.Zt);have lD:l≠Da:=λz=>by rw[z,L]at n4;cases n4
  exact⟨e,J,bP ⋯,l,_,_,_,_,rfl,b5,g5,⟨_,u _ _ (Tt g.2.2) (B _ _ (Tt f.ne.2.1) oG.choose_spec)⟩,aD,rfl,q5,by rw[Tq];exact Wu ly,.inr (.inr (.inr ⟨rfl,U.free f.al n4,Z7.frame u y (Tt g.1) lD (Tt g.2.2)⟩))⟩
 ·refine .inl ⟨⟨_,Xm.of M,by show 3<=3;decide⟩,q Da lr G U gG hlr f oG (NI.lI O L (XS.mono nX (λc zs T k2=>⟨?_,k2⟩) _ qs))⟩;have nb:c≠Da:=λz=>by rw[z,aD]at T;cases T
  rw[aI nb]at T;exact T
theorem yI(F:gdS d)(a:YB X)(g:bE X<=8):∃b c,cH d X=some b/\dY d 8 X b.2=some ((c:eH).map D.int):=by obtain⟨b,e,_⟩:=uy (λp i=>(F.hp p i).1) (jA F.bp X a);obtain⟨j,f,_⟩:=Ah F.ok F.la g e;obtain⟨c,rfl⟩:=jD 8 X b.2 j f;exact⟨b,c,e,f⟩
theorem JR{l:e9}(a:∀x∈l,x="f"\/x="g")(b:l.Nodup):l.length<=2:=by
 match l,b,a with
 |[],_,_=>exact Us _
 |[_],_,_=>exact V5 _
 |[_,_],_,_=>exact Tu _
 |x::y::z::r,n,f =>rcases f x (by simp)with rfl|rfl<;>rcases f y (by simp)with rfl|rfl<;>rcases f z (by simp)with rfl|rfl<;>simp at n
theorem rh(a:∀o∈os,o.nm="f"\/o.nm="g")(c:(os.map (·.nm)).Nodup)(g:∀o∈os,gT e o.t):okG e os/\os.length<=2:=by
 have d:os.length<=2:=by
  have:=JR (l:=os.map (·.nm)) (λx f=>by obtain⟨o,b,rfl⟩:=UB.mp f;exact a o b) c
  rwa [To]at this
 exact⟨⟨⟨λo b=>mR (a o b),c,g,T8 d ⋯⟩,a⟩,d⟩
theorem zp(h:p∈jE os o):p∈os\/p=o:=by
 unfold jE at h;split at h
 ·obtain⟨q,a,rfl⟩:=UB.mp h;by_cases e:q.nm=o.nm
  ·rw[TR e];exact .inr rfl
  ·rw[TN e];exact .inl a
 ·rcases Uw.mp h with h|h
  ·exact .inl h
  ·exact .inr (Uj.mp h)
theorem Cc(b:(os.map (·.nm)).Nodup):((jE os o).map (·.nm)).Nodup/\o∈jE os o:=by
 unfold jE
 cases e:os.any λp=>decide (p.nm=o.nm)with
 |true =>
  rw[TR rfl,Vj];obtain⟨p,a,d⟩:=List.any_eq_true.mp e;refine⟨?_,UB.mpr ⟨p,a,by rw[TR (T4 d)]⟩⟩
  have z:((λx:Od=>x.nm)∘λp=>if p.nm=o.nm then o else p)=λx=>x.nm:=by
   funext q
   show(if q.nm=o.nm then o else q).nm=q.nm;by_cases h:q.nm=o.nm
   ·rw[TR h,h]
   ·rw[TN h]
  rw[z];exact b
 |false =>rw[TN ⋯,Uh];refine⟨List.nodup_append.mpr ⟨b,by simp,λx f y c=>?_⟩,Ua _ (Uj.mpr rfl)⟩;obtain⟨p,a,rfl⟩:=UB.mp f;rw[T7,Wc,Uj]at c;subst c;intro z;have:=W5.mp e p a;exact this (TZ z)
theorem wG{b:List Pc}{a:Str}{t:Tr}{cs:eH}(h:okG b os)(d:a="f"\/a="g")(g:gT b t):okG b (jE os ⟨a,t,cs⟩)/\(jE os ⟨a,t,cs⟩).length<=2 :=
 rh (λo c=>(zp c).elim (h.fg o) λe=>by rw[e];exact d) (Cc h.ok.nd).1 (λo c=>(zp c).elim (h.ok.g o) λe=>by rw[e];exact g)
theorem Hx(h:okG c os)(g:gd2 b):okG b os:=(rh h.fg h.ok.nd λo a=>⟨g.ok,g.gs,(h.ok.g o a).ot,(h.ok.g o a).dp,(h.ok.g o a).sz⟩).1
theorem yz(a:(os.map (·.nm)).Nodup):eL (jE os o) o.nm=some o:=by obtain⟨n2,m⟩:=Cc (o:=o) a;obtain⟨i,b⟩:=List.mem_iff_getElem?.mp m;exact we n2 b
theorem qK{α:Type}(f:α->D):∀{l:List α},(∀x∈l,Yj (f x)=true/\gE (f x)<=20)->XA (l.map f)=true/\Xn (l.map f)<=20
 |[],_=>⟨rfl,Us _⟩
 |x::l,h=>by obtain⟨a,b⟩:=h x Uq;obtain⟨c,d⟩:=qK f (l:=l) λy e=>h y (Ug _ e);exact⟨by show(Yj (f x)&&XA (l.map f))=true;rw[a,c];rfl,Nat.max_le.mpr ⟨b,d⟩⟩
theorem kR{α:Type}(f:α->D){l:List α}(h:∀x∈l,Yj (f x)=true/\gE (f x)<=20):okN (.l ((l.map f).map Nv.d))=true/\hN (.l ((l.map f).map Nv.d))=1:=by obtain⟨a,b⟩:=qK f h;obtain⟨c,d⟩:=Fj a b;exact⟨by unfold okN;exact c,by unfold hN;rw[d]⟩
theorem vR(h:okG d os)(j:Int)(n:Str):okN (jx os j n)=true/\hN (jx os j n)<=1:=by
 unfold jx
 cases e:eL os n with
 |none=>dsimp only;exact⟨⋯,⋯⟩
 |some o =>
  dsimp only;by_cases c:j=3
  ·rw[TR c];obtain⟨a,b⟩:=kR D.int (l:=o.cs) λ_ _=>⟨rfl,Us _⟩
   exact⟨a,Vt b⟩
  ·rw[TN c];have f:=(h.ok.g o (List.mem_of_find?_eq_some e)).dp;refine⟨?_,by unfold hN;exact Us _⟩;unfold okN;rw[hW,TZ (by rw[i9];lia)];rfl
theorem Ct(h:okG a os)(b:oo a):Y4 (vE a os)=true/\hNs (vE a os)<=3:=by
 obtain⟨d,e⟩:=kR XW (l:=a) λp c=>⟨(b.ls.nl p c).1,T8 (b.ls.nl p c).2 ⋯⟩
 obtain⟨f,g⟩:=kR D.str (l:=KU a os) λ_ _=>⟨rfl,Us _⟩
 obtain⟨c1,c2⟩:=vR h 3 "f";obtain⟨d1,d2⟩:=vR h 4 "f";obtain⟨e1,e2⟩:=vR h 3 "g";obtain⟨i,j⟩:=vR h 4 "g";unfold vE;refine⟨?_,?_⟩
 ·simp only[Y4,d,f,UA,Va];simp only[okN,Y4,c1,d1,e1,i,UA,Va];rfl
 ·simp only[hNs,e,g];simp only[hN,hNs];lia
theorem BD(a:List Pc)(b:eH):Y4 (DY a b)=true/\hNs (DY a b)<=3:=by
 obtain⟨c,d⟩:=kR D.int (l:=b++[0]) λ_ _=>⟨rfl,Us _⟩
 unfold DY;refine⟨?_,?_⟩
 ·simp only[Y4,c,Va];by_cases h:a.length=16
  ·rw[TR h];decide +kernel
  ·rw[TN h];decide +kernel
 ·simp only[hNs,d];simp only[hN];lia
theorem K8:(∀p∈YV,¬ p.nm="zero")/\(∃p∈BP,p.nm="add")/\(∃p∈BP,p.nm="more")/\Cu∈BP:=by refine⟨⋯,⟨_,.tail _ (.tail _ (.tail _ (.head _))),rfl⟩,⟨_,.tail _ (.tail _ (.tail _ (.tail _ (.tail _ (.tail _ (.tail _ (.head _))))))),rfl⟩,.tail _ (.tail _ (.head _))⟩
structure Mm(ps:List Pc)(dn:Str):Prop where
 z:qO ps "zero"=false
 n2:dW (.str dn)=true/\dn.length<=sizeLine
 l2:(gN ps).length<=16
 d2:qO (gN ps) dn=true
 e2:(gN ps).length≠1
 gd:gd2 ((gN ps).filter λp=>!decide (p.nm=dn))
 ar:∃b,cH ((gN ps).filter λp=>!decide (p.nm=dn)) (.arg 0)=some b/\dY ((gN ps).filter λp=>!decide (p.nm=dn)) 8 (.arg 0) b.2=some (([3,0]:eH).map D.int)
theorem Io{a:List Pc}{c:Str}(F:gdS a)(f:a.Sublist YV)(s:8<=a.length)(g:c="add"\/c="more"):Mm a c:=by
 have i:=F.gs.hi;obtain⟨t,u,v,j⟩:=K8
 have sub:(gN a).Sublist (YV++[iG]):=by
  unfold gN;split
  ·exact f.trans (List.sublist_append_left _ _)
  ·exact f.append (Wm _)
 have mem:∀p∈a,p∈gN a:=λp d=>by
  unfold gN;split
  ·exact d
  ·exact Vg _ d
 have q:8<=(gN a).length/\(gN a).length<=16:=by
  unfold gN;split
  ·exact⟨s,i⟩
  ·rw[Tq];show 8<=a.length+1/\a.length+1<=16;lia
 have b:((gN a).filter λp=>!decide (p.nm=c)).Sublist (YV++[iG]):=List.filter_sublist.trans sub;have r:Cu∈(gN a).filter λp=>!decide (p.nm=c):=Wz.mpr ⟨mem _ (F.bp _ j),by rcases g with rfl|rfl<;>decide +kernel⟩;have l:=He b (List.length_pos_of_mem r) (T8 (Vy _ _) q.2);refine⟨?_,?_,q.2,?_,⋯,l,GK b l.ok l.la r⟩
 ·show((a.map (·.nm)).any λm=>decide (m=("zero":Str)))=false;rw[W5];intro m n e;obtain⟨p,d,rfl⟩:=UB.mp n;exact t p (f.subset d) (T4 e)
 ·rcases g with rfl|rfl<;>exact⟨⋯,⋯⟩
 ·show(((gN a).map (·.nm)).any λm=>decide (m=c))=true;obtain⟨p,d,e⟩:∃p∈BP,p.nm=c:=by rcases g with rfl|rfl<;>assumption
  exact List.any_eq_true.mpr ⟨p.nm,List.mem_map_of_mem (mem _ (F.bp _ d)),TZ e⟩
theorem Ig(g:RL K i c H ds)(j:RL K l c H es)(n:XA ds=true)(n2:XA es=true)(d:Xn ds<=20):RE K (Yn (HR K true) i l) c H (.bl (!XO ds es)):=λm s Q q =>
 g m s _ λv p e r=>j p (s.trans e) _ λw C f t=>by obtain⟨a,u,rfl,x,y⟩:=f.ld r;obtain⟨b,z,rfl,A,B⟩:=t;exact⟨a,b,u,z,ds,es,rfl,rfl,x.YC,A.YC,y,B,n,n2,d,q _ _ (e.trans f) (Dat.YE _)⟩
theorem KA{S:SA}(a:Xg K C S b os H)(c:e[i]?=some (some (.ref S.s)):=by rfl):RC K (sW C "pieces" (Cv K C) [] E (cV i) dC) e H (b.map XW):=λl s Q q =>
 ⟨_,c,S.s,S.dx,_,rfl,(a.same s).ins,rfl,S,b,os,rfl,a.same s,λr f g j h n d=>q r f g n j h d⟩
theorem ou(h:NI K b H n v):NI K (λ_=>none) H n v:=NI.mono nX (λ_ _ _ a=>⟨rfl,a⟩) _ h
theorem jV(h:NI K a H n v)(s:Xe H b):NI K a b n v:=NI.mono s.grow (λ_ _ c d=>⟨c,s _ _ d⟩) _ h
theorem E9(h:NI K a H n v)(e:a t≠none)(b:Xv t H c)(g:bW K H c):NI K a c n v:=NI.mono g (λ_ _ d f=>⟨d,b _ _ (λz=>e (z▸d)) f⟩) _ h
theorem zD(s:Xe H a)(n:H r=none):Xe H (upd a r o):=λb u e=>by rw[aI (aK e n)];exact s _ _ e
theorem Cp{S:SA}(e:Xg K C S a os H)(f:YH S H)(ok:okG a os)(b:oo a)(h:NI K p H (.l (vE a os)) v)(g:c[i]?=some (some (.ref S.s)):=by rfl)(j:c[7]?=some (some v):=by rfl):RT (nO (Yn (Kv K true) (f6 (Bp K C) [] E (bM (cV i) dC)) (cV 7))) c H false:=λr s Q q =>
 ⟨_,g,S,a,os,rfl,e.same s,bX f s,ok,λt m d n=>⟨_,j,_,_,ou n,ou (jV (jV h s) d),(Ct ok b).1,(Ct ok b).2,false,rfl,q m d⟩⟩
end
section
variable{K:vc}
theorem Ky(h:d a H λx e=>f a e λy g=>r x y g λv b=>∃k,v=.bl k/\if k=true then t c a b else u c a b):sV (nO (Yn r d f)) t u c a H:=h
def zR(K:vc):Sp:=λb H Q _=>∃(a:Addr)(c:eH),b=[.ref a]/\Scr K H a c/\∀d,Q (.bl true) d
theorem Ke(T:Txt P w K mg)(N9:Xj P w K mg base X5 k T.M6 T.M8 ["self","some"] (Gc K T.Mq))(R6:Ok P w base (k+1) T.O2 (Jb K))(NX:Xj P w K mg base X5 (k+1) T.Nl T.Nm ["self"] (Cv K T.Mq))(ML:Ok P w base (k+1) T.ME (sR K))(OB:Ok P w base (k+1) T.MV (sU K 4))(OW:Xj P w K mg base X5 (k+1) T.Ow T.Ox ["self","name","tree"] (D9 (Bm K T.Mu T.Mq)))(Qj:Xj P w K mg base X5 (k+1) T.OE T.OI ["self"] (Gg K T.Mq))(N3:Ok P w base (k+1) T.MU (Bp K T.Mq))(N1:Ok P w base (k+1) T.MT (Bo K))(Ou:Ok P w base (k+1) T.Nc (zO K T.Mq))(Pb:Xj P w K mg base X5 (k+1) T.N6 T.N7 ["self","name"] (D9 (Bl K T.Mr T.Mq))):Ok P w base (k+1+1) T.R4 (zR K):=by
 refine XR T.R4.f KQ λvs H Q E nd h=>?_;obtain⟨a,ns,rfl,hS,post⟩:=h;refine⟨rfl,λ_ _ _ _ A=>?_⟩;refine'⟨_,?ybody,?yread⟩
 case' ybody=>refine' aC ?a ?b
 case a=>exact(zs 1 nd (bZ (z3 aE aE aE)))
 case' b=>refine' aC ?c ?d
 case c=>exact(zs 2 nd (pc (D:=T.O2) R6 A (z2 (pv 0) (pv 1))))
 case' d=>refine' aC ?e ?f
 case e=>exact(dQ (aX (z2 (xj T.mk_Shop N9 A rfl T.SJ (jy T) .nil fE (z1 (pv 2))) (bR eP rfl T.Oe fW (z1 (pv 2))))) (dP rfl (aP (zg 3 nd) (aP (zg 4 nd) cD))) (by rfl) (by kernel_rfl))
 case' f=>refine' aC ?g ?h
 case g=>exact(bO (eB Vn VG VH b8 (pv 2) (z1 gM)))
 case' h=>refine' aC ?i ?j
 case' i=>refine' bJ ?k ?l ?m
 case k=>exact(zt (Ki A) (hZ (pv 3) T.Xh T.Yc NX A (jq T) .nil fE) (pv 4))
 case' l=>refine' aR ?n
 case n=>exact(jX dN)
 case m=>exact aO
 case' j=>refine' aC ?o ?p
 case o=>exact(gZ Ux rfl (iV (aX (z2 aN aN))) (zg 5 nd) (aR (bJ (zt rD (pc (D:=T.ME) ML A (z3 (pv 0) (pv 1) aE)) aE) (aR (bO (gL (pv 3) T.Xh T.YF OW A (mq T) .nil fE (z2 (pv 5) (pc (D:=T.MV) OB A (z3 (pv 0) (pv 1) aE)))))) aO)))
 case' p=>refine' aC ?q ?r
 case q=>exact(dQ (aX (z2 (hZ (pv 3) T.Xh T.Zc Qj A (oY T) .nil fE) (pc (D:=T.MU) N3 A (z1 (pv 3))))) (dP rfl (aP (zg 6 nd) (aP (zg 7 nd) cD))) (by rfl) (by kernel_rfl))
 case' r=>refine' aC ?s ?t
 case' s=>refine' bJ ?u ?v ?w
 case u=>exact(zt (AV A) (pc (D:=T.MU) N3 A (z1 (pv 6))) (pv 7))
 case' v=>refine' aR ?x
 case x=>exact(jX dN)
 case w=>exact aO
 case' t=>refine' aC ?y ?z
 case y=>exact(bO (eB Vn VG VH b8 (hZ (pv 3) T.Xh T.Yc NX A (jq T) .nil fE) (z1 gM)))
 case' z=>refine' aC ?aa ?ab
 case aa=>exact(zs 8 nd (pc (D:=T.MV) OB A (z3 (pv 0) (pv 1) aE)))
 case' ab=>refine' aC ?ac ?ad
 case ac=>exact(bO (eB Vn VG VH b8 (gL (hZ (pv 3) T.Xh T.Zc Qj A (oY T) .nil fE) T.Xh T.YF OW A (mq T) .nil fE (z2 aN (pv 8))) (z1 aE)))
 case' ad=>refine' aC ?ae ?af
 case' ae=>refine' rG (i:=9) ?ag ?ah ?ai ?aj
 case ag=>exact nd
 case ah=>exact rfl
 case ai=>exact Or.inl rfl
 case' aj=>refine' aX ?ak
 case' ak=>refine' aU ?al ?am
 case al=>exact aN
 case' am=>refine' aU ?an ?ao
 case an=>exact(aX (z2 aN aE))
 case' ao=>refine' aU ?ap ?aq
 case ap=>exact(aX (z2 aE aE))
 case aq=>exact aQ
 case' af=>refine' aC ?ar ?au
 case' ar=>refine' rG (i:=10) ?av ?aw ?ax ?ay
 case av=>exact nd
 case aw=>exact rfl
 case ax=>exact Or.inl rfl
 case' ay=>refine' bZ ?az
 case' az=>refine' aU ?ba ?bb
 case' ba=>refine' aX ?bc
 case' bc=>refine' aU ?bd ?be
 case bd=>exact aE
 case' be=>refine' aU ?bf ?bg
 case bf=>exact(pc (D:=T.MT) N1 A (z3 (pv 0) (pv 1) (bZ (z2 aN aN))))
 case' bg=>refine' aU ?bh ?bi
 case bh=>exact(pv 8)
 case bi=>exact aQ
 case' bb=>refine' aU ?bj ?bk
 case bj=>exact(aX (z3 aE (pv 9) gM))
 case bk=>exact aQ
 case' au=>refine' aC ?bl ?bm
 case' bl=>refine' bO ?bn
 case' bn=>refine' eB ?bo ?bp ?bq ?br ?bs ?bt
 case bo=>exact Vn
 case bp=>exact PySem.F.slot_list_extend
 case bq=>exact PySem.F.type_list_extend
 case br=>exact fZ
 case bs=>exact(pv 10)
 case' bt=>refine' aU ?bu ?bv
 case' bu=>refine' bZ ?bw
 case' bw=>refine' aU ?bx ?bz
 case' bx=>refine' aX ?ca
 case' ca=>refine' aU ?cb ?cc
 case cb=>exact aE
 case' cc=>refine' aU ?cd ?ce
 case cd=>exact(pc (D:=T.MT) N1 A (z3 (pv 0) (pv 1) (bZ (z2 aN aN))))
 case' ce=>refine' aU ?cf ?cg
 case cf=>exact gM
 case cg=>exact aQ
 case bz=>exact aQ
 case bv=>exact aQ
 case' bm=>refine' aC ?ch ?ci
 case ch=>exact(iW (i:=11) (own:=["_law_what","_law_one","_law_other"]) (fr:=[6]) (N':=["_law_what","_law_one","_law_other","_law_twin"]) (cI (pv 10)) rfl (by show eV ["_law_script","_law_town","_law_some","_law_shop","_law_kept","_law_name","_law_twin","_law_before","_law_tree_here","_law_piece","_law_deeds","_law_answers","_law_told_code"] (λx=>(aG Cs).names.lookup x) _ _ _ _=true;decide +kernel) rfl (λ_ _ _ _ _=>(qh (K:=K) (n:=3) rfl rfl (aP (cF (i:=0) (by show List.Nodup [("_law_what":Str),("_law_one":Str),("_law_other":Str),("_law_twin":Str)];decide +kernel) rfl (Or.inl rfl)) (aP (cF (i:=1) (by show List.Nodup [("_law_what":Str),("_law_one":Str),("_law_other":Str),("_law_twin":Str)];decide +kernel) rfl (Or.inl rfl)) (aP (cF (i:=2) (by show List.Nodup [("_law_what":Str),("_law_one":Str),("_law_other":Str),("_law_twin":Str)];decide +kernel) rfl (Or.inl rfl)) cD))))) (λ_ _ _ _ _=>fF) (λ_ _ _ _ _=>(pc (D:=T.Nc) Ou A (aU (pv 3) (aU (pv 0) (aU (pv 1) (aU (pv 2) aQ)))))) nd rfl rfl rfl)
 case' ci=>refine' aC ?cj ?ck
 case' cj=>refine' bJ ?cl ?cm ?cn
 case cl=>exact(zt (AV A) (pc (D:=T.MU) N3 A (z1 (pv 3))) (pv 7))
 case' cm=>refine' aR ?co
 case co=>exact(jX dN)
 case cn=>exact aO
 case' ck=>refine' aC ?cp ?cq
 case' cp=>refine' bJ ?cr ?cs ?ct
 case cr=>exact(zt (AV A) (iJ (own:=["_law_what","_law_one","_law_other"]) (fr:=[3]) (N':=["_law_what","_law_one","_law_other","_law_shop"]) (cI (pv 10)) rfl (by show eV ["_law_script","_law_town","_law_some","_law_shop","_law_kept","_law_name","_law_twin","_law_before","_law_tree_here","_law_piece","_law_deeds","_law_answers","_law_told_code"] (λx=>(aG Cs).names.lookup x) _ _ _ _=true;decide +kernel) rfl (λ_ _ _ _ _=>(qh (K:=K) (n:=3) rfl rfl (aP (cF (i:=0) (by show List.Nodup [("_law_what":Str),("_law_one":Str),("_law_other":Str),("_law_shop":Str)];decide +kernel) rfl (Or.inl rfl)) (aP (cF (i:=1) (by show List.Nodup [("_law_what":Str),("_law_one":Str),("_law_other":Str),("_law_shop":Str)];decide +kernel) rfl (Or.inl rfl)) (aP (cF (i:=2) (by show List.Nodup [("_law_what":Str),("_law_one":Str),("_law_other":Str),("_law_shop":Str)];decide +kernel) rfl (Or.inl rfl)) cD))))) (λ_ _ _ _ _=>fF) (λ_ _ _ _ _=>(pc (D:=T.Nc) Ou A (aU (pv 3) (aU (pv 0) (aU (pv 1) (aU (pv 2) aQ))))))) (pv 11))
 case' cs=>refine' aR ?cu
 case cu=>exact(jX dN)
 case ct=>exact aO
 case' cq=>refine' aC ?cv ?cw
 case cv=>exact(zs 12 nd (pc (D:=T.Nc) Ou A (aU (pv 3) (aU aE (aU aN (aU (aX (z2 aN aE)) aQ))))))
 case' cw=>refine' aC ?cx ?cy
 case cx=>exact(bO (eB Vn VG VH b8 (pv 12) (z1 aE)))
 case' cy=>refine' aR ?cz
 case cz=>exact(jX (jt (dM (xc A) (gL (pv 3) T.Xh T.Zb Pb A (oX T) .nil fE (z1 aN)) (bZ (z3 aE aE aE)) (fC _)) (iU (dM (Kg A) (a6 cX (pc (D:=T.MU) N3 A (z1 (pv 3))) aE) (a6 cX (pc (D:=T.MU) N3 A (z1 (pv 6))) aE) (fC _)))))
 show let XH:=_;let XT:=bA _ XH;let Yt:=bA _ XT;let YG:=bA _ Yt;let ZX:=bA _ YG;let z_6:=bA _ ZX;let z_7:=bA _ z_6;let z_8:=bA _ z_7;let z_9:=bA _ z_8;let z_10:=bA _ z_9;let z_11:=bA _ z_10;let z_12:=bA _ z_11;let z_13:=bA _ z_12;let z_14:=bA _ z_13;let z_15:=_;let z_16:=bA (Gm _ _ z_15) z_14;let z_17:=bA _ z_16;let z_18:=bA _ z_17;let z_19:=bA _ z_18;let z_20:=bA _ z_19;bA _ z_20 _ _ _;intro XH XT Yt YG ZX z_6 z_7 z_8 z_9 z_10 z_11 z_12 z_13 z_14 z_15 z_16 z_17 z_18 z_19 z_20;refine dS ⟨cA ⋯,λt ht=>?_⟩;have hS1:=hS.same (aH ht (.lst [.int 0,.int 0,.int 12]));have t1:upd H t (.lst [.int 0,.int 0,.int 12]) t=some (.lst [.int 0,.int 0,.int 12]):=aD;generalize upd H t (.lst [.int 0,.int 0,.int 12])=H1 at hS1 t1;refine dS ⟨_,rfl,_,rfl,a,t,ns,0,0,[.int 12],rfl,hS1,t1,⋯,λsub l ys H2 p2 q2 b2 t2 g2 hsub hl hy dy=>?_⟩;have hS2:=hS1.but b2 t1;have nlt:l≠t:=λz=>by rw[z,t1]at hl;cases hl
 have hps:(BP++sub).Sublist YV:=(Wm BP).append hsub;have l8:8<=(BP++sub).length:=by rw[Tq];show 8<=8+sub.length;lia
 have F:=Hf hsub;generalize BP++sub=ps at hps dy F l8;clear hS1 t1 b2 hsub hl ht;have fl:=F.la.ls.nl;obtain⟨f1,f2⟩:=qK XW (l:=ps) λp hp=>⟨(fl p hp).1,T8 (fl p hp).2 ⋯⟩
 refine cQ ?_;refine⟨_,rfl,λx dx nx ndx hne=>?_⟩;have s3:Xe H2 (upd (upd H2 dx (.own x)) x (.ins T.Mq dx [])):=(aH ndx _).trans (aH (by rw[aI (Tt hne)];exact nx) _);refine⟨x,dx,.ref l,ps,rfl,aD,s3.ld (LD.of hy dy),F.gs,λS H4 e1 e2 b4 g4 nlr nod Z7 op4=>⟨rfl,?_⟩⟩;subst e1;have s4:Xe H2 H4:=λb o e=>b4 b o (λz=>by rw[z,nx]at e;cases e) (s3 _ _ e);have nlr2:=s3.free nlr;have nod2:=s3.free nod;have nlS:Nin l S:=lH hy nx nlr2 nod2;have U:Nin t S:=lH t2 nx nlr2 nod2;refine⟨_,rfl,l,ys,rfl,.inl (Xm.of (s4 _ _ hy)),λlk hk=>?_⟩;refine⟨cA (show 2<=1000 by decide),λtp htp=>?_⟩;refine⟨tp,_,rfl,XG.of aD,rfl,_,_,rfl,_,_,rfl,rfl,?_⟩;have s6:Xe H4 (upd (upd H4 lk (.lst ys)) tp (.tup [.ref S.s,.ref lk])):=(aH hk _).trans (aH htp _);have hk6:upd (upd H4 lk (.lst ys)) tp (.tup [.ref S.s,.ref lk]) lk=some (.lst ys):=(aH htp _) _ _ aD;have nkl:lk≠l:=λz=>by rw[z,s4 _ _ hy]at hk;cases hk
 generalize upd (upd H4 lk (.lst ys)) tp (.tup [.ref S.s,.ref lk])=H6 at s6 hk6;have s26:=s4.trans s6;have hy6:=s26 _ _ hy;have ly:=dy.length;rw[To]at ly;have l16:=F.gs.hi;have sh6:=Z7.same s6;have op6:=bX op4 s6;dsimp only;refine fJ ?_;refine⟨_,rfl,.inl ⟨rfl,_,Xm.of hy6⟩,l,ys,.Xi,rfl,rfl,hy6,bP ⋯,?_⟩;have b7:Xv l H6 (upd H6 l (.lst (ys++[.Xi]))):=Xv.upd (Xe.refl H6).but;have g7:bW K H6 (upd H6 l (.lst (ys++[.Xi]))):=b7.grow hy6 aD;generalize upd H6 l (.lst (ys++[.Xi]))=H7 at b7 g7;have sh7:=sh6.frame b7 g7 (Tt nlS.1) (Tt nlS.2.1) (Tt nlS.2.2);have op7:YH S H7:=⟨_,b7 _ _ (Tt nlS.2.2) op6.choose_spec⟩
 have hS7:=(hS2.same s26).but b7 hy6;have t7:=b7 _ _ (Tt nlt) (s26 _ _ t2);have k7:=LD.of (b7 _ _ nkl hk6) (Xd.mono g7 _ (s26.Xo dy));clear b7 g7 hk6 hy6 sh6 op6 s26 s6 nkl hk htp s4 nlr nod b4 g4 Z7 op4 s3 hne ndx nlr2 nod2 hy dy t2 hS2;refine aS (K:=K) (b:=false) (RT.as (aM (Ig (ds:=ps.map XW) (es:=ps.map XW) (iZ (KA (i:=3) sh7)) (bI (k:=4) k7) f1 f1 f2)) (by rw[Zh _ f1];rfl)) (λc=>nomatch c) (λ_ H8 s8=>?_);have sh8:=sh7.same s8;have op8:=bX op7 s8;have hS8:=hS7.same s8;have t8:=s8 _ _ t7;clear s8 sh7 op7 hS7 t7 k7;refine cQ ?_;refine⟨cA (show 2<=1000 by decide),λtp2 htp2=>⟨tp2,rfl,⟨_,XG.of aD⟩,wm (xs:=[.str "f",.str "g"]) (λi σ G=>∃(z5:Option V)(os:List Od)(p q c:Int),σ=[some (.ref a),some (.ref t),some (.ref l),some (.ref S.s),some (.ref lk),z5,none,none,none,none,none,none,none]/\Scr K G a ns/\G t=some (.lst [.int p,.int q,.int c])/\0<=p/\0<=c/\c<=12/\Xg K T.Mq S ps os G/\YH S G/\okG ps os/\XG K G tp2 [.str "f",.str "g"]) ?_ (λi σ G _ h=>?_) (λi x σ G M h=>?_) (λσ G h=>?_)⟩⟩
 ·have s9:=aH htp2 (.tup [.str "f",.str "g"]);exact⟨none,[],p2,q2,12,rfl,hS8.same s9,s9 _ _ t8,g2,⋯,⋯,sh8.same s9,bX op8 s9,(rh (os:=[]) (λo ho=>by cases ho) List.nodup_nil λo ho=>by cases ho).1,XG.of aD⟩
 ·obtain⟨_,_,_,_,_,_,_,_,_,_,_,_,_,_,h⟩:=h;exact h
 ·obtain⟨z5,os,p,q,c,rfl,hSG,tG,gp,gc,gd,shG,opG,J,hq⟩:=h
  obtain⟨nm,rfl,hnm⟩:∃nm:Str,x=.str nm/\(nm="f"\/nm="g"):=by
   match i,M with
   |0,M=>cases M;exact⟨_,rfl,.inl rfl⟩
   |1,M=>cases M;exact⟨_,rfl,.inr rfl⟩
   |i+2,M=>simp at M
  obtain⟨nk,nl⟩:=mR hnm;refine iK ?_;dsimp only;refine⟨_,rfl,_,rfl,a,t,ns,4,p,q,[.int c],rfl,hSG,tG,gp,⋯,⋯,λr H9 p9 q9 b9 t9 g9 r0 r1=>⟨r,0,rfl,rfl,_,rfl,?_⟩⟩;have gr9:bW K G H9:=b9.grow tG t9;have L:=shG.frame b9 gr9 (Tt U.1) (Tt U.2.1) (Tt U.2.2);have op9:YH S H9:=⟨_,b9 _ _ (Tt U.2.2) opG.choose_spec⟩
  have hS9:=hSG.but b9 tG;have hq9:=gr9.tup _ _ hq;by_cases hr0:0<r
  ·rw[TZ hr0];refine mU ?_;refine⟨_,rfl,S.s,S.dx,_,rfl,L.ins,rfl,_,rfl,_,rfl,_,rfl,a,t,ns,4,p9,q9,c,rfl,hS9,t9,g9,gc,⋯,⋯,⋯,λv H10 X p10 q10 c10 b10 t10 g10 gc10 gd10 okX dpX szX dX=>?_⟩;have gr10:bW K H9 H10:=b10.grow t9 t10;have sh10:=L.frame b10 gr10 (Tt U.1) (Tt U.2.1) (Tt U.2.2);have op10:YH S H10:=⟨_,b10 _ _ (Tt U.2.2) op9.choose_spec⟩
   have gi:gT ps X:=⟨F.ok,F.gs,okX,⋯,⋯⟩
   obtain⟨b,cs,hb,hl⟩:=yI F okX gi.dp;have lo:=(rh J.fg J.ok.nd J.ok.g).2;refine⟨S,_,v,ps,os,nm,X,rfl,sh10,Dat.XN nm,nk,nl,dX,gi,F.la,⋯,op10,λb' cs' hb' hl' r11 us H11 b11 g11 n11 h11 d11 sh11 op11=>?_,λe=>by rw[hb]at e;cases e⟩;exact⟨_,_,p10,q10,c10,rfl,LR (hS9.but b10 t9) sh10 op10 (Ak b11),Ak b11 _ _ U t10,g10,gc10,⋯,sh11,op11,(wG J hnm gi).1,g11.tup _ _ (gr10.tup _ _ hq9)⟩
  ·rw[TU hr0];refine nZ (j5 ?_);exact⟨_,os,p9,q9,c,rfl,hS9,t9,g9,gc,gd,L,op9,J,hq9⟩
 obtain⟨z5,os,p,q,c,rfl,hS9,t9,gp,gc,gd,L,op9,J,_⟩:=h;clear hS8 t8 sh8 op8 htp2;dsimp only;refine cQ ?_;refine⟨_,rfl,S.s,S.dx,_,rfl,L.ins,rfl,S,ps,os,rfl,L,F.gs,λY B sB n1 n2 n3 sT opT=>?_⟩;have shB:=L.same sB;have opB:=bX op9 sB;have i1:Nin Y.s S/\Nin Y.lr S/\Nin Y.od S:=⟨L.al.nin n1,L.al.nin n2,L.al.nin n3⟩
 have i2:Nin S.s Y/\Nin S.lr Y/\Nin S.od Y:=⟨lH L.ins n1 n2 n3,lH L.rd.choose_spec.1 n1 n2 n3,lH op9.choose_spec n1 n2 n3⟩
 have N:Nin t Y:=lH t9 n1 n2 n3;have tB:=sB _ _ t9;have alT:B t≠none:=λz=>by rw[z]at tB;cases tB
 have al1:=shB.al;have al2:=sT.al;refine⟨_,rfl,S,ps,os,rfl,shB,opB,J,λvb H11 s11 q11=>?_⟩;refine⟨cA (show 2<=1000 by decide),λtp3 htp3=>?_⟩;refine⟨tp3,_,rfl,XG.of aD,rfl,_,_,rfl,_,_,rfl,rfl,?_⟩;have s12:=s11.trans (aH htp3 (.tup [.ref Y.s,vb]));have q12:=jV q11 (aH htp3 (.tup [.ref Y.s,vb]));generalize upd H11 tp3 (.tup [.ref Y.s,vb])=H12 at s12 q12;have hS12:=(hS9.same sB).same s12;have t12:=s12 _ _ tB;have sh12:=shB.same s12;have op12:=bX opB s12;have sT12:=sT.same s12;have oT12:=bX opT s12;clear s12 q11 s11 htp3 tB shB opB sT opT sB hS9 t9 L op9 n1 n2 n3;refine aS (K:=K) (b:=false) (Cp (i:=6) sT12 oT12 J F.la q12) (λc=>nomatch c) (λ_ H13 XF=>?_);have sh13:=sh12.same XF;refine fJ ?_;refine⟨_,rfl,S.s,S.dx,_,rfl,sh13.ins,rfl,S,ps,os,rfl,sh13,λr14 u14 H14 X3 h14 n14 d14=>⟨.inl ⟨rfl,_,Xm.of h14⟩,r14,u14,.Xi,rfl,rfl,h14,bP (by have:=d14.length;rw[To]at this;lia),?_⟩⟩;have Zx:=XF.trans (zD (o:=.lst (u14++[.Xi])) X3 n14);generalize upd H14 r14 (.lst (u14++[.Xi]))=H15 at Zx;clear d14 h14 X3 n14 sh13 XF;refine dS ⟨_,rfl,_,rfl,a,t,ns,4,p,q,c,rfl,hS12.same Zx,Zx _ _ t12,gp,gc,⋯,⋯,⋯,λvX H16 X p16 q16 c16 b16 t16 g16 gc16 gd16 okX dpX szX dX=>?_⟩;have gr16:bW K H15 H16:=b16.grow (Zx _ _ t12) t16;have hS16:=(hS12.same Zx).but b16 (Zx _ _ t12);have sh16:=(sh12.same Zx).frame b16 gr16 (Tt U.1) (Tt U.2.1) (Tt U.2.2);have sT16:=(sT12.same Zx).frame b16 gr16 (Tt N.1) (Tt N.2.1) (Tt N.2.2);have op16:YH S H16:=⟨_,b16 _ _ (Tt U.2.2) (bX op12 Zx).choose_spec⟩
 have oT16:YH Y H16:=⟨_,b16 _ _ (Tt N.2.2) (bX oT12 Zx).choose_spec⟩
 have q16':=E9 (jV q12 Zx) alT b16 gr16;have gi:gT ps X:=⟨F.ok,F.gs,okX,⋯,⋯⟩
 obtain⟨b,cs,hb,hl⟩:=yI F okX gi.dp
 have lcs:cs.length<=480:=by have:=iR F.ok.ok 8 X b.2 _ hl;rw[To]at this;have:=gi.sz;lia
 have lo:=(rh J.fg J.ok.nd J.ok.g).2;clear gr16 b16 Zx t12 hS12 sh12 op12 sT12 oT12 q12 dpX szX;refine fJ ?_;refine⟨_,rfl,S.s,S.dx,_,rfl,sh16.ins,rfl,S,ps,os,rfl,sh16,F.gs,λS3 Ha sa m1 m2 m3 sh3 op3=>⟨S3.s,S3.dx,_,rfl,sh3.ins,rfl,_,rfl,S3,_,vX,ps,os,"f",X,rfl,sh3,Dat.XN _,(mR (.inl rfl)).1,(mR (.inl rfl)).2,sa.dat dX,gi,F.la,⋯,op3,λb' cs' hb' hl' r us Hb bb gb nr A dr _ _=>⟨.inl ⟨rfl,_,Xm.of A⟩,r,us,.int 0,rfl,rfl,A,bP ?_,?_⟩,λe=>by rw[hb]at e;cases e⟩⟩
 ·rw[hb]at hb';cases hb';rw[hl]at hl';have e1:=Up (λo:Option (List D)=>(o.getD []).length) hl';have e2:=dr.length;simp at e1 e2;lia
 have s17:Xe H16 (upd Hb r (.lst (us++[.int 0]))):=zD (λx o e=>bb _ _ (aK e m3) (sa _ _ e)) (sa.free nr);generalize upd Hb r (.lst (us++[.int 0]))=H17 at s17;clear A dr gb bb nr hb' hl' sh3 op3 m1 m2 m3 sa;refine cY (K:=K) (d:=XW iG) (a9 (aA aY (aA (a9 (aA aY (aA aF aJ))) (aA (a9 (aA aF (aA aF aJ))) aJ)))) λvz H18 s18 dz=>?_;have Z8:=s17.trans s18;have hS18:=hS16.same Z8;have t18:=Z8 _ _ t16;have sh18:=sh16.same Z8;have sT18:=sT16.same Z8;have op18:=bX op16 Z8;have oT18:=bX oT16 Z8;have q18:=jV q16' Z8;have dX18:=Z8.dat dX;clear Z8 s18 s17 hS16 t16 sh16 sT16 op16 oT16 q16' dX;refine dS ⟨_,rfl,_,rfl,cA (show 2<=1000 by decide),λl1 hl1=>⟨a,t,l1,ns,[.str "f",.str "g"],p16,q16,[.int c16],rfl,hS18.same (aH hl1 _),Xm.of aD,(λz=>by rw[z,t18]at hl1;cases hl1),⋯,⋯,(aH hl1 _) _ _ t18,g16,λi1' x H19 p19 q19 b19 t19 g19 M=>?_⟩⟩
 obtain⟨nm,rfl,hnm⟩:∃nm:Str,x=.str nm/\(nm="f"\/nm="g"):=by
  match i1',M with
  |0,M=>cases M;exact⟨_,rfl,.inl rfl⟩
  |1,M=>cases M;exact⟨_,rfl,.inr rfl⟩
  |i+2,M=>simp at M
 have bt:Xv t H18 H19:=(aH hl1 _).but.trans b19;have gt:bW K H18 H19:=eJ (aH hl1 (.lst [.str "f",.str "g"])).grow (b19.grow ((aH hl1 _) _ _ t18) t19);refine⟨_,rfl,cA (show 3<=1000 by decide),λC h4=>⟨_,rfl,cA (show 3<=1000 by decide),λI h5=>⟨cA (show 2<=1000 by decide),λld hld=>?_⟩⟩⟩;have hS19:=hS18.but bt t18;have sh19:=sh18.frame bt gt (Tt U.1) (Tt U.2.1) (Tt U.2.2);have sT19:=sT18.frame bt gt (Tt N.1) (Tt N.2.1) (Tt N.2.2);have op19:YH S H19:=⟨_,bt _ _ (Tt U.2.2) op18.choose_spec⟩
 have oT19:YH Y H19:=⟨_,bt _ _ (Tt N.2.2) oT18.choose_spec⟩
 have q19':=E9 q18 alT bt gt;have dX19:=Dat.mono gt _ dX18;have dz19:=Dat.mono gt _ dz;have k4:Xe H19 (upd H19 C (.tup [.int 2,.str nm,vX])):=aH h4 _;have e4:Dat K (upd H19 C (.tup [.int 2,.str nm,vX])) (.tup [.int 2,.str nm,toD X]) (.ref C):=Dat.tupI (XG.of aD) (Xd.cons (Dat.Xs _) (Xd.cons (Dat.XN _) (Xd.cons (k4.dat dX19) Xd.nil)));generalize upd H19 C (.tup [.int 2,.str nm,vX])=H20 at k4 e4 h5 hld;have k5:Xe H20 (upd H20 I (.tup [.int 0,vz,.Xi])):=aH h5 _;have e5:Dat K (upd H20 I (.tup [.int 0,vz,.Xi])) (.tup [.int 0,XW iG,.Xi]) (.ref I):=Dat.tupI (XG.of aD) (Xd.cons (Dat.Xs _) (Xd.cons ((k4.trans k5).dat dz19) (Xd.cons Dat.Zt Xd.nil)));generalize upd H20 I (.tup [.int 0,vz,.Xi])=H21 at k5 e5 hld;have k6:Xe H21 (upd H21 ld (.lst [.ref C,.ref I])):=aH hld _;have hd22:upd H21 ld (.lst [.ref C,.ref I]) ld=some (.lst [.ref C,.ref I]):=aD;have s22:=k4.trans (k5.trans k6);have d22:=Xd.cons ((k5.trans k6).dat e4) (Xd.cons (k6.dat e5) Xd.nil);have nld:H19 ld=none:=(k4.trans k5).free hld;have ldS:=sh19.al.nin nld;have ldT:=sT19.al.nin nld;generalize upd H21 ld (.lst [.ref C,.ref I])=H22 at k6 hd22 s22 d22;have hS22:=hS19.same s22;have t22:=s22 _ _ t19;have nlt2:ld≠t:=λz=>by rw[z,t19]at nld;cases nld
 have sh22:=sh19.same s22;have sT22:=sT19.same s22;have op22:=bX op19 s22;have oT22:=bX oT19 s22;clear k4 k5 k6 e4 e5 h4 h5 hld hS19 t19 sh19 sT19 op19 oT19 dX19 dz19 bt gt b19 M hS18 t18 sh18 sT18 op18 oT18 q18 dX18 dz hl1;dsimp only;refine fJ ?_;refine⟨_,rfl,.inl ⟨rfl,_,Xm.of hd22⟩,_,rfl,_,rfl,cA (show 2<=1000 by decide),λl2 hl2=>⟨a,t,l2,ns,[.str "add",.str "more"],p19,q19,[.int c16],rfl,hS22.same (aH hl2 _),Xm.of aD,(λz=>by rw[z,t22]at hl2;cases hl2),⋯,⋯,(aH hl2 _) _ _ t22,g19,λi2' x H23 p23 q23 b23 t23 g23 M=>?_⟩⟩
 obtain⟨dn,rfl,hdn⟩:∃dn:Str,x=.str dn/\(dn="add"\/dn="more"):=by
  match i2',M with
  |0,M=>cases M;exact⟨_,rfl,.inl rfl⟩
  |1,M=>cases M;exact⟨_,rfl,.inr rfl⟩
  |i+2,M=>simp at M
 have bt3:Xv t H22 H23:=(aH hl2 _).but.trans b23;have gt3:bW K H22 H23:=eJ (aH hl2 (.lst [.str "add",.str "more"])).grow (b23.grow ((aH hl2 _) _ _ t22) t23);have sh23:=sh22.frame bt3 gt3 (Tt U.1) (Tt U.2.1) (Tt U.2.2);have sT23:=sT22.frame bt3 gt3 (Tt N.1) (Tt N.2.1) (Tt N.2.2);have op23:YH S H23:=⟨_,bt3 _ _ (Tt U.2.2) op22.choose_spec⟩
 have oT23:YH Y H23:=⟨_,bt3 _ _ (Tt N.2.2) oT22.choose_spec⟩
 have d23:=Xd.mono gt3 _ d22;have hd23:=bt3 _ _ nlt2 hd22;clear b23 M hS22 t22 sh22 sT22 op22 oT22 d22 hd22 hl2 t23 g23;refine⟨cA (show 3<=1000 by decide),λO h6=>⟨cA (show 1<=1000 by decide),λl3 hl3=>⟨ld,l3,[.ref C,.ref I],_,rfl,rfl,?_,aD,cA (show 3<=1000 by decide),?_⟩⟩⟩
 ·exact(aH hl3 _) _ _ ((aH h6 _) _ _ hd23)
 have k6:Xe H23 (upd H23 O (.tup [.int 1,.str dn,.Xi])):=aH h6 _;have e6:Dat K (upd H23 O (.tup [.int 1,.str dn,.Xi])) (.tup [.int 1,.str dn,.Xi]) (.ref O):=Dat.tupI (XG.of aD) (Xd.cons (Dat.Xs _) (Xd.cons (Dat.XN _) (Xd.cons Dat.Zt Xd.nil)));generalize upd H23 O (.tup [.int 1,.str dn,.Xi])=H24 at k6 e6 hl3;have k7:Xe H24 (upd H24 l3 (.lst [.ref O])):=aH hl3 _;generalize upd H24 l3 (.lst [.ref O])=H25 at k7;have s25:=k6.trans k7;have hd25:=s25 _ _ hd23;have b26:Xv ld H25 (upd H25 ld (.lst ([.ref C,.ref I]++[.ref O]))):=Xv.upd (Xe.refl H25).but;have g26:bW K H25 (upd H25 ld (.lst ([.ref C,.ref I]++[.ref O]))):=b26.grow hd25 aD;have hd26:upd H25 ld (.lst ([.ref C,.ref I]++[.ref O])) ld=some (.lst ([.ref C,.ref I]++[.ref O])):=aD;have d26:=Xd.append (Xd.mono g26 _ (s25.Xo d23)) (Xd.cons (Dat.mono g26 _ (k7.dat e6)) Xd.nil);generalize upd H25 ld (.lst ([.ref C,.ref I]++[.ref O]))=H26 at b26 g26 hd26 d26;have sh26:=(sh23.same s25).frame b26 g26 (Tt ldS.1) (Tt ldS.2.1) (Tt ldS.2.2);have sT26:=(sT23.same s25).frame b26 g26 (Tt ldT.1) (Tt ldT.2.1) (Tt ldT.2.2);have op26:YH S H26:=⟨_,b26 _ _ (Tt ldS.2.2) (bX op23 s25).choose_spec⟩
 have oT26:YH Y H26:=⟨_,b26 _ _ (Tt ldT.2.2) (bX oT23 s25).choose_spec⟩
 have q26:NI K B H26 (.l (vE ps os)) vb:=NI.mono (eJ s22.grow (eJ gt3 (eJ s25.grow g26))) (λx vs k1 k2=>⟨k1,b26 _ _ (aK k2 nld) (s25 _ _ (bt3 _ _ (λz=>alT (z▸k1)) (s22 _ _ k2)))⟩) _ q19';clear b26 g26 s25 k6 k7 e6 hd25 d23 hd23 sh23 sT23 op23 oT23 bt3 gt3 q19' s22 nld h6 hl3;obtain⟨z3,zn,zl,zd,ze,zg,barg,za,zb⟩:=Io F hps l8 hdn;have O3:ok3 ps os nm dn X b cs:=⟨mR hnm,gi,F.la,⋯,hb,hl,z3,zn,zl,zd,ze⟩
 obtain⟨okP,loP⟩:=wG (cs:=cs++[0]) J hnm gi;have ok2:=Hx okP zg;dsimp only;refine dS (do3 (K:=K) (S:=Y) rfl rfl hd26 ldT d26 sT26 oT26 O3 λr27 lr H27 b27 g27 n27 sT27 oT27 q27=>?_);have sh27:=sh26.frameS b27 g27 i2.1 i2.2.1 i2.2.2;have op27:YH S H27:=⟨_,b27 _ _ i2.2.2 op26.choose_spec⟩
 have qb27:=Lv q26 al2 b27 g27;have hd27:=b27 _ _ ldT hd26;have d27:=Xd.mono g27 _ d26;have nlr27:lr≠S.s/\lr≠S.lr/\lr≠S.od:=sh26.al.nin n27;have al26:=sh26.al;clear b27 g27 hd26 d26 sT26 oT26 op26 q26;refine aS (K:=K) (b:=false) (Cp (i:=3) sh27 op27 J F.la qb27) (λc=>nomatch c) (λ_ H28 s28=>?_);have sh28:=sh27.same s28;have sT28:=sT27.same s28;have op28:=bX op27 s28;have oT28:=bX oT27 s28;have q28:=jV q27 s28;have hd28:=s28 _ _ hd27;have d28:=s28.Xo d27;clear s28 sh27 sT27 op27 oT27 q27 hd27 d27 qb27 sh26;refine cQ (Ky ?_);refine do3 (K:=K) (S:=S) (by rfl) (by rfl) hd28 ldS d28 sh28 op28 O3 λr29 lr2 H29 b29 g29 n29 sh29 op29 q29=>?_;refine⟨_,rfl,_,_,ou q29,ou (Lv q28 al26 b29 g29),(BD ps cs).1,(BD ps cs).2,false,rfl,nZ (j5 ?_)⟩;have sT29:Xg K T.Mq {Y with lr:=lr} ((gN ps).filter λp=>!decide (p.nm=dn)) (jE os ⟨nm,X,cs++[0]⟩) H29:=sT28.frameS b29 g29 i1.1 nlr27 i1.2.2;have oT29:YH Y H29:=⟨_,b29 _ _ i1.2.2 oT28.choose_spec⟩
 generalize hQ:((gN ps).filter λp=>!decide (p.nm=dn))=qs at *;clear b29 g29 sh28 sT28 op28 oT28 q28 q29 hd28 d28;dsimp only;refine dS ⟨_,rfl,cA (show 2<=1000 by decide),λtp7 h7=>?_⟩;have s30:=aH h7 (.tup [.str "arg",.int 0]);have d30:Dat K (upd H29 tp7 (.tup [.str "arg",.int 0])) (toD (.arg 0)) (.ref tp7):=Dat.tupI (XG.of aD) (Xd.cons (Dat.XN _) (Xd.cons (Dat.Xs _) Xd.nil));generalize upd H29 tp7 (.tup [.str "arg",.int 0])=H30 at s30 d30;have gA:gT qs (.arg 0):=⟨zg.ok,zg.gs,⟨⋯,⋯⟩,by show 1<=8;decide,by show 1<=40;decide⟩
 refine⟨{S with lr:=lr2},qs,_,_,_,_,rfl,sh29.same s30,.inr (.inr (.inl ⟨"f",.arg 0,barg,[3,0],rfl,rfl,(mR (.inl rfl)).1,(mR (.inl rfl)).2,d30,gA,zg.la,⋯,bX op29 s30,za,zb,λr31 us H31 b31 g31 n31 h31 d31 sh31 op31=>?_⟩))⟩;have sT30:=sT29.same s30;have oT30:=bX oT29 s30;have nod:∀x,Nin x S->x≠S.od:=λx h=>h.2.2;have sT31:Xg K T.Mq {Y with lr:=lr} qs _ H31:=sT30.frame b31 g31 i1.1.2.2 nlr27.2.2 i1.2.2.2.2;have oT31:YH Y H31:=⟨_,b31 _ _ i1.2.2.2.2 oT30.choose_spec⟩
 refine fJ ?_;refine⟨_,rfl,.inl ⟨rfl,_,Xm.of h31⟩,r31,us,.int 7,rfl,rfl,h31,bP (by have:=d31.length;simp at this;lia),?_⟩;have b32:Xv r31 H31 (upd H31 r31 (.lst (us++[.int 7]))):=Xv.upd (Xe.refl H31).but;have g32:bW K H31 (upd H31 r31 (.lst (us++[.int 7]))):=b32.grow h31 aD;generalize upd H31 r31 (.lst (us++[.int 7]))=H32 at b32 g32;have nr1:=(sh29.same s30).al.nin n31;have nr2:=sT30.al.nin n31;have sh32:=sh31.frame b32 g32 (Tt nr1.1) (Tt nr1.2.1) (Tt nr1.2.2);have op32:YH S H32:=⟨_,b32 _ _ (Tt nr1.2.2) op31.choose_spec⟩
 have sT32:=sT31.frame b32 g32 (Tt nr2.1) (Tt nr2.2.1) (Tt nr2.2.2);have oT32:YH Y H32:=⟨_,b32 _ _ (Tt nr2.2.2) oT31.choose_spec⟩
 obtain⟨okF2,loF⟩:=wG (cs:=[3,0]++[0]) ok2 (.inl rfl) gA;clear b32 g32 sT31 oT31 sh31 op31 b31 g31 n31 h31 d31 sT30 oT30 s30 d30 sh29 op29 sT29 oT29;refine⟨_,rfl,S.s,S.dx,_,rfl,sh32.ins,rfl,{S with lr:=lr2},_,qs,_,"f",rfl,sh32,Dat.XN _,(mR (.inl rfl)).1,(mR (.inl rfl)).2,λo ho r33 u33 H33 s33 h33 n33 d33=>?_,λe=>by rw[yz ok2.ok.nd]at e;cases e⟩;rw[yz ok2.ok.nd]at ho;cases ho;refine⟨cA (show 3<=1000 by decide),λl34 h34=>?_⟩;have s34:=aH h34 (.lst [.int 3,.int 0,.int 0]);refine⟨r33,l34,u33,_,_,([3,0,0]:eH).map D.int,rfl,rfl,Xm.of (s34 _ _ h33),Xm.of aD,s34.Xo d33,gX [3,0,0],⋯,⋯,⋯,true,⋯,mU ?_⟩;have s35:=s33.trans s34;generalize upd H33 l34 (.lst [.int 3,.int 0,.int 0])=H35 at s35;refine⟨_,rfl,{S with lr:=lr2},qs,_,rfl,sh32.same s35,bX op32 s35,okF2,λv36 H36 s36 q36=>?_⟩;obtain⟨a36,x36,rfl,_,h36,k36⟩:=q36.lE;obtain⟨w36,r36,rfl,j36,_⟩:=k36.Xx;refine⟨a36,_,0,w36,rfl,rfl,Xm.of h36,at0,?_⟩;refine⟨_,rfl,{Y with lr:=lr},qs,_,rfl,(sT32.same s35).same s36,bX (bX oT32 s35) s36,ok2,λv37 H37 s37 q37=>?_⟩;obtain⟨a37,x37,rfl,_,h37,k37⟩:=q37.lE;obtain⟨w37,r37,rfl,j37,_⟩:=k37.Xx;obtain⟨c1,c2⟩:=kR XW (l:=qs) λp hp=>⟨(zg.la.ls.nl p hp).1,T8 (zg.la.ls.nl p hp).2 ⋯⟩
 unfold okN at c1;unfold hN at c2;exact⟨a37,_,0,w37,rfl,rfl,Xm.of h37,at0,_,_,ou (jV j36 s37),ou j37,c1,⋯,post _⟩
end
end My
end
namespace My
open PySem L2 PyProof.Rows
section
variable{K:vc}
theorem Fd(b:List V)(H:Hp)(Q:VK)(E:XK):¬ sU K 0 b H Q E:=by rintro⟨a,t,d,room,p,q,c,_,_,_,_,_,_,_,h,_⟩;lia
theorem De(a:List V)(H:Hp)(Q:VK)(E:XK):¬ jL K (iN 0) a H Q E:=λ⟨b,c,_,⟨x,k,_,_,h,_⟩,_⟩=>nomatch h
theorem Fc(a:List V)(H:Hp)(Q:VK)(E:XK):¬ XI K (IH 0) a H Q E:=λ⟨b,c,_,h,_⟩=>h
theorem Dg(a:List V)(H:Hp)(Q:VK)(E:XK):¬ jL K (nP 0) a H Q E:=by rintro⟨b,c,_,⟨t,_,_,h,_⟩,_⟩;have:=nU t;lia
theorem Fb(a:List V)(H:Hp)(Q:VK)(E:XK):¬ oU K (ku 0) a H Q E:=λ⟨as,b,_,⟨d,t,c,_,_,_,_,h,_⟩,_⟩=>by
 have:1<=bE t:=by cases t<;>simp[bE]
 lia
theorem chain(T:Txt P w K mg):Ok P w base 28 T.R4 (zR K):=by
 have c:=yX (P:=P) (w:=w) (base:=base) (k:=0) T;have g1:=wQ (P:=P) (w:=w) (base:=base) (k:=0) T;have n2:=AN (k:=1) T g1 c;have d:=pV (P:=P) (w:=w) (base:=base) (k:=0) T;have it:=AO (k:=2) T n2 (d.mono ⋯);have G:=wY (k:=3) T it
 have Q:∀n:Nat,Ok P w base (n+1) T.OA (jL K (nP n)):=by
  intro n
  induction n with
  |zero=>exact jC Dg
  |succ n a=>exact Dk (k:=n+1) T (d.mono ⋯) a
 have g:=AM (P:=P) (w:=w) (base:=base) (k:=0) T;have mk:=AL (k:=1) T g1 c
 have pp:∀n:Nat,Ok P w base (n+3) T.MD (XI K (Rpp n)):=by
  intro n
  induction n with
  |zero=>exact iT (k:=2) (n:=0) T mk n2 (d.mono ⋯) (jC Fc)
  |succ n a=>exact iT (k:=n+3) (n:=n+1) T (mk.mono ⋯) (n2.mono ⋯) (d.mono ⋯) a
 have l:∀n:Nat,Ok P w base (n+1) T.MF (jL K (iN n)):=by
  intro n
  induction n with
  |zero=>exact jC De
  |succ n a=>exact yY (k:=n+1) T (d.mono ⋯) a
 have U:=rq (k:=4) T (l 3);have Y:=tW (k:=6) T (pp 3) (U.mono ⋯);have fi:=tV (k:=4) T (g1.mono ⋯) (l 3) (c.mono ⋯);have ce:=AK (k:=5) T (c.mono ⋯) fi;have m:=m7 (P:=P) (w:=w) (base:=base) (k:=0) T;have ai:=lR (k:=6) T (c.mono ⋯) (m.mono ⋯) ce;have pc:=yW (k:=7) T (g.mono ⋯) Y ai;have np:=tZ (k:=8) T pc;have ms:=oA (P:=P) (w:=w) (base:=base) (k:=0) T
 have mt:∀n:Nat,Ok P w base (n+1) T.Nt (zQ K oD n):=by
  intro n
  induction n with
  |zero=>exact jC Hu
  |succ n a=>exact AQ (k:=n+1) T (ms.mono ⋯) a
 have H:=yV (k:=4) T (mt 3);have jo:=wR (P:=P) (w:=w) (base:=base) (k:=0) T;have I:=oz (k:=1) T jo;have wo:=AS (k:=5) T H;have lb:=wV (k:=2) T I;have bw:=pU (k:=6) T wo (lb.mono ⋯);have J:=oy (k:=9) T (Q 8) (bw.mono ⋯);have st:=Dj (k:=9) T (pc.mono ⋯);have p:=yZ (k:=10) T st;have lo:=wW (k:=11) T (G.mono ⋯) p (J.mono ⋯);have L:=rp (P:=P) (w:=w) (base:=base) (k:=0) T
 have lc:∀n:Nat,Ok P w base (2*n+6) T.MH (oU K (ku n)):=by
  intro n
  induction n with
  |zero=>exact jC Fb
  |succ n a =>have i:=wU (k:=2*n+6) T a (I.mono ⋯);have pp:=tY (k:=2*n+6) T a (H.mono ⋯) (L.mono ⋯);exact tX (k:=2*n+7) T i pp
 have co:=AI (k:=22) T (J.mono ⋯) (lc 8);have ly:=Kf (k:=23) T (G.mono ⋯) (p.mono ⋯) co;have lp:=rn (P:=P) (w:=w) (base:=base) (k:=0) T;have j:=wL (P:=P) (w:=w) (base:=base) (k:=0) T;have i:=wM (k:=1) T j
 have tr:∀n:Nat,Ok P w base (n+2) T.MV (sU K n):=by
  intro n
  induction n with
  |zero=>exact jC Fd
  |succ n a=>exact wO (k:=n+2) T (j.mono ⋯) (i.mono ⋯) a
 have ls:=yT (k:=1) T (lp.mono ⋯) (j.mono ⋯);have q:=wX (k:=1) T c;have r:=mB (P:=P) (w:=w) (base:=base) (k:=0) T;have s:=rC (P:=P) (w:=w) (base:=base) (k:=0) T;have t:=lQ (P:=P) (w:=w) (base:=base) (k:=0) T;have u:=pR (P:=P) (w:=w) (base:=base) (k:=0) T;have v:=mY (k:=1) T u;have x:=pS (k:=2) T (r.mono ⋯) (s.mono ⋯) v;have rk:=y8 (P:=P) (w:=w) (base:=base) (k:=0) T;have fp:=m4 (P:=P) (w:=w) (base:=base) (k:=0) T;have ke:=Fl (k:=9) T (L.mono ⋯) (t.mono ⋯) (x.mono ⋯) (fp.mono ⋯) (rk.mono ⋯);have M:=AR (P:=P) (w:=w) (base:=base) (k:=0) T;have ar:=yU (k:=1) T M;have fl:=AJ (k:=11) T (np.mono ⋯) (q.mono ⋯) (M.mono ⋯) ((l 3).mono ⋯) (ar.mono ⋯) ke;have b:=mZ (k:=1) T g;have ord:=tR (k:=1) T g;have e:=rl (P:=P) (w:=w) (base:=base) (k:=0) T;have f:=wH (k:=2) T ord;have y:=wJ (k:=2) T ord;have z:=wI (k:=2) T b;have pt:=yR (k:=12) T (np.mono ⋯) (b.mono ⋯) fl;have N:=ow (k:=11) T p;have O:=yQ (k:=24) T (g.mono ⋯) ly;have A:=ox (k:=12) T (ord.mono ⋯) lo;have B:=pT (P:=P) (w:=w) (base:=base) (k:=0) T;have tw:=wK (k:=12) T N;have C:=tS (k:=13) T (D8 A);have E:=tT (P:=P) (w:=w) (base:=base) (k:=0) T;have wh:=tU (P:=P) (w:=w) (base:=base) (k:=24) T;have ask:=yS (k:=25) T (pt.mono ⋯) (z.mono ⋯) O (f.mono ⋯) (y.mono ⋯) wh;have se:=wN (k:=25) T (B.mono ⋯) ask (e.mono ⋯) (C.mono ⋯) (E.mono ⋯);exact Ke (k:=26) T (N.mono ⋯) (ls.mono ⋯) (e.mono ⋯) (j.mono ⋯) ((tr 4).mono ⋯) (D8 (O.mono ⋯)) (tw.mono ⋯) se (i.mono ⋯) (ask.mono ⋯) (D8 (f.mono ⋯))
end
noncomputable def df_mk{K:vc}{h:Heap}{mg:cL}{n:Str}{st:Stmt}{d:e9}{f:Addr}{oc:Value}{od i:Option Addr}{e:Array (Option Value)}{kV doc j b ct:Value}(X:K.In h)(G:h.Ns mainGlobals mg)(a:W.nsIn K mainGlobals n=some (some (.ref f)))(l:K.lookup f=some ⟨oc,od,.func (W.fnOf n n (iI st) (eY st) (aG st) .none kV doc j i b ct),e⟩)(c:W.codeIn K b n=true)(k:W.keepIn K (.ref f)=true)
  (m:∀g:List Value,g.length=d.length->bindArgs (W.fnOf n n (iI st) (eY st) (aG st) .none kV doc j i b ct) ⟨g,[]⟩=pure (d.zip g)):Df K mg n st d:=⟨f,_,fun_mk l c k,W.mg_of X G a,.all m⟩
variable{K:vc}
theorem fin{l:W.OpenLaw}(a:mg "law"=some (.ref c))(T:Txt l.prog w K mg) :
  ∃b:FuncData,(∀(s:Shared)(v:Value),BindsTo s b ⟨[v],[]⟩ [("_law_script",v)])/\∀base:Heap,K.In base->base.Ns mainGlobals mg->Xj l.prog w K mg base X5 28 c b ["_law_script"] (zR K):=by
 have e:=a.symm.trans T.R4.m;cases e;obtain⟨_,_,_,_,_,_,_,_,_,e,_⟩:=T.R4.f.ex;exact⟨_,λs v=>by rw[e];exact .of_eq rfl,λbase _ _=>chain T⟩
theorem walk{l:W.OpenLaw}{loose:e9}{d:DefRec}{K:Params->W.Frag}(g:l.most=some 63)(b:d.params.defaults=[])
  (i:∀(w:World)(h:Heap),j w h->(K w.params).In h)
  (F:∀(w:World)(mg:cL)(c:Addr)(h:Heap),(K w.params).In h->h.Ns mainGlobals mg->mg d.name=some (.ref c) ->
   ∃e:FuncData,(∀(s:Shared)(u:Value),BindsTo s e ⟨[u],[]⟩ [("_law_script",u)])/\∀base:Heap,(K w.params).In base->base.Ns mainGlobals mg->Xj l.prog w (K w.params) mg base X5 28 c e ["_law_script"] (zR (K w.params))) :
  W.WalkO q loose v j l.row.toRowW d [] (λf m=>PySem.call f m) :=
 L2.walk_of (n:=63) (k:=28) (x:="_law_script") (CX:=λ_=>X5) (sp:=λw=>zR (K w.params)) g ⋯ b ⟨rfl,⋯,⋯⟩ i F (λ_ _ a p y r t=>⟨a,p,rfl,KR r t,λ_=>rfl⟩) λ_ _ _ _ _ z=>z
theorem fund_mk{st:Stmt}{kV doc:Value}{g:yw}(l:K.lookup f=some ⟨oc,od,.func (W.fnOf x a (iI st) (eY st) (aG st) (.ref T) kV doc i j b ct),d⟩)(c:W.codeIn K b a=true)(k:W.keepIn K (.ref f)=true)(e:K.lookup T=some ⟨m,n,.seq g.toArray p,q⟩):FunD K x a st f (W.fnOf x a (iI st) (eY st) (aG st) (.ref T) kV doc i j b ct) T g:=⟨⟨oc,od,kV,doc,i,j,b,ct,d,rfl,l,c⟩,k,⟨_,_,e,rfl⟩⟩
theorem Zl{l:W.OpenLaw}(x:K.lookup a=some o)(e:KTD.tabLook KTD.flatLooks (λb=>K.lookup b) a ([("hole",.int 2),("gap",.int 3),("slot",.int 2)]:List (Str×PyData))=true)(q:KTD.hashesOf (λb=>K.lookup b) a=([("hole",.int 2),("gap",.int 3),("slot",.int 2)]:List (Str×PyData)).map λp=>(PySem.strKind l.prog w).hash p.1):BA l.prog w K a ["hole","gap","slot"]:=⟨⟨_,x⟩,λh x=>⟨_,W.kt_tab_in l.prog w x e ⋯ q,rfl⟩⟩
end My
open PySem PySem.W PyProof.Rows
set_option maxRecDepth 100000 in
set_option maxHeartbeats 0 in
theorem PySem.Challenge.cw_piecelay_k25_whole_twins_holds : PySem.Challenge.rw_piecelay_k25_whole_twins.Holds := by
 w_on;refine holds_law My.said λsaid=>?_
 refine holds_open (q:=My.view) (loose:=My.loose) (Xt:=My.xt) (XP:=XL My.view []) (Yf:=Hook.obs (kHook My.k0.heap_1 My.kas My.kas_ok)) (Ya:=Hook.val (kHook My.k0.heap_1 My.kas My.kas_ok)) (YP:=Hook.says (kHook My.k0.heap_1 My.kas My.kas_ok)) (N:=My.NN) My.left (Hook.of (kHook My.k0.heap_1 My.kas My.kas_ok)) (Hook.keeps (kHook My.k0.heap_1 My.kas My.kas_ok)) (λs e=>xl_of s (Bool.and_eq_true_iff.mp e).1) XL.keeps (by rfl) (by rfl) (by rfl) (λs e=>recFacts_of (Bool.and_eq_true_iff.mp e).2) (by rfl) (by first|assumption|decide +kernel) ⋯ ⟨rfl,rfl,rfl,rfl,rfl,⋯⟩ ?hw ?hc
 case hw=>w_witness2
 k_fill
 refine My.walk (l:=PySem.Challenge.rw_piecelay_k25_whole_twins) rfl rfl (λw h Y=>PySem.W.kIn_of Y) ?F
 case F =>
  intro w mg i h f G g;refine My.fin g ?T;have M:∀{n:Str}{v:Value},nsIn _ mainGlobals n=some (some v)->mg n=some v:=mg_of f G;have N:∀{n:Str},nsIn _ mainGlobals n=some none->mg n=none:=mg_none_of f G;constructor
  case toDfs =>
   constructor
   all_goals
    refine' My.df_mk f G ?a ?l ?c ?k ?b
    case a=>k_is
    case l=>change _=_;k_is
    case c=>k_is
    case k=>k_is
    case b=>exactλj d=>by first | (cases List.eq_nil_of_length_eq_zero d;rfl) | (obtain⟨_,rfl⟩:=My.len1 d;rfl) | (obtain⟨_,_,rfl⟩:=My.ZG d;rfl) | (obtain⟨_,_,_,rfl⟩:=My.len3 d;rfl) | (obtain⟨_,_,_,_,rfl⟩:=My.len4 d;rfl) | (obtain⟨_,_,_,_,_,rfl⟩:=My.len5 d;rfl) | (obtain⟨_,_,_,_,_,_,rfl⟩:=My.len6 d;rfl)
  all_goals try (first|refine M ?_|refine N ?_);k_is
  all_goals try (refine' L2.Meth.mk ?m1 ?m2 ?m3;(case m1=>k_is);(case m2=>kernel_rfl);(case m3=>k_is))
  all_goals try (refine' L2.Mk.mk ?n1 ?n2 ?n3 ?n4;(case n2=>k_is);(case n1=>kernel_rfl);(case n3=>kernel_rfl);(case n4=>kernel_rfl))
  (case Pk=>(refine' My.Zl ?o1 ?o2 ?o3;(case o1=>k_is);(case o2=>first|rfl|decide +kernel);(case o3=>first|rfl|kernel_rfl)))
  all_goals first|rfl|kernel_rfl|decide +kernel | (refineλh x=>kt_text_in x ?_;first|rfl|decide +kernel) | (refine' L2.fun_mk ?f1 ?f2 ?f3;(case f1=>change _=_;k_is);(case f2=>k_is);(case f3=>k_is)) | (refine' My.fund_mk ?g1 ?g2 ?g3 ?g4;(case g1=>change _=_;k_is);(case g2=>k_is);(case g3=>k_is);(case g4=>change _=_;k_is)) | (constructor<;>first|rfl|kernel_rfl|decide +kernel)
