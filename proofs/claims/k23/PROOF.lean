import PyProof.Rows.All
import Wide.All
import OpenK.AllK
import Wide.FinOn
import Lean
import PyProof.EqAt
import PyProof.EqKinds
import PyProof.TupleCall
import PyProof.NeKinds
import KE.KTab
import KE.KTops
import PyProof.FString5
import PyProof.ListRange
import KE.KRevIter
import PyProof.Rows.SumAny
import PyProof.Rows.SetFrom
import KE.KRevSl
import KE.KTryMore
import PyProof.ExcAttrAll.ValueError
import PyProof.Rows.CountFlat
import PyProof.ExcInit
import PyProof.InstStoreFacts
import PyProof.Draws
import PyProof.EnumMake
import PyProof.ZipIter
import PyProof.StationsW
import PyProof.WalkInts
import PyProof.Rows.MinMaxN
import KE.KUnpack
import PySem.Challenge.RW_piecelay_k23_whole_broken
set_option Elab.async false
set_option linter.all false
set_option maxRecDepth 100000
set_option maxHeartbeats 0
abbrev LQ:=@List.getElem?_eq_getElem
abbrev LR:=@List.length_map
abbrev LS:=@of_decide_eq_true
abbrev LU:=@PySem.wpAny_bind
abbrev LV:=@List.getElem?_map
abbrev LW:=@Bool.and_eq_true
abbrev LX:=@PySem.Heap.get?_push_of_some
abbrev LY:=@decide_eq_false
abbrev LZ:=@if_neg
abbrev L5:=@List.length_cons
abbrev L6:=@Bool.false_ne_true
abbrev L7:=@Nat.le_refl
abbrev L8:=@PySem.wpAny_pure
abbrev Ma:=@List.length_append
abbrev Mb:=@Option.map_eq_some_iff
abbrev Mc:=@if_pos
abbrev Me:=@List.size_toArray
abbrev Mf:=@of_decide_eq_false
abbrev Mg:=@List.getElem?_eq_some_iff
abbrev Mh:=@decide_eq_true
abbrev Mi:=@PySem.Heap.lt_size
abbrev Mj:=@List.mem_of_getElem?
abbrev Ml:=@List.getD_eq_getElem?_getD
abbrev Mm:=@List.mem_cons
abbrev Mn:=@PySem.F.plainAttrs_list
abbrev Mp:=@Nat.lt_of_lt_of_le
abbrev Mq:=@Nat.ne_of_lt
abbrev Mr:=@Nat.le_trans
abbrev Ms:=@List.mem_append_right
abbrev Mt:=@List.mem_cons_of_mem
abbrev Mu:=@PySem.Heap.get?_push_size
abbrev Mv:=@List.mem_singleton
abbrev Mw:=@List.mem_cons_self
abbrev Mx:=@List.length_take
abbrev Mz:=@PySem.F.slot_list_append
abbrev MB:=@List.length_nil
abbrev MD:=@PySem.F.type_list_append
abbrev ME:=@Option.some.inj
abbrev MF:=@List.all_eq_true
abbrev MH:=@congrArg
abbrev MI:=@List.append_nil
abbrev MJ:=@PySem.PassesOwn.never
abbrev MK:=@Nat.zero_le
abbrev ML:=@Int.emod_lt_of_pos
abbrev MM:=@List.map_append
abbrev MN:=@Int.emod_nonneg
abbrev MO:=@List.length_reverse
abbrev MP:=@List.take_add_one
abbrev MQ:=@Ne.symm
abbrev MR:=@Nat.ne_of_gt
abbrev MT:=@List.lookup_cons
abbrev MU:=@PyProof.Rows.slot_tuple_getitem
abbrev MV:=@Option.bind_eq_some_iff
abbrev MW:=@PySem.Heap.size_push
abbrev MX:=@PySem.wpAny_mono
abbrev MY:=@List.take_length
abbrev MZ:=@Option.bind_some
abbrev M0:=@PySem.mem_of_lookup
abbrev M1:=@Nat.lt_irrefl
abbrev M4:=@PySem.wpAny_standAt
abbrev M5:=@List.take_zero
abbrev M9:=@List.mem_map
abbrev Na:=@List.mem_append
abbrev Nb:=@PySem.wpAny_Call_Name_kw
abbrev Nc:=@List.not_mem_nil
abbrev Nd:=@List.getElem?_append_right
abbrev Nf:=@PySem.wpAny_truthy_bool
abbrev Ng:=@List.getElem?_eq_none
abbrev Nh:=@Nat.lt_succ_self
abbrev Ni:=@Nat.lt_trans
abbrev Nj:=@PySem.wpAny_holding
abbrev Nk:=@Bool.true_and
abbrev Nl:=@Nat.pow_le_pow_right
abbrev Nm:=@PySem.wpAny_newObj_type
abbrev Nn:=@List.length_range
abbrev Np:=@Nat.le_of_lt
abbrev Nq:=@PySem.codeAny_mono
abbrev Nr:=@List.take_of_length_le
abbrev Nt:=@PySem.F.slot_list_extend
abbrev Nu:=@Option.map_some
abbrev Nv:=@PySem.wpAny_comprehension_free
abbrev Nz:=@Bool.or_eq_false_iff
abbrev NB:=@List.append_assoc
abbrev NC:=@List.flatten_cons
abbrev ND:=@List.map_cons
abbrev NF:=@Bool.false_or
abbrev NG:=@beq_eq_false_iff_ne
abbrev NH:=@List.length_drop
abbrev NI:=@PySem.W.Fast.te11892475500146522536
abbrev NJ:=@PySem.W.Fast.te14364793385576792824
abbrev NK:=@PyProof.Rows.callWith_type1
abbrev NL:=@PyProof.Rows.F.plain_set_update_loop
abbrev NO:=@PySem.F.type_list_extend
abbrev NP:=@PySem.wpAny_passesOwn
abbrev NQ:=@PySem.builtinLookup_eq_fast
abbrev NR:=@PySem.Heap.get?_push_at
abbrev NS:=@List.getElem?_set_ne
abbrev NT:=@beq_iff_eq
abbrev NU:=@List.getElem?_eq_none_iff
abbrev NV:=@Bool.false_and
abbrev NW:=@Nat.le_of_eq
abbrev NX:=@Option.isSome_iff_exists
abbrev NY:=@PySem.F.called_set
abbrev NZ:=@PySem.wpAny_callSpecial?_slot
abbrev N1:=@if_true
abbrev N2:=@PySem.F.slot_list_pop
abbrev N3:=@PySem.sizeLine_eq
abbrev N4:=@PySem.wpAny_pyIter_list
abbrev N5:=@Nat.lt_succ_of_lt
abbrev N6:=@PySem.wpAny_loadPart_at
abbrev N7:=@List.flatMap_cons
abbrev N8:=@decide_eq_true_eq
abbrev N9:=@List.take_append_drop
abbrev Oa:=@List.set_set
abbrev Ob:=@List.length_filter_le
abbrev Oc:=@List.map_map
abbrev Od:=@PySem.W.Fast.te10156331382660048174
abbrev Oe:=@Prod.ext
abbrev Of:=@List.mem_append_left
abbrev Og:=@PySem.wpAny_call
abbrev Oh:=@PySem.wpAny_call_entry
abbrev Oi:=@or_false
abbrev Oj:=@PySem.W.Fast.te6613529449190102663
abbrev Ol:=@Array.getElem?_eq_some_iff
abbrev Om:=@Array.length_toList
abbrev Oo:=@PySem.wpAny_isSubtype_exc
abbrev Oq:=@PySem.Heap.get?_update_ne
abbrev Ot:=@List.getElem?_append_left
abbrev Ou:=@PySem.typeLookup_type
abbrev Ov:=@Bool.or_eq_true
abbrev Ow:=@PySem.F.type_list_pop
abbrev Ox:=@List.mem_filterMap
abbrev Oz:=@PySem.W.callWith_K
abbrev OA:=@PyProof.Rows.F.entry_set_update_loop
abbrev OB:=@List.filter_append
abbrev OC:=@PySem.W.hideAll_none
abbrev OD:=@PySem.wpAny_assign_Name
abbrev OE:=@Int.toNat_natCast
abbrev OF:=@PySem.Calls.callWith_builtin
abbrev OG:=@PySem.codeAny_compStart_list
abbrev OH:=@Option.eq_none_iff_forall_ne_some
abbrev OI:=@List.filter_cons
abbrev OJ:=@List.getElem_mem
abbrev OL:=@PySem.Heap.get?_update_self
abbrev OM:=@PySem.exec_Assign_Name_used
abbrev ON:=@PySem.plainObj_wpAny_Assign_Attribute
abbrev OO:=@List.mem_filter
abbrev OP:=@PySem.wpAny_execs_nil
abbrev OQ:=@Bool.eq_iff_iff
abbrev OR:=@PySem.W.methodCall_KW
abbrev OS:=@List.nodup_cons
abbrev OT:=@PySem.codeAny_call_builtin
abbrev OU:=@Nat.mul_le_mul_right
abbrev OV:=@List.mem_of_mem_drop
abbrev OW:=@List.dropLast_concat
abbrev OX:=@PySem.W.kt_text_in
abbrev OY:=@List.filterMap_cons
abbrev OZ:=@List.flatMap_append
abbrev O0:=@List.getElem?_range
abbrev O1:=@PySem.isSubtype_type
abbrev O2:=@Nat.le_succ
abbrev O3:=@PySem.SeqAt.EqAt.int_str
abbrev O4:=@PySem.SeqAt.EqAt.str_int
abbrev O5:=@PyProof.Rows.assignInOrder_cons
abbrev O6:=@PySem.Calls.spliced_cons
abbrev O7:=@PySem.F.args_tuple_add_2
abbrev O8:=@Nat.lt_of_le_of_lt
abbrev O9:=@Bool.false_eq_true
abbrev Pb:=@PySem.W.kia_one
abbrev Pc:=@PySem.Code.quiet_builtin
abbrev Pd:=@Array.append_empty
abbrev Pe:=@PySem.W.callWith_K0
abbrev Pf:=@List.any_cons
abbrev Pg:=@PySem.wpAny_noRaise
abbrev Ph:=@PySem.wpAny_attempt
abbrev Pj:=@PySem.F.entry_tuple_add
abbrev Pk:=@List.ext_getElem?
abbrev Po:=@if_false
abbrev Pp:=@Nat.succ_mul
section
namespace LT
open PySem PySem.W PyProof.Rows
noncomputable def ran (p:Program) (w:World) (n₀:Nat) (ann:Option Value):Nat->SharedT->Thread->Option SharedT
 | 0,_,_=>none
 | k+1,s,t=>bif through t then some s else bif Fast.tw6613529449190102663 n₀ ann t then
   (Fast.tw10156331382660048174 (Fast.tw11892475500146522536 Fast.tw14364793385576792824) p w s t).bind λx=>ran p w n₀ ann k x.1 x.2
  else none
theorem De {p:Program} {w:World} {n₀:Nat} {ann:Option Value} (k:Nat):∀ {s s':SharedT} {t:Thread},ran p w n₀ ann k s t=some s'->topRun treeTable p w n₀ ann k s.abs t=some s'.abs:=by
 induction k with
 | zero=>intro s s' t h;cases h
 | succ k ih =>
  intro s s' t h;unfold ran at h;rw [<- Oj,<- Od,<- NI,<- NJ] at h;unfold topRun;cases c1:through t
  ·cases c2:stepOk n₀ ann t
   ·rw [c1,c2] at h;cases h
   ·rw [c1,c2] at h;obtain ⟨x,hx,hr⟩:=MV.mp (show (stepT (denote treeTable) p w s t).bind _=some s' from h);rw [stepT_spec (s':=x.1) (t':=x.2) hx];exact ih hr
  ·rw [c1] at h;cases h;rfl
noncomputable def Ai (P:Params):BT:=((boot_heap P).objs.toList.foldl (λ(x:BT × Nat) o=>(x.1.ins x.2 o,x.2+1)) (BT.nil,0)).1
theorem Aj:∀ P,absHeap (Ai P) 11 {}=boot_heap P:=λP=>by kernel_rfl
noncomputable abbrev boot (P:Params) (os:OsState):SharedT:=⟨Ai P,11,{},#[],boot_drawn,boot_toks,os⟩
theorem Ak (P:Params) (os:OsState):(boot P os).abs=⟨boot_heap P,#[],boot_drawn,boot_toks,os⟩:=by show (⟨absHeap (Ai P) 11 {},#[],boot_drawn,boot_toks,os⟩:Shared)=_;rw [Aj]
theorem DA:∀ P:Params,((boot_heap P).isNs mainGlobals && (#[]:Array GenState).size == 0,(boot_heap P).objs.size,(boot_heap P).nsMap mainGlobals "__annotations__")=(true,11,some (.ref 6)):=λP=>by kernel_rfl
end LT
namespace LT
section
universe u1 u2 u3 u4 u5 u6 u7 u8 u9
variable {S:Type u1} {A:Type u2} {B:Type u3} {C:Type u4} {D:Type u5} {E:Type u6} {F:Type u7} {R:Type u8} {V:Type u9}
end
end LT
namespace LT
open PySem PySem.W PyProof.Rows
noncomputable def goes (p:Program) (w:World) (n₀:Nat) (ann:Option Value):Nat->SharedT->Thread->Option (SharedT × Thread)
 | 0,s,t=>some (s,t)
 | k+1,s,t=>bif through t then none else bif Fast.tw6613529449190102663 n₀ ann t then
   (Fast.tw10156331382660048174 (Fast.tw11892475500146522536 Fast.tw14364793385576792824) p w s t).bind λx=>goes p w n₀ ann k x.1 x.2
  else none
variable {p:Program} {w:World} {n₀:Nat} {ann:Option Value}
theorem AH (k:Nat):∀ {s s':SharedT} {t t':Thread},goes p w n₀ ann k s t=some (s',t')->topGo treeTable p w n₀ ann k s.abs t=some (s'.abs,t'):=by
 induction k with
 | zero=>intro s s' t t' h;cases h;rfl
 | succ k ih =>
  intro s s' t t' h;unfold goes at h;rw [<- Oj,<- Od,<- NI,<- NJ] at h;unfold topGo;cases c1:through t
  ·cases c2:stepOk n₀ ann t
   ·rw [c1,c2] at h;cases h
   ·rw [c1,c2] at h;obtain ⟨x,hx,hr⟩:=MV.mp (show (stepT (denote treeTable) p w s t).bind _=some (s',t') from h);rw [stepT_spec (s':=x.1) (t':=x.2) hx];exact ih hr
  ·rw [c1] at h;cases h
noncomputable def Xi (p:Program) (w:World) (n₀:Nat) (ann:Option Value):Nat->SharedT->Thread->Option (Flow × SharedT × Code × Pos)
 | 0,_,_=>none
 | k+1,s,t=>match endAt 1 t with
  | some f=>some (f,s,t.code,t.pos)
  | none=>bif Fast.tw6613529449190102663 n₀ ann t then
   (Fast.tw10156331382660048174 (Fast.tw11892475500146522536 Fast.tw14364793385576792824) p w s t).bind λx=>Xi p w n₀ ann k x.1 x.2
  else none
theorem qj (k:Nat):∀ {s s':SharedT} {t:Thread} {f:Flow} {c:Code} {q:Pos},Xi p w n₀ ann k s t=some (f,s',c,q)->segRun treeTable p w n₀ ann 1 k s.abs t=some (f,s'.abs,c,q):=by
 induction k with
 | zero=>intro s s' t f c q h;cases h
 | succ k ih =>
  intro s s' t f c q h;unfold Xi at h;unfold segRun
  cases c1:endAt 1 t with
  | some x=>rw [c1] at h;cases h;rfl
  | none =>
   rw [c1] at h;dsimp only at h ⊢;rw [<- Oj,<- Od,<- NI,<- NJ] at h;cases c2:stepOk n₀ ann t
   ·rw [c2] at h;cases h
   ·rw [c2] at h;obtain ⟨x,hx,hr⟩:=MV.mp (show (stepT (denote treeTable) p w s t).bind _=some (f,s',c,q) from h);rw [stepT_spec (s':=x.1) (t':=x.2) hx];exact ih hr
noncomputable def AI {α:Type}:List α->List α × List α
 | []=>([],[])
 | x::r=>match AI r with | (a,b)=>(x::b,a)
noncomputable def grown:Nat->List Obj->BT
 | 0,_=>.nil
 | _,[]=>.nil
 | k+1,x::r=>match AI r with | (a,b)=>.node x (grown k a) (grown k b)
section
universe u1 u2 u3 u4 u5 u6 u7 u8 u9
variable {A:Type u1} {B:Type u2} {C:Type u3} {D:Type u4} {E:Type u5} {F:Type u6} {G:Type u7} {H:Type u8} {I:Type u9}
noncomputable def c1 (x:A × B × C × D × E × F × G × H × I):A:=match x with | (a,_)=>a
noncomputable def c2 (x:A × B × C × D × E × F × G × H × I):B:=match x with | (_,a,_)=>a
noncomputable def c3 (x:A × B × C × D × E × F × G × H × I):C:=match x with | (_,_,a,_)=>a
noncomputable def c4 (x:A × B × C × D × E × F × G × H × I):D:=match x with | (_,_,_,a,_)=>a
noncomputable def c5 (x:A × B × C × D × E × F × G × H × I):E:=match x with | (_,_,_,_,a,_)=>a
noncomputable def c6 (x:A × B × C × D × E × F × G × H × I):F:=match x with | (_,_,_,_,_,a,_)=>a
noncomputable def c7 (x:A × B × C × D × E × F × G × H × I):G:=match x with | (_,_,_,_,_,_,a,_)=>a
noncomputable def c8 (x:A × B × C × D × E × F × G × H × I):H:=match x with | (_,_,_,_,_,_,_,a,_)=>a
noncomputable def c9 (x:A × B × C × D × E × F × G × H × I):I:=match x with | (_,_,_,_,_,_,_,_,a)=>a
noncomputable def d1 (x:A × B × C × D × E × F × G × H × I):A:=match x with | (a,_)=>a
noncomputable def d2 (x:A × B × C × D × E × F × G × H × I):B:=match x with | (_,a,_)=>a
noncomputable def d3 (x:A × B × C × D × E × F × G × H × I):C:=match x with | (_,_,a,_)=>a
noncomputable def d4 (x:A × B × C × D × E × F × G × H × I):D:=match x with | (_,_,_,a,_)=>a
noncomputable def d5 (x:A × B × C × D × E × F × G × H × I):E:=match x with | (_,_,_,_,a,_)=>a
noncomputable def d6 (x:A × B × C × D × E × F × G × H × I):F:=match x with | (_,_,_,_,_,a,_)=>a
noncomputable def d7 (x:A × B × C × D × E × F × G × H × I):G:=match x with | (_,_,_,_,_,_,a,_)=>a
noncomputable def d8 (x:A × B × C × D × E × F × G × H × I):H:=match x with | (_,_,_,_,_,_,_,a,_)=>a
noncomputable def d9 (x:A × B × C × D × E × F × G × H × I):I:=match x with | (_,_,_,_,_,_,_,_,a)=>a
theorem all9 {x y:A × B × C × D × E × F × G × H × I} (h1:c1 x=d1 y) (h2:c2 x=d2 y) (h3:c3 x=d3 y) (h4:c4 x=d4 y) (h5:c5 x=d5 y) (h6:c6 x=d6 y) (h7:c7 x=d7 y) (h8:c8 x=d8 y) (h9:c9 x=d9 y):x=y:=(Oe h1 (Oe h2 (Oe h3 (Oe h4 (Oe h5 (Oe h6 (Oe h7 (Oe h8 h9))))))))
end
noncomputable def tA {α:Type} (n:Nat) (l:List α):List α:=l.take n
noncomputable def tB {α:Type} (n:Nat) (l:List α):List α:=l.take n
noncomputable def rA {α:Type} (n:Nat) (l:List α):List α:=l.drop n
noncomputable def rB {α:Type} (n:Nat) (l:List α):List α:=l.drop n
theorem cut2 {α:Type} {x y:List α} (n:Nat) (h1:tA n x=tB n y) (h2:rA n x=rB n y):x=y:=by rw [<- N9 n x,<- N9 n y];exact congr (MH _ h1) h2
theorem left3 {q:Program} {loose:List Str} {Xt:Shared->Bool} {α:Type} {Yf:Shared->α} {Ya:World->α} {N n1 n2 n3 n4 n5:Nat} {Sa Sm Sf:World->OsState->SharedT} {Fs:World->OsState->Shared} {l l2:List Stmt} {env:Env} {q0 p0 p1 p2 p3:Pos} (e:opening p=plainProg p.main.scope.names) (hN:Nat.ble 600 N=true) (f:∀ s,fenceModules? p s=some s)
  (eN:n1+(n2+(n3+(n4+n5)))=N) (eb:l++l2=behindTheImports p)
  (h1:∀ (w:World) (os:OsState),goes p w 11 (some (.ref 6)) n1 (boot w.params os) (topStub p)=some (Sa w os,⟨Fast.tw11892475500146522536 Fast.tw14364793385576792824 (.body (behindTheImports p) env),.body (behindTheImports p) env,p0,[topFrame q0]⟩))
  (h2:∀ (w:World) (os:OsState),Xi p w 11 (some (.ref 6)) n2 (Sa w os) (blockOf (behindTheImports p) env (.body (behindTheImports p) env) p0 [topFrame q0])=some (.next,Sa w os,.body (behindTheImports p) env,p1))
  (h3:∀ (w:World) (os:OsState),Xi p w 11 (some (.ref 6)) n3 (Sa w os) (piecesOf l env (.body (behindTheImports p) env) p1 [topFrame q0])=some (.next,Sm w os,.body (behindTheImports p) env,p2))
  (h4:∀ (w:World) (os:OsState),Xi p w 11 (some (.ref 6)) n4 (Sm w os) (piecesOf l2 env (.body (behindTheImports p) env) p2 [topFrame q0])=some (.next,Sf w os,.body (behindTheImports p) env,p3))
  (h5:∀ (w:World) (os:OsState),ran p w 11 (some (.ref 6)) n5 (Sf w os) (restOf [] env (.body (behindTheImports p) env) p3 [topFrame q0])=some (Sf w os))
  (ea:∀ (w:World) (os:OsState),(Sf w os).abs=Fs w os)
  (k1:∀ (w:World) (os:OsState),(staticsOk (Fast.tw5923862056798008813 p.main.body) (boot_heap w.params) (Fs w os).heap && namesBound p (Fs w os).heap && gensDone (Fs w os) && laidKept (boot_heap w.params) (Fs w os).heap)=true)
  (k2:∀ (w:World) (os:OsState),Fast.tw4187177175401517315 q loose (Fast.tw5923862056798008813 p.main.body) Xt true (Fs w os)=openGood q loose)
  (k3:∀ (w:World) (os:OsState),Yf (Fs w os)=Ya w):LeftO p q loose Xt Yf Ya N:=λw=>by
 obtain ⟨⟨h0,gs,d,k,os⟩,e,e'⟩:=Mb.mp (boot_open e hN f w);obtain ⟨rfl,rfl,rfl,rfl⟩:h0=boot_heap w.params/\gs=Array.mk []/\d=boot_drawn/\k=boot_toks:=by simpa using e'
 have r:=De n5 (h5 w os);have r:=piece_app (qj n4 (h4 w os)) r;rw [MI] at r;have r:=piece_app (qj n3 (h3 w os)) r;rw [eb] at r;have r:=piece_block (qj n2 (h2 w os)) r;have z:=AH n1 (h1 w os);rw [<- NI,<- NJ] at z;have r:=go_top z r;rw [eN,Ak,ea] at r;have hl:=k1 w os;have hg:=k2 w os;have hy:=k3 w os;rw [<- Fast.te5923862056798008813] at hl;rw [<- Fast.te4187177175401517315,<- Fast.te5923862056798008813] at hg;obtain ⟨z1,z2,z3⟩:_/\_/\_:=by simpa only [Prod.mk.injEq] using DA w.params
 have t:topFrom treeTable p w N ⟨boot_heap w.params,Array.mk [],boot_drawn,boot_toks,os⟩=some (Fs w os):=by unfold topFrom;dsimp only;rw [z1,z2,z3,r];show (match staticsOk (importedModules p.main.body) (boot_heap w.params) (Fs w os).heap && namesBound p (Fs w os).heap && gensDone (Fs w os) && laidKept (boot_heap w.params) (Fs w os).heap with | true=>_ | false=>_)=_;rw [hl]
 unfold openEnds;rw [e];show (topFrom treeTable p w N _).map _=_;rw [t];exact MH some (Oe hg hy)
end LT
namespace My
open PySem
noncomputable def top (i:Nat):Stmt:=PySem.Challenge.pw_piecelay_k23_whole_broken.main.body.getD i (.Pass ⟨0,0,0,0⟩)
end My
namespace LM
open PySem PySem.W
noncomputable def o (c:Value) (d:Data):Obj:=⟨c,none,d,#[]⟩
noncomputable def tu (l:List Value):Obj:=o (.type "tuple") (.seq l.toArray 0)
noncomputable def fi (c:Value) (l:List Value):Obj:=o c (.fields l.toArray)
noncomputable def di (P:Params) (n:Nat) (l:List (Str × Nat × Value)):Obj:=o (.type "dict") (.dict (l.map λx=>(⟨PyData.keyHash P x.1,.str x.1 x.2.1,x.2.2⟩:DictEntry)).toArray n)
noncomputable def co (a b:Str) (t l c k f r:Nat) (z:Bool) (m:List Value) (u:Nat):Obj:=fi (.type "code") ([.str a t,.str b (t+1),.str "/claim/cut.py" (t+2),.int l 0,.int c 0,.int 0 0,.int k 0,.int f 0,.ref r,.bool z,.int 181 0,.ref (r+1),.none]++m++[.int u 0,.int l 0,.str "/claim/cut.py" (u+1)])
noncomputable def fr (a b c:Value):Obj:=⟨.type "frame",none,.plain,#[some a,some (.ref 3),some b,none,some c,none,some (.ref 0)]⟩
noncomputable def ty (n:Str) (b m:List Value) (a:Nat) (s:List Value) (l:List (Option Value)):Obj:=⟨.type "type",none,.cls ⟨n,b,m,a,n,true,[],s,false,none,false⟩,l.toArray⟩
noncomputable def ca (s:Stmt) (j:Nat):Stmt:=match s with
 | .ClassDef _ _ _ b _ _ _ _ _ _ _=>b.getD j (.Pass ⟨0,0,0,0⟩)
 | _=>s
noncomputable def fu (c:Value) (s:Stmt) (q:Str) (g:Nat) (d k m v:Value):Obj:=match s with
 | .FunctionDef n a b _ _ _ sc _ _ _=>o c (.func ⟨n,q,a,.stmts b,sc,g,[],d,k,.none,m,none,v,.none,0⟩)
 | _=>o c .plain
noncomputable def loc (s:Scope):List Str:=(s.names.filter λx=>match x.2 with | .local=>true | _=>false).map (·.1)
noncomputable def f7 (s:Stmt) (q:Str) (A t:Nat) (d k m:Value):List Obj:=match s with
 | .FunctionDef n a _ _ _ _ sc _ _ p=>[tu [],fi .none [],tu ((loc sc).zipIdx.map λx=>.str x.1 (t+3+x.2)),tu [],fu .none s q 0 .none .none .none .none,co n q t p.line a.args.length a.kwonlyargs.length 3 A true [.ref (A+2),.ref (A+3),.ref (A+4)] (t+3+(loc sc).length),fu (.type "function") s q 3 d k m (.ref (A+5))]
 | _=>[]
noncomputable def f5 (s:Stmt) (q:Str) (A t:Nat) (d k m:Value):List Obj:=match s with
 | .FunctionDef n a _ _ _ _ _ _ _ p=>[tu [],fi .none [],fu .none s q 0 .none .none .none .none,co n q t p.line a.args.length a.kwonlyargs.length 3 A true [.none,.none,.ref (A+2)] (t+3),fu (.type "function") s q 3 d k m (.ref (A+3))]
 | _=>[]
noncomputable def fn (s:Stmt):Str:=match s with
 | .FunctionDef n _ _ _ _ _ _ _ _ _=>n
 | _=>""
noncomputable def h7 (m:Value) (i A t:Nat):List Obj:=f7 (My.top i) (fn (My.top i)) A t .none .none m
noncomputable def h5 (m:Value) (i A t:Nat):List Obj:=f5 (My.top i) (fn (My.top i)) A t .none .none m
noncomputable def rs (l:List (Str × Nat × Nat)):List (Str × Nat × Value):=l.map λx=>(x.1,x.2.1,.ref x.2.2)
noncomputable def oc (P:Params) (i:Nat) (n:Str):List Obj:=[tu [(.ref 31)],fi (.type "builtin_function_or_method") [(.builtin "type.__prepare__"),(.type "type")],di P 4 [("__module__",(221+16 * i),(.str "piecelay.errors" 194)),("__qualname__",(223+16 * i),(.str n (222+16 * i))),("__firstlineno__",(225+16 * i),(.int (7+2 * i) (224+16 * i))),("__static_attributes__",(226+16 * i),(.ref (42+12 * i)))],tu [],fi .none [],co n n (216+16 * i) (7+2 * i) 0 0 0 (38+12 * i) false [.none,.none,.none] (219+16 * i),fr (.ref (40+12 * i)) (.ref (37+12 * i)) (.str "piecelay.errors" 194),tu [],di P 2 [("__module__",(221+16 * i),(.str "piecelay.errors" 194)),("__firstlineno__",(225+16 * i),(.int (7+2 * i) (224+16 * i))),("__static_attributes__",(226+16 * i),(.ref (42+12 * i))),("__doc__",(227+16 * i),.none)],ty n [(.ref 31)] [(.ref (44+12 * i)),(.ref 31),(.type "ValueError"),(.type "Exception"),(.type "BaseException"),(.type "object")] (43+12 * i) [] [some (.ref (35+12 * i)),none,some (.str n (214+16 * i)),some (.str n (222+16 * i)),some (.builtin "ValueError.__new__"),some (.bool true)],fi (.type "super") [(.ref (44+12 * i)),(.ref (44+12 * i)),(.ref (44+12 * i))],fi (.type "builtin_function_or_method") [(.builtin "object.__init_subclass__"),(.ref (44+12 * i))]]
noncomputable def b11 (P:Params):List Obj:=(boot_heap P).objs.toList
noncomputable def st (P:Params) (os:OsState) (t:Nat) (l:List Obj):SharedT:=⟨LT.grown 12 l,l.length,{},#[],boot_drawn,t,os⟩
noncomputable def a4:List Obj:=[tu [],fi .none [],co "<module>" "<module>" 182 1 0 0 0 11 false [.none,.none,.none] 185,fr (.ref 13) (.ref 3) (.str "__main__" 164)]
noncomputable abbrev sa (w:World) (os:OsState):SharedT:=st w.params os 187 (b11 w.params++a4)
noncomputable def ml (P:Params):List Obj:=([
 [tu [],fi .none [],tu [(.str "k" 190)],tu [],fu .none (My.top 0) "_wall" 0 .none .none .none .none,co "_wall" "_wall" 187 1 1 0 3 15 true [(.ref 17),(.ref 18),(.ref 19)] 191,fu (.type "function") (My.top 0) "_wall" 3 .none .none (.str "__main__" 164) (.ref 20),tu [(.type "ValueError")],fi (.type "builtin_function_or_method") [(.builtin "type.__prepare__"),(.type "type")],di P 4 [("__module__",203,(.str "piecelay.errors" 194)),("__qualname__",205,(.str "PieceError" 204)),("__firstlineno__",207,(.int 5 206)),("__static_attributes__",208,(.ref 29))],tu [],fi .none [],co "PieceError" "PieceError" 198 5 0 0 0 25 false [.none,.none,.none] 201,fr (.ref 27) (.ref 24) (.str "piecelay.errors" 194),tu [],di P 3 [("__module__",203,(.str "piecelay.errors" 194)),("__firstlineno__",207,(.int 5 206)),("__static_attributes__",208,(.ref 29)),("__weakref__",210,(.ref 32)),("__doc__",211,.none)],ty "PieceError" [(.type "ValueError")] [(.ref 31),(.type "ValueError"),(.type "Exception"),(.type "BaseException"),(.type "object")] 30 [(.ref 44),(.ref 56),(.ref 68),(.ref 80),(.ref 92),(.ref 104),(.ref 116),(.ref 128),(.ref 140),(.ref 152),(.ref 164),(.ref 176),(.ref 195),(.ref 214)] [some (.ref 22),none,some (.str "PieceError" 196),some (.str "PieceError" 204),some (.builtin "ValueError.__new__"),some (.bool true)],fi (.type "getset_descriptor") [(.str "__weakref__" 209),(.ref 31),(.builtin "ExceptionGroup.__weakref__"),.none],fi (.type "super") [(.ref 31),(.ref 31),(.ref 31)],fi (.type "builtin_function_or_method") [(.builtin "object.__init_subclass__"),(.ref 31)]],
 (List.range 12).flatMap (λi=>oc P i (["NoSize","NoTree","NoArgs","NoCode","NoSteps","Late","NoPiece","NoSet","NoCover","NoParts","NoName","Taken"].getD i "")),
 [tu [(.ref 31)],fi (.type "builtin_function_or_method") [(.builtin "type.__prepare__"),(.type "type")],di P 5 [("__module__",413,(.str "piecelay.errors" 194)),("__qualname__",415,(.str "Fault" 414)),("__firstlineno__",417,(.int 31 416)),("__init__",425,(.ref 192)),("__static_attributes__",427,(.ref 193))],tu [],fi .none [(.int 33 0),(.int 4 0),(.ref 191)],co "Fault" "Fault" 408 31 0 0 0 182 false [.none,.none,.none] 411,fr (.ref 184) (.ref 181) (.str "piecelay.errors" 194),tu [],fi .none [],tu [(.str "self" 421),(.str "place" 422)],tu [],fu .none (ca (My.top 15) 0) "Fault.__init__" 0 .none .none .none .none,co "__init__" "Fault.__init__" 418 33 2 0 3 186 true [(.ref 188),(.ref 189),(.ref 190)] 423,fu (.type "function") (ca (My.top 15) 0) "Fault.__init__" 3 .none .none (.str "piecelay.errors" 194) (.ref 191),tu [(.str "place" 426)],di P 2 [("__module__",413,(.str "piecelay.errors" 194)),("__firstlineno__",417,(.int 31 416)),("__init__",425,(.ref 192)),("__static_attributes__",427,(.ref 193)),("__doc__",428,.none)],ty "Fault" [(.ref 31)] [(.ref 195),(.ref 31),(.type "ValueError"),(.type "Exception"),(.type "BaseException"),(.type "object")] 194 [] [some (.ref 179),none,some (.str "Fault" 406),some (.str "Fault" 414),some (.builtin "ValueError.__new__"),some (.bool true)],fi (.type "super") [(.ref 195),(.ref 195),(.ref 195)],fi (.type "builtin_function_or_method") [(.builtin "object.__init_subclass__"),(.ref 195)],tu [(.ref 31)],fi (.type "builtin_function_or_method") [(.builtin "type.__prepare__"),(.type "type")],di P 5 [("__module__",438,(.str "piecelay.errors" 194)),("__qualname__",440,(.str "Broken" 439)),("__firstlineno__",442,(.int 35 441)),("__init__",450,(.ref 211)),("__static_attributes__",452,(.ref 212))],tu [],fi .none [(.int 37 0),(.int 4 0),(.ref 210)],co "Broken" "Broken" 433 35 0 0 0 201 false [.none,.none,.none] 436,fr (.ref 203) (.ref 200) (.str "piecelay.errors" 194),tu [],fi .none [],tu [(.str "self" 446),(.str "trial" 447)],tu [],fu .none (ca (My.top 16) 0) "Broken.__init__" 0 .none .none .none .none,co "__init__" "Broken.__init__" 443 37 2 0 3 205 true [(.ref 207),(.ref 208),(.ref 209)] 448,fu (.type "function") (ca (My.top 16) 0) "Broken.__init__" 3 .none .none (.str "piecelay.errors" 194) (.ref 210),tu [(.str "trial" 451)],di P 2 [("__module__",438,(.str "piecelay.errors" 194)),("__firstlineno__",442,(.int 35 441)),("__init__",450,(.ref 211)),("__static_attributes__",452,(.ref 212)),("__doc__",453,.none)],ty "Broken" [(.ref 31)] [(.ref 214),(.ref 31),(.type "ValueError"),(.type "Exception"),(.type "BaseException"),(.type "object")] 213 [] [some (.ref 198),none,some (.str "Broken" 431),some (.str "Broken" 439),some (.builtin "ValueError.__new__"),some (.bool true)],fi (.type "super") [(.ref 214),(.ref 214),(.ref 214)],fi (.type "builtin_function_or_method") [(.builtin "object.__init_subclass__"),(.ref 214)]]]:List (List Obj)).flatten
noncomputable abbrev sm (w:World) (os:OsState):SharedT :=
 st w.params os 456 ((b11 w.params).set 3 (di w.params 25 [("__name__",165,(.str "piecelay.errors" 194)),("__doc__",166,.none),("__package__",167,.none),("__loader__",168,(.builtin "__main__.__loader__#opaque")),("__spec__",169,.none),("__annotations__",170,(.ref 6)),("__builtins__",171,(.ref 4)),("__file__",173,(.str "/claim/cut.py" 172)),("__cached__",174,.none),("_wall",193,(.ref 21)),("PieceError",213,(.ref 31)),("NoSize",229,(.ref 44)),("NoTree",245,(.ref 56)),("NoArgs",261,(.ref 68)),("NoCode",277,(.ref 80)),("NoSteps",293,(.ref 92)),("Late",309,(.ref 104)),("NoPiece",325,(.ref 116)),("NoSet",341,(.ref 128)),("NoCover",357,(.ref 140)),("NoParts",373,(.ref 152)),("NoName",389,(.ref 164)),("Taken",405,(.ref 176)),("Fault",430,(.ref 195)),("Broken",455,(.ref 214))])++([tu [],fi .none [(.int 1 0),(.int 0 0),(.ref 20),(.int 5 0),(.int 0 0),(.ref 27),(.int 7 0),(.int 0 0),(.ref 40),(.int 9 0),(.int 0 0),(.ref 52),(.int 11 0),(.int 0 0),(.ref 64),(.int 13 0),(.int 0 0),(.ref 76),(.int 15 0),(.int 0 0),(.ref 88),(.int 17 0),(.int 0 0),(.ref 100),(.int 19 0),(.int 0 0),(.ref 112),(.int 21 0),(.int 0 0),(.ref 124),(.int 23 0),(.int 0 0),(.ref 136),(.int 25 0),(.int 0 0),(.ref 148),(.int 27 0),(.int 0 0),(.ref 160),(.int 29 0),(.int 0 0),(.ref 172),(.int 31 0),(.int 0 0),(.ref 184),(.int 35 0),(.int 0 0),(.ref 203)],co "<module>" "<module>" 182 1 0 0 0 11 false [.none,.none,.none] 185,fr (.ref 13) (.ref 3) (.str "__main__" 164)]++ml w.params))
noncomputable def env:Env:={ scope:=PySem.Challenge.pw_piecelay_k23_whole_broken.main.scope,locals:=mainNs,globals:=mainNs,cells:=[],code:=.ref 13,frame:=some 14 }
noncomputable abbrev n0:Value:=(.str "piecelay.checks" 456)
noncomputable abbrev n1:Value:=(.str "piecelay.trees" 500)
noncomputable abbrev n2:Value:=(.str "piecelay.machine" 587)
noncomputable abbrev n3:Value:=(.str "piecelay.pieces" 801)
noncomputable abbrev n4:Value:=(.str "piecelay.covers" 1074)
noncomputable abbrev n5:Value:=(.str "piecelay.laying" 1146)
noncomputable abbrev n6:Value:=(.str "piecelay.shops" 1194)
noncomputable abbrev n7:Value:=(.str "law_piecelay_k23_whole_broken" 1336)
noncomputable def fl (P:Params):List Obj:=([
 h7 n0 21 217 464,
 h7 n0 22 224 473,
 h5 n0 23 231 480,
 [tu [(.int 10000 458)]],
 f7 (My.top 24) "need_size" 237 486 (.ref 236) .none n0,
 h5 n0 25 244 494,
 [di P 2 [("num",506,(.int 9999 507)),("arg",508,(.int 3 509))],di P 5 [("add",513,(.int 2 514)),("sub",515,(.int 2 516)),("mul",517,(.int 2 518)),("less",519,(.int 2 520)),("pick",521,(.int 3 522))]],
 h7 n1 31 251 529,
 h7 n1 32 258 537,
 h5 n1 33 265 544,
 h7 n1 34 270 550,
 h7 n1 35 277 557,
 h7 n1 36 284 567,
 h7 n1 37 291 578,
 [tu [(.str "end" 599),(.int 0 600)],tu [(.str "put" 601),(.int 1 602)],tu [(.str "far" 603),(.int 2 604)],tu [(.str "load" 605),(.int 1 606)],tu [(.str "add" 607),(.int 0 608)],tu [(.str "sub" 609),(.int 0 610)],tu [(.str "mul" 611),(.int 0 612)],tu [(.str "less" 613),(.int 0 614)],tu [(.str "skip" 615),(.int 1 616)],tu [(.str "jump" 617),(.int 2 618)],tu [(.str "zero" 619),(.int 1 620)],tu [(.str "none" 621),(.int 2 622)],tu [(.str "more" 623),(.int 1 624)],tu [(.str "twice" 625),(.int 0 626)],tu [(.str "about" 627),(.int 0 628)],tu [(.str "call" 629),(.int 2 630)],tu [(.str "back" 631),(.int 0 632)],tu [(.ref 298),(.ref 299),(.ref 300),(.ref 301),(.ref 302),(.ref 303),(.ref 304),(.ref 305),(.ref 306),(.ref 307),(.ref 308),(.ref 309),(.ref 310),(.ref 311),(.ref 312),(.ref 313),(.ref 314)],di P 3 [("load",634,(.int 3 635)),("skip",636,(.int 9 637)),("zero",638,(.int 9 639))],tu [(.str "skip" 644),(.str "jump" 645),(.str "zero" 646),(.str "none" 647),(.str "call" 648),(.str "back" 649)]],
 h5 n2 47 318 651,
 h7 n2 48 323 657,
 h7 n2 49 330 664,
 h7 n2 50 337 675,
 [tu [],fi (.type "builtin_function_or_method") [(.builtin "type.__prepare__"),(.type "type")],di P 11 [("__module__",691,(.str "piecelay.machine" 587)),("__qualname__",693,(.str "Machine" 692)),("__firstlineno__",695,(.int 140 694)),("__init__",706,(.ref 357)),("take",713,(.ref 364)),("push",721,(.ref 371)),("step",732,(.ref 378)),("way",742,(.ref 385)),("finish",749,(.ref 392)),("change",760,(.ref 399)),("__static_attributes__",768,(.ref 400))],tu [],fi .none [(.int 142 0),(.int 4 0),(.ref 356),(.int 151 0),(.int 4 0),(.ref 363),(.int 156 0),(.int 4 0),(.ref 370),(.int 161 0),(.int 4 0),(.ref 377),(.int 175 0),(.int 4 0),(.ref 384),(.int 189 0),(.int 4 0),(.ref 391),(.int 194 0),(.int 4 0),(.ref 398)],co "Machine" "Machine" 686 140 0 0 0 347 false [.none,.none,.none] 689,fr (.ref 349) (.ref 346) (.str "piecelay.machine" 587)],
 f7 (ca (My.top 51) 0) "Machine.__init__" 351 696 .none .none n2,
 f7 (ca (My.top 51) 1) "Machine.take" 358 707 .none .none n2,
 f7 (ca (My.top 51) 2) "Machine.push" 365 714 .none .none n2,
 f7 (ca (My.top 51) 3) "Machine.step" 372 722 .none .none n2,
 f7 (ca (My.top 51) 4) "Machine.way" 379 733 .none .none n2,
 f7 (ca (My.top 51) 5) "Machine.finish" 386 743 .none .none n2,
 f7 (ca (My.top 51) 6) "Machine.change" 393 750 .none .none n2,
 [tu [(.str "cells" 761),(.str "ended" 762),(.str "given" 763),(.str "kept" 764),(.str "pile" 765),(.str "place" 766),(.str "size" 767)],di P 4 [("__module__",691,(.str "piecelay.machine" 587)),("__firstlineno__",695,(.int 140 694)),("__init__",706,(.ref 357)),("take",713,(.ref 364)),("push",721,(.ref 371)),("step",732,(.ref 378)),("way",742,(.ref 385)),("finish",749,(.ref 392)),("change",760,(.ref 399)),("__static_attributes__",768,(.ref 400)),("__dict__",770,(.ref 403)),("__weakref__",772,(.ref 404)),("__doc__",773,.none)],ty "Machine" [(.type "object")] [(.ref 402),(.type "object")] 401 [] [none,none,some (.str "Machine" 684),some (.str "Machine" 692),some (.builtin "object.__new__"),some (.bool true)],fi (.type "getset_descriptor") [(.str "__dict__" 769),(.ref 402),(.builtin "function.__dict__"),(.builtin "function.__dict__#set")],fi (.type "getset_descriptor") [(.str "__weakref__" 771),(.ref 402),(.builtin "ExceptionGroup.__weakref__"),.none],fi (.type "super") [(.ref 402),(.ref 402),(.ref 402)],fi (.type "builtin_function_or_method") [(.builtin "object.__init_subclass__"),(.ref 402)]],
 h7 n2 52 407 776,
 [di P 1 [("steps",787,(.int 1000 786))]],
 f7 (My.top 53) "run" 415 788 .none (.ref 414) n2,
 [di P 3 [("hole",813,(.int 2 814)),("gap",815,(.int 3 816)),("slot",817,(.int 2 818))],di P 3 [("low",823,(.str "gap" 824)),("high",825,(.str "gap" 826)),("arg",827,(.str "slot" 828))],tu [(.str "put" 833),(.str "far" 834),(.str "load" 835),(.str "add" 836),(.str "sub" 837),(.str "mul" 838),(.str "less" 839),(.str "more" 840),(.str "twice" 841),(.str "about" 842)],tu [(.int 0 844),(.int 1 845),(.int 2 846),(.int 99 847),(.int 100 848),(.int 9999 849)],tu [(.str "gap" 854),(.int 0 855),(.int 99 856)],tu [(.str "low" 858),(.int 0 859)],tu [(.int 1 857),(.ref 427)],tu [(.str "one" 853),(.ref 426),(.ref 428)],tu [(.str "gap" 861),(.int 0 862),(.int 9999 863)],tu [(.str "low" 865),(.int 0 866)],tu [(.str "high" 867),(.int 0 868)],tu [(.int 2 864),(.ref 431),(.ref 432)],tu [(.str "two" 860),(.ref 430),(.ref 433)],tu [(.str "slot" 870),(.int 0 871)],tu [(.str "arg" 873),(.int 0 874)],tu [(.int 3 872),(.ref 436)],tu [(.str "slot" 869),(.ref 435),(.ref 437)],tu [(.str "hole" 877),(.int 0 878)],tu [(.str "hole" 879),(.int 1 880)],tu [(.str "add" 876),(.ref 439),(.ref 440)],tu [(.int 4 881)],tu [(.str "add" 875),(.ref 441),(.ref 442)],tu [(.str "hole" 884),(.int 0 885)],tu [(.str "hole" 886),(.int 1 887)],tu [(.str "sub" 883),(.ref 444),(.ref 445)],tu [(.int 5 888)],tu [(.str "sub" 882),(.ref 446),(.ref 447)],tu [(.str "hole" 891),(.int 0 892)],tu [(.str "hole" 893),(.int 1 894)],tu [(.str "mul" 890),(.ref 449),(.ref 450)],tu [(.int 6 895)],tu [(.str "mul" 889),(.ref 451),(.ref 452)],tu [(.str "hole" 898),(.int 0 899)],tu [(.str "hole" 900),(.int 1 901)],tu [(.str "less" 897),(.ref 454),(.ref 455)],tu [(.int 7 902)],tu [(.str "less" 896),(.ref 456),(.ref 457)],tu [(.str "hole" 905),(.int 0 906)],tu [(.str "gap" 907),(.int 0 908),(.int 99 909)],tu [(.str "add" 904),(.ref 459),(.ref 460)],tu [(.str "low" 911),(.int 0 912)],tu [(.int 12 910),(.ref 462)],tu [(.str "more" 903),(.ref 461),(.ref 463)],o (.type "list") (.seq #[(.ref 429),(.ref 434),(.ref 438),(.ref 443),(.ref 448),(.ref 453),(.ref 458),(.ref 464)] 0)],
 h7 n3 67 466 914,
 h5 n3 68 473 921,
 h7 n3 69 478 927,
 h5 n3 70 485 937,
 h5 n3 71 490 943,
 h7 n3 72 495 949,
 h7 n3 73 502 957,
 h5 n3 74 509 965,
 h7 n3 75 514 971,
 h7 n3 76 521 981,
 h5 n3 77 528 988,
 h7 n3 78 533 994,
 h7 n3 79 540 1001,
 h7 n3 80 547 1009,
 h7 n3 81 554 1019,
 h7 n3 82 561 1028,
 h7 n3 83 568 1037,
 h5 n3 84 575 1050,
 h5 n3 85 580 1056,
 h5 n3 86 585 1062,
 h5 n3 87 590 1068,
 [tu [(.int 10 1080),(.int 11 1081)],tu [(.int 8 1083),(.int 9 1084)]],
 h7 n4 93 597 1086,
 h7 n4 94 604 1096,
 h7 n4 95 611 1106,
 h7 n4 96 618 1117,
 h5 n4 97 625 1129,
 h7 n4 98 630 1135,
 h5 n5 102 637 1152,
 h5 n5 103 642 1158,
 h7 n5 104 647 1164,
 h7 n5 105 654 1175,
 h7 n5 106 661 1185,
 [tu [],fi (.type "builtin_function_or_method") [(.builtin "type.__prepare__"),(.type "type")],di P 19 [("__module__",1205,(.str "piecelay.shops" 1194)),("__qualname__",1207,(.str "Shop" 1206)),("__firstlineno__",1209,(.int 464 1208)),("__init__",1217,(.ref 682)),("has_piece",1223,(.ref 687)),("order",1231,(.ref 694)),("put",1240,(.ref 701)),("drop",1246,(.ref 706)),("pieces",1253,(.ref 713)),("lay",1263,(.ref 720)),("code",1271,(.ref 727)),("tree",1279,(.ref 734)),("run",1289,(.ref 741)),("is_stale",1297,(.ref 748)),("stale",1304,(.ref 755)),("total",1311,(.ref 762)),("twin",1318,(.ref 769)),("__len__",1325,(.ref 776)),("__static_attributes__",1328,(.ref 777))],tu [],fi .none [(.int 466 0),(.int 4 0),(.ref 681),(.int 473 0),(.int 4 0),(.ref 686),(.int 476 0),(.int 4 0),(.ref 693),(.int 481 0),(.int 4 0),(.ref 700),(.int 492 0),(.int 4 0),(.ref 705),(.int 499 0),(.int 4 0),(.ref 712),(.int 502 0),(.int 4 0),(.ref 719),(.int 509 0),(.int 4 0),(.ref 726),(.int 512 0),(.int 4 0),(.ref 733),(.int 515 0),(.int 4 0),(.ref 740),(.int 518 0),(.int 4 0),(.ref 747),(.int 521 0),(.int 4 0),(.ref 754),(.int 524 0),(.int 4 0),(.ref 761),(.int 527 0),(.int 4 0),(.ref 768),(.int 530 0),(.int 4 0),(.ref 775)],co "Shop" "Shop" 1200 464 0 0 0 671 false [.none,.none,.none] 1203,fr (.ref 673) (.ref 670) (.str "piecelay.shops" 1194),tu [.none]],
 f7 (ca (My.top 110) 0) "Shop.__init__" 676 1210 (.ref 675) .none n6,
 f5 (ca (My.top 110) 1) "Shop.has_piece" 683 1218 .none .none n6,
 f7 (ca (My.top 110) 2) "Shop.order" 688 1224 .none .none n6,
 f7 (ca (My.top 110) 3) "Shop.put" 695 1232 .none .none n6,
 f5 (ca (My.top 110) 4) "Shop.drop" 702 1241 .none .none n6,
 f7 (ca (My.top 110) 5) "Shop.pieces" 707 1247 .none .none n6,
 f7 (ca (My.top 110) 6) "Shop.lay" 714 1254 .none .none n6,
 f7 (ca (My.top 110) 7) "Shop.code" 721 1264 .none .none n6,
 f7 (ca (My.top 110) 8) "Shop.tree" 728 1272 .none .none n6,
 f7 (ca (My.top 110) 9) "Shop.run" 735 1280 .none .none n6,
 f7 (ca (My.top 110) 10) "Shop.is_stale" 742 1290 .none .none n6,
 f7 (ca (My.top 110) 11) "Shop.stale" 749 1298 .none .none n6,
 f7 (ca (My.top 110) 12) "Shop.total" 756 1305 .none .none n6,
 f7 (ca (My.top 110) 13) "Shop.twin" 763 1312 .none .none n6,
 f7 (ca (My.top 110) 14) "Shop.__len__" 770 1319 .none .none n6,
 [tu [(.str "orders" 1326),(.str "ready" 1327)],di P 4 [("__module__",1205,(.str "piecelay.shops" 1194)),("__firstlineno__",1209,(.int 464 1208)),("__init__",1217,(.ref 682)),("has_piece",1223,(.ref 687)),("order",1231,(.ref 694)),("put",1240,(.ref 701)),("drop",1246,(.ref 706)),("pieces",1253,(.ref 713)),("lay",1263,(.ref 720)),("code",1271,(.ref 727)),("tree",1279,(.ref 734)),("run",1289,(.ref 741)),("is_stale",1297,(.ref 748)),("stale",1304,(.ref 755)),("total",1311,(.ref 762)),("twin",1318,(.ref 769)),("__len__",1325,(.ref 776)),("__static_attributes__",1328,(.ref 777)),("__dict__",1330,(.ref 780)),("__weakref__",1332,(.ref 781)),("__doc__",1333,.none)],ty "Shop" [(.type "object")] [(.ref 779),(.type "object")] 778 [] [none,none,some (.str "Shop" 1198),some (.str "Shop" 1206),some (.builtin "object.__new__"),some (.bool true)],fi (.type "getset_descriptor") [(.str "__dict__" 1329),(.ref 779),(.builtin "function.__dict__"),(.builtin "function.__dict__#set")],fi (.type "getset_descriptor") [(.str "__weakref__" 1331),(.ref 779),(.builtin "ExceptionGroup.__weakref__"),.none],fi (.type "super") [(.ref 779),(.ref 779),(.ref 779)],fi (.type "builtin_function_or_method") [(.builtin "object.__init_subclass__"),(.ref 779)]],
 h7 n7 112 784 1338,
 h7 n7 113 791 1350,
 h7 n7 114 798 1359,
 h7 n7 115 805 1369,
 h7 n7 116 812 1378,
 h7 n7 117 819 1385,
 h7 n7 118 826 1392,
 h7 n7 119 833 1403,
 h7 n7 120 840 1416,
 h5 n7 121 847 1426,
 h7 n7 122 852 1432,
 h5 n7 123 859 1442,
 h7 n7 124 864 1448,
 h7 n7 125 871 1457,
 h5 n7 126 878 1464,
 h7 n7 127 883 1470,
 h7 n7 128 890 1479,
 h5 n7 129 897 1490,
 h5 n7 130 902 1496,
 h7 n7 131 907 1502,
 h7 n7 132 914 1510,
 h5 n7 133 921 1523,
 h5 n7 134 926 1529,
 h7 n7 135 931 1535,
 h7 n7 136 938 1550,
 h7 n7 137 945 1558,
 h5 n7 138 952 1569]:List (List Obj)).flatten
noncomputable def en:List (Str × Nat × Value):=([
 [("__name__",165,(.str "law_piecelay_k23_whole_broken" 1336)),("__doc__",166,.none),("__package__",167,.none),("__loader__",168,(.builtin "__main__.__loader__#opaque")),("__spec__",169,.none),("__annotations__",170,(.ref 6)),("__builtins__",171,(.ref 4)),("__file__",173,(.str "/claim/cut.py" 172)),("__cached__",174,.none)],
 rs [("_wall",193,21),("PieceError",213,31),("NoSize",229,44),("NoTree",245,56),("NoArgs",261,68),("NoCode",277,80),("NoSteps",293,92),("Late",309,104),("NoPiece",325,116),("NoSet",341,128),("NoCover",357,140),("NoParts",373,152),("NoName",389,164),("Taken",405,176),("Fault",430,195),("Broken",455,214)],
 [("MOST_SIZE",459,(.int 10000 458))],
 [("MANY_ARGS",461,(.int 4 460))],
 [("LONGEST_NAME",463,(.int 8 462))],
 rs [("is_whole",472,223),("is_tagged",479,230),("is_name",485,235),("need_size",493,243),("need_args",499,248)],
 [("MOST_PARTS",503,(.int 40 502))],
 [("MOST_DEEP",505,(.int 8 504))],
 rs [("MOST_IN_LEAF",512,249),("TREES_IN_BRANCH",528,250),("is_node",536,257),("trees_within",543,264),("is_tree",549,269),("need_tree",556,276),("worth_of_both",566,283),("reckoned",577,290),("walked",586,297)],
 [("MOST_CELLS",590,(.int 1000 589))],
 [("MOST_CELL",592,(.int 99 591))],
 [("MOST_STEPS",594,(.int 100000 593))],
 [("MOST_PILE",596,(.int 64 595))],
 [("MOST_KEPT",598,(.int 16 597))],
 rs [("INSTRUCTIONS",633,315),("MOST_TOLD",643,316),("WAYS",650,317),("is_code",656,322),("need_code",663,329),("instruction_at",674,336),("number_told",683,343),("Machine",775,402),("started",785,413),("run",799,421),("run_machine",800,421)],
 [("MOST_PATTERN_DEEP",804,(.int 3 803))],
 [("MOST_GAP",806,(.int 9999 805))],
 [("MOST_PIECE_CELLS",808,(.int 12 807))],
 [("MOST_PIECES",810,(.int 16 809))],
 [("MOST_TRIED_SIZE",812,(.int 5 811))],
 rs [("MARK_LENGTHS",822,422),("FILLED_FROM",832,423),("STRAIGHT",843,424),("TRIED_NUMS",850,425)],
 [("BENEATH_HOLES",852,(.int 1 851))],
 rs [("BASIC",913,465),("is_mark",920,472),("is_pattern_part",926,477),("marks_in",936,484),("is_numbered",942,489),("is_pattern",948,494),("is_filling",956,501),("is_cell",964,508),("are_instructions",970,513),("is_piece",980,520),("need_piece",987,527),("is_set",993,532),("need_set",1000,539),("may_stand_for",1008,546),("matches",1018,553),("found_in",1027,560),("filled_cell",1036,567),("filled_pattern",1049,574),("keeps",1055,579),("rows_of",1061,584),("args_for",1067,589),("failing",1073,594)],
 [("MOST_NEAR",1077,(.int 9 1076))],
 [("CALL_CELLS",1079,(.int 3 1078))],
 rs [("AHEAD",1082,595),("BEHIND",1085,596),("jump_over",1095,603),("jumps_of_pick",1105,610),("ways_of",1116,617),("length_by",1128,624),("best_by_ways",1134,629),("best_covering",1145,636)],
 [("END",1149,(.int 0 1148))],
 [("CALL",1151,(.int 15 1150))],
 rs [("laid_pick",1157,641),("laid_piece",1163,646),("laid_cells",1174,653),("code_of",1184,660),("lay",1192,667),("lay_laying",1193,667)],
 [("TRIED_SIZE",1197,(.int 3 1196))],
 rs [("Shop",1335,779),("_law_draw",1349,790),("_law_pick",1358,797),("_law_two",1368,804),("_law_worth",1377,811),("_law_names",1384,818),("_law_behind",1391,825),("_law_goes",1402,832),("_law_does",1415,839),("_law_run",1425,846),("_law_from",1431,851),("_law_pieces",1441,858),("_law_set",1447,863),("_law_fit",1456,870),("_law_over",1463,877),("_law_least",1469,882),("_law_jump",1478,889),("_law_fill",1489,896),("_law_lay",1495,901),("_law_rows",1501,906),("_law_marks",1509,913),("_law_value",1522,920),("_law_leaves",1528,925),("_law_first_failing",1534,930),("_law_drawn_piece",1549,937),("_law_which",1557,944),("_law_ask",1568,951),("law",1574,956)]]:List (List (Str × Nat × Value))).flatten
noncomputable def ol (P:Params):List Obj:=(b11 P).set 3 (di P 139 en)++([tu [],fi .none ([(1,0,20),(5,0,27),(7,0,40),(9,0,52),(11,0,64),(13,0,76),(15,0,88),(17,0,100),(19,0,112),(21,0,124),(23,0,136),(25,0,148),(27,0,160),(29,0,172),(31,0,184),(35,0,203),(43,0,222),(45,0,229),(47,0,234),(51,0,242),(54,0,247),(64,0,256),(71,0,263),(75,0,268),(85,0,275),(88,0,282),(96,0,289),(106,0,296),(120,0,321),(124,0,328),(127,0,335),(135,0,342),(140,0,349),(213,0,412),(220,0,420),(240,0,471),(246,0,476),(254,0,483),(261,0,488),(264,0,493),(268,0,500),(272,0,507),(274,0,512),(287,0,519),(296,0,526),(299,0,531),(305,0,538),(308,0,545),(312,0,552),(324,0,559),(329,0,566),(337,0,573),(349,0,578),(360,0,583),(365,0,588),(367,0,593),(387,0,602),(392,0,609),(396,0,616),(405,0,623),(411,0,628),(423,0,635),(435,0,640),(439,0,645),(447,0,652),(454,0,659),(457,0,666),(464,0,673),(533,0,789),(547,0,796),(549,0,803),(557,0,810),(565,0,817),(568,0,824),(572,0,831),(585,0,838),(603,0,845),(605,0,850),(629,0,857),(640,0,862),(643,0,869),(656,0,876),(658,0,881),(673,0,888),(675,0,895),(685,0,900),(706,0,905),(714,0,912),(720,0,919),(729,0,924),(739,0,929),(752,0,936),(769,0,943),(777,0,950),(792,0,955)].flatMap λ(x:Nat × Nat × Nat)=>[.int x.1 0,.int x.2.1 0,.ref x.2.2]),co "<module>" "<module>" 182 1 0 0 0 11 false [.none,.none,.none] 185,fr (.ref 13) (.ref 3) (.str "__main__" 164)]++(ml P++fl P))
noncomputable abbrev sf (w:World) (os:OsState):SharedT:=st w.params os 1575 (ol w.params)
noncomputable abbrev fs (w:World) (os:OsState):Shared:=⟨⟨(ol w.params).toArray,{}⟩,#[],boot_drawn,1575,os⟩
end LM
namespace My
open PySem PySem.W PyProof.Rows
noncomputable abbrev lw:=PySem.Challenge.rw_piecelay_k23_whole_broken
noncomputable abbrev lp:=lw.row.prog
theorem sd1:namesResolve lp=true:=by kernel_rfl
theorem sd2:(namesMeet lp lp.main.body λ_ n=>attrL n)=true:=by kernel_rfl
theorem sd3:looksOpen lp=true:=by unfold looksOpen;rw [sd1,sd2];kernel_rfl
theorem said:OpenLaw.wellSaid lw=true:=by unfold OpenLaw.wellSaid OpenRow.wellSaid OpenRow.partSaid;rw [sd3];kernel_rfl
end My
end
section
open PySem PySem.W PyProof.Rows
section
local macro_rules | `(tactic| o_head $H:term)=>`(tactic| (have _hook:=$H;assumption))
theorem My.k0 (h:PySem.Challenge.rw_piecelay_k23_whole_broken.row.Holds):PySem.Challenge.rw_piecelay_k23_whole_broken.row.Holds:=by
 k_head
end
namespace My
noncomputable def view:Program:={ PySem.Challenge.pw_piecelay_k23_whole_broken with main:={ PySem.Challenge.pw_piecelay_k23_whole_broken.main with body:=[top 0,top 2,top 3,top 4,top 5,top 6,top 7,top 8,top 9,top 10,top 11,top 12,top 13,top 14,top 15,top 16,top 18,top 19,top 20,top 21,top 22,top 23,top 25,top 27,top 28,top 29,top 30,top 31,top 32,top 33,top 34,top 35,top 36,top 37,top 39,top 40,top 41,top 42,top 43,top 44,top 45,top 46,top 47,top 48,top 49,top 50,top 51,top 52,top 54,top 56,top 57,top 58,top 59,top 60,top 61,top 62,top 63,top 64,top 65,top 66,top 67,top 68,top 69,top 70,top 71,top 72,top 73,top 74,top 75,top 76,top 77,top 78,top 79,top 80,top 81,top 82,top 83,top 84,top 85,top 86,top 87,top 89,top 90,top 91,top 92,top 93,top 94,top 95,top 96,top 97,top 98,top 100,top 101,top 102,top 103,top 104,top 105,top 106,top 107,top 109,top 110,top 112,top 113,top 114,top 115,top 116,top 117,top 118,top 119,top 120,top 121,top 122,top 123,top 124,top 125,top 126,top 127,top 128,top 129,top 130,top 131,top 132,top 133,top 134,top 135,top 136,top 137,top 138] } }
noncomputable abbrev Yg:Program:=PySem.Challenge.pw_piecelay_k23_whole_broken
noncomputable abbrev loose:List Str:=["need_size","MOST_IN_LEAF","TREES_IN_BRANCH","MOST_TOLD","run","run_machine","MARK_LENGTHS","FILLED_FROM","BASIC","lay_laying"]
noncomputable abbrev xt (s:Shared):Bool:=xlAt view [] s && recOk (RowW.records (OpenRow.toRowW (OpenLaw.row PySem.Challenge.rw_piecelay_k23_whole_broken))) s
noncomputable abbrev kas:List Addr:=[2,3,15,17,18,20,21,22,29,30,31,32,35,42,43,44,47,54,55,56,59,66,67,68,71,78,79,80,83,90,91,92,95,102,103,104,107,114,115,116,119,126,127,128,131,138,139,140,143,150,151,152,155,162,163,164,167,174,175,176,179,186,188,189,191,192,193,194,195,198,205,207,208,210,211,212,213,214,217,219,220,222,223,224,226,227,229,230,231,234,235,236,237,239,240,242,243,244,247,248,249,250,251,253,254,256,257,258,260,261,263,264,265,268,269,270,272,273,275,276,277,279,280,282,283,284,286,287,289,290,291,293,294,296,297,298,299,300,301,302,303,304,305,306,307,308,309,310,311,312,313,314,315,316,317,318,321,322,323,325,326,328,329,330,332,333,335,336,337,339,340,342,343,351,353,354,356,357,358,360,361,363,364,365,367,368,370,371,372,374,375,377,378,379,381,382,384,385,386,388,389,391,392,393,395,396,398,399,400,401,402,403,404,407,409,410,412,413,414,415,417,418,420,421,422,423,424,425,426,427,428,429,430,431,432,433,434,435,436,437,438,439,440,441,442,443,444,445,446,447,448,449,450,451,452,453,454,455,456,457,458,459,460,461,462,463,464,465,466,468,469,471,472,473,476,477,478,480,481,483,484,485,488,489,490,493,494,495,497,498,500,501,502,504,505,507,508,509,512,513,514,516,517,519,520,521,523,524,526,527,528,531,532,533,535,536,538,539,540,542,543,545,546,547,549,550,552,553,554,556,557,559,560,561,563,564,566,567,568,570,571,573,574,575,578,579,580,583,584,585,588,589,590,593,594,595,596,597,599,600,602,603,604,606,607,609,610,611,613,614,616,617,618,620,621,623,624,625,628,629,630,632,633,635,636,637,640,641,642,645,646,647,649,650,652,653,654,656,657,659,660,661,663,664,666,667,675,676,678,679,681,682,683,686,687,688,690,691,693,694,695,697,698,700,701,702,705,706,707,709,710,712,713,714,716,717,719,720,721,723,724,726,727,728,730,731,733,734,735,737,738,740,741,742,744,745,747,748,749,751,752,754,755,756,758,759,761,762,763,765,766,768,769,770,772,773,775,776,777,778,779,780,781,784,786,787,789,790,791,793,794,796,797,798,800,801,803,804,812,814,815,817,818,819,821,822,824,825,833,835,836,838,839,852,854,855,857,858,890,892,893,895,896,902,905,906,907,909,910,912,913,914,916,917,919,920,921,924,925,926,929,930,931,933,934,936,937,938,940,941,943,944,945,947,948,950,951,952,955,956]
theorem kas_ok:∀ P,kas=(My.k0.heap_1 P).map (·.1):=λ_=>by kernel_rfl
noncomputable abbrev hk:Hook:=kHook My.k0.heap_1 kas kas_ok
noncomputable abbrev NN:Nat:=7594
noncomputable abbrev cd:Code:=.body (behindTheImports Yg) LM.env
noncomputable abbrev q0:Pos:=⟨0,0,0,0⟩
theorem m1:∀ (w:World) (os:OsState),LT.goes Yg w 11 (some (.ref 6)) 12 (LT.boot w.params os) (topStub Yg)=some (LM.sa w os,⟨Fast.tw11892475500146522536 Fast.tw14364793385576792824 cd,cd,q0,[topFrame q0]⟩):=λw os=>by kernel_rfl
theorem m2:∀ (w:World) (os:OsState),LT.Xi Yg w 11 (some (.ref 6)) 1 (LM.sa w os) (blockOf (behindTheImports Yg) LM.env cd q0 [topFrame q0])=some (.next,LM.sa w os,cd,q0):=λw os=>by kernel_rfl
theorem m3:∀ (w:World) (os:OsState),LT.Xi Yg w 11 (some (.ref 6)) 3271 (LM.sa w os) (piecesOf ((behindTheImports Yg).take 17) LM.env cd q0 [topFrame q0])=some (.next,LM.sm w os,cd,⟨35,0,38,26⟩):=λw os=>by kernel_rfl
noncomputable abbrev m4S (w:World):Prop:=∀ os:OsState,LT.Xi Yg w 11 (some (.ref 6)) 4269 (LM.sm w os) (piecesOf ((behindTheImports Yg).drop 17) LM.env cd ⟨35,0,38,26⟩ [topFrame q0])=some (.next,LM.sf w os,cd,⟨792,0,805,97⟩)
theorem m4a:∀ w:World,m4S (w.withFollow "special-get-raises" false):=λw os=>by kernel_rfl
theorem m4b:∀ w:World,m4S (w.withFollow "special-get-raises" true):=λw os=>by kernel_rfl
theorem m5:∀ (w:World) (os:OsState),LT.ran Yg w 11 (some (.ref 6)) 41 (LM.sf w os) (restOf [] LM.env cd ⟨792,0,805,97⟩ [topFrame q0])=some (LM.sf w os):=λw os=>by kernel_rfl
theorem m6:∀ (w:World) (os:OsState),(LM.sf w os).abs=LM.fs w os:=λw os=>by kernel_rfl
noncomputable abbrev im:=Fast.tw5923862056798008813 Yg.main.body
theorem e1:∀ (w:World) (os:OsState),staticsOk im (boot_heap w.params) (LM.fs w os).heap=true:=λw os=>by kernel_rfl
theorem e2:∀ (w:World) (os:OsState),namesBound Yg (LM.fs w os).heap=true:=λw os=>by kernel_rfl
theorem e3:∀ (w:World) (os:OsState),laidKept (boot_heap w.params) (LM.fs w os).heap=true:=λw os=>by kernel_rfl
noncomputable abbrev qi (w:World) (os:OsState):=Fast.tw4187177175401517315 view loose im xt true (LM.fs w os)
noncomputable abbrev oY:=openGood view loose
theorem g1:∀ (w:World) (os:OsState),LT.c1 (qi w os)=LT.d1 oY:=λw os=>by kernel_rfl
theorem g2:∀ (w:World) (os:OsState),LT.c2 (qi w os)=LT.d2 oY:=λw os=>by kernel_rfl
theorem g3:∀ (w:World) (os:OsState),LT.c3 (qi w os)=LT.d3 oY:=λw os=>by kernel_rfl
theorem g4:∀ (w:World) (os:OsState),LT.c4 (qi w os)=LT.d4 oY:=λw os=>by kernel_rfl
theorem g5:∀ (w:World) (os:OsState),LT.c5 (qi w os)=LT.d5 oY:=λw os=>by kernel_rfl
theorem g6a:∀ (w:World) (os:OsState),LT.tA 45 (LT.c6 (qi w os))=LT.tB 45 (LT.d6 oY):=λw os=>by kernel_rfl
theorem g6b:∀ (w:World) (os:OsState),LT.rA 45 (LT.c6 (qi w os))=LT.rB 45 (LT.d6 oY):=λw os=>by kernel_rfl
theorem g6 (w:World) (os:OsState):LT.c6 (qi w os)=LT.d6 oY:=LT.cut2 45 (g6a w os) (g6b w os)
theorem g7:∀ (w:World) (os:OsState),LT.c7 (qi w os)=LT.d7 oY:=λw os=>by kernel_rfl
theorem g8:∀ (w:World) (os:OsState),LT.c8 (qi w os)=LT.d8 oY:=λw os=>by kernel_rfl
theorem g9:∀ (w:World) (os:OsState),LT.c9 (qi w os)=LT.d9 oY:=λw os=>by kernel_rfl
theorem g0:∀ (w:World) (os:OsState),Hook.obs hk (LM.fs w os)=Hook.val hk w:=λw os=>by kernel_rfl
theorem left:LeftO Yg view loose xt (Hook.obs hk) (Hook.val hk) NN :=
 LT.left3 (by rfl) (by decide) (λs=>by rfl) (by decide) (N9 17 _) m1 m2 m3 (λw=>byRow2 "special-get-raises" (P:=m4S) m4a m4b w) m5 m6 (λw os=>by rw [e1,e2,e3];rfl) (λw os=>LT.all9 (g1 w os) (g2 w os) (g3 w os) (g4 w os) (g5 w os) (g6 w os) (g7 w os) (g8 w os) (g9 w os)) g0
end My
end
section
namespace L2
open PySem PySem.Spec PyProof.Rows
noncomputable abbrev Key:=Sum Int Str
noncomputable def DO:Key->Value->Bool
 | .inl k,v=>Value.isInt k v
 | .inr x,v=>Value.isStrOf x v
noncomputable def Gs (w:World):Key->Int
 | .inl k=>hashInt k
 | .inr x=>hashStr w x
theorem eG:∀ {k:Key} {v:Value},DO k v=true->(∃ i t,k=Sum.inl i/\v=Value.int i t)\/(∃ x t,k=Sum.inr x/\v=Value.str x t)
 | .inl i,v,h=>by obtain ⟨t,e⟩:=Value.isInt_shape (k:=i) (v:=v) h;exact .inl ⟨i,t,rfl,e⟩
 | .inr x,v,h=>by obtain ⟨t,e⟩:=Value.isStrOf_shape (x:=x) (v:=v) h;exact .inr ⟨x,t,rfl,e⟩
theorem EF (a b:Int):decide ((Sum.inl a:Key)=Sum.inl b)=(a == b):=by
 by_cases e:a=b
 ·subst e;simp
 ·have h:¬ (Sum.inl a:Key)=Sum.inl b:=λq=>e (Sum.inl.inj q);rw [LY h];exact (NG.mpr e).symm
theorem EI (a b:Str):decide ((Sum.inr a:Key)=Sum.inr b)=decide (a=b):=by
 by_cases e:a=b
 ·subst e;simp
 ·have h:¬ (Sum.inr a:Key)=Sum.inr b:=λq=>e (Sum.inr.inj q);rw [LY h,LY e]
theorem EG (a:Int) (b:Str):decide ((Sum.inl a:Key)=Sum.inr b)=false:=LY (λq=>nomatch q)
theorem EH (a:Str) (b:Int):decide ((Sum.inr a:Key)=Sum.inl b)=false:=LY (λq=>nomatch q)
noncomputable def su (prog:Program) (w:World):PySem.KeyKind prog w Key where
 is:=DO
 hash:=Gs w
 inj:=λv a b ha hb=>by
  rcases eG ha with ⟨i,t,rfl,rfl⟩ | ⟨x,t,rfl,rfl⟩
  ·rcases eG hb with ⟨j,u,rfl,e⟩ | ⟨y,u,rfl,e⟩
   ·injection e with e1 _;rw [e1]
   ·exact nomatch e
  ·rcases eG hb with ⟨j,u,rfl,e⟩ | ⟨y,u,rfl,e⟩
   ·exact nomatch e
   ·injection e with e1 _;rw [e1]
 byValue:=λk v h=>by rcases eG h with ⟨i,t,rfl,rfl⟩ | ⟨x,t,rfl,rfl⟩ <;> rfl
 pyHash:=λhv h=>by
  rcases eG hv with ⟨i,t,rfl,rfl⟩ | ⟨x,t,rfl,rfl⟩
  ·exact wpAny_pyHash_int h
  ·exact wpAny_pyHash_str h
 eqBool:=λhu hv h=>by
  rcases eG hu with ⟨i,t,rfl,rfl⟩ | ⟨x,t,rfl,rfl⟩
  ·rcases eG hv with ⟨j,u,rfl,rfl⟩ | ⟨y,u,rfl,rfl⟩
   ·rw [EF] at h;exact wpAny_eqBool_int h
   ·rw [EG] at h;exact O3 i t y u _ _ _ _ h
  ·rcases eG hv with ⟨j,u,rfl,rfl⟩ | ⟨y,u,rfl,rfl⟩
   ·rw [EH] at h;exact O4 x t j u _ _ _ _ h
   ·rw [EI] at h;exact wpAny_eqBool_str h
 «strs»:=λk x t v h=>by
  rcases eG h with ⟨i,u,rfl,e⟩ | ⟨y,u,rfl,e⟩
  ·exact nomatch e
  ·injection e with e1 _;subst e1;cases v <;> rfl
inductive V where
 | Py | bl (b:Bool) | int (i:Int) | str (x:Str) | X0 (b:Array UInt8) | flt (b:UInt64) | ref (a:Addr) | ty (n:String)
 deriving DecidableEq
noncomputable def RelV:V->Value->Prop
 | .Py,u=>u=Value.none
 | .bl b,u=>u=Value.bool b
 | .int i,u=>∃ t,u=Value.int i t
 | .str x,u=>∃ t,u=Value.str x t
 | .X0 b,u=>∃ t,u=Value.bytes b t
 | .flt b,u=>∃ t,u=Value.float b t
 | .ref a,u=>u=Value.ref a
 | .ty n,u=>u=Value.type n
noncomputable abbrev Vals:List V->List Value->Prop:=Paired RelV
variable {xs:List V} {us:List Value}
theorem Vals.length (r:Vals xs us):xs.length=us.length:=Paired.length r
theorem Vals.get:∀ {xs:List V} {us:List Value} {i:Nat} {x:V},Vals xs us->xs[i]?=some x->∃ u,us[i]?=some u/\RelV x u
 | _,_,_,_,.nil,e=>by simp at e
 | _,_,0,_,.cons r _,e=>by simp at e;subst e;exact ⟨_,rfl,r⟩
 | _,_,i+1,x,.cons _ t,e=>by obtain ⟨u,h1,h2⟩:=Vals.get (i:=i) (x:=x) t (by simpa using e);exact ⟨u,by simpa using h1,h2⟩
variable {u:Value}
theorem Vals.set {x:V} (r:RelV x u):∀ {xs:List V} {us:List Value} (i:Nat),Vals xs us->Vals (xs.set i x) (us.set i u)
 | _,_,_,.nil=>.nil
 | _,_,0,.cons _ t=>.cons r t
 | _,_,i+1,.cons q t=>.cons q (Vals.set r i t)
theorem Vals.append:∀ {xs ys:List V} {us ws:List Value},Vals xs us->Vals ys ws->Vals (xs++ys) (us++ws)
 | _,_,_,_,.nil,s=>s
 | _,_,_,_,.cons r t,s=>.cons r (Vals.append t s)
theorem Vals.take:∀ {xs:List V} {us:List Value} (n:Nat),Vals xs us->Vals (xs.take n) (us.take n)
 | _,_,0,_=>.nil
 | _,_,_+1,.nil=>.nil
 | _,_,n+1,.cons r t=>.cons r (Vals.take n t)
theorem Vals.drop:∀ {xs:List V} {us:List Value} (n:Nat),Vals xs us->Vals (xs.drop n) (us.drop n)
 | _,_,0,r=>r
 | _,_,_+1,.nil=>.nil
 | _,_,n+1,.cons _ t=>Vals.drop n t
noncomputable def Wz:Option V->Option Value->Prop
 | some v,some u=>RelV v u
 | none,none=>True
 | _,_=>False
noncomputable def KV {κ:Type}:List (κ × V)->List (κ × Value)->Prop:=Paired λ(p:κ × V) (q:κ × Value)=>p.1=q.1/\RelV p.2 q.2
noncomputable def kV:Key->V
 | .inl i=>.int i
 | .inr x=>.str x
inductive HO where
 | lst (xs:List V)
 | tup (xs:List V)
 | dK (kvs:List (Key × V)) | dT (kvs:List (List Key × V))
 | set (S:Int->Bool) (n:Nat)
 | ins (C dx:Addr) (fs:List (Str × V))
 | own (x:Addr)
 | xd (fs:List (Str × V))
 | met (f x:Addr)
 | Wn (lo hi:Int)
 | Yp (o:Obj) (u:HO)
 | Zd (ps:Array Value)
 | ext (φ:Heap->Prop)
noncomputable abbrev Hp:=Addr->Option HO
noncomputable def upd (H:Hp) (a:Addr) (o:HO):Hp:=λb=>if b=a then some o else H b
variable {H:Hp} {a:Addr}
theorem aM {o:HO}:upd H a o a=some o:=by unfold upd;rw [Mc rfl]
variable {b:Addr}
theorem aX {o:HO} (h:b≠a):upd H a o b=H b:=by unfold upd;rw [LZ h]
theorem bS {o:HO} (h:H a=some o) (h':H b=none):a≠b:=by intro e;subst e;rw [h] at h';cases h'
section
variable (P:Program) (w:World)
noncomputable def P1 (H:Hp) (h:Heap) (a:Addr):HO->Prop
 | .lst xs=>xs.length<=sizeLine/\∃ (its:List Value) (n:Nat),Vals xs its/\h.get? a=some { cls:=.type "list",data:=.seq its.toArray n }
 | .tup xs=>xs.length<=sizeLine/\∃ its:List Value,Vals xs its/\IsTup h a its.toArray
 | .dK kvs=>kvs.length<=sizeLine/\(a == sysModules)=false/\∃ vs,KV kvs vs/\h.DictOf (su P w) a vs
 | .dT kvs=>kvs.length<=sizeLine/\(a == sysModules)=false/\∃ xs:List (List Key × Addr × Value),
   Paired (λ(p:List Key × V) (q:List Key × Addr × Value)=>p.1=q.1/\H q.2.1=some (.tup (p.1.map kV))/\RelV p.2 q.2.2) kvs xs /\
   ∃ o es ep,h.get? a=some o/\o.ExactDict/\o.data=.dict es ep/\es.toList=xs.map (entryOfKey (tupleKind (su P w)))/\(xs.map (·.1)).Nodup
 | .set S n=>h.SetOf (intKind P w) a S n
 | .ins C dx fs=>H dx=some (.own a)/\fs.length<=1000/\dx≠a/\h.get? a=some (W.instObj C dx) /\
   ∃ mA,h.Ns1 dx mA/\(∀ f,Wz (fs.lookup f) (mA f))/\PySem.Within mA (fs.map (·.1))
 | .own _=>∃ o,h.get? a=some o
 | .xd fs=>∃ mA,h.Ns1 a mA/\∀ f,Wz (fs.lookup f) (mA f)
 | .Wn lo hi=>∃ t u v,h.get? a=some { cls:=.type "range",data:=.fields #[.int lo t,.int hi u,.int 1 v] }
 | .Yp o u=>h.get? a=some o/\P1 H h a u
 | .Zd ps=>h.get? a=some { cls:=.none,data:=.fields ps }
 | .met f x=>h.get? a=some (W.methodObj (.ref f) (.ref x))
 | .ext φ=>φ h/\(∃ o,h.get? a=some o)/\∀ h1 h2:Heap,φ h1->(∀ o,h1.get? a=some o->h2.get? a=some o)->φ h2
noncomputable def Uz (H:Hp) (h:Heap):Prop:=∀ a o,H a=some o->P1 P w H h a o
end
section
variable {P:Program} {w:World} {H H':Hp} {h h':Heap} {a:Addr} {o:HO}
theorem P1.lt (x:P1 P w H h a o):a < h.objs.size:=by
 cases o with
 | lst xs=>obtain ⟨_,_,_,_,e⟩:=x;exact Mi e
 | tup xs=>obtain ⟨_,_,_,p⟩:=x;exact p.lt
 | dK kvs=>obtain ⟨_,_,_,_,o,_,_,e,_⟩:=x;exact Mi e
 | dT kvs=>obtain ⟨_,_,_,_,o,_,_,e,_⟩:=x;exact Mi e
 | set S n=>obtain ⟨o,_,_,_,e,_⟩:=x;exact Mi e
 | ins C dx fs=>obtain ⟨_,_,_,e,_⟩:=x;exact Mi e
 | own y=>obtain ⟨_,e⟩:=x;exact Mi e
 | xd fs=>obtain ⟨_,⟨_,_,_,e,_⟩,_⟩:=x;exact Mi e
 | Wn lo hi=>obtain ⟨_,_,_,e⟩:=x;exact Mi e
 | Yp ob u=>obtain ⟨e,_⟩:=x;exact Mi e
 | Zd ps=>exact Mi (show h.get? a=some _ from x)
 | met f y=>exact Mi (show h.get? a=some _ from x)
 | ext φ=>obtain ⟨_,⟨_,e⟩,_⟩:=x;exact Mi e
theorem Paired.mapP {α β:Type} {F G:α->β->Prop}:∀ {l₁:List α} {l₂:List β},Paired F l₁ l₂->(∀ a b,F a b->G a b)->Paired G l₁ l₂
 | _,_,.nil,_=>.nil
 | _,_,.cons r t,f=>.cons (f _ _ r) (Paired.mapP t f)
theorem P1.stay (x:P1 P w H h a o) (k:∀ b u,(b=a\/H b=some (.own a))->h.get? b=some u->h'.get? b=some u)
  (ho:∀ b,H b=some (.own a)->H' b=some (.own a)) (ht:∀ b xs,H b=some (.tup xs)->H' b=some (.tup xs)):P1 P w H' h' a o:=by
 induction o with
 | lst xs=>obtain ⟨z,its,n,r,e⟩:=x;exact ⟨z,its,n,r,k _ _ (.inl rfl) e⟩
 | tup xs=>obtain ⟨z,its,r,ob,e,c⟩:=x;exact ⟨z,its,r,ob,k _ _ (.inl rfl) e,c⟩
 | dK kvs=>obtain ⟨z,y,vs,r,ob,es,ep,e,c⟩:=x;exact ⟨z,y,vs,r,ob,es,ep,k _ _ (.inl rfl) e,c⟩
 | dT kvs =>obtain ⟨z,y,xs,r,ob,es,ep,e,c⟩:=x;exact ⟨z,y,xs,Paired.mapP r λp q z=>⟨z.1,ht _ _ z.2.1,z.2.2⟩,ob,es,ep,k _ _ (.inl rfl) e,c⟩
 | set S n=>obtain ⟨ob,es,ep,t,e,c⟩:=x;exact ⟨ob,es,ep,t,k _ _ (.inl rfl) e,c⟩
 | ins C dx fs =>obtain ⟨d,z,ne,e,mA,⟨od,es,ep,e2,c⟩,r⟩:=x;exact ⟨ho _ d,z,ne,k _ _ (.inl rfl) e,mA,⟨od,es,ep,k _ _ (.inr d) e2,c⟩,r⟩
 | own y=>obtain ⟨ob,e⟩:=x;exact ⟨ob,k _ _ (.inl rfl) e⟩
 | xd fs=>obtain ⟨mA,⟨od,es,ep,e,c⟩,r⟩:=x;exact ⟨mA,⟨od,es,ep,k _ _ (.inl rfl) e,c⟩,r⟩
 | Wn lo hi=>obtain ⟨t,u,v,e⟩:=x;exact ⟨t,u,v,k _ _ (.inl rfl) e⟩
 | Yp ob u ih=>obtain ⟨e,q⟩:=x;exact ⟨k _ _ (.inl rfl) e,ih q⟩
 | Zd ps =>have e:h.get? a=some { cls:=.none,data:=.fields ps }:=x;show h'.get? a=some { cls:=.none,data:=.fields ps };exact k a _ (.inl rfl) e
 | met f y =>have e:h.get? a=some (W.methodObj (.ref f) (.ref y)):=x;show h'.get? a=some (W.methodObj (.ref f) (.ref y));exact k a _ (.inl rfl) e
 | ext φ=>obtain ⟨p,⟨o,e⟩,st⟩:=x;exact ⟨st _ _ p λo q=>k _ _ (.inl rfl) q,⟨o,k _ _ (.inl rfl) e⟩,st⟩
theorem Uz.lt (x:Uz P w H h) (e:H a=some o):a < h.objs.size:=(x a o e).lt
theorem Uz.fresh (x:Uz P w H h) (e:h.objs.size<=a):H a=none:=by
 cases q:H a with
 | none=>rfl
 | some u=>exact absurd (Mp (x.lt q) e) (M1 _)
theorem Uz.kept (x:Uz P w H h) (k:∀ b u,h.get? b=some u->h'.get? b=some u):Uz P w H h':=λa o e =>
 (x a o e).stay (λb u _ q=>k b u q) (λ_ q=>q) λ_ _ q=>q
theorem Uz.laid (x:Uz P w H h) (k:∀ b u,h.get? b=some u->h'.get? b=some u) (hp:h.objs.size<=a) (new:P1 P w (upd H a o) h' a o):Uz P w (upd H a o) h':=λb u e=>by
 have hn:=x.fresh hp;by_cases hb:b=a
 ·subst hb;rw [aM] at e;cases e;exact new
 ·rw [aX hb] at e;exact (x b u e).stay (λc v _ q=>k c v q) (λc q=>by rw [aX (bS q hn)];exact q) λc xs q=>by rw [aX (bS q hn)];exact q
end
noncomputable def Rd (H:Hp) (a:Addr) (u:HO):Prop:=H a=some u\/∃ o,H a=some (.Yp o u)
variable {P:Program} {w:World} {h:Heap}
theorem Rd.ok {u:HO} (r:Rd H a u) (x:Uz P w H h):P1 P w H h a u:=by
 rcases r with r | ⟨o,r⟩
 ·exact x a u r
 ·obtain ⟨_,q⟩:=x a _ r;exact q
noncomputable def Mut:Option HO->Prop
 | some (.lst _)=>True
 | some (.dK _)=>True
 | some (.dT _)=>True
 | some (.set _ _)=>True
 | some (.ins _ _ _)=>True
 | some (.ext _)=>True
 | _=>False
section
variable {P:Program} {w:World} {H:Hp} {h h':Heap} {x e:Addr} {o':HO}
theorem Uz.write (ok:Uz P w H h) (mu:Mut (H x)) (he:e=x\/H e=some (.own x)) (k:∀ b u,b≠e->h.get? b=some u->h'.get? b=some u) (ZR:∃ u,h'.get? e=some u)
  (new:P1 P w (upd H x o') h' x o'):Uz P w (upd H x o') h':=λb u q=>by
 have nown:∀ c y,H c=some (.own y)->c≠x:=λc y r z=>by subst z;rw [r] at mu;exact mu
 have ntup:∀ c xs,H c=some (.tup xs)->c≠x:=λc xs r z=>by subst z;rw [r] at mu;exact mu
 by_cases hb:b=x
 ·subst hb;rw [aM] at q;cases q;exact new
 ·rw [aX hb] at q;by_cases Zp:b=e
  ·have q':H b=some (.own x):=by
    rcases he with z | z
    ·exact absurd (Zp.trans z) hb
    ·rw [Zp];exact z
   rw [q] at q';cases q';obtain ⟨v,hv⟩:=ZR;exact ⟨v,by rw [Zp];exact hv⟩
  ·refine (ok b u q).stay (λc v hc r=>k c v ?_ r) (λc r=>by rw [aX (nown c b r)];exact r) λc xs r=>by rw [aX (ntup c xs r)];exact r
   rcases hc with rfl | hc
   ·exact Zp
   ·rintro rfl;rcases he with z | z
    ·exact nown c b hc z
    ·rw [hc] at z;cases z;exact hb rfl
end
structure Un (fs ex:List Addr) (H H':Hp) (h h':Heap):Prop where
 keep:∀ b o,h.get? b=some o->H b=none->b ∉ fs->b ∉ ex->h'.get? b=some o
 slot:∀ b o,h.get? b=some o->H b=none->b ∈ fs->b ∉ ex->∃ sl,h'.get? b=some { o with slots:=sl }
 free:∀ b o,h.get? b=some o->H b=none->b ∉ ex->H' b=none
 there:∀ b o,h.get? b=some o->b ∉ ex->∃ o',h'.get? b=some o'
 tups:∀ b xs,H b=some (.tup xs)->H' b=some (.tup xs)
 Wo:∀ b o u,H b=some (.Yp o u)->H' b=some (.Yp o u)
 WA:∀ b ps,H b=some (.Zd ps)->∃ more,H' b=some (.Zd (ps++more))
section
variable {fs fs' ex ex':List Addr} {H H1 H2:Hp} {h h1 h2 h':Heap} {a x e:Addr} {o:HO}
theorem Un.any (u:Un fs ex H H1 h h1) {b:Addr} {ob:Obj} (q:h.get? b=some ob) (n:H b=none) (hx:b ∉ ex):∃ sl,h1.get? b=some { ob with slots:=sl }:=by
 by_cases hb:b ∈ fs
 ·exact u.slot b ob q n hb hx
 ·exact ⟨ob.slots,u.keep b ob q n hb hx⟩
theorem Un.kept (k:∀ b u,h.get? b=some u->h'.get? b=some u):Un fs ex H H h h' :=
 ⟨λb ob q _ _ _=>k b ob q,λb ob q _ _ _=>⟨ob.slots,k b ob q⟩,λ_ _ _ n _=>n,λb ob q _=>⟨ob,k b ob q⟩,λ_ _ q=>q,λ_ _ _ q=>q,λ_ ps q=>⟨#[],by rw [q];simp⟩⟩
theorem Un.refl:Un fs ex H H h h:=Un.kept λ_ _ q=>q
theorem Un.laid (k:∀ b u,h.get? b=some u->h'.get? b=some u) (hp:h.objs.size<=a) (hn:H a=none):Un fs ex H (upd H a o) h h' where
 keep:=λb u q _ _ _=>k b u q
 slot:=λb u q _ _ _=>⟨u.slots,k b u q⟩
 free:=λb u q n _=>by rw [aX (Mq (Mp (Mi q) hp))];exact n
 there:=λb u q _=>⟨u,k b u q⟩
 tups:=λb xs q=>by rw [aX (bS q hn)];exact q
 Wo:=λb u xs q=>by rw [aX (bS q hn)];exact q
 WA:=λb ps q=>⟨#[],by rw [aX (bS q hn),q];simp⟩
theorem Un.write (mu:Mut (H x)) (he:e=x\/H e=some (.own x)) (k:∀ b u,b≠e->h.get? b=some u->h'.get? b=some u) (ZR:∃ u,h'.get? e=some u):Un fs ex H (upd H x o) h h':=by
 have hx:∀ b,H b=none->b≠x:=λb n z=>by subst z;rw [n] at mu;exact mu
 have hb:∀ b,H b=none->b≠e:=λb n z=>by
  subst z;rcases he with r | r
  ·exact hx b n r
  ·rw [n] at r;cases r
 have hm:∀ b u,H b=some u->¬ Mut (some u)->b≠x:=λb u q nm z=>by subst z;rw [q] at mu;exact nm mu
 refine ⟨λb u q n _ _=>k b u (hb b n) q,λb u q n _ _=>⟨u.slots,k b u (hb b n) q⟩,λb u q n _=>by rw [aX (hx b n)];exact n,λb u q _=>?_,
  λb xs q=>by rw [aX (hm b _ q λz=>z)];exact q,λb u xs q=>by rw [aX (hm b _ q λz=>z)];exact q,λb ps q=>⟨#[],by rw [aX (hm b _ q λz=>z),q];simp⟩⟩
 by_cases Zp:b=e
 ·subst Zp;exact ZR
 ·exact ⟨u,k b u Zp q⟩
end
noncomputable def trk (h:Heap) (H:Hp):List Addr:=(List.range h.objs.size).filter λa=>(H a).isSome
noncomputable def rX (h:Heap) (H:Hp):Heap:=W.hideAll h (trk h H)
theorem yZ (h:Heap) (H:Hp):(rX h H).objs.size=h.objs.size:=W.hideAll_size _ _
theorem AL {o:Obj} (e:h.get? b=some o) (n:H b=none):(rX h H).get? b=some o :=
 W.hideAll_get _ e λhm=>by have q:(H b).isSome=true:=(OO.mp hm).2;rw [n] at q;simp at q
theorem CW {o:Obj} (e:(rX h H).get? b=some o):h.get? b=some o/\H b=none:=by
 have e':h.get? b=some o:=W.of_hideAll (trk h H) e;refine ⟨e',?_⟩
 cases q:H b with
 | none=>rfl
 | some x =>have hm:b ∈ trk h H:=OO.mpr ⟨List.mem_range.mpr (Mi e'),by simp [q]⟩;have z:(rX h H).get? b=none:=OC (trk h H) hm;rw [z] at e;cases e
structure Mod (K:W.Frag) (mg:Str->Option Value) (base:Heap):Prop where
 YT:K.In base
 glob:base.Ns mainGlobals mg
 blt:∃ mb,base.Ns builtinsNs mb/\∀ x:Str,x≠"__name__"->mb x=bootBuiltins x
 nolimit:base.NoLimit
structure Cx where
 prog:Program
 w:World
 K:W.Frag
 mg:Str->Option Value
 base:Heap
 A:Around
 N:List Str
 s₀:Shared
 H₀:Hp
 env:Env
 outer:List Env
 stack:List Env
 ex:List Addr
 fn:Str->Bool
 calm:Bool
 pn:List (Addr × Obj)
 xe:Value->Shared->Prop
noncomputable def frs (l:List Env):List Addr:=l.filterMap (·.frame)
noncomputable abbrev Cx.fs (X:Cx):List Addr:=frs X.outer
noncomputable def ZS (sc:Scope) (x:Str):Prop:=sc.names.lookup x=some .local\/sc.names.lookup x=some .cell\/sc.names.lookup x=some .free
noncomputable def Loc (sc:Scope) (x:Str):Prop:=sc.names.lookup x=some .local\/sc.names.lookup x=some .cell
noncomputable def Gk (env:Env) (h:Heap) (m:Str->Option Value) (x:Str) (u:Value):Prop :=
 (env.kindOf x=some .local/\m x=some u)\/((env.kindOf x=some .cell\/env.kindOf x=some .free)/\∃ c,env.cells.lookup x=some c/\h.IsCell c (some u))
structure Cx.Ok (X:Cx):Prop where
 mod:Mod X.K X.mg X.base
 kind:X.env.scope.kind=.function
 glob:X.env.globals=mainGlobals
 blt:X.env.builtins=builtinsNs
 above:X.s₀.heap.objs.size<=X.env.locals
 inj:∀ x y c,X.env.cells.lookup x=some c->X.env.cells.lookup y=some c->x=y
 has:∀ x,(X.env.kindOf x=some .cell\/X.env.kindOf x=some .free)->∃ c,X.env.cells.lookup x=some c
 YU:∀ x c,X.fn x=true->X.env.cells.lookup x=some c->X.s₀.heap.objs.size<=c
 hd:X.calm=true->X.A.handled=none
 frames:X.A.frames=some X.stack
 stk:X.stack=X.outer\/(X.stack=X.env::X.outer/\X.env.frame=some X.env.locals)
 exf:∀ b ∈ X.ex,b≠X.env.locals/\∀ x c,X.env.cells.lookup x=some c->c≠b
 bs:∀ b o,X.base.get? b=some o->X.s₀.heap.get? b=some o/\X.H₀ b=none
 Yh:X.base.objs.size<=X.s₀.heap.objs.size
 Xv:∀ b o,X.base.get? b=some o->b ∉ X.ex
 Yi:∀ b ∈ X.ex,b ∉ X.fs
 Vq:X.s₀.heap.FunFrames X.base X.outer
 YV:∀ b ∈ X.fs,X.H₀ b=none
structure Inv (X:Cx) (pins:List (Addr × Obj)) (σ:List (Option V)) (H:Hp) (s:Shared):Prop where
 ok:X.Ok
 os:s.os=X.s₀.os
 bare:AllBare s.gens
 base:Un X.fs X.ex X.H₀ H X.s₀.heap s.heap
 loc:∃ m,s.heap.Ns X.env.locals m/\∀ (i:Nat) (x:Str) (v:V),X.N[i]?=some x->σ[i]?=some (some v)->ZS X.env.scope x->∃ u,RelV v u/\Gk X.env s.heap m x u
 cell:∀ x c,X.env.cells.lookup x=some c->∃ v,s.heap.IsCell c v
 free:H X.env.locals=none
 RY:∀ x c,X.env.cells.lookup x=some c->H c=none
 pin:∀ p ∈ X.pn++pins,s.heap.get? p.1=some p.2/\H p.1=none/\p.1≠X.env.locals/\p.1 ∉ X.fs/\∀ v,p.2.data≠.cell v
 hok:Uz X.prog X.w H s.heap
 len:σ.length=X.N.length
section
variable {X:Cx} {pins:List (Addr × Obj)} {σ:List (Option V)} {H H':Hp} {s:Shared} {h':Heap}
theorem Cx.Ok.nofr (ok:X.Ok) {b:Addr} {o:Obj} (e:X.base.get? b=some o):b ∉ X.fs:=λhb=>by have:=(ok.Vq.mem hb).1;rw [e] at this;cases this
theorem Inv.bs (I:Inv X pins σ H s):∀ b o,X.base.get? b=some o->s.heap.get? b=some o/\H b=none:=λb o e =>
 ⟨I.base.keep b o (I.ok.bs b o e).1 (I.ok.bs b o e).2 (I.ok.nofr e) (I.ok.Xv b o e),I.base.free b o (I.ok.bs b o e).1 (I.ok.bs b o e).2 (I.ok.Xv b o e)⟩
theorem Inv.bk (I:Inv X pins σ H s):∀ b o,X.base.get? b=some o->s.heap.get? b=some o:=λb o e=>(I.bs b o e).1
theorem Inv.mod (I:Inv X pins σ H s):Mod X.K X.mg X.base:=I.ok.mod
theorem Inv.Sb (I:Inv X pins σ H s):X.K.In s.heap:=I.ok.mod.YT.keeps I.bk
theorem Inv.lt (I:Inv X pins σ H s):X.env.locals < s.heap.objs.size:=let ⟨_,hn,_⟩:=I.loc;hn.lt
theorem Inv.sz (I:Inv X pins σ H s):X.s₀.heap.objs.size<=s.heap.objs.size:=Mr I.ok.above (Np I.lt)
variable {a:Addr}
theorem Inv.nofs (I:Inv X pins σ H s) (h:s.heap.objs.size<=a):a ∉ X.fs:=λhb=>by obtain ⟨_,o,ho,_⟩:=I.ok.Vq.mem hb;exact absurd (Mp (Mi ho) (Mr I.sz h)) (M1 _)
theorem Inv.Yu (I:Inv X pins σ H s):∀ x c,X.env.cells.lookup x=some c->c≠X.env.locals:=λx c e z=>by obtain ⟨v,o,ho,hd⟩:=I.cell x c e;obtain ⟨m,⟨o',es,ep,ho',hd',_⟩,_⟩:=I.loc;rw [z,ho'] at ho;cases ho;rw [hd'] at hd;cases hd
theorem Inv.Vq (I:Inv X pins σ H s):s.heap.FunFrames X.base X.outer:=by
 have all:∀ (l:List Env),(∀ b ∈ frs l,b ∈ X.fs)->X.s₀.heap.FunFrames X.base l->s.heap.FunFrames X.base l:=by
  intro l
  induction l with
  | nil=>intro _ _;trivial
  | cons env r ih =>intro hs hl;obtain ⟨hk,⟨L,o,hf,hn,ho,hd⟩,hr⟩:=hl;have hL:L ∈ X.fs:=hs L (by unfold frs;rw [OY,hf];exact Mw);obtain ⟨sl,e⟩:=I.base.slot L o ho (I.ok.YV L hL) hL λz=>I.ok.Yi L z hL;exact ⟨hk,⟨L,_,hf,hn,e,hd⟩,ih (λb hb=>hs b (by unfold frs;rw [OY,hf];exact Mt _ hb)) hr⟩
 exact all X.outer (λ_ hb=>hb) I.ok.Vq
theorem Inv.stack (I:Inv X pins σ H s):s.heap.FunFrames X.base X.stack:=by
 rcases I.ok.stk with e | ⟨e,hf⟩
 ·rw [e];exact I.Vq
 ·rw [e];obtain ⟨m,hn,_⟩:=I.loc;refine .cons (by rw [I.ok.kind];decide) hf hn ?_ I.Vq;exact Heap.get?_none_of_le (Mr I.ok.Yh I.ok.above)
theorem Inv.Vb (I:Inv X pins σ H s):∀ b ∈ frs X.stack,b ∈ X.env.locals::X.fs:=λb hb=>by
 rcases I.ok.stk with e | ⟨e,hf⟩
 ·rw [e] at hb;exact Mt _ hb
 ·rw [e] at hb;unfold frs at hb;rw [OY,hf] at hb;exact hb
theorem Inv.Vr (I:Inv X pins σ H s):∀ b ∈ frs X.stack,H b=none:=λb hb=>by
 rcases Mm.mp (I.Vb b hb) with e | hb
 ·rw [e];exact I.free
 ·obtain ⟨_,o,ho,_⟩:=I.ok.Vq.mem hb;exact I.base.free b o ho (I.ok.YV b hb) λz=>I.ok.Yi b z hb
variable {g':Array GenState} {t':Nat} {d':Drawn} {ch:List Addr}
theorem Inv.step (I:Inv X pins σ H s)
  (hch:∀ b ∈ ch,(b ∈ X.ex\/X.s₀.heap.objs.size<=b)/\b≠X.env.locals/\(∀ x c,X.env.cells.lookup x=some c->c≠b)/\∀ p ∈ X.pn++pins,p.1≠b)
  (keep:∀ b o,b≠X.env.locals->b ∉ X.fs->b ∉ ch->s.heap.get? b=some o->H b=none->h'.get? b=some o)
  (slot:∀ b o,b≠X.env.locals->b ∈ X.fs->b ∉ ch->s.heap.get? b=some o->H b=none->∃ sl,h'.get? b=some { o with slots:=sl }) (free:∀ b o,b ∉ ch->s.heap.get? b=some o->H b=none->H' b=none)
  (there:∀ b o,b ∉ ch->s.heap.get? b=some o->∃ o',h'.get? b=some o')
  (tups:∀ b xs,H b=some (.tup xs)->H' b=some (.tup xs)) (Wo:∀ b o u,H b=some (.Yp o u)->H' b=some (.Yp o u)) (WA:∀ b ps,H b=some (.Zd ps)->∃ more,H' b=some (.Zd (ps++more)))
  (ns:∀ m,s.heap.Ns X.env.locals m->h'.Ns X.env.locals m) (hok:Uz X.prog X.w H' h') (hg:AllBare g') :
  Inv X pins σ H' { s with heap:=h',gens:=g',drawn:=d',toks:=t' }:=by
 have neL:∀ b o,X.s₀.heap.get? b=some o->b≠X.env.locals:=λb o e=>Mq (Mp (Mi e) I.ok.above)
 have neC:∀ b o,X.s₀.heap.get? b=some o->b ∉ X.ex->b ∉ ch:=λb o e hx hb=>by
  rcases (hch b hb).1 with z | z
  ·exact hx z
  ·exact absurd (Mp (Mi e) z) (M1 _)
 have cellK:∀ x c,X.env.cells.lookup x=some c->∀ v,s.heap.IsCell c v->h'.IsCell c v:=λx c e v ⟨o,ho,hd⟩=>by
  have nch:c ∉ ch:=λz=>(hch c z).2.2.1 x c e rfl;by_cases hc:c ∈ X.fs
  ·obtain ⟨sl,q⟩:=slot c o (I.Yu x c e) hc nch ho (I.RY x c e);exact ⟨_,q,hd⟩
  ·exact ⟨o,keep c o (I.Yu x c e) hc nch ho (I.RY x c e),hd⟩
 refine ⟨I.ok,I.os,hg,⟨λb o e n hb hx=>?_,λb o e n hb hx=>?_,λb o e n hx=>?_,λb o e hx=>?_,λb xs e=>tups b xs (I.base.tups b xs e),λb o xs e=>Wo b o xs (I.base.Wo b o xs e),λb ps e=>?_⟩,?_,λx c e=>?_,?_,λx c e=>?_,λp hp=>?_,hok,I.len⟩
 ·exact keep b o (neL b o e) hb (neC b o e hx) (I.base.keep b o e n hb hx) (I.base.free b o e n hx)
 ·obtain ⟨sl,e1⟩:=I.base.slot b o e n hb hx;obtain ⟨sl',e2⟩:=slot b _ (neL b o e) hb (neC b o e hx) e1 (I.base.free b o e n hx);exact ⟨sl',e2⟩
 ·obtain ⟨o',e1⟩:=I.base.there b o e hx;exact free b o' (neC b o e hx) e1 (I.base.free b o e n hx)
 ·obtain ⟨o',e1⟩:=I.base.there b o e hx;exact there b o' (neC b o e hx) e1
 ·obtain ⟨m1,e1⟩:=I.base.WA b ps e;obtain ⟨m2,e2⟩:=WA b _ e1;exact ⟨m1++m2,by rw [e2,Array.append_assoc]⟩
 ·obtain ⟨m,hn,hl⟩:=I.loc;refine ⟨m,ns m hn,λi x v e1 e2 e3=>?_⟩;obtain ⟨u,r,l⟩:=hl i x v e1 e2 e3;refine ⟨u,r,?_⟩;rcases l with l | ⟨k,c,e,z⟩
  ·exact .inl l
  ·exact .inr ⟨k,c,e,cellK x c e _ z⟩
 ·obtain ⟨v,z⟩:=I.cell x c e;exact ⟨v,cellK x c e v z⟩
 ·obtain ⟨m,⟨o,_,_,ho,_⟩,_⟩:=I.loc;exact free _ o (λz=>(hch _ z).2.1 rfl) ho I.free
 ·obtain ⟨v,o,ho,hd⟩:=I.cell x c e;exact free c o (λz=>(hch c z).2.2.1 x c e rfl) ho (I.RY x c e)
 ·obtain ⟨e,n,ne,nf,d⟩:=I.pin p hp;have nch:p.1 ∉ ch:=λz=>(hch p.1 z).2.2.2 p hp rfl;exact ⟨keep p.1 p.2 ne nf nch e n,free p.1 p.2 nch e n,ne,nf,d⟩
theorem Inv.un (I:Inv X pins σ H s) (u:Un X.fs [] H H' s.heap h') (hok:Uz X.prog X.w H' h'):Inv X pins σ H' { s with heap:=h',toks:=t' }:=by
 obtain ⟨m,⟨o,es,ep,ho,r⟩,_⟩:=id I.loc;obtain ⟨sl,hL⟩:=u.any ho I.free (by simp)
 exact I.step (g':=s.gens) (d':=s.drawn) (ch:=[]) (λ_ z=>nomatch z) (λb o _ hb _ e n=>u.keep b o e n hb (by simp)) (λb o _ hb _ e n=>u.slot b o e n hb (by simp)) (λb o _ e n=>u.free b o e n (by simp)) (λb o _ e=>u.there b o e (by simp)) u.tups u.Wo u.WA (λm' hm=>by
  obtain ⟨o',es',ep',ho',r'⟩:=hm;rw [ho] at ho';cases ho';exact ⟨_,es',ep',hL,r'⟩) hok I.bare
theorem Inv.call (I:Inv X pins σ H s) (u:Un (frs X.stack) ch H H' s.heap h') (hok:Uz X.prog X.w H' h') (hg:AllBare g')
  (hch:∀ b ∈ ch,(b ∈ X.ex\/X.s₀.heap.objs.size<=b)/\b≠X.env.locals/\(∀ x c,X.env.cells.lookup x=some c->c≠b)/\∀ p ∈ X.pn++pins,p.1≠b) :
  Inv X pins σ H' { s with heap:=h',gens:=g',drawn:=d',toks:=t' }:=by
 obtain ⟨m,⟨o,es,ep,ho,r⟩,_⟩:=id I.loc;obtain ⟨sl,hL⟩:=u.any ho I.free λz=>(hch _ z).2.1 rfl
 exact I.step (ch:=ch) hch (λb o hL hb hc e n=>u.keep b o e n (λz=>(Mm.mp (I.Vb b z)).elim hL hb) hc) (λb o _ _ hc e n=>u.any e n hc) (λb o hc e n=>u.free b o e n hc) (λb o hc e=>u.there b o e hc) u.tups u.Wo u.WA (λm' hm=>by
  obtain ⟨o',es',ep',ho',r'⟩:=hm;rw [ho] at ho';cases ho';exact ⟨_,es',ep',hL,r'⟩) hok hg
theorem Inv.turned {it:Addr} (I:Inv X pins σ H s) (k:∀ b o,b≠it->s.heap.get? b=some o->h'.get? b=some o) (hn:H it=none) (hL:it≠X.env.locals)
  (h1:it ∈ X.ex\/X.s₀.heap.objs.size<=it) (h2:∀ x c,X.env.cells.lookup x=some c->c≠it) (h3:∀ p ∈ X.pn++pins,p.1≠it):Inv X pins σ H { s with heap:=h',toks:=t' }:=by
 have nit:∀ b u,H b=some u->b≠it:=λb u e z=>by rw [z,hn] at e;cases e
 refine I.step (g':=s.gens) (d':=s.drawn) (ch:=[it]) (λb hb=>?_) (λb o _ _ hc e _=>k b o (λz=>hc (by simp [z])) e) (λb o _ _ hc e _=>⟨o.slots,k b o (λz=>hc (by simp [z])) e⟩) (λ_ _ _ _ n=>n)
  (λb o hc e=>⟨o,k b o (λz=>hc (by simp [z])) e⟩) (λ_ _ e=>e) (λ_ _ _ e=>e) (λb ps e=>⟨#[],by rw [e];simp⟩) (λm hm=>?_) (λb u e=>?_) I.bare
 ·have e:b=it:=by simpa using hb
  subst e;exact ⟨h1,hL,h2,h3⟩
 ·obtain ⟨o,es,ep,ho,r⟩:=hm;exact ⟨o,es,ep,k _ o (MQ hL) ho,r⟩
 ·refine (I.hok b u e).stay (λc v hc q=>k c v ?_ q) (λ_ q=>q) λ_ _ q=>q;rcases hc with z | z
  ·rw [z];exact nit b u e
  ·exact nit c _ z
theorem Inv.tok (I:Inv X pins σ H s) (t:Nat):Inv X pins σ H { s with toks:=t }:=I.un (h':=s.heap) (t':=t) Un.refl I.hok
theorem Inv.kept (I:Inv X pins σ H s) (k:∀ b u,s.heap.get? b=some u->h'.get? b=some u):Inv X pins σ H { s with heap:=h',toks:=t' }:=I.un (Un.kept k) (I.hok.kept k)
theorem Inv.laid {o:HO} (I:Inv X pins σ H s) (k:∀ b u,s.heap.get? b=some u->h'.get? b=some u) (hp:s.heap.objs.size<=a) (new:P1 X.prog X.w (upd H a o) h' a o) :
  Inv X pins σ (upd H a o) { s with heap:=h',toks:=t' }:=I.un (Un.laid k hp (I.hok.fresh hp)) (I.hok.laid k hp new)
theorem Inv.write {x e:Addr} {o:HO} (I:Inv X pins σ H s) (mu:Mut (H x)) (he:e=x\/H e=some (.own x)) (k:∀ b u,b≠e->s.heap.get? b=some u->h'.get? b=some u) (ZR:∃ u,h'.get? e=some u)
  (new:P1 X.prog X.w (upd H x o) h' x o):Inv X pins σ (upd H x o) { s with heap:=h',toks:=t' }:=I.un (Un.write mu he k ZR) (I.hok.write mu he k ZR new)
theorem Inv.X3 {Rq:List (Addr × Obj)} (I:Inv X pins σ H s) (h:∀ p ∈ Rq,s.heap.get? p.1=some p.2/\H p.1=none/\p.1≠X.env.locals/\p.1 ∉ X.fs/\∀ v,p.2.data≠.cell v):Inv X Rq σ H s :=
 ⟨I.ok,I.os,I.bare,I.base,I.loc,I.cell,I.free,I.RY,λp hp=>(Na.mp hp).elim (λz=>I.pin p (Of _ z)) (h p),I.hok,I.len⟩
variable {i:Nat} {x:Str}
theorem pe {N:List Str} (hN:N.Nodup) {j:Nat} (a:N[i]?=some x) (b:N[j]?=some x):i=j:=by obtain ⟨h1,e1⟩:=Mg.mp a;obtain ⟨h2,e2⟩:=Mg.mp b;exact (List.getElem_inj hN).mp (e1.trans e2.symm)
variable {M:Model} {A:Around} {v:V} {u:Value}
theorem ku {E:Value->Shared->Prop} {Q:Unit->Shared->Prop} (I:Inv X pins σ H s) (hN:X.N.Nodup) (hi:X.N[i]?=some x) (hx:Loc X.env.scope x) (r:RelV v u)
  (h:∀ s',Inv X pins (σ.set i (some v)) H s'->(∃ a,Heap.SameBut a s.heap s'.heap/\(a=X.env.locals\/X.env.cells.lookup x=some a))->Q () s') (hf:X.fn x=true\/X.env.scope.names.lookup x=some .local:=by first | exact .inl rfl | exact .inr rfl | assumption):wpAny M A (storeName X.env x u) Q E s:=by
 obtain ⟨m,hn,hl⟩:=id I.loc;have hcls:(X.env.scope.kind == .class || (X.env.scope.kind == .module && X.env.locals != X.env.globals))=false:=by rw [I.ok.kind];rfl
 have hiσ:i < σ.length:=by rw [I.len];exact (Mg.mp hi).1
 have Yu:=I.Yu
 have tracked:∀ {a:Addr} {h':Heap},(∃ o,s.heap.get? a=some o/\H a=none)->Heap.SameBut a s.heap h'->Uz X.prog X.w H h':=λ{a h'} ha hs b ob e=>by
  obtain ⟨_,_,hfree⟩:=ha;refine (I.hok b ob e).stay (λc w' hc q=>(hs.2 c ?_).trans q) (λ_ q=>q) λ_ _ q=>q;rintro rfl;rcases hc with rfl | hc
  ·rw [hfree] at e;cases e
  ·rw [hfree] at hc;cases hc
 rcases hx with hk | hk
 ·refine wpAny_storeName_local hk hn (λh' hn' hs=>?_) hcls;obtain ⟨oL,_,_,hoL,_⟩:=id hn;refine h _ ⟨I.ok,I.os,I.bare,⟨λb o e n hb hx=>?_,λb o e n hb hx=>?_,I.base.free,λb o e hx=>?_,I.base.tups,I.base.Wo,I.base.WA⟩,⟨_,hn',λj y v' e1 e2 e3=>?_⟩,λy c e=>?_,I.free,I.RY,λp hp=>?_,tracked ⟨oL,hoL,I.free⟩ hs,by simpa using I.len⟩ ⟨_,hs,.inl rfl⟩
  ·exact (hs.2 b (Mq (Mp (Mi e) I.ok.above))).trans (I.base.keep b o e n hb hx)
  ·obtain ⟨sl,e1⟩:=I.base.slot b o e n hb hx;exact ⟨sl,(hs.2 b (Mq (Mp (Mi e) I.ok.above))).trans e1⟩
  ·obtain ⟨o',e1⟩:=I.base.there b o e hx;exact ⟨o',(hs.2 b (Mq (Mp (Mi e) I.ok.above))).trans e1⟩
  ·by_cases hj:j=i
   ·subst hj;rw [hi] at e1;cases e1;rw [List.getElem?_set_self hiσ] at e2;cases e2;exact ⟨u,r,.inl ⟨hk,by simp⟩⟩
   ·rw [NS (MQ hj)] at e2;obtain ⟨u',r',q⟩:=hl j y v' e1 e2 e3;refine ⟨u',r',?_⟩;rcases q with ⟨k,e⟩ | ⟨k,c,e,z⟩
    ·refine .inl ⟨k,?_⟩;have:y≠x:=λe=>hj (pe hN e1 (e ▸ hi));simp [this,e]
    ·exact .inr ⟨k,c,e,z.sameBut hs (Yu y c e)⟩
  ·obtain ⟨w',z⟩:=I.cell y c e;exact ⟨w',z.sameBut hs (Yu y c e)⟩
  ·obtain ⟨e,n,ne,nf,d⟩:=I.pin p hp;exact ⟨(hs.2 p.1 ne).trans e,n,ne,nf,d⟩
 ·have hfn:X.fn x=true:=by
   rcases hf with z | z
   ·exact z
   ·rw [z] at hk;cases hk
  obtain ⟨c,hc⟩:=I.ok.has x (.inl hk);obtain ⟨w',z⟩:=I.cell x c hc;refine wpAny_storeName_cell I.ok.kind hk hc z (λh' hc' hs=>?_);obtain ⟨oc,hoc,hocd⟩:=id z;refine h { s with heap:=h' } ⟨I.ok,I.os,I.bare,⟨λb o e n hb hx=>?_,λb o e n hb hx=>?_,I.base.free,λb o e hx=>?_,I.base.tups,I.base.Wo,I.base.WA⟩,⟨m,hn.sameBut hs (MQ (Yu x c hc)),λj y v' e1 e2 e3=>?_⟩,λy c' e=>?_,I.free,I.RY,λp hp=>?_,tracked ⟨oc,hoc,I.RY x c hc⟩ hs,by simpa using I.len⟩ ⟨c,hs,.inr hc⟩
  ·exact (hs.2 b (Mq (Mp (Mi e) (I.ok.YU x c hfn hc)))).trans (I.base.keep b o e n hb hx)
  ·obtain ⟨sl,e1⟩:=I.base.slot b o e n hb hx;exact ⟨sl,(hs.2 b (Mq (Mp (Mi e) (I.ok.YU x c hfn hc)))).trans e1⟩
  ·obtain ⟨o',e1⟩:=I.base.there b o e hx;exact ⟨o',(hs.2 b (Mq (Mp (Mi e) (I.ok.YU x c hfn hc)))).trans e1⟩
  ·by_cases hj:j=i
   ·subst hj;rw [hi] at e1;cases e1;rw [List.getElem?_set_self hiσ] at e2;cases e2;exact ⟨u,r,.inr ⟨.inl hk,c,hc,hc'⟩⟩
   ·rw [NS (MQ hj)] at e2;obtain ⟨u',r',q⟩:=hl j y v' e1 e2 e3;refine ⟨u',r',?_⟩;rcases q with q | ⟨k,c',e,z'⟩
    ·exact .inl q
    ·refine .inr ⟨k,c',e,z'.sameBut hs ?_⟩;rintro rfl;exact hj (pe hN e1 (I.ok.inj _ _ _ e hc ▸ hi))
  ·by_cases hcc:c'=c
   ·subst hcc;exact ⟨_,hc'⟩
   ·obtain ⟨w2,z2⟩:=I.cell y c' e;exact ⟨w2,z2.sameBut hs hcc⟩
  ·obtain ⟨e,n,ne,nf,d⟩:=I.pin p hp;refine ⟨(hs.2 p.1 ?_).trans e,n,ne,nf,d⟩;intro q;rw [q,hoc] at e;have q':oc=p.2:=ME e;exact d w' (by rw [<- q'];exact hocd)
theorem jB {E:Value->Shared->Prop} {Q:Unit->Shared->Prop} (I:Inv X pins σ H s) (hN:X.N.Nodup) (hi:X.N[i]?=some x) (hx:Loc X.env.scope x) (r:RelV v u)
  (h:∀ s',Inv X pins (σ.set i (some v)) H s'->Q () s') (hf:X.fn x=true\/X.env.scope.names.lookup x=some .local:=by first | exact .inl rfl | exact .inr rfl | assumption):wpAny M A (storeName X.env x u) Q E s :=
 ku I hN hi hx r (λs' I' _=>h s' I') hf
theorem Inv.Wb {s':Shared} (I:Inv X pins σ H s) (ho:s'.os=s.os) (u:Un (frs X.stack) ch H H' s.heap s'.heap) (hok:Uz X.prog X.w H' s'.heap) (hg:AllBare s'.gens)
  (hch:∀ b ∈ ch,(b ∈ X.ex\/X.s₀.heap.objs.size<=b)/\b≠X.env.locals/\(∀ x c,X.env.cells.lookup x=some c->c≠b)/\∀ p ∈ X.pn++pins,p.1≠b):Inv X pins σ H' s':=by
 obtain ⟨h',g',d',t',o'⟩:=s';have e:o'=s.os:=ho;subst e;exact I.call (g':=g') (t':=t') (d':=d') u hok hg hch
end
noncomputable abbrev XK:=Value->Option Addr->Hp->Prop
noncomputable abbrev St:=List (Option V)
noncomputable abbrev VK:=V->Hp->Prop
noncomputable abbrev TE:=St->Hp->VK->Prop
noncomputable abbrev TT:=St->Hp->(Bool->Hp->Prop)->Prop
noncomputable abbrev TA:=St->Hp->(List V->Hp->Prop)->Prop
structure Ends where
 nx:St->Hp->Prop
 rt:VK
 bk:St->Hp->Prop:=λ_ _=>False
 ct:St->Hp->Prop:=λ_ _=>False
noncomputable abbrev TS:=Ends->St->Hp->Prop
noncomputable def EP (X:Cx) (pins:List (Addr × Obj)) (σ:St) (Q:VK) (u:Value) (s':Shared):Prop:=∃ v H',Inv X pins σ H' s'/\RelV v u/\Q v H'
noncomputable def TP (X:Cx) (pins:List (Addr × Obj)) (σ:St) (Q:Bool->Hp->Prop) (b:Bool) (s':Shared):Prop:=∃ H',Inv X pins σ H' s'/\Q b H'
noncomputable def AP (X:Cx) (pins:List (Addr × Obj)) (σ:St) (Q:List V->Hp->Prop) (us:List Value) (s':Shared):Prop:=∃ vs H',Inv X pins σ H' s'/\Vals vs us/\Q vs H'
noncomputable def SP (X:Cx) (pins:List (Addr × Obj)) (D:Ends) (f:Flow) (s':Shared):Prop :=
 match f with
 | .next=>∃ σ' H',Inv X pins σ' H' s'/\D.nx σ' H'
 | .brk=>∃ σ' H',Inv X pins σ' H' s'/\D.bk σ' H'
 | .cont=>∃ σ' H',Inv X pins σ' H' s'/\D.ct σ' H'
 | .ret u=>∃ v σ' H',Inv X pins σ' H' s'/\RelV v u/\D.rt v H'
noncomputable def PE (X:Cx) (e:Expr) (t:TE):Prop :=
 ∀ (pins:List (Addr × Obj)) (s:Shared) (σ:St) (H:Hp) (Q:VK),Inv X pins σ H s->t σ H Q->wpAny (model X.prog X.w) X.A (eval e X.env) (EP X pins σ Q) X.xe s
noncomputable def PT (X:Cx) (e:Expr) (t:TT):Prop :=
 ∀ (pins:List (Addr × Obj)) (s:Shared) (σ:St) (H:Hp) (Q:Bool->Hp->Prop),Inv X pins σ H s->t σ H Q->wpAny (model X.prog X.w) X.A (isTrue e X.env (eval e X.env)) (TP X pins σ Q) X.xe s
noncomputable def PW (X:Cx) (e:Expr) (t:TT):Prop :=
 ∀ (whole:Sem Value) (pins:List (Addr × Obj)) (s:Shared) (σ:St) (H:Hp) (Q:Bool->Hp->Prop),Inv X pins σ H s->t σ H Q->wpAny (model X.prog X.w) X.A (isTrue e X.env whole) (TP X pins σ Q) X.xe s
variable {X:Cx}
theorem PW.pt {e:Expr} {t:TT} (h:PW X e t):PT X e t:=h _
noncomputable def PA (X:Cx) (es:List Expr) (t:TA):Prop :=
 ∀ (pos:Pos) (pins:List (Addr × Obj)) (s:Shared) (σ:St) (H:Hp) (Q:List V->Hp->Prop),Inv X pins σ H s->t σ H Q->wpAny (model X.prog X.w) X.A (spliced (backTo pos (starEach es X.env))) (AP X pins σ Q) X.xe s
noncomputable def PS (X:Cx) (st:Stmt) (t:TS):Prop :=
 ∀ (pins:List (Addr × Obj)) (s:Shared) (σ:St) (H:Hp) (D:Ends),Inv X pins σ H s->t D σ H->wpAny (model X.prog X.w) X.A (exec st X.env) (SP X pins D) X.xe s
noncomputable def Wc (X:Cx) (st:List Stmt) (t:TS):Prop :=
 ∀ (pins:List (Addr × Obj)) (s:Shared) (σ:St) (H:Hp) (D:Ends),Inv X pins σ H s->t D σ H->wpAny (model X.prog X.w) X.A (execs st X.env) (SP X pins D) X.xe s
variable {M:Model} {A:Around} {s:Shared}
theorem PB {α:Type} {t:Sem α} {Q Q':α->Shared->Prop} {E:Value->Shared->Prop} (h:wpAny M A t Q E s) (hQ:∀ a s,Q a s->Q' a s):wpAny M A t Q' E s:=MX h hQ λ_ _ x=>x
section
variable {X:Cx}
noncomputable def dW (i:Nat):TE:=λσ H Q=>∃ v,σ[i]?=some (some v)/\Q v H
noncomputable def tC (v:V):TE:=λ_ H Q=>Q v H
variable {x:Str}
theorem EU {i:Nat} {pos:Pos} (hN:X.N[i]?=some x) (hv:ZS X.env.scope x) (hd:(x == ("__debug__":Str))=false:=by decide) (hcd:(x == ("__classdict__":Str))=false:=by decide):PE X (.Name x pos) (dW i):=by
 intro pins s σ H Q I h;obtain ⟨v,e,h⟩:=h;obtain ⟨m,hn,hl⟩:=I.loc;obtain ⟨u,r,l⟩:=hl i x v hN e hv;have fin:EP X pins σ Q u s:=⟨v,H,I,r,h⟩
 rcases l with ⟨hk,hm⟩ | ⟨hk,c,hc,hcell⟩
 ·exact wpAny_Name (wpAny_loadName_local I.ok.kind hk hn hm fin) hd
 ·rcases hk with hk | hk
  ·exact wpAny_Name (wpAny_loadName_cell I.ok.kind hk hc hcell fin) hd
  ·exact wpAny_Name (wpAny_loadName_free I.ok.kind hk hc hcell fin hcd) hd
theorem aG {i j pos}:PE X (.Constant (.int i) j pos) (tC (.int i)):=λ_ _ _ H _ I h=>wpAny_Constant_int ⟨.int i,H,I.tok _,⟨_,rfl⟩,h⟩
theorem eM {b j pos}:PE X (.Constant (.bool b) j pos) (tC (.bl b)):=λ_ _ _ H _ I h=>Constant_bool ⟨.bl b,H,I,rfl,h⟩
theorem gS {j pos}:PE X (.Constant .none j pos) (tC .Py):=λ_ _ _ H _ I h=>Constant_none ⟨.Py,H,I,rfl,h⟩
theorem aN {x j pos}:PE X (.Constant (.str x) j pos) (tC (.str x)):=λ_ _ _ H _ I h=>Calls.Constant_str ⟨.str x,H,I.tok _,⟨_,rfl⟩,h⟩
noncomputable def Gl (X:Cx) (x:Str):Prop:=X.env.kindOf x=some .globalImplicit
variable {pins:List (Addr × Obj)} {s:Shared} {σ:St} {H:Hp} {u:Value}
theorem gZ {E:Value->Shared->Prop} {pos:Pos} {Q:Value->Shared->Prop} (I:Inv X pins σ H s) (hg:Gl X x) (hm:X.mg x=some u) (h:Q u s)
  (hd:(x == ("__debug__":Str))=false:=by decide):wpAny (model X.prog X.w) X.A (eval (.Name x pos) X.env) Q E s :=
 Calls.Name_function_global I.ok.kind hg (Calls.loadGlobal_global (by rw [I.ok.glob];exact I.mod.glob.keeps I.bk) hm h) hd
theorem mW {E:Value->Shared->Prop} {pos:Pos} {Q:Value->Shared->Prop} (I:Inv X pins σ H s) (hg:Gl X x) (hm:X.mg x=none) (hv:bootBuiltins x=some u) (h:Q u s)
  (hn:x≠"__name__":=by decide) (hd:(x == ("__debug__":Str))=false:=by decide):wpAny (model X.prog X.w) X.A (eval (.Name x pos) X.env) Q E s:=by
 obtain ⟨mb,h1,h2⟩:=I.mod.blt;exact Calls.Name_function_global I.ok.kind hg (Calls.loadGlobal_builtin (by rw [I.ok.glob];exact I.mod.glob.keeps I.bk) hm (by rw [I.ok.blt];exact h1.keeps I.bk) ((h2 x hn).trans hv) h) hd
variable {v:V}
theorem bQ {pos:Pos} (hg:Gl X x) (hm:X.mg x=some u) (r:RelV v u) (hd:(x == ("__debug__":Str))=false:=by decide):PE X (.Name x pos) (tC v) :=
 λ_ _ _ H _ I h=>gZ I hg hm ⟨v,H,I,r,h⟩ hd
theorem f9 {pos:Pos} (hg:Gl X x) (hm:X.mg x=none) (hv:bootBuiltins x=some u) (r:RelV v u) (hn:x≠"__name__":=by decide) (hd:(x == ("__debug__":Str))=false:=by decide):PE X (.Name x pos) (tC v) :=
 λ_ _ _ H _ I h=>mW I hg hm hv ⟨v,H,I,r,h⟩ hn hd
variable {a b:Expr} {ta tb:TE} {pos:Pos}
variable {tA tB':TT} {rest:List Expr}
noncomputable def F3 (t u:TT):TT:=λσ H Q=>t σ H λc H1=>if c=true then u σ H1 Q else Q false H1
noncomputable def tOr (t u:TT):TT:=λσ H Q=>t σ H λc H1=>if c=true then Q true H1 else u σ H1 Q
noncomputable def Fq (t:TT):TT:=λσ H Q=>t σ H λc H1=>Q (!c) H1
theorem oB (ha:PT X a tA):PW X (.BoolOp .And [a] pos) tA:=by
 intro wh pins s σ H Q I h;refine isTrue_and (PB (ha pins s σ H Q I h) λc s1 e=>?_)
 cases c with
 | true=>exact isTrue_and_nil e
 | false=>exact e
theorem fT (ha:PT X a tA):PW X (.BoolOp .Or [a] pos) tA:=by
 intro wh pins s σ H Q I h;refine isTrue_or (PB (ha pins s σ H Q I h) λc s1 e=>?_)
 cases c with
 | false=>exact isTrue_or_nil e
 | true=>exact e
theorem sZ (ha:PT X a tA) (hb:PW X (.BoolOp .And (b::rest) pos) tB'):PW X (.BoolOp .And (a::b::rest) pos) (F3 tA tB'):=by
 intro wh pins s σ H Q I h;refine isTrue_and (PB (ha pins s σ H _ I h) λc s1 ⟨H1,I1,q1⟩=>?_)
 cases c with
 | true=>exact hb wh pins s1 σ H1 Q I1 q1
 | false=>exact ⟨H1,I1,q1⟩
theorem iC (ha:PT X a tA) (hb:PW X (.BoolOp .Or (b::rest) pos) tB'):PW X (.BoolOp .Or (a::b::rest) pos) (tOr tA tB'):=by
 intro wh pins s σ H Q I h;refine isTrue_or (PB (ha pins s σ H _ I h) λc s1 ⟨H1,I1,q1⟩=>?_)
 cases c with
 | true=>exact ⟨H1,I1,q1⟩
 | false=>exact hb wh pins s1 σ H1 Q I1 q1
theorem dS (ha:PT X a tA):PT X (.UnaryOp .Not a pos) (Fq tA):=by intro pins s σ H Q I h;exact isTrue_not (ha pins s σ H (λc H1=>Q (!c) H1) I h)
noncomputable def D8 (ta tb:TE):TE:=λσ H Q=>ta σ H λx H1=>∃ c,x=.bl c/\if c=true then tb σ H1 Q else Q (.bl false) H1
noncomputable def Gc (ta tb:TE):TE:=λσ H Q=>ta σ H λx H1=>∃ c,x=.bl c/\if c=true then Q (.bl true) H1 else tb σ H1 Q
noncomputable def Ea (ta:TE):TE:=λσ H Q=>ta σ H λx H1=>∃ c,x=.bl c/\Q (.bl (!c)) H1
theorem kX {op} {t:TE} (h:PE X a t):PE X (.BoolOp op [a] pos) t:=λpins s σ H Q I hw=>BoolOp_one (h pins s σ H Q I hw)
theorem kW (ha:PE X a ta) (hb:PE X (.BoolOp .And (b::rest) pos) tb):PE X (.BoolOp .And (a::b::rest) pos) (D8 ta tb):=by
 intro pins s σ H Q I h;refine BoolOp_and (PB (ha pins s σ H _ I h) λv s1 ⟨x,H1,I1,r1,q1⟩=>?_);obtain ⟨c,rfl,q1⟩:=q1;cases r1;refine Nf ?_
 cases c with
 | true=>exact hb pins s1 σ H1 Q I1 q1
 | false=>exact ⟨.bl false,H1,I1,rfl,q1⟩
theorem DT (ha:PE X a ta) (hb:PE X (.BoolOp .Or (b::rest) pos) tb):PE X (.BoolOp .Or (a::b::rest) pos) (Gc ta tb):=by
 intro pins s σ H Q I h;refine BoolOp_or (PB (ha pins s σ H _ I h) λv s1 ⟨x,H1,I1,r1,q1⟩=>?_);obtain ⟨c,rfl,q1⟩:=q1;cases r1;refine Nf ?_
 cases c with
 | false=>exact hb pins s1 σ H1 Q I1 q1
 | true=>exact ⟨.bl true,H1,I1,rfl,q1⟩
theorem ET (ha:PE X a ta):PE X (.UnaryOp .Not a pos) (Ea ta):=by intro pins s σ H Q I h;refine UnaryOp_ (PB (ha pins s σ H _ I h) λv s1 ⟨x,H1,I1,r1,q1⟩=>?_);obtain ⟨c,rfl,q1⟩:=q1;cases r1;exact not_of (Nf ⟨.bl (!c),H1,I1,rfl,q1⟩)
noncomputable def tIf (t:TT) (ta tb:TE):TE:=λσ H Q=>t σ H λc H1=>if c=true then ta σ H1 Q else tb σ H1 Q
theorem dR {c:Expr} (hc:PT X c tA) (ha:PE X a ta) (hb:PE X b tb):PE X (.IfExp c a b pos) (tIf tA ta tb):=by
 intro pins s σ H Q I h;refine wpAny_IfExp (PB (hc pins s σ H _ I h) λd s1 ⟨H1,I1,q1⟩=>?_)
 cases d with
 | true=>exact ha pins s1 σ H1 Q I1 q1
 | false=>exact hb pins s1 σ H1 Q I1 q1
end
noncomputable def PJ (K:W.Frag) (H:Hp) (a:Addr) (xs:List V):Prop :=
 Rd H a (.lst xs) \/
  ∃ (o:Obj) (its:Array Value) (n:Nat),K.lookup a=some o/\o.cls=.type "list"/\o.dict=none/\o.data=.seq its n/\its.size<=sizeLine/\Vals xs its.toList
noncomputable def QE (K:W.Frag) (H:Hp) (a:Addr) (xs:List V):Prop :=
 Rd H a (.tup xs) \/
  ∃ (o:Obj) (its:Array Value) (n:Nat),K.lookup a=some o/\o.cls=.type "tuple"/\o.data=.seq its n/\its.size<=sizeLine/\Vals xs its.toList
noncomputable def Gn:Value->Option V
 | .none=>some .Py
 | .bool b=>some (.bl b)
 | .int i _=>some (.int i)
 | .str x _=>some (.str x)
 | .bytes b _=>some (.X0 b)
 | .float b _=>some (.flt b)
 | .ref a=>some (.ref a)
 | .type n=>some (.ty n)
 | _=>none
theorem RelV.abs {x:V} (r:RelV x u):Gn u=some x:=by
 cases x with
 | Py=>cases r;rfl
 | bl _=>cases r;rfl
 | int _=>obtain ⟨t,rfl⟩:=r;rfl
 | str _=>obtain ⟨t,rfl⟩:=r;rfl
 | X0 _=>obtain ⟨t,rfl⟩:=r;rfl
 | flt _=>obtain ⟨t,rfl⟩:=r;rfl
 | ref _=>cases r;rfl
 | ty _=>cases r;rfl
theorem RelV.inj {x y:V} (r:RelV x u) (q:RelV y u):x=y:=ME (r.abs.symm.trans q.abs)
theorem Vals.inj:∀ {xs ys:List V} {us:List Value},Vals xs us->Vals ys us->xs=ys
 | _,_,_,.nil,.nil=>rfl
 | _,_,_,.cons r t,.cons r' t'=>by rw [r.inj r',Vals.inj t t']
section
variable {X:Cx} {pins:List (Addr × Obj)} {σ:St} {H:Hp} {s:Shared} {a:Addr} {xs ys:List V}
variable {K:W.Frag}
theorem PJ.of (h:H a=some (.lst xs)):PJ K H a xs:=.inl (.inl h)
theorem QE.of (h:H a=some (.tup xs)):QE K H a xs:=.inl (.inl h)
theorem Inv.list (I:Inv X pins σ H s) (h:PJ X.K H a xs):∃ its:List Value,Vals xs its/\PlainL s.heap a its.toArray/\xs.length<=sizeLine:=by
 rcases h with h | ⟨o,its,n,hk,hc,hd,hs,hz,r⟩
 ·obtain ⟨z,its,n,r,e⟩:=h.ok I.hok;exact ⟨its,r,⟨_,n,e,rfl,rfl,rfl⟩,z⟩
 ·refine ⟨its.toList,r,⟨o,n,I.Sb a o hk,hc,hd,by simpa using hs⟩,?_⟩;have e:=r.length;simp only [Om] at e;omega
theorem Inv.tuple (I:Inv X pins σ H s) (h:QE X.K H a xs):∃ its:List Value,Vals xs its/\IsTup s.heap a its.toArray/\xs.length<=sizeLine:=by
 rcases h with h | ⟨o,its,n,hk,hc,hs,hz,r⟩
 ·obtain ⟨z,its,r,p⟩:=h.ok I.hok;exact ⟨its,r,p,z⟩
 ·refine ⟨its.toList,r,⟨o,I.Sb a o hk,hc,n,by simpa using hs⟩,?_⟩;have e:=r.length;simp only [Om] at e;omega
theorem Inv.Yv (I:Inv X pins σ H s) (h:PJ X.K H a xs) (h':PJ X.K H a ys):xs=ys:=by
 obtain ⟨its,r,⟨o,n,e,_,_,d⟩,_⟩:=I.list h;obtain ⟨its',r',⟨o',n',e',_,_,d'⟩,_⟩:=I.list h';rw [e] at e';cases e';rw [d] at d';injection d' with d1 _;have:its=its':=by simpa using MH Array.toList d1
 subst this;exact r.inj r'
theorem Inv.W7 (I:Inv X pins σ H s) (h:QE X.K H a xs) (h':QE X.K H a ys):xs=ys:=by
 obtain ⟨its,r,⟨o,e,_,n,d⟩,_⟩:=I.tuple h;obtain ⟨its',r',⟨o',e',_,n',d'⟩,_⟩:=I.tuple h';rw [e] at e';cases e';rw [d] at d';injection d' with d1 _;have:its=its':=by simpa using MH Array.toList d1
 subst this;exact r.inj r'
end
noncomputable abbrev Cx.W3 (X:Cx) (E:Value->Shared->Prop):Cx:={ X with xe:=E }
noncomputable abbrev Cx.Zq (X:Cx):Cx:=X.W3 λ_ _=>False
theorem Cx.Ok.W3 (ok:X.Ok) (E:Value->Shared->Prop):(X.W3 E).Ok :=
 ⟨ok.mod,ok.kind,ok.glob,ok.blt,ok.above,ok.inj,ok.has,ok.YU,ok.hd,ok.frames,ok.stk,ok.exf,ok.bs,ok.Yh,ok.Xv,ok.Yi,ok.Vq,ok.YV⟩
theorem Cx.Ok.UE {E:Value->Shared->Prop} (ok:(X.W3 E).Ok):X.Ok :=
 ⟨ok.mod,ok.kind,ok.glob,ok.blt,ok.above,ok.inj,ok.has,ok.YU,ok.hd,ok.frames,ok.stk,ok.exf,ok.bs,ok.Yh,ok.Xv,ok.Yi,ok.Vq,ok.YV⟩
section
variable {X:Cx} {pins:List (Addr × Obj)} {σ:St} {H:Hp} {s:Shared} {E:Value->Shared->Prop}
theorem Inv.W3 (I:Inv X pins σ H s) (E:Value->Shared->Prop):Inv (X.W3 E) pins σ H s:=⟨I.ok.W3 E,I.os,I.bare,I.base,I.loc,I.cell,I.free,I.RY,I.pin,I.hok,I.len⟩
theorem Inv.UE (I:Inv (X.W3 E) pins σ H s):Inv X pins σ H s:=⟨I.ok.UE,I.os,I.bare,I.base,I.loc,I.cell,I.free,I.RY,I.pin,I.hok,I.len⟩
theorem SP.UE {D:Ends} {f:Flow} {s':Shared} (h:SP (X.W3 E) pins D f s'):SP X pins D f s':=by
 cases f with
 | next=>obtain ⟨σ',H',I,q⟩:=h;exact ⟨σ',H',I.UE,q⟩
 | brk=>obtain ⟨σ',H',I,q⟩:=h;exact ⟨σ',H',I.UE,q⟩
 | cont=>obtain ⟨σ',H',I,q⟩:=h;exact ⟨σ',H',I.UE,q⟩
 | ret u=>obtain ⟨v,σ',H',I,r,q⟩:=h;exact ⟨v,σ',H',I.UE,r,q⟩
theorem Wc.Zq {st:List Stmt} {t:TS} (h:Wc X.Zq st t):Wc X st t:=λpins s σ H D I hw =>
 MX (h pins s σ H D (I.W3 _) hw) (λ_ _ q=>q.UE) λ_ _ z=>False.elim z
end
section
variable {X:Cx} {st:Stmt} {rest:List Stmt} {t u:TS} {e:Expr} {te:TE} {pos:Pos}
noncomputable def kn:TS:=λD σ H=>D.nx σ H
noncomputable def lC (t u:TS):TS:=λD σ H=>t { D with nx:=u D } σ H
theorem aU:Wc X [] kn:=λ_ _ σ H _ I h=>OP ⟨σ,H,I,h⟩
theorem aF (h1:PS X st t) (h2:Wc X rest u):Wc X (st::rest) (lC t u):=by
 intro pins s σ H D I h;refine wpAny_execs_cons (PB (h1 pins s σ H { D with nx:=u D } I h) λf s1 q=>?_)
 cases f with
 | next =>obtain ⟨σ',H',I',q⟩:=q;exact h2 pins s1 σ' H' D I' q
 | ret v=>exact q
 | brk=>exact q
 | cont=>exact q
theorem aH (h1:PS X st t):Wc X [st] t:=by
 intro pins s σ H D I h;refine wpAny_execs_cons (PB (h1 pins s σ H D I h) λf s1 q=>?_)
 cases f with
 | next=>exact OP q
 | ret v=>exact q
 | brk=>exact q
 | cont=>exact q
theorem Inv.quiet {pins:List (Addr × Obj)} {σ:St} {H:Hp} {s:Shared} (I:Inv X pins σ H s):interactive X.env=false:=by simp [interactive,I.ok.kind]
noncomputable def nM (te:TE):TS:=λD σ H=>te σ H λ_ H1=>D.nx σ H1
theorem bK (he:PE X e te) (hs:swapsWith e none pos.line X.env=pure false:=by rfl):PS X (.Expr e pos) (nM te):=by intro pins s σ H D I h;exact wpAny_Expr_any (PB (he pins s σ H _ I h) λv s1 ⟨x,H1,I1,r1,q1⟩=>⟨σ,H1,I1,q1⟩) I.quiet hs
noncomputable def Fu (te:TE):TS:=λD σ H=>te σ H D.rt
theorem aQ (he:PE X e te):PS X (.Return (some e) pos) (Fu te):=by intro pins s σ H D I h;exact wpAny_Return_some (PB (he pins s σ H _ I h) λv s1 ⟨x,H1,I1,r1,q1⟩=>⟨x,σ,H1,I1,r1,q1⟩)
noncomputable def Gd:TS:=λD _ H=>D.rt .Py H
theorem yo:PS X (.Return none pos) Gd:=λ_ _ σ H _ I h=>wpAny_Return_none ⟨.Py,σ,H,I,rfl,h⟩
noncomputable def DC (c:TT) (t u:TS):TS:=λD σ H=>c σ H λb H1=>if b=true then t D σ H1 else u D σ H1
theorem bD {c:Expr} {a b:List Stmt} {tc:TT} (hc:PT X c tc) (ha:Wc X a t) (hb:Wc X b u):PS X (.If c a b pos) (DC tc t u):=by
 intro pins s σ H D I h;refine wpAny_If (PB (hc pins s σ H _ I h) λd s1 ⟨H1,I1,q1⟩=>?_)
 cases d with
 | true=>exact ha pins s1 σ H1 D I1 q1
 | false=>exact hb pins s1 σ H1 D I1 q1
noncomputable def B6:TS:=λ_ _ _=>False
theorem kf:PS X st B6:=λ_ _ _ _ _ _ h=>h.elim
theorem zq {sts:List Stmt}:Wc X sts B6:=λ_ _ _ _ _ _ h=>h.elim
end
noncomputable abbrev TG:=V->St->Hp->(St->Hp->Prop)->Prop
noncomputable abbrev YW:=List V->St->Hp->(St->Hp->Prop)->Prop
noncomputable def PG (X:Cx) (target:Expr) (t:TG):Prop :=
 ∀ (pins:List (Addr × Obj)) (s:Shared) (σ:St) (H:Hp) (v:V) (u:Value) (Q:St->Hp->Prop),Inv X pins σ H s->RelV v u->t v σ H Q ->
  wpAny (model X.prog X.w) X.A (assign target X.env u) (λ_ s'=>∃ σ' H',Inv X pins σ' H' s'/\Q σ' H') X.xe s
noncomputable def ZT (X:Cx) (ts:List Expr) (t:YW):Prop :=
 ∀ (pins:List (Addr × Obj)) (s:Shared) (σ:St) (H:Hp) (vs:List V) (us:List Value) (Q:St->Hp->Prop),Inv X pins σ H s->Vals vs us->t vs σ H Q ->
  wpAny (model X.prog X.w) X.A (assignInOrder ((assignEach ts X.env).map (·.2)) us) (λ_ s'=>∃ σ' H',Inv X pins σ' H' s'/\Q σ' H') X.xe s
noncomputable abbrev zX:=V->V->V->Hp->(Hp->Prop)->Prop
noncomputable def Ed (X:Cx) (t:zX):Prop :=
 ∀ (pins:List (Addr × Obj)) (s:Shared) (σ:St) (H:Hp) (o i v:V) (ov iv u:Value) (Q:Hp->Prop),Inv X pins σ H s->RelV o ov->RelV i iv->RelV v u->t o i v H Q ->
  wpAny (model X.prog X.w) X.A (setItem ov iv u) (λ_ s'=>∃ H',Inv X pins σ H' s'/\Q H') X.xe s
noncomputable abbrev ZU:=V->V->Hp->VK->Prop
noncomputable def PIp (X:Cx) (op:Operator) (t:ZU):Prop :=
 ∀ (pins:List (Addr × Obj)) (s:Shared) (σ:St) (H:Hp) (x y:V) (v u:Value) (Q:VK),Inv X pins σ H s->RelV x v->RelV y u->t x y H Q ->
  wpAny (model X.prog X.w) X.A (inplaceOp op v u) (EP X pins σ Q) X.xe s
section
variable {X:Cx} {pos:Pos}
noncomputable def bW (i:Nat):TG:=λv σ H Q=>Q (σ.set i (some v)) H
variable {i:Nat} {x:Str}
theorem aY (hN:X.N.Nodup) (hi:X.N[i]?=some x) (hx:Loc X.env.scope x) (hf:X.fn x=true\/X.env.scope.names.lookup x=some .local:=by first | exact .inl rfl | exact .inr rfl | assumption):PG X (.Name x pos) (bW i):=by intro pins s σ H v u Q I r h;exact OD (jB I hN hi hx r (λs' I'=>⟨_,H,I',h⟩) hf)
noncomputable def wc:YW:=λvs σ H Q=>vs=[]/\Q σ H
noncomputable def iG (t:TG) (u:YW):YW:=λvs σ H Q=>∃ v r,vs=v::r/\t v σ H λσ' H'=>u r σ' H' Q
theorem gC:ZT X [] wc:=by intro pins s σ H vs us Q I r h;obtain ⟨e,h⟩:=h;subst e;cases r;exact assignInOrder_nil ⟨σ,H,I,h⟩
variable {e:Expr} {es:List Expr}
theorem bN {t:TG} {u:YW} (h1:PG X e t) (h2:ZT X es u)
  (hs:(assignEach (e::es) X.env).map (·.2)=assign e X.env::(assignEach es X.env).map (·.2):=by rfl):ZT X (e::es) (iG t u):=by
 intro pins s σ H vs us Q I r h;obtain ⟨v,vr,e1,h⟩:=h;subst e1
 cases r with
 | cons r rr =>rw [hs];refine O5 (PB (h1 pins s σ H _ _ _ I r h) λ_ s1 ⟨σ1,H1,I1,q1⟩=>?_);exact h2 pins s1 σ1 H1 _ _ Q I1 rr q1
noncomputable def rV (K:W.Frag) (n:Nat) (t:YW):TG:=λv σ H Q=>∃ a xs,v=.ref a/\QE K H a xs/\xs.length=n/\t xs σ H Q
theorem iP {k:Nat} {t:YW} {n:Nat} (hc:X.calm=true) (h:ZT X es t)
  (hn:(assignEach es X.env).length=n:=by rfl) (hst:(assignEach es X.env).findIdx? (·.1)=none:=by rfl):PG X (.Tuple es k pos) (rV X.K n t):=by
 intro pins s σ H v u Q I r hw;obtain ⟨a,xs,e1,hq,hl,hw⟩:=hw;subst e1;cases r;obtain ⟨its,rv,ht,hz⟩:=I.tuple hq;refine assign_Tuple_tuple (I.ok.hd hc) ht (by simp [hn,<- hl,rv.length]) hst λh' hx=>?_;have I1:Inv X pins σ H { s with heap:=h' }:=I.kept (t':=s.toks) λb o e=>hx b o (Mq (Mi e)) e;exact h pins _ σ H xs _ Q I1 (by simpa using rv) hw
noncomputable def Gr (to ti:TE) (t:zX):TG:=λv σ H Q=>to σ H λo H1=>ti σ H1 λi H2=>t o i v H2 λH3=>Q σ H3
variable {to ti:TE}
theorem Bj {o i:Expr} {t:zX} (ho:PE X o to) (hi:PE X i ti) (hs:Ed X t)
  (ha:∀ v,assign (.Subscript o i pos) X.env v=(do
   let ov <- holding [v] (eval o X.env);let iv <- holding [v,ov] (eval i X.env)
   standAt pos
   holding [v,ov,iv] (setItem ov iv v)
   release [v,ov,iv] []):=by intro _;rfl):PG X (.Subscript o i pos) (Gr to ti t):=by
 intro pins s σ H v u Q I r h;rw [ha];refine LU (Nj (PB (ho pins s σ H _ I h) λov s1 ⟨x,H1,I1,r1,q1⟩=>?_));refine LU (Nj (PB (hi pins s1 σ H1 _ I1 q1) λiv s2 ⟨y,H2,I2,r2,q2⟩=>?_));refine LU (M4 (LU (Nj (PB (hs pins s2 σ H2 x y v ov iv u _ I2 r1 r2 r q2) λ_ s3 ⟨H3,I3,q3⟩=>?_))));exact wpAny_release ⟨σ,H3,I3,q3⟩
noncomputable def lA (te:TE) (g:TG):TS:=λD σ H=>te σ H λx H1=>g x σ H1 D.nx
variable {te:TE}
theorem iE {tg:Expr} {g:TG} (he:PE X e te) (hg:PG X tg g) (hs:swapsWithSole [tg] e pos.line X.env=pure false:=by rfl) (hw:swappedStores [tg] e X.env=pure none:=by rfl)
  (h1:(assignEach [tg] X.env).map (·.2)=[assign tg X.env]:=by rfl):PS X (.Assign [tg] e pos) (lA te g):=by
 intro pins s σ H D I h;refine wpAny_Assign_stores (PB (he pins s σ H _ I h) λv s1 ⟨x,H1,I1,r1,q1⟩=>?_) hs hw;rw [h1];exact PB (hg pins s1 σ H1 x v _ I1 r1 q1) λ_ s2 q=>q
variable {pos':Pos}
theorem bM (hN:X.N.Nodup) (hi:X.N[i]?=some x) (hx:Loc X.env.scope x) (he:PE X e te) (hs:swapsWith e (some (.Name x pos')) pos.line X.env=pure false:=by rfl) (hf:X.fn x=true\/X.env.scope.names.lookup x=some .local:=by first | exact .inl rfl | exact .inr rfl | assumption) :
  PS X (.Assign [.Name x pos'] e pos) (lA te (bW i)):=by
 intro pins s σ H D I h;refine wpAny_Assign_Name (PB (he pins s σ H _ I h) λv s1 ⟨y,H1,I1,r1,q1⟩=>?_) hs;exact jB I1 hN hi hx r1 (λs2 I2=>⟨_,H1,I2,q1⟩) hf
noncomputable def Gy (i j:Nat) (ta:TA):TS:=λD σ H=>ta σ H λvs H1=>∃ v w,vs=[v,w]/\D.nx ((σ.set i (some v)).set j (some w)) H1
theorem wO {j:Nat} {y:Str} {a b:Expr} {ta:TA} {px py pt:Pos} {kt k2 pt2} (hc:X.calm=true) (hN:X.N.Nodup) (hi:X.N[i]?=some x) (hj:X.N[j]?=some y) (hij:i≠j)
  (hx:X.env.scope.names.lookup x=some .local) (hy:X.env.scope.names.lookup y=some .local) (ha:PA X [a,b] ta)
  (hw:swappedStores [.Tuple [.Name x px,.Name y py] kt pt] (.Tuple [a,b] k2 pt2) X.env=pure (some [x,y]))
  (hs:swapsWithSole [.Tuple [.Name x px,.Name y py] kt pt] (.Tuple [a,b] k2 pt2) pos.line X.env=pure false:=by rfl) :
  PS X (.Assign [.Tuple [.Name x px,.Name y py] kt pt] (.Tuple [a,b] k2 pt2) pos) (Gy i j ta):=by
 intro pins s σ H D I h;rw [exec_Assign_arm];refine LU (M4 ?_);rw [hs];refine LU (L8 ?_);rw [LZ (by decide)];refine LU (Tuple_ (PB (ha _ pins s σ H _ I h) λus s1 ⟨vs,H1,I1,r1,q1⟩=>?_));obtain ⟨v,w,e1,q1⟩:=q1;subst e1
 obtain ⟨u1,u2,rfl,rv,rw'⟩:∃ u1 u2,us=[u1,u2]/\RelV v u1/\RelV w u2:=by
  cases r1 with
  | cons p q =>
   cases q with
   | cons p' q' =>cases q';exact ⟨_,_,rfl,p,p'⟩
 refine Nm ?_ (by show 2<=sizeLine;decide);have I2:Inv X pins σ H1 { s1 with heap:=s1.heap.push { cls:=.type "tuple",data:=.seq [u1,u2].toArray } }:=I1.kept (t':=s1.toks) λb o e=>LX _ e;rw [hw];refine LU (L8 ?_);show wpAny (model X.prog X.w) X.A (do rule "assign.swapped-stores";let items <- unpackItems (.ref s1.heap.objs.size) 2 none;assignInOrder [λv=>bindName X.env y v,λv=>bindName X.env x v] items.reverse;pure Flow.next) _ _ _;refine LU (wpAny_rule (LU (unpackItems_tuple (items:=#[u1,u2]) (I.ok.hd hc) (IsTup.new s1.heap _) λh' hx'=>?_)));have I3:=I2.kept (h':=h') (t':=s1.toks) λb o e=>hx' b o (Mq (Mi e)) e;show wpAny _ _ (assignInOrder [λv=>bindName X.env y v,λv=>bindName X.env x v] [u2,u1] >>= λ_=>pure Flow.next) _ _ _;refine LU (O5 (wpAny_bindName (jB I3 hN hj (.inl hy) rw' (λs2 I4=>?_) (.inr hy))));refine O5 (wpAny_bindName (jB I4 hN hi (.inl hx) rv (λs3 I5=>assignInOrder_nil (L8 ?_)) (.inr hx)));rw [List.set_comm _ _ (MQ hij)] at I5;exact ⟨_,H1,I5,q1⟩
noncomputable def Gx (i:Nat) (te:TE) (ti:ZU):TS:=λD σ H=>∃ x,σ[i]?=some (some x)/\te σ H λy H1=>ti x y H1 λz H2=>D.nx (σ.set i (some z)) H2
variable {op:Operator}
theorem Bq {ti:ZU} (hN:X.N.Nodup) (hi:X.N[i]?=some x) (hx:Loc X.env.scope x) (he:PE X e te) (ho:PIp X op ti) (hf:X.fn x=true\/X.env.scope.names.lookup x=some .local:=by first | exact .inl rfl | exact .inr rfl | assumption) :
  PS X (.AugAssign (.Name x pos') op e pos) (Gx i te ti):=by
 intro pins s σ H D I h;obtain ⟨v,e1,h⟩:=h;obtain ⟨m,hn,hl⟩:=I.loc;have vis:ZS X.env.scope x:=by rcases hx with k | k;exact .inl k;exact .inr (.inl k)
 obtain ⟨u,r,l⟩:=hl i x v hi e1 vis;refine wpAny_AugAssign_Name ?_
 have go:wpAny (model X.prog X.w) X.A (eval e X.env) (λw s₂=>wpAny (model X.prog X.w) X.A (inplaceOp op u w) (λr s₃=>wpAny (model X.prog X.w) X.A (storeName X.env x r) (λ_=>SP X pins D .next) X.xe s₃) X.xe s₂) X.xe s:=by refine PB (he pins s σ H _ I h) λw s1 ⟨y,H1,I1,r1,q1⟩=>?_;refine PB (ho pins s1 σ H1 v y u w _ I1 r r1 q1) λz s2 ⟨zv,H2,I2,r2,q2⟩=>?_;exact jB I2 hN hi hx r2 (λs3 I3=>⟨_,H2,I3,q2⟩) hf
 rcases l with ⟨hk,hm⟩ | ⟨hk,c,hc,hcell⟩
 ·exact wpAny_loadName_local I.ok.kind hk hn hm go
 ·rcases hk with hk | hk
  ·exact wpAny_loadName_cell I.ok.kind hk hc hcell go
  ·rcases hx with k | k
   ·have:X.env.scope.names.lookup x=some .free:=hk;rw [k] at this;cases this
   ·have:X.env.scope.names.lookup x=some .free:=hk;rw [k] at this;cases this
noncomputable def F7 (to ti te:TE) (YX:V->V->Hp->VK->Prop) (tip:ZU) (YY:zX):TS:=λD σ H=>to σ H λo H1=>ti σ H1 λi H2=>YX o i H2 λx H3=>te σ H3 λy H4=>tip x y H4 λz H5=>YY o i z H5 λH6=>D.nx σ H6
noncomputable def FD (X:Cx) (t:V->V->Hp->VK->Prop):Prop :=
 ∀ (pins:List (Addr × Obj)) (s:Shared) (σ:St) (H:Hp) (o i:V) (ov iv:Value) (Q:VK),Inv X pins σ H s->RelV o ov->RelV i iv->t o i H Q ->
  wpAny (model X.prog X.w) X.A (getItem ov iv) (EP X pins σ Q) X.xe s
theorem Dc {o i:Expr} {YX:V->V->Hp->VK->Prop} {tip:ZU} {YY:zX} {tpos:Pos} (ho:PE X o to) (hi:PE X i ti) (hg:FD X YX) (he:PE X e te) (hp:PIp X op tip) (hs:Ed X YY)
  (ha:∀ ov iv new,augStore i ov iv new=(do holding [new,ov,iv] (setItem ov iv new);release [new,ov,iv] [];pure .next):=by intros;rfl):PS X (.AugAssign (.Subscript o i tpos) op e pos) (F7 to ti te YX tip YY):=by
 intro pins s σ H D I h;refine wpAny_AugAssign_SubscriptAny (PB (ho pins s σ H _ I h) λov s1 ⟨x1,H1,I1,r1,q1⟩=>?_) ha;refine PB (hi pins s1 σ H1 _ I1 q1) λiv s2 ⟨x2,H2,I2,r2,q2⟩=>?_;refine PB (hg pins s2 σ H2 x1 x2 ov iv _ I2 r1 r2 q2) λold s3 ⟨x3,H3,I3,r3,q3⟩=>?_;refine PB (he pins s3 σ H3 _ I3 q3) λv s4 ⟨x4,H4,I4,r4,q4⟩=>?_;refine PB (hp pins s4 σ H4 x3 x4 old v _ I4 r3 r4 q4) λnew s5 ⟨x5,H5,I5,r5,q5⟩=>?_;exact PB (hs pins s5 σ H5 x1 x2 x5 ov iv new _ I5 r1 r2 r5 q5) λ_ s6 ⟨H6,I6,q6⟩=>⟨σ,H6,I6,q6⟩
noncomputable def ipI (f:Int->Int->Int):ZU:=λx y H Q=>∃ i j,x=.int i/\y=.int j/\Q (.int (f i j)) H
theorem wj:PIp X .Add (ipI λi j=>i+j):=by intro pins s σ H x y v u Q I r1 r2 h;obtain ⟨i,j,e1,e2,q⟩:=h;subst e1;subst e2;obtain ⟨t,rfl⟩:=r1;obtain ⟨t',rfl⟩:=r2;exact iadd_int ⟨.int _,H,I.tok _,⟨_,rfl⟩,q⟩
noncomputable def tW (c:TT) (tb:TS):TS:=λD σ H=>∃ W:Nat->St->Hp->Prop,(∃ m,W m σ H)/\∀ m σ H,W m σ H ->
 c σ H λb H1=>if b=true then ∃ N:St->Hp->Prop,(∀ σ' H',N σ' H'->∃ m',m' < m/\W m' σ' H')/\tb { D with nx:=N,ct:=N,bk:=D.nx } σ H1 else D.nx σ H1
theorem pL {c:Expr} {body:List Stmt} {tc:TT} {tb:TS} (hp:PassesOwn (model X.prog X.w) X.A X.env X.xe) (hc:PT X c tc) (hb:Wc X body tb):PS X (.While c body [] pos) (tW tc tb):=by
 intro pins s σ H D I h;obtain ⟨W,⟨m0,w0⟩,turn⟩:=h;refine wpAny_While (codeAny_whileLoop (λn s'=>∃ σ' H',Inv X pins σ' H' s'/\W n σ' H') ?_ m0 ⟨σ,H,I,w0⟩);rintro n s1 ⟨σ1,H1,I1,w1⟩;refine NP hp (PB (hc pins s1 σ1 H1 _ I1 (turn n σ1 H1 w1)) λb s2 ⟨H2,I2,q2⟩=>?_)
 cases b with
 | true =>
  obtain ⟨N,hN,q2⟩:=q2;rw [Mc rfl];refine NP hp (PB (hb pins s2 σ1 H2 _ I2 q2) λf s3 q3=>?_)
  cases f with
  | next =>obtain ⟨σ3,H3,I3,n3⟩:=q3;obtain ⟨m',hm,w3⟩:=hN σ3 H3 n3;exact ⟨m',hm,σ3,H3,I3,w3⟩
  | cont =>obtain ⟨σ3,H3,I3,n3⟩:=q3;obtain ⟨m',hm,w3⟩:=hN σ3 H3 n3;exact ⟨m',hm,σ3,H3,I3,w3⟩
  | brk=>exact q3
  | ret v=>exact q3
 | false =>rw [LZ L6];exact OP ⟨σ1,H2,I2,q2⟩
end
structure It where
 go:Nat->Hp->Prop
 Vs:Nat->Hp->V->Hp->Prop
 stop:Nat->Hp->Prop
noncomputable def jT (X:Cx) (pins:List (Addr × Obj)) (H:Hp) (b:Addr):Prop :=
 H b=none/\b≠X.env.locals/\b ∉ X.fs/\(b ∈ X.ex\/X.s₀.heap.objs.size<=b)/\(∀ x c,X.env.cells.lookup x=some c->c≠b)/\∀ p ∈ X.pn++pins,p.1≠b
variable {σ:St}
theorem Inv.Xw {pins:List (Addr × Obj)} {H':Hp} (I:Inv X pins σ H s) (hb:s.heap.objs.size<=b) (hn:H' b=none):jT X pins H' b:=by
 refine ⟨hn,MR (Mp I.lt hb),I.nofs hb,.inr (Mr I.sz hb),λx c e z=>?_,λp hp z=>?_⟩
 ·obtain ⟨v,q⟩:=I.cell x c e;exact absurd (Mp q.lt (by rw [z];exact hb)) (M1 _)
 ·exact absurd (Mp (Mi (I.pin p hp).1) (by rw [z];exact hb)) (M1 _)
structure mK (P:Program) (w:World) (K:W.Frag) (tg:Expr) (J:It) (fp:List Addr) (it:Addr) (tn:Nat->Heap->Prop):Prop where
 mem:it ∈ fp
 obj:∀ i h,tn i h->∀ b ∈ fp,∃ o,h.get? b=some o/\∀ v,o.data≠.cell v
 keep:∀ i h h',tn i h->(∀ b ∈ fp,∀ o,h.get? b=some o->h'.get? b=some o)->tn i h'
 item:∀ (X:Cx),X.prog=P->X.w=w->X.K=K->X.calm=true->∀ (i:Nat) (pins:List (Addr × Obj)) (s:Shared) (σ:St) (H:Hp) (E:Value->Shared->Prop),Inv X pins σ H s->(∀ b ∈ fp,jT X pins H b)->tn i s.heap->J.go i H ->
  wpAny (model P w) X.A (pyNext (.ref it)) (λr s1=>∃ u,r=some u /\
   wpAny (model P w) X.A (letOwnedTupleGo tg (.ref it) u) (λ_ s2=>∃ x H',Inv X pins σ H' s2/\RelV x u/\J.Vs i H x H'/\tn (i+1) s2.heap/\∀ b ∈ fp,H' b=none) E s1) E s
 done:∀ (X:Cx),X.prog=P->X.w=w->X.K=K->X.calm=true->∀ (i:Nat) (pins:List (Addr × Obj)) (s:Shared) (σ:St) (H:Hp) (E:Value->Shared->Prop),Inv X pins σ H s->(∀ b ∈ fp,jT X pins H b)->tn i s.heap->J.stop i H ->
  wpAny (model P w) X.A (pyNext (.ref it)) (λr s1=>r=none/\Inv X pins σ H s1) E s
 self:∀ (A:Around) (i:Nat) (s:Shared) (Q:Value->Shared->Prop) (E:Value->Shared->Prop),tn i s.heap->Q (.ref it) s->wpAny (model P w) A (pyIter (.ref it)) Q E s
noncomputable abbrev TI:=St->Hp->(It->Hp->Prop)->Prop
noncomputable def PIE (X:Cx) (pins:List (Addr × Obj)) (σ:St) (tg:Expr) (R:It->Hp->Prop) (itv:Value) (s2:Shared):Prop :=
 ∃ (it:Addr) (fp:List Addr) (tn:Nat->Heap->Prop) (J:It) (H':Hp),itv=.ref it/\Inv X pins σ H' s2/\mK X.prog X.w X.K tg J fp it tn/\tn 0 s2.heap/\(∀ b ∈ fp,jT X pins H' b)/\R J H'
noncomputable def PI (X:Cx) (tg iter:Expr) (wi:TI):Prop :=
 ∀ (pins:List (Addr × Obj)) (s:Shared) (σ:St) (H:Hp) (R:It->Hp->Prop),Inv X pins σ H s->wi σ H R ->
  wpAny (model X.prog X.w) X.A (eval iter X.env) (λv s1=>wpAny (model X.prog X.w) X.A (pyIter v) (PIE X pins σ tg R) X.xe s1) X.xe s
variable {tg:Expr}
theorem uC {E:Value->Shared->Prop} {it:Addr} {o:Obj} {n:String} {vs:Array Value} {Q:Unit->Shared->Prop} (ho:s.heap.get? it=some o) (hc:o.cls=.type n) (hd:o.data=.fields vs)
  (hn:["enumerate","zip","dict_itemiterator","dict_reverseitemiterator","odict_iterator","itertools.zip_longest","itertools.pairwise"].contains n=false) (hQ:Q () s):wpAny M A (letOwnedTupleGo tg (.ref it) u) Q E s:=by
 unfold letOwnedTupleGo
 cases tg <;> first
  | exact L8 hQ
  | (cases u <;> first
    | exact L8 hQ
    | (refine LU (wpAny_load ho ?_)
       rw [hc,hd];show wpAny M A (if (["enumerate","zip","dict_itemiterator","dict_reverseitemiterator","odict_iterator","itertools.zip_longest","itertools.pairwise"].contains n && vs[0]? == some (rawInt _))=true then _ else _) Q E s;rw [LZ (by intro h;rw [hn,NV] at h;cases h)];exact L8 hQ))
noncomputable def Yw (K:W.Frag) (a:Addr):It :=
 ⟨λi H=>∃ xs x,PJ K H a xs/\xs[i]?=some x,λi H x H'=>H'=H/\∀ xs,PJ K H a xs->xs[i]?=some x,λi H=>∃ xs,PJ K H a xs/\xs.length<=i⟩
noncomputable def Yx (K:W.Frag) (a:Addr):It :=
 ⟨λi H=>∃ xs x,QE K H a xs/\xs[i]?=some x,λi H x H'=>H'=H/\∀ xs,QE K H a xs->xs[i]?=some x,λi H=>∃ xs,QE K H a xs/\xs.length<=i⟩
noncomputable def Ze (lo:Int) (n:Nat):It:=⟨λi _=>i < n,λi H x H'=>H'=H/\x=.int (lo+i),λi _=>n<=i⟩
variable {K:W.Frag}
theorem zM (a it:Addr):mK P w K tg (Yw K a) [it] it (λi h=>h.IsListIter it a i) where
 mem:=by simp
 obj:=λi h st b hb=>by
  have e:b=it:=by simpa using hb
  subst e;obtain ⟨o,e,c,d⟩:=st;exact ⟨o,e,λv z=>by rw [d] at z;cases z⟩
 keep:=λi h h' st k=>st.at λo e=>k it (by simp) o e
 item:=by intro X hP hw hK hc i pins s σ H E I hf st hg;subst hP hw hK;obtain ⟨xs,x,hq,hx⟩:=hg;obtain ⟨its,rv,p,hz⟩:=I.list hq;obtain ⟨u,hu,ru⟩:=rv.get hx;obtain ⟨f0,f1,f2,f3,f4,f5⟩:=hf it (by simp);refine wpAny_pyNext_list_item st p.isList (x:=u) (by simpa using hu) λh' st' sb=>?_;have I1:Inv X pins σ H { s with heap:=h' }:=I.turned (t':=s.toks) (λb o hb e=>(sb.2 b hb).trans e) f0 f1 f3 f4 f5;obtain ⟨o,e,c,d⟩:=id st';exact ⟨u,rfl,uC (s:={ s with heap:=h' }) e c d (by decide) ⟨x,H,I1,ru,⟨rfl,λys hy=>by rw [I.Yv hy hq];exact hx⟩,st',λb hb=>(hf b hb).1⟩⟩
 done:=by intro X hP hw hK hc i pins s σ H E I hf st hg;subst hP hw hK;obtain ⟨xs,hq,hx⟩:=hg;obtain ⟨its,rv,p,hz⟩:=I.list hq;obtain ⟨f0,f1,f2,f3,f4,f5⟩:=hf it (by simp);have hl:=rv.length;exact wpAny_pyNext_list_end (I.ok.hd hc) st p.isList (by simp;omega) λh' eb=>⟨rfl,I.turned (t':=s.toks) (λb o hb e=>eb b o hb e) f0 f1 f3 f4 f5⟩
 self:=λ_ _ _ _ _ st h=>wpAny_pyIter_listiter st h
theorem xr (a it:Addr):mK P w K tg (Yx K a) [it] it (λi h=>h.IsTupleIter it a i) where
 mem:=by simp
 obj:=λi h st b hb=>by
  have e:b=it:=by simpa using hb
  subst e;obtain ⟨o,e,c,d⟩:=st;exact ⟨o,e,λv z=>by rw [d] at z;cases z⟩
 keep:=λi h h' st k=>st.at λo e=>k it (by simp) o e
 item:=by intro X hP hw hK hc i pins s σ H E I hf st hg;subst hP hw hK;obtain ⟨xs,x,hq,hx⟩:=hg;obtain ⟨its,rv,p,hz⟩:=I.tuple hq;obtain ⟨u,hu,ru⟩:=rv.get hx;obtain ⟨f0,f1,f2,f3,f4,f5⟩:=hf it (by simp);refine wpAny_pyNext_tuple_item st (show s.heap.IsTuple a its.toArray from p) (x:=u) (by simpa using hu) λh' st' sb=>?_;have I1:Inv X pins σ H { s with heap:=h' }:=I.turned (t':=s.toks) (λb o hb e=>(sb.2 b hb).trans e) f0 f1 f3 f4 f5;obtain ⟨o,e,c,d⟩:=id st';exact ⟨u,rfl,uC (s:={ s with heap:=h' }) e c d (by decide) ⟨x,H,I1,ru,⟨rfl,λys hy=>by rw [I.W7 hy hq];exact hx⟩,st',λb hb=>(hf b hb).1⟩⟩
 done:=by intro X hP hw hK hc i pins s σ H E I hf st hg;subst hP hw hK;obtain ⟨xs,hq,hx⟩:=hg;obtain ⟨its,rv,p,hz⟩:=I.tuple hq;obtain ⟨f0,f1,f2,f3,f4,f5⟩:=hf it (by simp);have hl:=rv.length;exact wpAny_pyNext_tuple_end (I.ok.hd hc) st (show s.heap.IsTuple a its.toArray from p) (by simp;omega) λh' eb=>⟨rfl,I.turned (t':=s.toks) (λb o hb e=>eb b o hb e) f0 f1 f3 f4 f5⟩
 self:=λ_ _ _ _ _ st h=>wpAny_pyIter_tupleiter st h
theorem xq {K:PySem.W.Frag} (it:Addr) (lo:Int) (n:Nat):mK P w K tg (Ze lo n) [it] it (λi h=>IsRangeIter h it (lo+(i:Nat) * 1) ((n:Int) - (i:Nat)) 1) where
 mem:=by simp
 obj:=λi h st b hb=>by
  have e:b=it:=by simpa using hb
  subst e
  exact ⟨_,st,λv z=>by
   have z':Data.fields _=Data.cell v:=z;cases z'⟩
 keep:=λi h h' st k=>k it (by simp) _ st
 item:=by intro X hP hw hK hc i pins s σ H E I hf st hg;subst hP hw hK;obtain ⟨f0,f1,f2,f3,f4,f5⟩:=hf it (by simp);have W:=Walks.range (prog:=X.prog) (w:=X.w) (I.ok.hd hc) it lo 1 n;refine W.item i s _ _ hg st λv h' tk hv st' kk=>?_;obtain ⟨t,rfl⟩:=hv;have I1:Inv X pins σ H { s with heap:=h',toks:=tk }:=I.turned (λb o hb e=>kk b o (by simpa using hb) e) f0 f1 f3 f4 f5;refine ⟨_,rfl,uC (s:={ s with heap:=h',toks:=tk }) (n:="range_iterator") st' rfl rfl (by decide) ⟨.int (lo+i),H,I1,⟨t,?_⟩,⟨rfl,rfl⟩,st',λb hb=>(hf b hb).1⟩⟩;rw [Int.mul_one]
 done:=by intro X hP hw hK hc i pins s σ H E I hf st hg;subst hP hw hK;obtain ⟨f0,f1,f2,f3,f4,f5⟩:=hf it (by simp);exact wpAny_pyNext_range_end (I.ok.hd hc) st (by have:n<=i:=hg;omega) λh' eb=>⟨rfl,I.turned (t':=s.toks) (λb o hb e=>eb b o hb e) f0 f1 f3 f4 f5⟩
 self:=λ_ _ _ _ _ st h=>wpAny_pyIter_rangeiter st h
section
variable {X:Cx} {tg:Expr}
noncomputable def lS (K:W.Frag) (tl:TE):TI:=λσ H R=>tl σ H λx H1=>∃ a,x=.ref a/\(∃ xs,PJ K H1 a xs)/\R (Yw K a) H1
noncomputable def y9 (K:W.Frag) (tl:TE):TI:=λσ H R=>tl σ H λx H1=>∃ a,x=.ref a/\(∃ xs,QE K H1 a xs)/\R (Yx K a) H1
variable {l:Expr} {tl:TE}
theorem cU (hl:PE X l tl):PI X tg l (lS X.K tl):=by
 intro pins s σ H R I h;refine PB (hl pins s σ H _ I h) λv s1 ⟨x,H1,I1,r1,q1⟩=>?_;obtain ⟨a,e,⟨xs,hq⟩,q⟩:=q1;subst e;cases r1;obtain ⟨its,rv,p,hz⟩:=I1.list hq;refine N4 p.isList ?_;refine ⟨s1.heap.objs.size,[s1.heap.objs.size],_,_,H1,rfl,I1.kept (t':=s1.toks) λb o e=>LX _ e,zM a _,⟨_,Mu _ rfl,rfl,rfl⟩,λb hb=>?_,q⟩;have e:b=s1.heap.objs.size:=by simpa using hb
 subst e;exact I1.Xw (L7 _) (I1.hok.fresh (L7 _))
theorem m4 (hl:PE X l tl):PI X tg l (y9 X.K tl):=by
 intro pins s σ H R I h;refine PB (hl pins s σ H _ I h) λv s1 ⟨x,H1,I1,r1,q1⟩=>?_;obtain ⟨a,e,⟨xs,hq⟩,q⟩:=q1;subst e;cases r1;obtain ⟨its,rv,p,hz⟩:=I1.tuple hq;refine wpAny_pyIter_tuple (show s1.heap.IsTuple a its.toArray from p) ?_;refine ⟨s1.heap.objs.size,[s1.heap.objs.size],_,_,H1,rfl,I1.kept (t':=s1.toks) λb o e=>LX _ e,xr a _,⟨_,Mu _ rfl,rfl,rfl⟩,λb hb=>?_,q⟩;have e:b=s1.heap.objs.size:=by simpa using hb
 subst e;exact I1.Xw (L7 _) (I1.hok.fresh (L7 _))
variable {pins:List (Addr × Obj)} {σ:St} {H:Hp} {s:Shared}
theorem BF {R:It->Hp->Prop} {E:Value->Shared->Prop} {lo hi:Int} {t u v:Tok} {tk:Nat} (I:Inv X pins σ H s) (h1:-(2 ^ 62)<=lo) (h2:lo < 2 ^ 62) (h3:-(2 ^ 62)<=hi) (h4:hi < 2 ^ 62)
  (q:R (Ze lo (hi - lo).toNat) H):wpAny (model X.prog X.w) X.A (pyIter (.ref s.heap.objs.size)) (PIE X pins σ tg R) E { s with heap:=s.heap.push { cls:=.type "range",data:=.fields #[.int lo t,.int hi u,.int 1 v] },toks:=tk }:=by
 refine wpAny_pyIter_range (IsRange.new ..) (small_one h1 h2 h3 h4) ?_;have I1:Inv X pins σ H { s with heap:=s.heap.push { cls:=.type "range",data:=.fields #[.int lo t,.int hi u,.int 1 v] },toks:=tk }:=I.kept λb o e=>LX _ e
 refine ⟨(s.heap.push { cls:=.type "range",data:=.fields #[.int lo t,.int hi u,.int 1 v] }).objs.size,[(s.heap.push { cls:=.type "range",data:=.fields #[.int lo t,.int hi u,.int 1 v] }).objs.size],_,_,H,rfl,
  I1.kept (t':=tk) λb o e=>LX _ e,xq _ lo (hi - lo).toNat,?_,λb hb=>?_,q⟩
 ·have e1:lo+((0:Nat):Int) * 1=lo:=by simp
  have e2:(((hi - lo).toNat:Nat):Int) - ((0:Nat):Int)=Builtin.Range.rangeSize lo hi 1:=by rw [rangeSize_one];split <;> omega
  show IsRangeIter _ _ (lo+((0:Nat):Int) * 1) ((((hi - lo).toNat:Nat):Int) - ((0:Nat):Int)) 1;rw [e1,e2];exact Mu _ rfl
 ·have e:b=(s.heap.push { cls:=.type "range",data:=.fields #[.int lo t,.int hi u,.int 1 v] }).objs.size:=by simpa using hb
  subst e;exact I1.Xw (L7 _) (I1.hok.fresh (L7 _))
noncomputable def xX (ta:TA):TI:=λσ H R=>ta σ H λvs H1=>∃ j:Int,vs=[.int j]/\-(2 ^ 62)<=j/\j < 2 ^ 62/\R (Ze 0 j.toNat) H1
variable {pos:Pos}
theorem kq {a:Expr} {ta:TA} {p:Pos} (hg:Gl X "range") (hm:X.mg "range"=none) (ha:PA X [a] ta) (hs:starEach [a] X.env=[(false,eval a X.env)]:=by rfl):PI X tg (.Call (.Name "range" p) [a] [] pos) (xX ta):=by
 intro pins s σ H R I h;refine Call_ (mW I hg hm boot_range (NK (PB (ha pos pins s σ H _ I h) λus s1 ⟨vs,H1,I1,r1,q1⟩=>?_) hs rfl));obtain ⟨j,e,q1,q2,q⟩:=q1;subst e
 cases r1 with
 | cons r rr =>cases rr;obtain ⟨t,rfl⟩:=r;exact call_range_1 (BF I1 (by omega) (by omega) q1 q2 (by simpa using q))
noncomputable def Gb (wi:TI) (g:TG) (tb:TS):TS:=λD σ H=>wi σ H λJ H1=>∃ W:Nat->Nat->St->Hp->Prop,(∃ m,W 0 m σ H1)/\∀ i m σ H,W i m σ H ->
 (J.stop i H/\D.nx σ H)\/(J.go i H/\∃ N:St->Hp->Prop,(∀ σ' H',N σ' H'->∃ m',m' < m/\W (i+1) m' σ' H')/\∀ x H',J.Vs i H x H'->g x σ H' λσ2 H2=>tb { D with nx:=N,ct:=N,bk:=D.nx } σ2 H2)
noncomputable def kY (fp:List Addr) (h:Heap):List (Addr × Obj):=fp.filterMap λb=>(h.get? b).map λo=>(b,o)
variable {fp:List Addr} {h:Heap}
theorem eL {b:Addr} {o:Obj} (hb:b ∈ fp) (e:h.get? b=some o):(b,o) ∈ kY fp h:=Ox.mpr ⟨b,hb,by rw [e];rfl⟩
theorem zi {p:Addr × Obj} (hp:p ∈ kY fp h):p.1 ∈ fp/\h.get? p.1=some p.2:=by
 obtain ⟨b,hb,e⟩:=Ox.mp hp
 cases q:h.get? b with
 | none=>rw [q] at e;cases e
 | some o =>rw [q] at e;have e':(b,o)=p:=ME e;subst e';exact ⟨hb,q⟩
theorem Inv.pinned (I:Inv X pins σ H s) (hf:∀ b ∈ fp,jT X pins H b) (ho:∀ b ∈ fp,∃ o,s.heap.get? b=some o/\∀ v,o.data≠.cell v):Inv X (pins++kY fp s.heap) σ H s :=
 I.X3 λp hp=>(Na.mp hp).elim (λz=>I.pin p (Ms _ z)) λz=>by obtain ⟨hb,e⟩:=zi z;obtain ⟨f0,f1,f2,_⟩:=hf p.1 hb;obtain ⟨o,e',d⟩:=ho p.1 hb;rw [e] at e';cases e';exact ⟨e,f0,f1,f2,d⟩
theorem Inv.Sd {pl:List (Addr × Obj)} (I:Inv X (pins++pl) σ H s):Inv X pins σ H s:=I.X3 λp hp=>I.pin p (Ms _ (Of _ hp))
theorem fS {iter:Expr} {body:List Stmt} {wi:TI} {g:TG} {tb:TS} (hp:PassesOwn (model X.prog X.w) X.A X.env X.xe) (hc:X.calm=true) (hi:PI X tg iter wi) (hg:PG X tg g) (hb:Wc X body tb)
  (hs:∀ x,foldedSetIterable iter X.env x=pure x:=by intro _;rfl):PS X (.For tg iter body [] pos) (Gb wi g tb):=by
 intro pins s σ H D I h;refine wpAny_For (PB (hi pins s σ H _ I h) λv s1 h1=>PB h1 λitv s2 h2=>?_) hs;obtain ⟨it,fp,tn,J,H2,e,I2,T,st2,f2,W,⟨m0,w0⟩,turn⟩:=h2;subst e;have Ue:∀ {H':Hp},(∀ b ∈ fp,H' b=none)->∀ b ∈ fp,jT X pins H' b:=λhn b hb=>⟨hn b hb,(f2 b hb).2⟩
 refine codeAny_forLoop_any (λn s'=>∃ i σ' H',Inv X pins σ' H' s'/\tn i s'.heap/\(∀ b ∈ fp,H' b=none)/\W i n σ' H') ?_ m0 ⟨0,σ,H2,I2,st2,λb hb=>(f2 b hb).1,w0⟩;rintro n s3 ⟨i,σ3,H3,I3,st3,X4,w3⟩;rcases turn i n σ3 H3 w3 with ⟨stop,qn⟩ | ⟨go,N,hN,step⟩
 ·refine NP hp (PB (T.done X rfl rfl rfl hc i pins s3 σ3 H3 X.xe I3 (Ue X4) st3 stop) λr s4 ⟨hr,I4⟩=>?_);subst hr;exact OP ⟨σ3,H3,I4,qn⟩
 ·refine NP hp (PB (T.item X rfl rfl rfl hc i pins s3 σ3 H3 X.xe I3 (Ue X4) st3 go) λr s4 ⟨u,hr,h4⟩=>?_);subst hr;refine NP hp (PB h4 λ_ s5 ⟨x,H5,I5,r5,y5,Xj,YZ⟩=>?_);have Y0:=I5.pinned (Ue YZ) (T.obj _ _ Xj);refine NP hp (PB (hg _ s5 σ3 H5 x u _ Y0 r5 (step x H5 y5)) λ_ s6 ⟨σ6,H6,I6,q6⟩=>?_);refine NP hp (PB (hb _ s6 σ6 H6 _ I6 q6) λf s7 q7=>?_)
  have again:∀ {σ7:St} {H7:Hp},Inv X (pins++kY fp s5.heap) σ7 H7 s7->N σ7 H7->∃ m,m < n/\∃ i σ' H',Inv X pins σ' H' s7/\tn i s7.heap/\(∀ b ∈ fp,H' b=none)/\W i m σ' H':=λ{σ7 H7} I7 n7=>by obtain ⟨m',hm,w7⟩:=hN σ7 H7 n7;refine ⟨m',hm,i+1,σ7,H7,I7.Sd,T.keep _ _ _ Xj λb hb o e=>(I7.pin (b,o) (Ms _ (Ms _ (eL hb e)))).1,λb hb=>?_,w7⟩;obtain ⟨o,e,d⟩:=T.obj _ _ Xj b hb;exact (I7.pin (b,o) (Ms _ (Ms _ (eL hb e)))).2.1
  cases f with
  | next=>obtain ⟨σ7,H7,I7,n7⟩:=q7;exact again I7 n7
  | cont=>obtain ⟨σ7,H7,I7,n7⟩:=q7;exact again I7 n7
  | brk=>obtain ⟨σ7,H7,I7,q7⟩:=q7;exact ⟨σ7,H7,I7.Sd,q7⟩
  | ret v=>obtain ⟨x7,σ7,H7,I7,r7,q7⟩:=q7;exact ⟨x7,σ7,H7,I7.Sd,r7,q7⟩
end
variable {g:TG} {tb:TS}
theorem lQ {K:PySem.W.Frag} {D:Ends} (Pv:Nat->St->Hp->Prop) (h0:Pv 0 σ H) (hl:∀ i σ H,i<=xs.length->Pv i σ H->PJ K H a xs)
  (hs:∀ i x σ H,xs[i]?=some x->Pv i σ H->g x σ H λσ2 H2=>tb { D with nx:=Pv (i+1),ct:=Pv (i+1),bk:=D.nx } σ2 H2) (hd:∀ σ H,Pv xs.length σ H->D.nx σ H) :
  ∃ W:Nat->Nat->St->Hp->Prop,(∃ m,W 0 m σ H)/\∀ i m σ H,W i m σ H ->
   ((Yw K a).stop i H/\D.nx σ H)\/((Yw K a).go i H/\∃ N:St->Hp->Prop,(∀ σ' H',N σ' H'->∃ m',m' < m/\W (i+1) m' σ' H')/\∀ x H',(Yw K a).Vs i H x H'->g x σ H' λσ2 H2=>tb { D with nx:=N,ct:=N,bk:=D.nx } σ2 H2):=by
 refine ⟨λi m σ H=>m=xs.length - i/\i<=xs.length/\Pv i σ H,⟨xs.length,by simp,MK _,h0⟩,?_⟩;rintro i m σ H ⟨rfl,hi,p⟩;have q:=hl i σ H hi p;by_cases hlt:i < xs.length
 ·refine .inr ⟨⟨xs,xs[i],q,by simp [hlt]⟩,Pv (i+1),λσ' H' p'=>⟨xs.length - (i+1),by omega,rfl,hlt,p'⟩,λx H' y=>?_⟩;obtain ⟨e,y⟩:=y;subst e;exact hs i x σ _ (y xs q) p
 ·have e:i=xs.length:=by omega
  subst e;exact .inl ⟨⟨xs,q,L7 _⟩,hd σ H p⟩
theorem xS {K:PySem.W.Frag} {D:Ends} (Pv:Nat->St->Hp->Prop) (h0:Pv 0 σ H) (hl:∀ i σ H,i<=xs.length->Pv i σ H->QE K H a xs)
  (hs:∀ i x σ H,xs[i]?=some x->Pv i σ H->g x σ H λσ2 H2=>tb { D with nx:=Pv (i+1),ct:=Pv (i+1),bk:=D.nx } σ2 H2) (hd:∀ σ H,Pv xs.length σ H->D.nx σ H) :
  ∃ W:Nat->Nat->St->Hp->Prop,(∃ m,W 0 m σ H)/\∀ i m σ H,W i m σ H ->
   ((Yx K a).stop i H/\D.nx σ H)\/((Yx K a).go i H/\∃ N:St->Hp->Prop,(∀ σ' H',N σ' H'->∃ m',m' < m/\W (i+1) m' σ' H')/\∀ x H',(Yx K a).Vs i H x H'->g x σ H' λσ2 H2=>tb { D with nx:=N,ct:=N,bk:=D.nx } σ2 H2):=by
 refine ⟨λi m σ H=>m=xs.length - i/\i<=xs.length/\Pv i σ H,⟨xs.length,by simp,MK _,h0⟩,?_⟩;rintro i m σ H ⟨rfl,hi,p⟩;have q:=hl i σ H hi p;by_cases hlt:i < xs.length
 ·refine .inr ⟨⟨xs,xs[i],q,by simp [hlt]⟩,Pv (i+1),λσ' H' p'=>⟨xs.length - (i+1),by omega,rfl,hlt,p'⟩,λx H' y=>?_⟩;obtain ⟨e,y⟩:=y;subst e;exact hs i x σ _ (y xs q) p
 ·have e:i=xs.length:=by omega
  subst e;exact .inl ⟨⟨xs,q,L7 _⟩,hd σ H p⟩
variable {n:Nat}
theorem yX {lo:Int} {D:Ends} (Pv:Nat->St->Hp->Prop) (h0:Pv 0 σ H)
  (hs:∀ i σ H,i < n->Pv i σ H->g (.int (lo+i)) σ H λσ2 H2=>tb { D with nx:=Pv (i+1),ct:=Pv (i+1),bk:=D.nx } σ2 H2) (hd:∀ σ H,Pv n σ H->D.nx σ H) :
  ∃ W:Nat->Nat->St->Hp->Prop,(∃ m,W 0 m σ H)/\∀ i m σ H,W i m σ H ->
   ((Ze lo n).stop i H/\D.nx σ H)\/((Ze lo n).go i H/\∃ N:St->Hp->Prop,(∀ σ' H',N σ' H'->∃ m',m' < m/\W (i+1) m' σ' H')/\∀ x H',(Ze lo n).Vs i H x H'->g x σ H' λσ2 H2=>tb { D with nx:=N,ct:=N,bk:=D.nx } σ2 H2):=by
 refine ⟨λi m σ H=>m=n - i/\i<=n/\Pv i σ H,⟨n,by simp,MK _,h0⟩,?_⟩;rintro i m σ H ⟨rfl,hi,p⟩;by_cases hlt:i < n
 ·refine .inr ⟨hlt,Pv (i+1),λσ' H' p'=>⟨n - (i+1),by omega,rfl,hlt,p'⟩,λx H' y=>?_⟩;obtain ⟨e,y⟩:=y;subst e y;exact hs i σ _ hlt p
 ·have e:i=n:=by omega
  subst e;exact .inl ⟨L7 _,hd σ H p⟩
theorem Cm {c:TT} {D:Ends} (Pv:St->Hp->Prop) (μ:St->Hp->Nat) (h0:Pv σ H)
  (hs:∀ σ H,Pv σ H->c σ H λb H1=>if b=true then tb { D with nx:=λσ' H'=>Pv σ' H'/\μ σ' H' < μ σ H,ct:=λσ' H'=>Pv σ' H'/\μ σ' H' < μ σ H,bk:=D.nx } σ H1 else D.nx σ H1)
  (mono:∀ σ H Q Q',(∀ b H1,Q b H1->Q' b H1)->c σ H Q->c σ H Q'):tW c tb D σ H:=by
 refine ⟨λm σ H=>m=μ σ H/\Pv σ H,⟨_,rfl,h0⟩,?_⟩;rintro m σ H ⟨rfl,p⟩;refine mono σ H _ _ (λb H1 q=>?_) (hs σ H p)
 cases b with
 | true=>exact ⟨_,λσ' H' ⟨p',l⟩=>⟨_,l,rfl,p'⟩,q⟩
 | false=>exact q
noncomputable abbrev R2:=V->V->Hp->VK->Prop
noncomputable def Se (X:Cx) (f:Value->Value->Sem Value) (r:R2):Prop :=
 ∀ (pins:List (Addr × Obj)) (s:Shared) (σ:St) (H:Hp) (x y:V) (v u:Value) (Q:VK),Inv X pins σ H s->RelV x v->RelV y u->r x y H Q ->
  wpAny (model X.prog X.w) X.A (f v u) (EP X pins σ Q) X.xe s
noncomputable def UnR (X:Cx) (f:Value->Sem Value) (r:V->Hp->VK->Prop):Prop :=
 ∀ (pins:List (Addr × Obj)) (s:Shared) (σ:St) (H:Hp) (x:V) (v:Value) (Q:VK),Inv X pins σ H s->RelV x v->r x H Q ->
  wpAny (model X.prog X.w) X.A (f v) (EP X pins σ Q) X.xe s
noncomputable def jo (X:Cx) (f:Value) (r:List V->Hp->VK->Prop):Prop :=
 ∀ (pins:List (Addr × Obj)) (s:Shared) (σ:St) (H:Hp) (xs:List V) (us:List Value) (Q:VK),Inv X pins σ H s->Vals xs us->r xs H Q ->
  wpAny (model X.prog X.w) X.A (call f us) (EP X pins σ Q) X.xe s
noncomputable def Gm (X:Cx) (r:V->Hp->(Bool->Hp->Prop)->Prop):Prop :=
 ∀ (pins:List (Addr × Obj)) (s:Shared) (σ:St) (H:Hp) (x:V) (v:Value) (Q:Bool->Hp->Prop),Inv X pins σ H s->RelV x v->r x H Q ->
  wpAny (model X.prog X.w) X.A (truthy v) (TP X pins σ Q) X.xe s
noncomputable def S8 (r:R2) (ta tb:TE):TE:=λσ H Q=>ta σ H λx H1=>tb σ H1 λy H2=>r x y H2 Q
noncomputable def tUn (r:V->Hp->VK->Prop) (ta:TE):TE:=λσ H Q=>ta σ H λx H1=>r x H1 Q
noncomputable def rI (C:Int->Int->Prop) (g:Int->Int->V):R2:=λx y H Q=>∃ i j,x=.int i/\y=.int j/\C i j/\Q (g i j) H
noncomputable def XJ (g:Int->Int->V):R2:=λx y H Q=>∃ i j,x=.int i/\y=.int j/\Q (g i j) H
noncomputable def rU (g:Int->V):V->Hp->VK->Prop:=λx H Q=>∃ i,x=.int i/\Q (g i) H
section
variable {X:Cx} {a b c:Expr} {ta tb tc:TE} {pos:Pos}
variable {f:Value->Value->Sem Value}
theorem Es (ha:PE X a ta) (hb:PE X b tb) {pins:List (Addr × Obj)} {s:Shared} {σ:St} {H:Hp} {R:V->V->Hp->Prop} (I:Inv X pins σ H s)
  (h:ta σ H λx H1=>tb σ H1 λy H2=>R x y H2) {Q:Value->Shared->Prop}
  (hf:∀ v u s2 x y H2,Inv X pins σ H2 s2->RelV x v->RelV y u->R x y H2->wpAny (model X.prog X.w) X.A (f v u) Q X.xe s2) :
  wpAny (model X.prog X.w) X.A (eval a X.env) (λv s₁=>wpAny (model X.prog X.w) X.A (eval b X.env) (λu s₂=>wpAny (model X.prog X.w) X.A (f v u) Q X.xe s₂) X.xe s₁) X.xe s:=by
 refine PB (ha pins s σ H _ I h) λv s1 ⟨x,H1,I1,r1,q1⟩=>?_;refine PB (hb pins s1 σ H1 _ I1 q1) λu s2 ⟨y,H2,I2,r2,q2⟩=>?_;exact hf v u s2 x y H2 I2 r1 r2 q2
theorem bI {op:Operator} {r:R2} (ho:Se X (binaryOp op) r) (ha:PE X a ta) (hb:PE X b tb):PE X (.BinOp a op b pos) (S8 r ta tb):=by intro pins s σ H Q I h;exact wpAny_BinOp (Es ha hb I h λv u s2 x y H2 I2 rx ry q=>ho pins s2 σ H2 x y v u Q I2 rx ry q)
theorem DU {op:UnaryOp} {r:V->Hp->VK->Prop} (ho:UnR X (unaryOp op) r) (ha:PE X a ta):PE X (.UnaryOp op a pos) (tUn r ta):=by intro pins s σ H Q I h;exact UnaryOp_ (PB (ha pins s σ H _ I h) λv s1 ⟨x,H1,I1,r1,q1⟩=>ho pins s1 σ H1 x v Q I1 r1 q1)
variable {g:Int->Int->Int}
theorem opI {C:Int->Int->Prop}
  (rule:∀ (i j:Int) (t u:Tok) (s:Shared) (Q:Value->Shared->Prop) (E:Value->Shared->Prop),C i j->Q (.int (g i j) s.toks) { s with toks:=s.toks+1 }->wpAny (model X.prog X.w) X.A (f (.int i t) (.int j u)) Q E s) :
  Se X f (rI C λi j=>.int (g i j)):=by
 intro pins s σ H x y v u Q I rx ry h;obtain ⟨i,j,rfl,rfl,hc,q⟩:=h;obtain ⟨t,rfl⟩:=rx;obtain ⟨t',rfl⟩:=ry;exact rule i j t t' s _ _ hc ⟨.int (g i j),H,I.tok _,⟨_,rfl⟩,q⟩
theorem FM
  (rule:∀ (i j:Int) (t u:Tok) (s:Shared) (Q:Value->Shared->Prop) (E:Value->Shared->Prop),Q (.int (g i j) s.toks) { s with toks:=s.toks+1 }->wpAny (model X.prog X.w) X.A (f (.int i t) (.int j u)) Q E s) :
  Se X f (XJ λi j=>.int (g i j)):=by
 intro pins s σ H x y v u Q I rx ry h;obtain ⟨i,j,rfl,rfl,q⟩:=h;obtain ⟨t,rfl⟩:=rx;obtain ⟨t',rfl⟩:=ry;exact rule i j t t' s _ _ ⟨.int (g i j),H,I.tok _,⟨_,rfl⟩,q⟩
theorem CZ {g:Int->Int->Bool}
  (rule:∀ (i j:Int) (t u:Tok) (s:Shared) (Q:Value->Shared->Prop) (E:Value->Shared->Prop),Q (.bool (g i j)) s->wpAny (model X.prog X.w) X.A (f (.int i t) (.int j u)) Q E s) :
  Se X f (XJ λi j=>.bl (g i j)):=by
 intro pins s σ H x y v u Q I rx ry h;obtain ⟨i,j,rfl,rfl,q⟩:=h;obtain ⟨t,rfl⟩:=rx;obtain ⟨t',rfl⟩:=ry;exact rule i j t t' s _ _ ⟨.bl (g i j),H,I,rfl,q⟩
noncomputable def Eb (i j:Int):Prop:=0 < j/\j < 1073741824
noncomputable def Gi (i j:Int):Prop:=0<=j/\j<=1000000/\i.natAbs < 2 ^ 64
noncomputable def Yy (i j:Int):Prop:=(-(2 ^ 64) < i/\i < 2 ^ 64)\/(-(2 ^ 64) < j/\j < 2 ^ 64)
theorem Yy.ok {i j:Int} (h:Yy i j):IntMulOk i j:=by
 rcases h with ⟨h1,h2⟩ | ⟨h1,h2⟩
 ·exact .of_left (intBits_le_64 h1 h2)
 ·exact .of_right (intBits_le_64 h1 h2)
theorem dY:Se X (binaryOp .Add) (XJ λi j=>.int (i+j)):=FM λ_ _ _ _ _ _ _ q=>add_int q
theorem wL:Se X (binaryOp .Sub) (XJ λi j=>.int (i - j)):=FM λ_ _ _ _ _ _ _ q=>sub_int q
theorem mZ:Se X (binaryOp .Mult) (rI Yy λi j=>.int (i * j)):=opI λ_ _ _ _ _ _ _ hc q=>mul_int q hc.ok
theorem oy:Se X (binaryOp .FloorDiv) (rI Eb λi j=>.int (i / j)):=opI λi j _ _ _ _ _ hc q=>by have h1:(0:Int) < j:=hc.1;have h2:j < 1073741824:=hc.2;exact floordiv_int (by omega) (by rw [Int.fdiv_eq_ediv_of_nonneg i (by omega)];exact q) (.inl (PyProof.noPylong_small (by omega)))
theorem eE:Se X (binaryOp .Mod) (rI (λ_ j=>0 < j) λi j=>.int (i % j)):=opI λi j _ _ _ _ _ hc q=>by have h1:(0:Int) < j:=hc;exact mod_int' (by omega) (by rw [Int.fmod_eq_emod_of_nonneg i (by omega)];exact q)
theorem sV:Se X (binaryOp .Pow) (rI Gi λi j=>.int (i ^ j.toNat)):=opI λ_ _ _ _ _ _ _ hc q=>pow_int_small hc.1 hc.2.1 hc.2.2 q
theorem unI {f:Value->Sem Value} {g:Int->Int}
  (rule:∀ (i:Int) (t:Tok) (s:Shared) (Q:Value->Shared->Prop) (E:Value->Shared->Prop),Q (.int (g i) s.toks) { s with toks:=s.toks+1 }->wpAny (model X.prog X.w) X.A (f (.int i t)) Q E s) :
  UnR X f (rU λi=>.int (g i)):=by
 intro pins s σ H x v Q I rx h;obtain ⟨i,rfl,q⟩:=h;obtain ⟨t,rfl⟩:=rx;exact rule i t s _ _ ⟨.int (g i),H,I.tok _,⟨_,rfl⟩,q⟩
theorem Cf:UnR X (unaryOp .USub) (rU λi=>.int (-i)):=unI λ_ _ _ _ _ q=>neg_int q
end
noncomputable def F0:V->V->Bool
 | .Py,.Py=>true | .Py,.int _=>true | .int _,.Py=>true | .Py,.bl _=>true | .bl _,.Py=>true | .Py,.str _=>true | .str _,.Py=>true
 | .int _,.int _=>true | .bl _,.bl _=>true | .str _,.str _=>true | .X0 _,.X0 _=>true
 | .int _,.str _=>true | .str _,.int _=>true | .bl _,.str _=>true | .str _,.bl _=>true
 | _,_=>false
noncomputable def rEq:R2:=λx y H Q=>F0 x y=true/\Q (.bl (decide (x=y))) H
noncomputable def rNe:R2:=λx y H Q=>F0 x y=true/\Q (.bl (!decide (x=y))) H
theorem xK {i j:Int}:decide (V.int i=V.int j)=(i == j):=by rw [OQ];simp
theorem Au {i j:Bool}:decide (V.bl i=V.bl j)=(i == j):=by rw [OQ];simp
theorem xM {i j:Str}:decide (V.str i=V.str j)=(i == j):=by rw [OQ];simp
theorem xJ {i j:Array UInt8}:decide (V.X0 i=V.X0 j)=(i.toList == j.toList):=by rw [OQ];cases i;cases j;simp
section
variable {X:Cx} {a b c:Expr} {ta tb tc:TE} {pos:Pos}
theorem cS {pins:List (Addr × Obj)} {σ:St} {H:Hp} {s:Shared} {Q:VK} {k k':Bool} (I:Inv X pins σ H s) (q:Q (.bl k) H) (e:k=k'):EP X pins σ Q (.bool k') s:=by subst e;exact ⟨.bl k,H,I,rfl,q⟩
theorem cH:Se X (compareOp .Eq) rEq:=by
 intro pins s σ H x y v u Q I rx ry h;obtain ⟨hs,q⟩:=h
 cases x with
 | Py =>
  cases rx
  cases y with
  | Py=>cases ry;exact PySem.EqNone.eq_none_none (cS I q (by simp))
  | bl j=>cases ry;exact PySem.EqNone.eq_none_bool (cS I q (by simp))
  | int j=>obtain ⟨t',rfl⟩:=ry;exact PySem.EqNone.eq_none_int (cS I q (by simp))
  | str j=>obtain ⟨t',rfl⟩:=ry;exact PySem.EqNone.eq_none_str (cS I q (by simp))
  | _=>exact absurd (show false=true from hs) L6
 | bl i =>
  cases rx
  cases y with
  | Py=>cases ry;exact PySem.EqNone.eq_bool_none (cS I q (by simp))
  | bl j=>cases ry;exact eq_bool (cS I q Au)
  | str j=>obtain ⟨t',rfl⟩:=ry;exact PySem.EqMixed.eq_bool_str (cS I q (by simp))
  | _=>exact absurd (show false=true from hs) L6
 | int i =>
  obtain ⟨t,rfl⟩:=rx
  cases y with
  | Py=>cases ry;exact PySem.EqNone.eq_int_none (cS I q (by simp))
  | int j=>obtain ⟨t',rfl⟩:=ry;exact eq_int (cS I q xK)
  | str j=>obtain ⟨t',rfl⟩:=ry;exact PySem.EqMixed.eq_int_str (cS I q (by simp))
  | _=>exact absurd (show false=true from hs) L6
 | str i =>
  obtain ⟨t,rfl⟩:=rx
  cases y with
  | Py=>cases ry;exact PySem.EqNone.eq_str_none (cS I q (by simp))
  | bl j=>cases ry;exact PySem.EqMixed.eq_str_bool (cS I q (by simp))
  | int j=>obtain ⟨t',rfl⟩:=ry;exact PySem.EqMixed.eq_str_int (cS I q (by simp))
  | str j=>obtain ⟨t',rfl⟩:=ry;exact eq_str (cS I q xM)
  | _=>exact absurd (show false=true from hs) L6
 | X0 i =>
  obtain ⟨t,rfl⟩:=rx
  cases y with
  | X0 j=>obtain ⟨t',rfl⟩:=ry;exact W.eq_bytes (cS I q xJ)
  | _=>exact absurd (show false=true from hs) L6
 | _=>cases y <;> exact absurd (show false=true from hs) L6
theorem qU:Se X (compareOp .NotEq) rNe:=by
 intro pins s σ H x y v u Q I rx ry h;obtain ⟨hs,q⟩:=h
 cases x with
 | Py =>
  cases rx
  cases y with
  | Py=>cases ry;exact PySem.EqNone.ne_none_none (cS I q (by simp))
  | bl j=>cases ry;exact PySem.EqNone.ne_none_bool (cS I q (by simp))
  | int j=>obtain ⟨t',rfl⟩:=ry;exact PySem.EqNone.ne_none_int (cS I q (by simp))
  | str j=>obtain ⟨t',rfl⟩:=ry;exact PySem.EqNone.ne_none_str (cS I q (by simp))
  | _=>exact absurd (show false=true from hs) L6
 | bl i =>
  cases rx
  cases y with
  | Py=>cases ry;exact PySem.EqNone.ne_bool_none (cS I q (by simp))
  | bl j=>cases ry;exact ne_bool (cS I q (MH not Au))
  | str j=>obtain ⟨t',rfl⟩:=ry;exact PySem.EqMixed.ne_bool_str (cS I q (by simp))
  | _=>exact absurd (show false=true from hs) L6
 | int i =>
  obtain ⟨t,rfl⟩:=rx
  cases y with
  | Py=>cases ry;exact PySem.EqNone.ne_int_none (cS I q (by simp))
  | int j=>obtain ⟨t',rfl⟩:=ry;exact ne_int (cS I q (MH not xK))
  | str j=>obtain ⟨t',rfl⟩:=ry;exact PySem.EqMixed.ne_int_str (cS I q (by simp))
  | _=>exact absurd (show false=true from hs) L6
 | str i =>
  obtain ⟨t,rfl⟩:=rx
  cases y with
  | Py=>cases ry;exact PySem.EqNone.ne_str_none (cS I q (by simp))
  | bl j=>cases ry;exact PySem.EqMixed.ne_str_bool (cS I q (by simp))
  | int j=>obtain ⟨t',rfl⟩:=ry;exact PySem.EqMixed.ne_str_int (cS I q (by simp))
  | str j=>obtain ⟨t',rfl⟩:=ry;exact ne_str (cS I q (MH not xM))
  | _=>exact absurd (show false=true from hs) L6
 | X0 i =>
  obtain ⟨t,rfl⟩:=rx
  cases y with
  | X0 j=>obtain ⟨t',rfl⟩:=ry;exact W.ne_bytes (cS I q (MH not xJ))
  | _=>exact absurd (show false=true from hs) L6
 | _=>cases y <;> exact absurd (show false=true from hs) L6
theorem l9:Se X (compareOp .Lt) (XJ λi j=>.bl (decide (i < j))):=CZ λ_ _ _ _ _ _ _ q=>lt_int q
theorem kG:Se X (compareOp .LtE) (XJ λi j=>.bl (decide (i<=j))):=CZ λ_ _ _ _ _ _ _ q=>le_int q
theorem pE:Se X (compareOp .Gt) (XJ λi j=>.bl (decide (j < i))):=CZ λ_ _ _ _ _ _ _ q=>gt_int q
theorem uV:Se X (compareOp .GtE) (XJ λi j=>.bl (decide (j<=i))):=CZ λ_ _ _ _ _ _ _ q=>ge_int q
theorem wK:Se X (compareOp .Is) (λx y H Q=>y=.Py/\Q (.bl (decide (x=.Py))) H):=by
 intro pins s σ H x y v u Q I rx ry h;obtain ⟨rfl,q⟩:=h;cases ry;refine is_none_gen (cS I q ?_)
 cases x <;> first
  | (cases rx;rfl)
  | (obtain ⟨t,rfl⟩:=rx;rfl)
theorem sU:Se X (compareOp .IsNot) (λx y H Q=>y=.Py/\Q (.bl (!decide (x=.Py))) H):=by
 intro pins s σ H x y v u Q I rx ry h;obtain ⟨rfl,q⟩:=h;cases ry;refine isnot_none_gen (cS I q ?_)
 cases x <;> first
  | (cases rx;rfl)
  | (obtain ⟨t,rfl⟩:=rx;rfl)
variable {r r':R2}
theorem Se.or {f:Value->Value->Sem Value} (h:Se X f r) (h':Se X f r'):Se X f (λx y H Q=>r x y H Q\/r' x y H Q):=by
 intro pins s σ H x y v u Q I rx ry q;rcases q with q | q
 ·exact h pins s σ H x y v u Q I rx ry q
 ·exact h' pins s σ H x y v u Q I rx ry q
variable {op:CmpOp}
theorem aV (b:Expr) (h:op≠.In:=by decide) (h2:op≠.NotIn:=by decide):behindInMarks op b=false:=by
 have e1:(op == CmpOp.In)=false:=by cases op <;> first | rfl | exact absurd rfl h
 have e2:(op == CmpOp.NotIn)=false:=by cases op <;> first | rfl | exact absurd rfl h2
 cases b <;> simp [behindInMarks,e1,e2]
theorem hE (ho:Se X (compareOp op) r) (ha:PE X a ta) (hb:PE X b tb) (hm:behindInMarks op b=false):PE X (.Compare a [op] [b] pos) (S8 r ta tb):=by intro pins s σ H Q I h;exact wpAny_Compare1 (Es ha hb I h λv u s2 x y H2 I2 rx ry q=>ho pins s2 σ H2 x y v u Q I2 rx ry q) hm
noncomputable def vE (t:TE):TT:=λσ H Q=>t σ H λx H'=>∃ k,x=.bl k/\Q k H'
theorem aO (ho:Se X (compareOp op) r) (ha:PE X a ta) (hb:PE X b tb) (hm:behindInMarks op b=false):PT X (.Compare a [op] [b] pos) (vE (S8 r ta tb)):=by
 intro pins s σ H Q I h
 refine wpAny_isTrue_Compare1 (PB (ha pins s σ H _ I h) λv s1 ⟨x,H1,I1,r1,q1⟩=>PB (hb pins s1 σ H1 _ I1 q1) λu s2 ⟨y,H2,I2,r2,q2⟩ =>
  PB (ho pins s2 σ H2 x y v u _ I2 r1 r2 q2) λc s3 ⟨z,H3,I3,r3,k,e,q3⟩=>?_) hm
 subst e;cases r3;exact Nf ⟨H3,I3,q3⟩
noncomputable def tV (r r':R2) (ta tb tc:TE):TE:=λσ H Q=>ta σ H λx H1=>tb σ H1 λy H2=>r x y H2 λz H3=>∃ k,z=.bl k /\
 (if k=true then tc σ H3 λw' H4=>r' y w' H4 Q else Q (.bl false) H3)
variable {op':CmpOp}
theorem uY (ho:Se X (compareOp op) r) (ho':Se X (compareOp op') r') (ha:PE X a ta) (hb:PE X b tb) (hc:PE X c tc)
  (hm:lastMarks [op,op'] [b,c]=false:=by with_unfolding_all rfl):PE X (.Compare a [op,op'] [b,c] pos) (tV r r' ta tb tc):=by
 intro pins s σ H Q I h
 refine Compare_chain (PB (ha pins s σ H _ I h) λv s1 ⟨x,H1,I1,r1,q1⟩=>chain_link (PB (hb pins s1 σ H1 _ I1 q1) λu s2 ⟨y,H2,I2,r2,q2⟩ =>
  PB (ho pins s2 σ H2 x y v u _ I2 r1 r2 q2) λd s3 ⟨z,H3,I3,r3,k,e,q3⟩=>?_)) hm
 subst e;cases r3;refine Nf ?_
 cases k with
 | false=>exact ite_ff ⟨.bl false,H3,I3,rfl,q3⟩
 | true=>exact ite_tt (chain_last (PB (hc pins s3 σ H3 _ I3 q3) λw' s4 ⟨z',H4,I4,r4,q4⟩=>ho' pins s4 σ H4 y z' u w' Q I4 r2 r4 q4))
theorem pM (ho:Se X (compareOp op) r) (ho':Se X (compareOp op') r') (ha:PE X a ta) (hb:PE X b tb) (hc:PE X c tc)
  (hm:lastMarks [op,op'] [b,c]=false:=by with_unfolding_all rfl):PT X (.Compare a [op,op'] [b,c] pos) (vE (tV r r' ta tb tc)):=by
 intro pins s σ H Q I h
 refine isTrue_chain (PB (ha pins s σ H _ I h) λv s1 ⟨x,H1,I1,r1,q1⟩=>test_link (PB (hb pins s1 σ H1 _ I1 q1) λu s2 ⟨y,H2,I2,r2,q2⟩ =>
  PB (ho pins s2 σ H2 x y v u _ I2 r1 r2 q2) λd s3 ⟨z,H3,I3,r3,k,e,q3⟩=>?_)) hm
 subst e;cases r3;refine Nf ?_
 cases k with
 | false =>obtain ⟨k',e',q'⟩:=q3;cases e';exact ite_ff ⟨H3,I3,q'⟩
 | true =>refine ite_tt (test_last (PB (hc pins s3 σ H3 _ I3 q3) λw' s4 ⟨z',H4,I4,r4,q4⟩=>PB (ho' pins s4 σ H4 y z' u w' _ I4 r2 r4 q4) λd' s5 ⟨z2,H5,I5,r5,k2,e2,q5⟩=>?_));subst e2;cases r5;exact Nf ⟨H5,I5,q5⟩
noncomputable def vP (K:W.Frag) (x:V) (H:Hp) (k:Bool):Prop :=
 match x with
 | .Py=>k=false
 | .bl b=>k=b
 | .int i=>k=(i != 0)
 | .str y=>y.length<=sizeLine/\k=((y.length:Int) != 0)
 | .X0 y=>y.size<=sizeLine/\k=((y.size:Int) != 0)
 | .ref p=>(∃ xs,PJ K H p xs/\k=!xs.isEmpty)\/(∃ xs,QE K H p xs/\k=!xs.isEmpty)\/∃ kvs,H p=some (.dK kvs)/\k=!kvs.isEmpty
 | _=>False
theorem wk {κ:Type} {kvs:List (κ × V)} {vs:List (κ × Value)} (r:KV kvs vs):(!vs.isEmpty)=!kvs.isEmpty:=by cases r <;> rfl
theorem oZ {xs:List V} {its:List Value} (r:Vals xs its):(!its.toArray.isEmpty)=!xs.isEmpty:=by cases r <;> simp
theorem kT:(sizeLine:Nat) < 2 ^ 63:=by rw [N3];decide
theorem Fz:Gm X (λx H Q=>∃ k,vP X.K x H k/\Q k H):=by
 intro pins s σ H x v Q I rx h;obtain ⟨k,e,q⟩:=h;have hl:=kT;have hs:sizeLine=16777216:=N3
 cases x with
 | Py =>cases rx;have e':k=false:=e;subst e';exact truthy_none ⟨H,I,q⟩
 | bl b =>cases rx;have e':k=b:=e;subst e';exact Nf ⟨H,I,q⟩
 | int i =>obtain ⟨t,rfl⟩:=rx;have e':k=(i != 0):=e;subst e';exact PySem.P.truthy_int ⟨H,I,q⟩
 | str y =>obtain ⟨t,rfl⟩:=rx;obtain ⟨hy,e'⟩:y.length<=sizeLine/\k=((y.length:Int) != 0):=e;subst e';exact PySem.P.truthy_str (by omega) ⟨H,I.tok _,q⟩
 | X0 y =>obtain ⟨t,rfl⟩:=rx;obtain ⟨hy,e'⟩:y.size<=sizeLine/\k=((y.size:Int) != 0):=e;subst e';exact W.truthy_bytes (by omega) ⟨H,I.tok _,q⟩
 | ref p =>
  cases rx;have e':(∃ xs,PJ X.K H p xs/\k=!xs.isEmpty)\/(∃ xs,QE X.K H p xs/\k=!xs.isEmpty)\/∃ kvs,H p=some (.dK kvs)/\k=!kvs.isEmpty:=e;rcases e' with ⟨xs,hx,e'⟩ | ⟨xs,hx,e'⟩ | ⟨kvs,hx,e'⟩
  ·subst e';obtain ⟨its,r,pl,hz⟩:=I.list hx;have hlen:=r.length;exact wpAny_truthy_list pl.isList (by simp only [Me];omega) ⟨H,I.tok _,by rw [oZ r];exact q⟩
  ·subst e';obtain ⟨its,r,pl,hz⟩:=I.tuple hx;have hlen:=r.length;exact truthy_tuple pl (by simp only [Me];omega) ⟨H,I.tok _,by rw [oZ r];exact q⟩
  ·subst e';obtain ⟨hz,hS,vs,r,m⟩:kvs.length<=sizeLine/\(p == sysModules)=false/\∃ vs,KV kvs vs/\s.heap.DictOf (su X.prog X.w) p vs:=I.hok p _ hx;have hlen:kvs.length=vs.length:=Paired.length r;exact wpAny_truthy_dict hS m (by omega) ⟨H,I.tok _,by rw [wk r];exact q⟩
 | _=>exact (show False from e).elim
theorem bT (ha:PE X a ta) (he:∀ whole,isTrue a X.env whole=(do let v <- whole;standAt a.pos;holding [v] (truthy v))) :
  PT X a (λσ H Q=>ta σ H λx H'=>∃ k,vP X.K x H' k/\Q k H'):=by
 intro pins s σ H Q I h;exact isTrue_plain (PB (ha pins s σ H _ I h) λv s1 ⟨x,H1,I1,r1,q1⟩=>Fz pins s1 σ H1 x v Q I1 r1 q1) (he _)
variable {x:V} {us:List Value}
theorem jC (r:Vals [x] us):∃ u,us=[u]/\RelV x u:=by
 cases r with
 | cons r1 r2=>cases r2;exact ⟨_,rfl,r1⟩
theorem Gg {y:V} (r:Vals [x,y] us):∃ u w',us=[u,w']/\RelV x u/\RelV y w':=by
 cases r with
 | cons r1 r2 =>
  cases r2 with
  | cons r3 r4=>cases r4;exact ⟨_,_,rfl,r1,r3⟩
end
structure XM (h:Heap) (x dx C:Addr) (mA:Str->Option Value):Prop where
 obj:h.get? x=some (W.instObj C dx)
 ns:h.Ns1 dx mA
 ne:dx≠x
variable {dx:Addr} {mA:Str->Option Value}
theorem qS (n:h.Ns1 dx mA):∃ od,h.get? dx=some od/\∀ name,W.lookIn name od=some (mA name):=by
 obtain ⟨o,es,ep,ho,hd,hk,_,hm⟩:=n;refine ⟨o,ho,λname=>?_⟩;have e:=hm name;unfold nsFind findBy at e;rw [<- Array.find?_toList] at e;unfold W.lookIn;rw [hd];dsimp only;split
 ·rename_i y q;rw [q] at e;exact MH some e
 ·rename_i q;rw [q] at e
  have a:es.toList.any (·.refKey)=false:=by rw [List.any_eq_false];intro y hy;obtain ⟨z,t,hkey⟩:=hk y (Array.mem_toList_iff.mp hy);simp [DictEntry.refKey,hkey]
  have a':¬ es.toList.any (·.refKey)=true:=by rw [a];exact L6
  rw [LZ a'];exact MH some e
variable {C:Addr}
theorem XM.look {x:Addr} (I:XM h x dx C mA):∃ od,W.InstAt h x (W.instObj C dx) C (some od)/\∀ name,W.lookIn name od=some (mA name) :=
 let ⟨od,ho,hl⟩:=qS I.ns
 ⟨od,⟨I.obj,rfl,rfl,ho⟩,hl⟩
section
variable {prog:Program} {w:World} {A:Around} {E:Value->Shared->Prop} {s:Shared} {K:W.Frag} {x dx C f:Addr} {mA:Str->Option Value} {name:Str} {v:Value}
theorem CI {expr:Bool} {Q:Value->Shared->Prop} (X:K.In s.heap) (I:XM s.heap x dx C mA) (hg:W.plainGet K C name=true) (hh:W.hasDictIn K C=true)
  (ha:W.findIn K (.ref C) name=some none) (hv:mA name=some v) (hv':W.handedIn v=true) (h:Q v { s with toks:=s.toks+1 }) :
  wpAny (model prog w) A (getAttr (.ref x) name expr) Q E s:=by
 obtain ⟨od,J,hl⟩:=I.look;exact W.get_value X J (W.plainGet_of hg).1 (W.findObj_own hh ha rfl (by rw [hl,hv])) hv' h
theorem AF {pl:Sem Bool} {Q:Value × List Value->Shared->Prop} (X:K.In s.heap) (I:XM s.heap x dx C mA) (hg:W.plainGet K C name=true)
  (hf:W.findIn K (.ref C) name=some (some (.ref f))) (ht:W.isFn K (.ref f)=true) (hv:mA name=none) (h:Q (.ref f,[.ref x]) s) :
  wpAny (model prog w) A (getMethod (.ref x) name pl) Q E s:=by
 obtain ⟨od,J,hl⟩:=I.look;exact W.method_fn X J (W.plainGet_of hg).1 (W.plainGet_of hg).2 hf (NT.mp ht) (by show (W.lookIn name od).map (·.isSome)=some false;rw [hl,hv];rfl) h
theorem Dy {ns:List Str} {Q:Unit->Shared->Prop} (X:K.In s.heap) (I:XM s.heap x dx C mA)
  (hs:W.findIn K (.ref C) "__setattr__"=some (some (.builtin "object.__setattr__"))) (hp:W.plainOver K C=true) (ht:W.takerIn K C name=some none) (hh:W.hasDictIn K C=true)
  (hw:PySem.Within mA ns) (hsz:ns.length<=sizeLine)
  (h:∀ h',XM h' x dx C (λy=>if y=name then some v else mA y)->Heap.SameBut dx s.heap h'->Q () { s with heap:=h',toks:=s.toks+2 }) :
  wpAny (model prog w) A (setAttr (.ref x) name v) Q E s:=by
 obtain ⟨od,J,hl⟩:=I.look;refine W.set_plain X J hs (W.osa_open (s:={ s with toks:=s.toks+1 }) (r:=none) X J hp ht λb=>?_);obtain ⟨cd,hc,hd'⟩:=W.any_some hh;have hx:s.heap.get? x=some ⟨.ref C,some dx,.plain,#[]⟩:=I.obj;refine LU (L8 (LU (LU (wpAny_loadPart hx (LU (W.Looks.here (s:={ s with toks:=s.toks+1 }) (W.looks_clsIn X hc) ?_))))));rw [hd'];refine L8 (a:=some dx) (LU (L8 (LU ?_)));refine wpAny_nsSet1 (s:={ s with toks:=s.toks+1 }) I.ns λh' hn2 hs2=>?_;obtain ⟨oD,esD,epD,hoD,hdD,hcD⟩:=hn2.count (PySem.Within.cons name v hw);refine LU (wpAny_lookBehind hoD (by rw [hdD];exact pastItsLine_dict (Mr hcD (by rw [L5];omega))) ?_);exact L8 (h _ ⟨(hs2.2 _ (MQ I.ne)).trans I.obj,hn2,I.ne⟩ hs2)
theorem AY {R:Result->Shared->Prop} {vs:List Value} {kw:List (Str × Value)} (X:K.In s.heap) (hm:W.makesIn K C=true)
  (hi:W.findIn K (.ref C) "__init__"=some (some (.ref f))) (hf:W.typeIn K (.ref f)=some (.type "function"))
  (h:codeAny (model prog w) (A.under (.builtin "type.__call__" ⟨.ref C::vs,kw⟩)) (.call (.ref f) ⟨.ref (s.heap.objs.size+1)::vs,kw⟩) (W.InitBack (s.heap.objs.size+1) R)
   {s with heap:=(s.heap.push W.emptyDict).push (W.instObj C s.heap.objs.size) }) :
  codeAny (model prog w) A (.call (.ref C) ⟨vs,kw⟩) R s:=by
 obtain ⟨hh,g,d,t,os⟩:=s;exact W.make_core (W.makes_of X hm) (W.looks_findIn X hi) (λself=>W.bind_fn X self hf) (.inl rfl) h
end
noncomputable def iF (f:Str) (v:V):List (Str × V)->List (Str × V)
 | []=>[(f,v)]
 | (g,x)::r=>if g=f then (g,v)::r else (g,x)::iF f v r
theorem nE (f g:Str) (v:V):∀ fs:List (Str × V),(iF f v fs).lookup g=if g=f then some v else fs.lookup g
 | []=>by
  show List.lookup g [(f,v)]=_;by_cases h:g=f
  ·have hb:(g == f)=true:=NT.mpr h;simp only [List.lookup,hb,Mc h]
  ·have hb:(g == f)=false:=NG.mpr h;simp only [List.lookup,hb,LZ h]
 | (k,x)::r=>by
  have ih:=nE f g v r;rw [show iF f v ((k,x)::r)=(if k=f then (k,v)::r else (k,x)::iF f v r) from rfl];by_cases hk:k=f
  ·rw [Mc hk];by_cases h:g=k
   ·have hb:(g == k)=true:=NT.mpr h;simp only [List.lookup,hb,Mc (h.trans hk)]
   ·have hb:(g == k)=false:=NG.mpr h;simp only [List.lookup,hb,LZ (λe:g=f=>h (e.trans hk.symm))]
  ·rw [LZ hk];by_cases h:g=k
   ·have hb:(g == k)=true:=NT.mpr h;simp only [List.lookup,hb,LZ (λe:g=f=>hk (h.symm.trans e))]
   ·have hb:(g == k)=false:=NG.mpr h;simp only [List.lookup,hb];exact ih
theorem mV (f:Str) (v:V):∀ fs:List (Str × V),f ∈ (iF f v fs).map (·.1)/\∀ g,g ∈ fs.map (·.1)->g ∈ (iF f v fs).map (·.1)
 | []=>⟨by simp [iF],λg h=>by simp at h⟩
 | (k,x)::r=>by
  obtain ⟨i1,i2⟩:=mV f v r;rw [show iF f v ((k,x)::r)=(if k=f then (k,v)::r else (k,x)::iF f v r) from rfl];by_cases hk:k=f
  ·rw [Mc hk];subst hk;exact ⟨by simp,λg h=>by simpa using h⟩
  ·rw [LZ hk];refine ⟨?_,λg h=>?_⟩
   ·rw [ND];exact Mt _ i1
   ·rw [ND] at h ⊢;rcases Mm.mp h with e | e
    ·exact Mm.mpr (.inl e)
    ·exact Mt _ (i2 g e)
theorem nD (f:Str) (v:V):∀ fs:List (Str × V),(iF f v fs).length<=fs.length+1
 | []=>by simp [iF]
 | (k,x)::r=>by
  have ih:=nD f v r;rw [show iF f v ((k,x)::r)=(if k=f then (k,v)::r else (k,x)::iF f v r) from rfl];by_cases hk:k=f
  ·rw [Mc hk,L5,L5];omega
  ·rw [LZ hk,L5,L5];omega
theorem Wz.some_of {v:V} {o:Option Value} (r:Wz (some v) o):∃ u,o=some u/\RelV v u:=by
 cases o with
 | none=>exact (show False from r).elim
 | some u=>exact ⟨u,rfl,r⟩
theorem Wz.none_of {o:Option Value} (r:Wz none o):o=none:=by
 cases o with
 | none=>rfl
 | some u=>exact (show False from r).elim
theorem qR {v:V} (r:RelV v u):W.handedIn u=true:=by
 cases v with
 | Py=>cases (show u=Value.none from r);rfl
 | bl b=>cases (show u=Value.bool b from r);rfl
 | int i=>obtain ⟨t,e⟩:=(show ∃ t,u=Value.int i t from r);cases e;rfl
 | str x=>obtain ⟨t,e⟩:=(show ∃ t,u=Value.str x t from r);cases e;rfl
 | X0 b=>obtain ⟨t,e⟩:=(show ∃ t,u=Value.bytes b t from r);cases e;rfl
 | flt b=>obtain ⟨t,e⟩:=(show ∃ t,u=Value.float b t from r);cases e;rfl
 | ref a=>cases (show u=Value.ref a from r);rfl
 | ty n=>cases (show u=Value.type n from r);rfl
section
variable {P:Program} {w:World} {H H':Hp} {h h':Heap} {a C dx:Addr} {fs fs':List (Str × V)}
theorem rZ (hok:Uz P w H h) (e:H a=some (.ins C dx fs)):∃ mA,XM h a dx C mA/\(∀ f,Wz (fs.lookup f) (mA f))/\PySem.Within mA (fs.map (·.1))/\fs.length<=1000/\H dx=some (.own a):=by
 obtain ⟨d,z,ne,ob,mA,n,r,q⟩:=(show P1 P w H h a (.ins C dx fs) from hok a _ e)
 exact ⟨mA,⟨ob,n,ne⟩,r,q,z,d⟩
end
structure VQ (K:W.Frag) (C:Addr):Prop where
 pg:W.plainGet K C Str.empty=true
 hd:W.hasDictIn K C=true
 po:W.plainOver K C=true
 sa:W.findIn K (.ref C) "__setattr__"=some (some (.builtin "object.__setattr__"))
theorem VQ.get (c:VQ K C) (f:Str):W.plainGet K C f=true:=c.pg
noncomputable def PU (K:W.Frag) (C:Addr) (f:Str):Prop:=W.findIn K (.ref C) f=some none
theorem PU.taker {f:Str} (n:PU K C f):W.takerIn K C f=some none:=by unfold W.takerIn;rw [show W.findIn K (.ref C) f=some none from n];rfl
structure lE (K:W.Frag) (C:Addr) (m:Str) (f:Addr):Prop where
 at_:W.findIn K (.ref C) m=some (some (.ref f))
 fn:W.isFn K (.ref f)=true
 kp:W.keepIn K (.ref f)=true
section
variable {X:Cx} {pins:List (Addr × Obj)} {σ:St} {H:Hp} {s:Shared} {a C dx:Addr} {fs:List (Str × V)} {f:Str} {v:V} {A:Around} {E:Value->Shared->Prop}
theorem we {b:Bool} {Q:Value->Shared->Prop} (I:Inv X pins σ H s) (e:H a=some (.ins C dx fs)) (c:VQ X.K C) (n:PU X.K C f) (l:fs.lookup f=some v)
  (h:∀ u s',Inv X pins σ H s'->RelV v u->Q u s'):wpAny (model X.prog X.w) A (getAttr (.ref a) f b) Q E s:=by
 obtain ⟨mA,O,r,_,_,_⟩:=rZ I.hok e;obtain ⟨u,hu,ru⟩:=Wz.some_of (v:=v) (o:=mA f) (by rw [<- l];exact r f);exact CI I.Sb O (c.get f) c.hd n hu (qR ru) (h u _ (I.tok _) ru)
theorem jF {m:Str} {g:Addr} {pl:Sem Bool} {Q:Value × List Value->Shared->Prop} (I:Inv X pins σ H s) (e:H a=some (.ins C dx fs)) (c:VQ X.K C) (k:lE X.K C m g) (l:fs.lookup m=none)
  (h:Q (.ref g,[.ref a]) s):wpAny (model X.prog X.w) A (getMethod (.ref a) m pl) Q E s:=by
 obtain ⟨mA,O,r,_,_,_⟩:=rZ I.hok e;have hn:mA m=none:=Wz.none_of (by rw [<- l];exact r m);exact AF I.Sb O (c.get m) k.at_ k.fn hn h
theorem xi {y:V} {u:Value} {Q:Unit->Shared->Prop} (I:Inv X pins σ H s) (e:H a=some (.ins C dx fs)) (c:VQ X.K C) (n:PU X.K C f) (hl:fs.length < 1000) (ry:RelV y u)
  (h:∀ s',Inv X pins σ (upd H a (.ins C dx (iF f y fs))) s'->Q () s'):wpAny (model X.prog X.w) A (setAttr (.ref a) f u) Q E s:=by
 obtain ⟨mA,O,r,wi,_,ho⟩:=rZ I.hok e;have hz:(fs.map (·.1)).length<=sizeLine:=by rw [LR,N3];omega
 refine Dy I.Sb O c.sa c.po n.taker c.hd wi hz λh' O' sb=>h _ ?_;have hd:∃ o,h'.get? dx=some o:=let ⟨o,_,_,e',_⟩:=O'.ns;⟨o,e'⟩;refine I.write (x:=a) (e:=dx) (by rw [e];exact True.intro) (.inr ho) (λb q hb z=>(sb.2 b hb).trans z) hd ?_;refine ⟨by rw [aX O.ne];exact ho,?_,O.ne,O'.obj,_,O'.ns,λg=>?_,λg hg=>?_⟩
 ·have:=nD f y fs;omega
 ·show Wz ((iF f y fs).lookup g) (if g=f then some u else mA g);rw [nE];by_cases q:g=f
  ·rw [Mc q,Mc q];exact ry
  ·rw [LZ q,LZ q];exact r g
 ·by_cases q:g=f
  ·rw [q];exact (mV f y fs).1
  ·refine (mV f y fs).2 g (wi g λz=>hg ?_);show (if g=f then some u else mA g)=none;rw [LZ q];exact z
theorem Inv.made (I:Inv X pins σ H s):Inv X pins σ (upd (upd H s.heap.objs.size (.own (s.heap.objs.size+1))) (s.heap.objs.size+1) (.ins C s.heap.objs.size []))
  {s with heap:=(s.heap.push W.emptyDict).push (W.instObj C s.heap.objs.size) }:=by
 have e1:(s.heap.push W.emptyDict).get? s.heap.objs.size=some W.emptyDict:=Mu s.heap rfl
 have e2:((s.heap.push W.emptyDict).push (W.instObj C s.heap.objs.size)).get? (s.heap.objs.size+1)=some (W.instObj C s.heap.objs.size):=by
  have:=Mu (s.heap.push W.emptyDict) (o:=W.instObj C s.heap.objs.size) rfl
  rwa [MW] at this
 have e3:(s.heap.push W.emptyDict).Ns s.heap.objs.size (λ_=>none):=⟨W.emptyDict,#[],_,e1,rfl,(λe he=>absurd he (by simp)),λ_=>rfl⟩
 have I1:=I.laid (a:=s.heap.objs.size) (o:=.own (s.heap.objs.size+1)) (h':=s.heap.push W.emptyDict) (t':=s.toks) (λb u q=>LX _ q) (L7 _) ⟨_,e1⟩;refine I1.laid (a:=s.heap.objs.size+1) (o:=.ins C s.heap.objs.size []) (t':=s.toks) (λb u q=>LX _ q) (NW (MW _ _)) ?_;have ne:s.heap.objs.size≠s.heap.objs.size+1:=Mq (Nh _);refine ⟨by rw [aX ne,aM],MK _,ne,e2,λ_=>none,(Heap.Ns1.of_empty e3).at λo q=>LX _ q,λ_=>True.intro,λy hy=>absurd rfl hy⟩
theorem xD {prog:Program} {w:World} {env:Env} {e:Expr} {f:Str} {pos:Pos} {s:Shared} {Q:Value->Shared->Prop} (hb:attributeBase e f env (eval e env)=eval e env)
  (h:wpAny (model prog w) A (eval e env) (λo s₁=>wpAny (model prog w) A (getAttr o f true) Q E s₁) E s):wpAny (model prog w) A (eval (.Attribute e f pos) env) Q E s :=
 Attribute_any_ h (by rw [arm_eval_Attribute,hb])
end
noncomputable def lB (K:W.Frag) (ta:TE) (f:Str):TE:=λσ H Q=>ta σ H λx H1=>∃ a C dx fs v,x=.ref a/\H1 a=some (.ins C dx fs)/\VQ K C/\PU K C f/\fs.lookup f=some v/\Q v H1
noncomputable def FY (K:W.Frag) (ta tv:TE) (f:Str):TS:=λD σ H=>tv σ H λy H1=>ta σ H1 λx H2=>∃ a C dx fs,x=.ref a/\H2 a=some (.ins C dx fs)/\VQ K C/\PU K C f/\fs.length < 1000 /\
 D.nx σ (upd H2 a (.ins C dx (iF f y fs)))
section
variable {X:Cx} {o e value:Expr} {f:Str} {pos pos' tpos:Pos} {ta tv:TE}
theorem dI (he:PE X e ta) (hb:attributeBase e f X.env (eval e X.env)=eval e X.env):PE X (.Attribute e f pos) (lB X.K ta f):=by intro pins s σ H Q I h;refine xD hb (PB (he pins s σ H _ I h) λu s1 ⟨x,H1,I1,rx,a,C,dx,fs,v,ex,ea,c,n,l,q⟩=>?_);subst ex;obtain rfl:u=Value.ref a:=rx;exact we I1 ea c n l λu' s2 I2 ru=>⟨v,H1,I2,ru,q⟩
theorem iQ (ha:PE X o ta) (hv:PE X value tv) (hs:swapsWith value (some (.Attribute o f pos')) pos.line X.env=pure false):PS X (.Assign [.Attribute o f pos'] value pos) (FY X.K ta tv f):=by intro pins s σ H D I h;refine ON (PB (hv pins s σ H _ I h) λu s1 ⟨y,H1,I1,ry,q⟩=>PB (ha pins s1 σ H1 _ I1 q) λov s2 ⟨x,H2,I2,rx,a,C,dx,fs,ex,ea,c,n,l,q2⟩=>?_) hs;subst ex;obtain rfl:ov=Value.ref a:=rx;exact xi I2 ea c n l ry λs3 I3=>⟨σ,_,I3,q2⟩
end
section
variable {X:Cx} {pins:List (Addr × Obj)} {σ:St} {H:Hp} {s:Shared} {A:Around} {E:Value->Shared->Prop} {Q:Value->Shared->Prop} {c:Value} {b:Bool}
end
structure P8 (k:Nat) (A:Around):Prop where
 hd:A.handled=none
 dp:A.depth+3 * k+5 < recursionLimit
 un:A.units+16 * k+200 < cLine
variable {j k:Nat}
theorem P8.mono (r:P8 k A) (h:j<=k):P8 j A:=⟨r.hd,by have:=r.dp;omega,by have:=r.un;omega⟩
theorem P8.deeper (r:P8 (k+1) A) (env:Env):P8 k (A.deeper env) :=
 ⟨r.hd,by have:=r.dp;show A.depth+1+3 * k+5 < _;omega,by have:=r.un;show A.units+3+16 * k+200 < _;omega⟩
variable {kw:List (Str × Value)}
theorem wo:(A.under (.builtin "type.__call__" ⟨.ref C::us,kw⟩)).depth=A.depth+1:=by
 first | rfl | simp [Around.under,Code.weight,Code.isCreation,Code.isGuard,Code.isCaller,Code.frames,Code.isFrame,guardIds]
theorem wq:(A.under (.builtin "type.__call__" ⟨.ref C::us,kw⟩)).units=A.units+1:=by
 first | rfl | simp [Around.under,Code.cUnits,Code.frames,Code.isFrame]
theorem P8.make (r:P8 (k+1) A) (C:Addr) (us:List Value) (kw:List (Str × Value)):P8 k (A.under (.builtin "type.__call__" ⟨.ref C::us,kw⟩)) :=
 ⟨r.hd,by have:=r.dp;rw [wo];omega,by have:=r.un;rw [wq];omega⟩
theorem P8.depth (r:P8 k A):A.depth < recursionLimit:=by have:=r.dp;omega
noncomputable def dH:TA:=λ_ H Q=>Q [] H
noncomputable def bO (ta:TE) (tr:TA):TA:=λσ H Q=>ta σ H λx H1=>tr σ H1 λxs H2=>Q (x::xs) H2
section
variable {X:Cx} {e:Expr} {es:List Expr} {te:TE} {t:TA} {pos:Pos}
theorem aC:PA X [] dH:=λ_ _ _ _ H Q I h=>Calls.spliced_nil ⟨[],H,I,.nil,h⟩
theorem dA (ha:PE X e te) (hr:PA X es t) (hs:starEach (e::es) X.env=(false,eval e X.env)::starEach es X.env:=by rfl):PA X (e::es) (bO te t):=by intro pos pins s σ H Q I h;rw [hs];show wpAny _ _ (spliced ((false,eval e X.env)::backTo pos (starEach es X.env))) _ _ s;refine O6 (PB (ha pins s σ H _ I h) λu s1 ⟨x,H1,I1,r1,q1⟩=>?_);exact PB (hr pos pins s1 σ H1 _ I1 q1) λus s2 ⟨xs,H2,I2,r2,q2⟩=>⟨x::xs,H2,I2,.cons r1 r2,q2⟩
noncomputable def Ge (t:TA):TE:=λσ H Q=>t σ H λxs H1=>xs.length<=sizeLine/\∀ p,H1 p=none->Q (.ref p) (upd H1 p (.tup xs))
noncomputable def B5 (t:TA):TE:=λσ H Q=>t σ H λxs H1=>xs.length<=sizeLine/\∀ p,H1 p=none->Q (.ref p) (upd H1 p (.lst xs))
theorem aS {x1} (h:PA X es t):PE X (.Tuple es x1 pos) (Ge t):=by intro pins s σ H Q I hq;refine wpAny_Tuple_spliced (PB (h pos pins s σ H _ I hq) λus s1 ⟨xs,H1,I1,r,z,q⟩=>⟨by rw [<- r.length];exact z,?_⟩);have hf:H1 s1.heap.objs.size=none:=I1.hok.fresh (L7 _);refine ⟨.ref s1.heap.objs.size,upd H1 s1.heap.objs.size (.tup xs),I1.laid (t':=s1.toks) (λb u e=>LX _ e) (L7 _) ?_,rfl,q _ hf⟩;exact ⟨z,us,r,⟨_,Mu _ rfl,rfl,_,rfl⟩⟩
theorem b0 (h:PA X es t):PE X (.List es pos) (B5 t):=by intro pins s σ H Q I hq;refine wpAny_List_spliced (PB (h pos pins s σ H _ I hq) λus s1 ⟨xs,H1,I1,r,z,q⟩=>⟨by rw [<- r.length];exact z,?_⟩);have hf:H1 s1.heap.objs.size=none:=I1.hok.fresh (L7 _);refine ⟨.ref s1.heap.objs.size,upd H1 s1.heap.objs.size (.lst xs),I1.laid (t':=s1.toks) (λb u e=>LX _ e) (L7 _) ?_,rfl,q _ hf⟩;exact ⟨z,us,0,r,Mu _ rfl⟩
end
noncomputable abbrev Sp:=List V->Hp->VK->XK->Prop
noncomputable abbrev Xs:=List Env->Hp->Shared->XK->Value->Shared->Prop
structure XN (P:Program) (w:World) (K:W.Frag) (mg:Str->Option Value) (base:Heap) (A:Around) (outer:List Env) (s:Shared) (H:Hp):Prop where
 frames:A.frames=some outer
 mod:Mod K mg base
 bs:∀ b o,base.get? b=some o->s.heap.get? b=some o/\H b=none
 Yh:base.objs.size<=s.heap.objs.size
 Vq:s.heap.FunFrames base outer
 YV:∀ b ∈ frs outer,H b=none
 hok:Uz P w H s.heap
 bare:AllBare s.gens
noncomputable def CE (outer:List Env) (P:Program) (w:World) (H:Hp) (s:Shared) (Q:VK) (u:Value) (s':Shared):Prop :=
 ∃ v H',s'.os=s.os/\AllBare s'.gens/\Un (frs outer) [] H H' s.heap s'.heap/\Uz P w H' s'.heap/\RelV v u/\Q v H'
noncomputable def CR (CX:Xs) (outer:List Env) (P:Program) (w:World) (H:Hp) (s:Shared) (Q:VK) (E:XK) (r:Result) (s':Shared):Prop :=
 match r with
 | .ok (.ret u)=>CE outer P w H s Q u s'
 | .ok _=>False
 | .error e=>CX outer H s E e s'
structure PD (P:Program) (w:World) (K:W.Frag) (mg:Str->Option Value) (base:Heap) (CX:Xs) (k:Nat) (f:Addr) (fd:FuncData) (ps:List Str) (sp:Sp):Prop where
 len:∀ vs H Q E,sp vs H Q E->vs.length=ps.length
 run:∀ (A:Around) (outer:List Env) (s:Shared) (H:Hp) (args:Args) (us:List Value) (vs:List V) (Q:VK) (E:XK),P8 k A->XN P w K mg base A outer s H->BindsTo s fd args (ps.zip us)->Vals vs us->sp vs H Q E ->
  codeAny (model P w) A (.call (.ref f) args) (CR CX outer P w H s Q E) s
variable {mg:Str->Option Value} {base:Heap} {CX:Xs} {f:Addr} {fd:FuncData} {ps:List Str} {sp:Sp}
theorem PD.mono (F:PD P w K mg base CX j f fd ps sp) (h:j<=k) :
  PD P w K mg base CX k f fd ps sp:=⟨F.len,λA outer s H args us vs Q E hr=>F.run A outer s H args us vs Q E (hr.mono h)⟩
variable {outer:List Env}
theorem XN.make (e:XN P w K mg base A outer s H) (C:Addr) (us:List Value) (kw:List (Str × Value)) :
  XN P w K mg base (A.under (.builtin "type.__call__" ⟨.ref C::us,kw⟩)) outer s H:=⟨by first | exact e.frames | (simpa [Around.under,Code.envs,Code.isFrame,pushEnvs] using e.frames),e.mod,e.bs,e.Yh,e.Vq,e.YV,e.hok,e.bare⟩
section
variable {X:Cx} {pins:List (Addr × Obj)} {σ:St} {H:Hp} {s s':Shared}
theorem Inv.Yz (I:Inv X pins σ H s):XN X.prog X.w X.K X.mg X.base X.A X.stack s H :=
 ⟨I.ok.frames,I.ok.mod,I.bs,Mr I.ok.Yh I.sz,I.stack,I.Vr,I.hok,I.bare⟩
theorem Inv.after {Q:VK} {u:Value} (I:Inv X pins σ H s) (h:CE X.stack X.prog X.w H s Q u s'):EP X pins σ Q u s':=by obtain ⟨v,H',os,bare,un,hok,r,q⟩:=h;obtain ⟨hh,g,d,t,os'⟩:=s';obtain rfl:os'=s.os:=os;exact ⟨v,H',I.call (h':=hh) (g':=g) (d':=d) (t':=t) (ch:=[]) un hok bare (λb z=>absurd z (by simp)),r,q⟩
end
noncomputable def gJ (sp:Sp) (Tu:List V) (E:XK) (t:TA):TE:=λσ H Q=>t σ H λvs H1=>sp (vs++Tu) H1 Q E
noncomputable def nN (C:Addr) (m:Str) (sp:Sp) (Tu:List V) (E:XK) (ta:TE) (t:TA):TE:=λσ H Q=>ta σ H λx H1=>∃ a dx fs,x=.ref a/\H1 a=some (.ins C dx fs)/\fs.lookup m=none /\
 t σ H1 λvs H2=>sp (x::(vs++Tu)) H2 Q E
noncomputable def D9 (C:Addr) (sp:Sp) (Tu:List V) (E:XK) (t:TA):TE:=λσ H Q=>t σ H λvs H1=>∀ x dx,H1 x=none->H1 dx=none->dx≠x ->
 sp (.ref x::(vs++Tu)) (upd (upd H1 dx (.own x)) x (.ins C dx [])) (λv H2=>v=.Py/\Q (.ref x) H2) E
noncomputable def Binds (K:W.Frag) (fd:FuncData) (ps:List Str) (ds:List Value):Prop :=
 ∀ (s:Shared) (us:List Value),K.In s.heap->(us++ds).length=ps.length->BindsTo s fd ⟨us,[]⟩ (ps.zip (us++ds))
theorem Binds.all (h:∀ us:List Value,us.length=ps.length->bindArgs fd ⟨us,[]⟩=pure (ps.zip us)):Binds K fd ps []:=λs us _ hl=>by rw [MI] at hl ⊢;exact .of_eq (h us hl)
noncomputable def fX (CX:Xs) (X:Cx) (E:XK):Prop:=∀ (pins:List (Addr × Obj)) (σ:St) (H:Hp) (s:Shared) (e:Value) (s':Shared),Inv X pins σ H s->CX X.stack H s E e s'->X.xe e s'
section
variable {X:Cx} {CX:Xs} {k:Nat} {f C:Addr} {fd:FuncData} {ps:List Str} {sp:Sp} {Tu:List V} {ds:List Value} {E:XK} {x m:Str} {p pos apos:Pos} {e o:Expr} {es:List Expr} {ta:TE} {t:TA}
variable {pins:List (Addr × Obj)} {σ:St} {H:Hp} {s:Shared} {Q:VK} {us:List Value} {vs:List V}
theorem tM (F:PD X.prog X.w X.K X.mg X.base CX k f fd ps sp) (hr:P8 k X.A) (hb:Binds X.K fd ps ds) (hd:Vals Tu ds) (hx:fX CX X E)
  (I:Inv X pins σ H s) (r:Vals vs us) (h:sp (vs++Tu) H Q E):wpAny (model X.prog X.w) X.A (call (.ref f) us) (EP X pins σ Q) X.xe s:=by
 have r2:Vals (vs++Tu) (us++ds):=r.append hd;have hl:(us++ds).length=ps.length:=by rw [<- r2.length];exact F.len _ _ _ _ h
 refine Og (Nq (F.run X.A X.stack s H ⟨us,[]⟩ (us++ds) (vs++Tu) Q E hr I.Yz (hb s us I.Sb hl) r2 h) λr s' hq=>?_)
 cases r with
 | error e=>exact hx pins σ H s e s' I hq
 | ok fl =>
  cases fl with
  | ret u=>exact I.after hq
  | next=>exact False.elim hq
  | brk=>exact False.elim hq
  | cont=>exact False.elim hq
theorem oz (F:PD X.prog X.w X.K X.mg X.base CX k f fd ps sp) (hr:P8 k X.A) (hg:Gl X x) (hm:X.mg x=some (.ref f)) (hk:W.keepIn X.K (.ref f)=true) (hb:Binds X.K fd ps ds) (hd:Vals Tu ds) (hx:fX CX X E)
  (ha:PA X (e::es) t) (hdb:(x == ("__debug__":Str))=false:=by decide) (he:starEach (e::es) X.env=(false,eval e X.env)::starEach es X.env:=by rfl) (hpl:(backTo pos (starEach es X.env)).any (·.1)=false:=by rfl) :
  PE X (.Call (.Name x p) (e::es) [] pos) (gJ sp Tu E t):=by
 intro pins s σ H Q I h;refine Nb (gZ I hg hm ?_ hdb);refine Oz (h₀:=X.base) I.ok.mod.YT hk (PB (ha pos pins s σ H _ I h) λus s1 ⟨vs,H1,I1,r,q⟩=>⟨I1.Sb,?_⟩) he hpl;exact tM F hr hb hd hx I1 r q
theorem uX (F:PD X.prog X.w X.K X.mg X.base CX k f fd ps sp) (hr:P8 k X.A) (hg:Gl X x) (hm:X.mg x=some (.ref f)) (hk:W.keepIn X.K (.ref f)=true) (hb:Binds X.K fd ps ds) (hd:Vals Tu ds) (hx:fX CX X E)
  (hdb:(x == ("__debug__":Str))=false:=by decide):PE X (.Call (.Name x p) [] [] pos) (gJ sp Tu E dH):=by
 intro pins s σ H Q I h;refine Nb (gZ I hg hm ?_ hdb);exact Pe I.Sb hk (tM (us:=[]) F hr hb hd hx I .nil h)
variable {pl:Sem Bool}
theorem gB (he:PE X o ta) (c:VQ X.K C) (hm:lE X.K C m f) (F:PD X.prog X.w X.K X.mg X.base CX k f fd ps sp) (hr:P8 k X.A) (hb:Binds X.K fd ps ds) (hd:Vals Tu ds) (hx:fX CX X E) (ha:PA X (e::es) t)
  (hst:starEach (e::es) X.env=(false,eval e X.env)::starEach es X.env:=by rfl) (hpl:(backTo pos (starEach es X.env)).any (·.1)=false:=by rfl)
  (ht:eval (.Call (.Attribute o m apos) (e::es) [] pos) X.env=(do
   let ov <- eval o X.env
   standAt apos.atName
   let (f,first) <- holding [ov] (getMethod ov m pl)
   callWith pos f first (backTo pos (starEach (e::es) X.env)) (backToKw pos (keywordEach [] X.env))):=by rfl) :
  PE X (.Call (.Attribute o m apos) (e::es) [] pos) (nN C m sp Tu E ta t):=by
 intro pins s σ H Q I h;refine OR (pl:=pl) (PB (he pins s σ H _ I h) λu s1 ⟨x,H1,I1,rx,a,dx,fs,ex,ea,l,q⟩=>?_) ht;subst ex;obtain rfl:u=Value.ref a:=rx;refine jF I1 ea c hm l ?_;refine Oz (first:=[.ref a]) (h₀:=X.base) I.ok.mod.YT hm.kp (PB (ha pos pins s1 σ H1 _ I1 q) λus s2 ⟨vs,H2,I2,r,q2⟩=>⟨I2.Sb,?_⟩) hst hpl;exact tM (us:=.ref a::us) (vs:=.ref a::vs) F hr hb hd hx I2 (.cons rfl r) q2
theorem iO (he:PE X o ta) (c:VQ X.K C) (hm:lE X.K C m f) (F:PD X.prog X.w X.K X.mg X.base CX k f fd ps sp) (hr:P8 k X.A) (hb:Binds X.K fd ps ds) (hd:Vals Tu ds) (hx:fX CX X E)
  (ht:eval (.Call (.Attribute o m apos) [] [] pos) X.env=(do
   let ov <- eval o X.env
   standAt apos.atName
   let (f,first) <- holding [ov] (getMethod ov m pl)
   callWith pos f first (backTo pos (starEach [] X.env)) (backToKw pos (keywordEach [] X.env))):=by rfl) :
  PE X (.Call (.Attribute o m apos) [] [] pos) (nN C m sp Tu E ta dH):=by
 intro pins s σ H Q I h;refine OR (pl:=pl) (PB (he pins s σ H _ I h) λu s1 ⟨x,H1,I1,rx,a,dx,fs,ex,ea,l,q⟩=>?_) ht;subst ex;obtain rfl:u=Value.ref a:=rx;refine jF I1 ea c hm l ?_;exact Pe (first:=[.ref a]) I1.Sb hm.kp (tM (us:=[.ref a]) (vs:=[.ref a]) F hr hb hd hx I1 (.cons rfl .nil) q)
structure Mk (K:W.Frag) (C f:Addr):Prop where
 makes:W.makesIn K C=true
 init:W.findIn K (.ref C) "__init__"=some (some (.ref f))
 fn:W.isFn K (.ref f)=true
 kp:W.keepIn K (.ref C)=true
theorem vy (M:Mk X.K C f) (F:PD X.prog X.w X.K X.mg X.base CX k f fd ps sp) (hr:P8 (k+1) X.A) (hb:Binds X.K fd ps ds) (hd:Vals Tu ds)
  (hx:fX CX X E) (I:Inv X pins σ H s) (r:Vals vs us)
  (h:∀ x dx,H x=none->H dx=none->dx≠x->sp (.ref x::(vs++Tu)) (upd (upd H dx (.own x)) x (.ins C dx [])) (λv H2=>v=.Py/\Q (.ref x) H2) E) :
  wpAny (model X.prog X.w) X.A (call (.ref C) us) (EP X pins σ Q) X.xe s:=by
 have hq:=h (s.heap.objs.size+1) s.heap.objs.size (I.hok.fresh (O2 _)) (I.hok.fresh (L7 _)) (Mq (Nh _));have I2:=Inv.made (C:=C) I;have r2:Vals (V.ref (s.heap.objs.size+1)::(vs++Tu)) (Value.ref (s.heap.objs.size+1)::(us++ds)):=.cons rfl (r.append hd)
 have hl:(Value.ref (s.heap.objs.size+1)::us++ds).length=ps.length:=by have e:=r2.length;rw [F.len _ _ _ _ hq] at e;exact e.symm
 refine Og (AY (f:=f) I.Sb M.makes M.init (NT.mp M.fn) (Nq (F.run _ X.stack _ _ ⟨Value.ref (s.heap.objs.size+1)::us,[]⟩ (Value.ref (s.heap.objs.size+1)::(us++ds)) _ _ E (hr.make C us [])
  (I2.Yz.make C us []) (hb _ (Value.ref (s.heap.objs.size+1)::us) I2.Sb hl) r2 hq) λr s' hq'=>?_))
 cases r with
 | error e=>exact hx pins σ _ _ e s' I2 hq'
 | ok fl =>
  cases fl with
  | ret u =>obtain ⟨v,H',I3,rv,ev,q3⟩:=I2.after hq';subst ev;exact ⟨rv,⟨V.ref (s.heap.objs.size+1),H',I3,rfl,q3⟩⟩
  | next=>exact False.elim hq'
  | brk=>exact False.elim hq'
  | cont=>exact False.elim hq'
theorem C5 (M:Mk X.K C f) (F:PD X.prog X.w X.K X.mg X.base CX k f fd ps sp) (hr:P8 (k+1) X.A) (hg:Gl X x) (hm:X.mg x=some (.ref C)) (hb:Binds X.K fd ps ds) (hd:Vals Tu ds) (hx:fX CX X E)
  (ha:PA X (e::es) t) (hdb:(x == ("__debug__":Str))=false:=by decide) (he:starEach (e::es) X.env=(false,eval e X.env)::starEach es X.env:=by rfl) (hpl:(backTo pos (starEach es X.env)).any (·.1)=false:=by rfl) :
  PE X (.Call (.Name x p) (e::es) [] pos) (D9 C sp Tu E t):=by
 intro pins s σ H Q I h;refine Nb (gZ I hg hm ?_ hdb);refine Oz (h₀:=X.base) I.ok.mod.YT M.kp (PB (ha pos pins s σ H _ I h) λus s1 ⟨vs,H1,I1,r,q⟩=>⟨I1.Sb,?_⟩) he hpl;exact vy M F hr hb hd hx I1 r q
theorem Bh (M:Mk X.K C f) (F:PD X.prog X.w X.K X.mg X.base CX k f fd ps sp) (hr:P8 (k+1) X.A) (hg:Gl X x) (hm:X.mg x=some (.ref C)) (hb:Binds X.K fd ps ds) (hd:Vals Tu ds) (hx:fX CX X E)
  (hdb:(x == ("__debug__":Str))=false:=by decide):PE X (.Call (.Name x p) [] [] pos) (D9 C sp Tu E dH):=by
 intro pins s σ H Q I h;refine Nb (gZ I hg hm ?_ hdb);exact Pe I.Sb M.kp (vy (us:=[]) M F hr hb hd hx I .nil h)
end
noncomputable def PK (X:Cx) (kws:List Keyword) (t:TA):Prop :=
 ∀ (pos:Pos) (pins:List (Addr × Obj)) (s:Shared) (σ:St) (H:Hp) (Q:List V->Hp->Prop),Inv X pins σ H s->t σ H Q->wpAny (model X.prog X.w) X.A (evalAll ((backToKw pos (keywordEach kws X.env)).map (·.2))) (AP X pins σ Q) X.xe s
section
variable {X:Cx} {CX:Xs} {k:Nat} {f C:Addr} {fd:FuncData} {ps ks:List Str} {sp:Sp} {E:XK} {x m:Str} {p pos apos kpos:Pos} {e o:Expr} {es:List Expr} {kws:List Keyword} {te ta:TE} {t tk:TA} {nm:Option Str}
theorem EX:PK X [] dH:=λ_ _ _ _ H Q I h=>wpAny_evalAll_nil ⟨[],H,I,.nil,h⟩
theorem C9 (ha:PE X e te) (hr:PK X kws t):PK X (⟨nm,e,kpos⟩::kws) (bO te t):=by intro pos pins s σ H Q I h;show wpAny _ _ (evalAll ((do let v <- eval e X.env;standAt pos;pure v)::(backToKw pos (keywordEach kws X.env)).map (·.2))) _ _ s;refine wpAny_evalAll_cons (LU (PB (ha pins s σ H _ I h) λu s1 ⟨x,H1,I1,r1,q1⟩=>LU (M4 (L8 ?_))));exact PB (hr pos pins s1 σ H1 _ I1 q1) λus s2 ⟨xs,H2,I2,r2,q2⟩=>⟨x::xs,H2,I2,.cons r1 r2,q2⟩
structure vI (K:W.Frag) (fd:FuncData) (ps ks:List Str) (g:List Value->List Value->List Value) (gV:List V->List V->List V):Prop where
 to:∀ (s:Shared) (us ws:List Value),K.In s.heap->(g us ws).length=ps.length->BindsTo s fd ⟨us,ks.zip ws⟩ (ps.zip (g us ws))
 rel:∀ {vs:List V} {us:List Value} {zs:List V} {ws:List Value},Vals vs us->Vals zs ws->Vals (gV vs zs) (g us ws)
noncomputable def B3 (sp:Sp) (gV:List V->List V->List V) (E:XK) (t tk:TA):TE:=λσ H Q=>t σ H λvs H1=>tk σ H1 λzs H2=>sp (gV vs zs) H2 Q E
variable {g:List Value->List Value->List Value} {gV:List V->List V->List V}
theorem Dw {pins:List (Addr × Obj)} {σ:St} {H:Hp} {s:Shared} {Q:VK} {us ws:List Value} {vs zs:List V} (F:PD X.prog X.w X.K X.mg X.base CX k f fd ps sp) (hr:P8 k X.A) (hb:vI X.K fd ps ks g gV) (hx:fX CX X E)
  (I:Inv X pins σ H s) (r:Vals vs us) (rz:Vals zs ws) (h:sp (gV vs zs) H Q E):wpAny (model X.prog X.w) X.A (call (.ref f) us (ks.zip ws)) (EP X pins σ Q) X.xe s:=by
 have r2:=hb.rel r rz;have hl:(g us ws).length=ps.length:=by rw [<- r2.length];exact F.len _ _ _ _ h
 refine Og (Nq (F.run X.A X.stack s H ⟨us,ks.zip ws⟩ (g us ws) (gV vs zs) Q E hr I.Yz (hb.to s us ws I.Sb hl) r2 h) λr s' hq=>?_)
 cases r with
 | error e=>exact hx pins σ H s e s' I hq
 | ok fl =>
  cases fl with
  | ret u=>exact I.after hq
  | next=>exact False.elim hq
  | brk=>exact False.elim hq
  | cont=>exact False.elim hq
theorem Bd (F:PD X.prog X.w X.K X.mg X.base CX k f fd ps sp) (hr:P8 k X.A) (hg:Gl X x) (hm:X.mg x=some (.ref f)) (hk:W.keepIn X.K (.ref f)=true) (hb:vI X.K fd ps ks g gV) (hx:fX CX X E)
  (ha:PA X (e::es) t) (hkw:PK X kws tk) (hall:(backToKw pos (keywordEach kws X.env)).all (·.1.isSome)=true:=by rfl) (hks:(backToKw pos (keywordEach kws X.env)).filterMap (·.1)=ks:=by rfl)
  (hdb:(x == ("__debug__":Str))=false:=by decide) (he:starEach (e::es) X.env=(false,eval e X.env)::starEach es X.env:=by rfl)
  (hpl:((backTo pos (starEach (e::es) X.env)).any (·.1) || (backToKw pos (keywordEach kws X.env)).any (·.1.isNone))=false:=by rfl) :
  PE X (.Call (.Name x p) (e::es) kws pos) (B3 sp gV E t tk):=by
 intro pins s σ H Q I h;refine Nb (gZ I hg hm ?_ hdb);refine W.callWith_KW (h₀:=X.base) I.ok.mod.YT hk hall (PB (ha pos pins s σ H _ I h) λus s1 ⟨vs,H1,I1,r,q⟩=>?_) hpl he;refine PB (hkw pos pins s1 σ H1 _ I1 q) λws s2 ⟨zs,H2,I2,rz,q2⟩=>⟨I2.Sb,?_⟩
 rw [hks];exact Dw F hr hb hx I2 r rz q2
end
structure Pw (N P:List Str) (sc:Scope):Prop where
 kind:sc.kind=.function
 co:sc.isCoroutine=false
 gen:sc.isGenerator=false
 nd:N.Nodup
 pre:N.take P.length=P
 par:∀ x ∈ P,sc.names.lookup x=some .local\/sc.names.lookup x=some .cell
 Zr:∀ y ∈ sc.names,y.2≠.free
theorem Pw.Ra {N P:List Str} {sc:Scope} (a:sc.kind=.function:=by rfl) (b:sc.isCoroutine=false:=by rfl) (c:sc.isGenerator=false:=by rfl) (d:N.Nodup:=by decide +kernel) (e:N.take P.length=P:=by rfl) (f:∀ x ∈ P,sc.names.lookup x=some .local\/sc.names.lookup x=some .cell:=by decide +kernel) (g:∀ y ∈ sc.names,y.2≠.free:=by decide +kernel):Pw N P sc:=⟨a,b,c,d,e,f,g⟩
variable {kindOf:Str->Option NameKind} {x:Str}
theorem qK:∀ {binds:List (Str × Value)} {m:Str->Option Value},(∀ v,(x,v) ∉ binds)->bindL kindOf binds m x=m x
 | [],_,_=>rfl
 | (n,v)::r,m,h=>by
  unfold bindL;rw [qK λw hw=>h w (Mt _ hw)];split
  ·have:x≠n:=by rintro rfl;exact h v Mw
   simp [this]
  ·rfl
theorem qI:∀ {binds:List (Str × Value)} {m:Str->Option Value},(∀ v,(x,v) ∉ binds)->bindC kindOf binds m x=m x
 | [],_,_=>rfl
 | (n,v)::r,m,h=>by
  unfold bindC;rw [qI λw hw=>h w (Mt _ hw)];split
  ·rfl
  ·have:x≠n:=by rintro rfl;exact h v Mw
   simp [this]
variable {v:Value}
theorem qJ:∀ {P:List Str} {vs:List Value} {i:Nat} {m:Str->Option Value},P.Nodup->P[i]?=some x->vs[i]?=some v->kindOf x=some .local ->
  bindL kindOf (P.zip vs) m x=some v
 | [],_,_,_,_,h,_,_=>by simp at h
 | _::_,[],_,_,_,_,h,_=>by simp at h
 | p::P,w::vs,0,m,nd,h1,h2,hk=>by simp at h1 h2;subst h1;subst h2;show bindL kindOf ((p,w)::P.zip vs) m p=_;unfold bindL;rw [qK λv hv=>(OS.mp nd).1 (List.of_mem_zip hv).1,Mc hk];simp
 | p::P,w::vs,i+1,m,nd,h1,h2,hk=>by show bindL kindOf ((p,w)::P.zip vs) m x=_;unfold bindL;exact qJ (i:=i) (OS.mp nd).2 (by simpa using h1) (by simpa using h2) hk
theorem qH:∀ {P:List Str} {vs:List Value} {i:Nat} {m:Str->Option Value},P.Nodup->P[i]?=some x->vs[i]?=some v->kindOf x≠some .local ->
  bindC kindOf (P.zip vs) m x=some v
 | [],_,_,_,_,h,_,_=>by simp at h
 | _::_,[],_,_,_,_,h,_=>by simp at h
 | p::P,w::vs,0,m,nd,h1,h2,hk=>by simp at h1 h2;subst h1;subst h2;show bindC kindOf ((p,w)::P.zip vs) m p=_;unfold bindC;rw [qI λv hv=>(OS.mp nd).1 (List.of_mem_zip hv).1,LZ hk];simp
 | p::P,w::vs,i+1,m,nd,h1,h2,hk=>by show bindC kindOf ((p,w)::P.zip vs) m x=_;unfold bindC;exact qH (i:=i) (OS.mp nd).2 (by simpa using h1) (by simpa using h2) hk
noncomputable def gI (N:List Str) (vs:List V):St:=vs.map some++List.replicate (N.length - vs.length) none
noncomputable def nR (CX:Xs) (P:Program) (w:World) (K:W.Frag) (mg:Str->Option Value) (base:Heap) (N:List Str) (qual:Str) (scope:Scope) (f:Addr) (cd:Value) (A:Around) (outer:List Env) (s:Shared) (H:Hp) (E:XK):Cx where
 prog:=P
 w:=w
 K:=K
 mg:=mg
 base:=base
 A:=A.deeper (envOfC qual scope s.heap.objs.size f cd)
 N:=N
 s₀:=s
 H₀:=H
 env:=envOfC qual scope s.heap.objs.size f cd
 outer:=outer
 stack:=envOfC qual scope s.heap.objs.size f cd::outer
 ex:=[]
 calm:=true
 fn:=λ_=>true
 pn:=[]
 xe:=λe s'=>wpAny (model P w) (A.deeper (envOfC qual scope s.heap.objs.size f cd)) (leaving (envOfC qual scope s.heap.objs.size f cd) e) (λ_ s''=>CX outer H s E e s'') (λe' s''=>CX outer H s E e' s'') s'
theorem ur {sc:Scope} (h:sc.names.lookup x=some .cell):∃ c,(cellsFrom n sc.names []).lookup x=some c:=by have q:=W.cellsFrom_some sc.names n [] (.inl h);exact NX.mp q
variable {N:List Str} {qual:Str} {scope:Scope}
theorem zb {cd:Value} {s1:Shared} {E:XK} {vs:List V}
  (S:Pw N ps scope) (hd:A.handled=none) (e0:XN P w K mg base A outer s H) (hl:vs.length=ps.length) (r:Vals vs us)
  (x:InCallC s s.heap.objs.size (bindL (envOfC qual scope s.heap.objs.size f cd).kindOf (ps.zip us) λ_=>none) (cellsFrom (s.heap.objs.size+1) scope.names []) (bindC (envOfC qual scope s.heap.objs.size f cd).kindOf (ps.zip us) λ_=>none) s1) :
  Inv (nR CX P w K mg base N qual scope f cd A outer s H E) [] (gI N vs) H s1:=by
 have hpl:ps.length<=N.length:=by have:=MH List.length S.pre;rw [Mx] at this;omega
 obtain ⟨h1,tk,rfl,hk⟩:=x.done;have noA:∀ b:Addr,b ∉ (nR CX P w K mg base N qual scope f cd A outer s H E).ex:=λb z=>absurd (show b ∈ ([]:List Addr) from z) (by simp)
 refine ⟨⟨e0.mod,S.kind,rfl,rfl,L7 _,λy z c h1 h2=>?_,λy hy=>?_,λy c _ h=>?_,λ_=>hd,Around.frames_deeper e0.frames,.inr ⟨rfl,rfl⟩,λb z=>absurd z (noA b),e0.bs,e0.Yh,λb _ _=>noA b,λb z=>absurd z (noA b),e0.Vq,e0.YV⟩,
  rfl,e0.bare,Un.kept hk,⟨_,x.toInCall.ns,λi y v h1 h2 h3=>?_⟩,λy c h=>⟨_,x.cell y c h⟩,e0.hok.fresh (L7 _),λy c h=>?_,λp hp=>absurd (show p ∈ ([]:List (Addr × Obj)) from hp) (by simp),e0.hok.kept hk,?_⟩
 ·exact name_of_addr x.apart (M0 h1) (M0 h2)
 ·have hy:scope.names.lookup y=some .cell\/scope.names.lookup y=some .free:=hy;rcases hy with hy | hy
  ·exact ur hy
  ·exact absurd rfl (S.Zr _ (M0 hy))
 ·exact Np (x.above y c (M0 h))
 ·have hi:i < vs.length:=by
   unfold gI at h2;by_cases hi:i < vs.length
   ·exact hi
   ·rw [Nd (by simpa using hi)] at h2;rw [List.getElem?_replicate] at h2;split at h2 <;> cases h2
  have ha:vs[i]?=some v:=by
   unfold gI at h2;rw [Ot (by simpa using hi),LV] at h2
   cases e:vs[i]? with
   | none=>rw [e] at h2;cases h2
   | some a=>rw [e] at h2;cases h2;rfl
  obtain ⟨u,hu,rv⟩:=r.get ha
  have hp:ps[i]?=some y:=by rw [<- S.pre,List.getElem?_take_of_lt (by omega)];exact h1
  have ndP:ps.Nodup:=by rw [<- S.pre];exact S.nd.sublist (List.take_sublist _ _)
  refine ⟨u,rv,?_⟩;rcases S.par y (Mj hp) with k | k
  ·exact .inl ⟨k,qJ ndP hp hu k⟩
  ·obtain ⟨c,e⟩:=ur (n:=s.heap.objs.size+1) k;refine .inr ⟨.inl k,c,e,?_⟩;have q:=x.cell y c e;rw [qH ndP hp hu (by show scope.names.lookup y≠_;rw [k];decide)] at q;exact q
 ·exact e0.hok.fresh (Np (x.above y c (M0 h)))
 ·unfold gI;show _=N.length;rw [Ma,LR,List.length_replicate];omega
theorem AA {name:Str} {params:Arguments} {body:List Stmt} {dV kV doc pm cdv ct oc:Value} {an od:Option Addr} {osl:Array (Option Value)} (lk:K.lookup f=some ⟨oc,od,.func (W.fnOf name qual params body scope dV kV doc pm an cdv ct),osl⟩) (hcd:W.codeIn K cdv qual=true) (S:Pw N ps scope)
  (len:∀ vs H Q E,sp vs H Q E->vs.length=ps.length)
  (hbody:∀ (A:Around) (outer:List Env) (s:Shared) (H:Hp) (vs:List V) (Q:VK) (E:XK),P8 k (A.deeper (envOfC qual scope s.heap.objs.size f cdv))->sp vs H Q E ->
   ∃ t,Wc (nR CX P w K mg base N qual scope f cdv A outer s H E) body t/\t { nx:=λ_ H'=>Q .Py H',rt:=Q } (gI N vs) H) :
  PD P w K mg base CX (k+1) f (W.fnOf name qual params body scope dV kV doc pm an cdv ct) ps sp:=by
 refine ⟨len,λA outer s H args us vs Q E hr e0 hb r Yq=>?_⟩;have hl:=len _ _ _ _ Yq;have KX:K.In s.heap:=e0.mod.YT.keeps λb o e=>(e0.bs b o e).1;have lim:s.heap.NoLimit:=e0.mod.nolimit.keeps λb o e=>(e0.bs b o e).1
 have hkind:∀ y ∈ ps.zip us,scope.names.lookup y.1=some .local\/(scope.names.lookup y.1=some .cell/\((cellsFrom (s.heap.objs.size+1) scope.names []).lookup y.1).isSome=true):=λ⟨n,v⟩ hy=>by
  rcases S.par n (List.of_mem_zip hy).1 with q | q
  ·exact .inl q
  ·exact .inr ⟨q,W.cellsFrom_some _ _ _ (.inl q)⟩
 refine codeAny_call_function hr.depth (KX _ _ lk) rfl S.co S.gen rfl (W.codeRec_of KX hcd) (hb _ _ _ _ ?_);refine wpAny_newFunctionEnv_cells S.kind hkind λenv he s1 x=>?_;subst he;refine ⟨lim.keeps x.toInCall.keep,codeAny_func ?_⟩;obtain ⟨t,ht,hq⟩:=hbody A outer s H vs Q E (hr.deeper _) Yq;have I:Inv (nR CX P w K mg base N qual scope f cdv A outer s H E) [] (gI N vs) H s1:=zb S hr.hd e0 hl r x;refine MX (ht [] s1 (gI N vs) H _ I hq) (λfl s' hs=>?_) λe s' hs=>hs
 have fin:∀ {σ':St} {H':Hp} {v:V} {u:Value},Inv (nR CX P w K mg base N qual scope f cdv A outer s H E) [] σ' H' s'->RelV v u->Q v H'->CE outer P w H s Q u s' :=
  λ{σ' H' v u} J rv q=>⟨v,H',J.os,J.bare,J.base,J.hok,rv,q⟩
 cases fl with
 | ret u =>obtain ⟨v,σ',H',J,rv,q⟩:=hs;exact fin J rv q
 | next =>obtain ⟨σ',H',J,q⟩:=hs;exact fin (v:=V.Py) (u:=Value.none) J rfl q
 | brk =>obtain ⟨_,_,_,q⟩:=hs;exact False.elim q
 | cont =>obtain ⟨_,_,_,q⟩:=hs;exact False.elim q
section
variable {X:Cx} {x:Str} {p pos:Pos} {e:Expr} {es:List Expr} {t:TA} {id T:String} {r:List V->Hp->VK->Prop}
noncomputable def WB (r:List V->Hp->VK->Prop) (t:TA):TE:=λσ H Q=>t σ H λvs H1=>r vs H1 Q
theorem a9 (hc:jo X (.builtin id) r) (hg:Gl X x) (hm:X.mg x=none) (hv:bootBuiltins x=some (.builtin id)) (ha:PA X (e::es) t) (hn:x≠"__name__":=by decide) (hdb:(x == ("__debug__":Str))=false:=by decide)
  (he:starEach (e::es) X.env=(false,eval e X.env)::starEach es X.env:=by rfl) (hpl:(backTo pos (starEach es X.env)).any (·.1)=false:=by rfl):PE X (.Call (.Name x p) (e::es) [] pos) (WB r t):=by
 intro pins s σ H Q I h;refine Nb (mW I hg hm hv ?_ hn hdb);exact PyProof.Rows.callWith_builtin1 (PB (ha pos pins s σ H _ I h) λus s1 ⟨vs,H1,I1,r1,q1⟩=>hc pins s1 σ H1 vs us Q I1 r1 q1) he hpl
theorem cQ (hc:jo X (.type T) r) (hg:Gl X x) (hm:X.mg x=none) (hv:bootBuiltins x=some (.type T)) (ha:PA X (e::es) t) (hn:x≠"__name__":=by decide) (hdb:(x == ("__debug__":Str))=false:=by decide)
  (he:starEach (e::es) X.env=(false,eval e X.env)::starEach es X.env:=by rfl) (hpl:(backTo pos (starEach es X.env)).any (·.1)=false:=by rfl):PE X (.Call (.Name x p) (e::es) [] pos) (WB r t):=by
 intro pins s σ H Q I h;refine Nb (mW I hg hm hv ?_ hn hdb);exact NK (PB (ha pos pins s σ H _ I h) λus s1 ⟨vs,H1,I1,r1,q1⟩=>hc pins s1 σ H1 vs us Q I1 r1 q1) he hpl
end
end L2
namespace HT
open PySem PyProof.Rows
section
open PySem.SeqAt
open PySem.AutoSeq1 (wpAny_loadPart')
open PySem.MeetsSeq PySem.MeetsSeq2 PySem.MeetsSeq3
end
section
variable {prog:Program} {w:World} {A:Around} {E:Value->Shared->Prop} {s:Shared}
variable {t:Addr}
theorem Y3 {b:Addr} {vs ws:List Value} {Q:Value->Shared->Prop} (ht:IsTup s.heap t vs.toArray) (hb:IsTup s.heap b ws.toArray) (hv:vs≠[])
  (h1:ws=[]->Q (.ref t) s) (h2:ws≠[]->Q (.ref s.heap.objs.size) { s with heap:=s.heap.push { cls:=.type "tuple",data:=.seq (vs++ws).toArray } })
  (hsz:vs.length+ws.length<=sizeLine):wpAny (model prog w) A (binaryOp .Add (.ref t) (.ref b)) Q E s:=by
 obtain ⟨⟨cls,dd,data,sl⟩,ho,hc,n,hd⟩:=id ht;obtain ⟨⟨cls2,dd2,data2,sl2⟩,ho2,hc2,n2,hd2⟩:=id hb;simp only at hc hd hc2 hd2;subst hc hd hc2 hd2;have e:vs.toArray++ws.toArray=(vs++ws).toArray:=by simp
 by_cases hw:ws=[]
 ·exact concat_meets ⟨_,ho,rfl⟩ ⟨_,ho2,rfl⟩ noFill_tuple_add seq_tuple_add F.slot_tuple_add Pj (O7 _ _)
   (tuple_addW1 t b vs.toArray ws.toArray n n2 dd dd2 sl sl2 (by simpa using hv) (by simp [hw])) ⟨ho,ho2,h1 hw⟩
 ·refine concat_meets ⟨_,ho,rfl⟩ ⟨_,ho2,rfl⟩ noFill_tuple_add seq_tuple_add F.slot_tuple_add Pj (O7 _ _)
   (tuple_addW2 t b vs.toArray ws.toArray n n2 dd dd2 sl sl2 (by simpa using hv) (by simpa using hw) (by rw [Me,Me];exact hsz)) ⟨ho,ho2,?_⟩
  rw [e];exact h2 hw
noncomputable def QF (n d:Nat):Option Int->Nat
 | none=>d
 | some v=>if v < 0 then (v+(n:Int)).toNat else min v.toNat n
theorem Xx (n d:Nat):QF n d none=d:=rfl
theorem U0 (n d k:Nat):QF n d (some (k:Int))=min k n:=by show (if (k:Int) < 0 then ((k:Int)+(n:Int)).toNat else min (k:Int).toNat n)=min k n;rw [LZ (by omega),OE]
theorem Fl (n d:Nat) (hd:d<=n) (o:Option Int):QF n d o<=n:=by
 cases o with
 | none=>exact hd
 | some v =>
  show (if v < 0 then (v+(n:Int)).toNat else min v.toNat n)<=n;by_cases hv:v < 0
  ·rw [Mc hv];omega
  ·rw [LZ hv];exact Nat.min_le_right _ _
theorem xH (v:Int) (n d:Nat):(if v < 0 then max (v+(n:Int)) 0 else min v (n:Int))=((QF n d (some v):Nat):Int):=by
 show (if v < 0 then max (v+(n:Int)) 0 else min v (n:Int))=(((if v < 0 then (v+(n:Int)).toNat else min v.toNat n):Nat):Int)
 by_cases hv:v < 0
 ·simp only [Mc hv];omega
 ·simp only [LZ hv];omega
theorem vQ (lo hi:Option Int) (n:Nat):Builtin.Slice.sliceAdjust lo hi 1 (n:Int)=(((QF n 0 lo:Nat):Int),((QF n n hi:Nat):Int)):=by
 have h1:¬ ((1:Int) < 0):=by omega
 unfold Builtin.Slice.sliceAdjust;simp only [h1,Po];refine Oe ?_ ?_
 ·cases lo with
  | none=>rfl
  | some v=>exact xH v n 0
 ·cases hi with
  | none=>rfl
  | some v=>exact xH v n n
theorem wM (i j:Nat):Builtin.Slice.slicePlaces (i:Int) (j:Int) 1=j - i:=by
 unfold Builtin.Slice.slicePlaces;have h1:(1:Int) > 0:=by omega
 simp only [h1,N1,Int.ediv_one];split <;> omega
theorem ql {v:Value} {o:Option Int} {Q:Option Int->Shared->Prop} (p:IsPart v o) (h:Q o s):wpAny (model prog w) A (Builtin.Slice.slicePartIndex v) Q E s:=by
 cases p with
 | none=>exact slicePart_none h
 | int i t=>exact slicePart_int h
variable {sl:Addr} {vl vu:Value} {lo hi:Option Int}
theorem Tz {n:Nat} {Q:Int × Int × Nat->Shared->Prop} (hs:s.heap.IsSliceOf sl vl vu .none) (pl:IsPart vl lo) (pu:IsPart vu hi)
  (h:Q (((QF n 0 lo:Nat):Int),1,QF n n hi - QF n 0 lo) s):wpAny (model prog w) A (Builtin.Slice.sliceApplied (.ref sl) (pure (n:Int))) Q E s:=by
 obtain ⟨os,hos,hcs,hds⟩:=id hs;unfold Builtin.Slice.sliceApplied Builtin.Slice.sliceFields;refine LU (LU (wpAny_field hos hds (x:=vl) rfl (LU (wpAny_field hos hds (x:=vu) rfl (LU (wpAny_field hos hds (x:=.none) rfl (L8 ?_)))))));refine LU (slicePart_none ?_);show wpAny _ _ (if ((1:Int) == 0)=true then _ else _) _ _ s;rw [LZ (by decide)];refine LU (ql pl (LU (ql pu (LU (L8 ?_)))));show wpAny _ _ (match Builtin.Slice.sliceAdjust lo hi 1 (n:Int) with | (lo,hi)=>pure (lo,(1:Int),Builtin.Slice.slicePlaces lo hi 1)) _ _ s;rw [vQ lo hi n];show wpAny _ _ (pure (((QF n 0 lo:Nat):Int),(1:Int),Builtin.Slice.slicePlaces ((QF n 0 lo:Nat):Int) ((QF n n hi:Nat):Int) 1)) _ _ s;rw [wM];exact L8 h
theorem Bn (xs:Array Value) (i k:Nat):((List.range k).filterMap λ(m:Nat)=>xs[((i:Int)+(m:Int) * 1).toNat]?).toArray=((xs.toList.drop i).take k).toArray:=by
 have e:(λ(m:Nat)=>xs[((i:Int)+(m:Int) * 1).toNat]?)=λm=>xs[i+m]?:=by
  funext m
  have:((i:Int)+(m:Int) * 1).toNat=i+m:=by omega
  rw [this]
 rw [e];have:=pick_run xs i k;rw [List.filterMap_map] at this;have e2:((λx=>xs[x]?) ∘ λx=>i+x)=λm=>xs[i+m]?:=rfl;rw [e2] at this;rw [this]
theorem Vt {items:Array Value} {Q:Value->Shared->Prop} (ht:IsTup s.heap t items) (hs:s.heap.IsSliceOf sl vl vu .none) (pl:IsPart vl lo) (pu:IsPart vu hi)
  (hw:¬ (QF items.size 0 lo=0/\QF items.size items.size hi=items.size))
  (h:Q (.ref s.heap.objs.size) { s with heap:=s.heap.push { cls:=.type "tuple",data:=.seq ((items.toList.drop (QF items.size 0 lo)).take (QF items.size items.size hi - QF items.size 0 lo)).toArray } })
  (hsz:items.size<=sizeLine):wpAny (model prog w) A (getItem (.ref t) (.ref sl)) Q E s:=by
 have X5:sizeOk (.seq ((items.toList.drop (QF items.size 0 lo)).take (QF items.size items.size hi - QF items.size 0 lo)).toArray):=by show ((items.toList.drop (QF items.size 0 lo)).take (QF items.size items.size hi - QF items.size 0 lo)).toArray.size<=sizeLine;rw [Me,Mx,NH,Om];omega
 have hj:QF items.size items.size hi<=items.size:=Fl _ _ (L7 _) hi;obtain ⟨os,hos,hcs,hds⟩:=id hs;have hTs:s.TypeIs (.ref sl) "slice":=⟨os,hos,hcs⟩
 unfold getItem
 try with_reducible refine Nj ?_
 first | refine LU (L8 ?_) | skip
 refine LU (wpAny_sequenceKey ht.typeIs (by decide) ?_)
 refine LU (NZ (name:=Str.ofString "__getitem__") ht.typeIs MU
  (Oh MU ht.typeIs entry_tuple_getitem ?_ (args_tuple_getitem _ _)))
 show wpAny _ _ (Builtin.Tuple.tupleItemsOf (.ref t) >>= _) _ _ s;refine LU (tupleItemsOf_ ht ?_);refine LU (wpAny_typeOf hTs ?_);rw [Mc (by decide)];refine LU (Tz hs pl pu ?_)
 have hno:¬ ((((QF items.size 0 lo:Nat):Int) == 0 && (1:Int) == 1 && (QF items.size items.size hi - QF items.size 0 lo) == items.size)=true):=by intro q;rw [LW,LW] at q;have q1:((QF items.size 0 lo:Nat):Int)=0:=eq_of_beq q.1.1;have q2:QF items.size items.size hi - QF items.size 0 lo=items.size:=eq_of_beq q.2;exact hw ⟨by omega,by omega⟩
 show wpAny _ _ (if (((QF items.size 0 lo:Nat):Int) == 0 && (1:Int) == 1 && (QF items.size items.size hi - QF items.size 0 lo) == items.size)=true then _ else _) _ _ s;rw [LZ hno,Bn]
 first
  | exact LU (m:=Builtin.Tuple.tupleExact _) (Nm (L8 ⟨_,rfl,L8 h⟩) X5)
  | exact LU (m:=Builtin.Tuple.tupleExact _) (Nm (LU (L8 (L8 ⟨_,rfl,L8 h⟩))) X5)
  | exact LU (LU (m:=Builtin.Tuple.tupleExact _) (Nm (L8 (L8 ⟨_,rfl,L8 h⟩)) X5))
  | exact LU (LU (m:=Builtin.Tuple.tupleExact _) (Nm (L8 ⟨_,rfl,L8 h⟩) X5))
end
end HT
namespace L2
open PySem PySem.Spec PyProof.Rows
noncomputable abbrev TO:=St->Hp->(Option Int->Hp->Prop)->Prop
noncomputable def PO (X:Cx) (e:Option Expr) (t:TO):Prop :=
 ∀ (pins:List (Addr × Obj)) (s:Shared) (σ:St) (H:Hp) (Q:Option Int->Hp->Prop),Inv X pins σ H s->t σ H Q ->
  wpAny (model X.prog X.w) X.A (evalPart e X.env) (λu s'=>∃ o H',Inv X pins σ H' s'/\IsPart u o/\Q o H') X.xe s
noncomputable def oH:TO:=λ_ H Q=>Q none H
noncomputable def kN (t:TE):TO:=λσ H Q=>t σ H λx H1=>∃ i,x=.int i/\Q (some i) H1
section
variable {X:Cx} {e:Expr} {te:TE} {lo hi:Option Expr} {tl th:TO} {pos p2:Pos}
theorem yn:PO X none oH:=by intro pins s σ H Q I h;rw [evalPart_none];exact L8 ⟨none,H,I,.none,h⟩
theorem jc (h:PE X e te):PO X (some e) (kN te):=by intro pins s σ H Q I hw;rw [evalPart_some];refine PB (h pins s σ H _ I hw) λu s1 ⟨x,H1,I1,r1,q1⟩=>?_;obtain ⟨i,rfl,q⟩:=q1;obtain ⟨t,rfl⟩:=r1;exact ⟨some i,H1,I1,.int i t,q⟩
noncomputable def Zf (X:Cx) (r:V->Option Int->Option Int->Hp->VK->Prop):Prop :=
 ∀ (pins:List (Addr × Obj)) (s:Shared) (σ:St) (H:Hp) (x:V) (v vl vu:Value) (lo hi:Option Int) (sl:Addr) (Q:VK),Inv X pins σ H s->RelV x v->s.heap.IsSliceOf sl vl vu .none->IsPart vl lo->IsPart vu hi->r x lo hi H Q ->
  ∃ T id,typeLookup (.type T) "__getitem__"=pure (some (.builtin id))/\s.TypeIs v T/\wpAny (model X.prog X.w) X.A (getItem v (.ref sl)) (EP X pins σ Q) X.xe s
theorem Zf.or {r r':V->Option Int->Option Int->Hp->VK->Prop} (h:Zf X r) (h':Zf X r'):Zf X (λx lo hi H Q=>r x lo hi H Q\/r' x lo hi H Q):=by
 intro pins s σ H x v vl vu lo hi sl Q I rx hs pl pu q;rcases q with q | q
 ·exact h pins s σ H x v vl vu lo hi sl Q I rx hs pl pu q
 ·exact h' pins s σ H x v vl vu lo hi sl Q I rx hs pl pu q
noncomputable def Zs (r:V->Option Int->Option Int->Hp->VK->Prop) (te:TE) (tl th:TO):TE:=λσ H Q=>te σ H λx H1=>tl σ H1 λl H2=>th σ H2 λu H3=>r x l u H3 Q
theorem kb {r:V->Option Int->Option Int->Hp->VK->Prop} (hr:Zf X r) (he:PE X e te) (hl:PO X lo tl) (hu:PO X hi th):PE X (.Subscript e (.Slice lo hi none p2) pos) (Zs r te tl th):=by intro pins s σ H Q I h;refine Subscript_ (PB (he pins s σ H _ I h) λv s1 ⟨x,H1,I1,r1,q1⟩=>?_);refine wpAny_Slice (PB (hl pins s1 σ H1 _ I1 q1) λvl s2 ⟨l,H2,I2,pl,q2⟩=>PB (hu pins s2 σ H2 _ I2 q2) λvu s3 ⟨u,H3,I3,pu,q3⟩=>?_);rw [evalPart_none];refine L8 ?_;have I4:Inv X pins σ H3 { s3 with heap:=s3.heap.push { cls:=.type "slice",data:=.fields #[vl,vu,.none] } }:=I3.kept (t':=s3.toks) λb ob q=>LX _ q;obtain ⟨T,id,hT,ht,hg⟩:=hr pins { s3 with heap:=s3.heap.push { cls:=.type "slice",data:=.fields #[vl,vu,.none] } } σ H3 x v vl vu l u s3.heap.objs.size Q I4 r1 (Heap.IsSliceOf.new ..) pl pu q3;show wpAny (model X.prog X.w) X.A (subscriptTail e (.Slice lo hi none p2) v (.ref s3.heap.objs.size)) (EP X pins σ Q) X.xe { s3 with heap:=s3.heap.push { cls:=.type "slice",data:=.fields #[vl,vu,.none] } };exact tail_any (ops:=[.ref s3.heap.objs.size,v]) ht hT hg (by with_unfolding_all rfl)
noncomputable def lM (xs:List V) (lo hi:Option Int):List V:=(xs.drop (HT.QF xs.length 0 lo)).take (HT.QF xs.length xs.length hi - HT.QF xs.length 0 lo)
theorem ny (xs:List V) (lo hi:Option Int):(lM xs lo hi).length<=xs.length:=by unfold lM;rw [Mx,NH];omega
noncomputable def E3 (K:W.Frag):V->Option Int->Option Int->Hp->VK->Prop:=λx lo hi H Q=>∃ a xs,x=.ref a/\QE K H a xs /\
 ¬ (HT.QF xs.length 0 lo=0/\HT.QF xs.length xs.length hi=xs.length)/\∀ p,H p=none->Q (.ref p) (upd H p (.tup (lM xs lo hi)))
theorem tQ:Zf X (E3 X.K):=by
 intro pins s σ H x v vl vu lo hi sl Q I rx hs pl pu h;obtain ⟨a,xs,rfl,hx,hw,q⟩:=h;cases rx;obtain ⟨its,r,ht,hz⟩:=I.tuple hx;have hlen:its.toArray.size=xs.length:=by rw [Me];exact r.length.symm
 refine ⟨"tuple",_,MU.lookup,ht.typeIs,?_⟩;refine HT.Vt ht hs pl pu (by rw [hlen];exact hw) ?_ (by rw [hlen];exact hz);rw [hlen];refine ⟨.ref s.heap.objs.size,_,I.laid (t':=s.toks) (o:=.tup (lM xs lo hi)) (λb ob q=>LX _ q) (L7 _) ?_,rfl,q _ (I.hok.fresh (L7 _))⟩;exact ⟨Mr (ny xs lo hi) hz,_,(r.drop (HT.QF xs.length 0 lo)).take (HT.QF xs.length xs.length hi - HT.QF xs.length 0 lo),IsTup.new _ _⟩
noncomputable def DX (K:W.Frag):R2:=λx y H Q=>∃ a b xs ys,x=.ref a/\y=.ref b/\QE K H a xs/\QE K H b ys/\xs≠[]/\xs.length+ys.length<=sizeLine /\
 (ys=[]->Q (.ref a) H)/\(ys≠[]->∀ p,H p=none->Q (.ref p) (upd H p (.tup (xs++ys))))
theorem Vals.Wy {xs:List V} {us:List Value} (r:Vals xs us):us=[]↔xs=[]:=by
 cases r with
 | nil=>simp
 | cons _ _=>simp
theorem C0:Se X (binaryOp .Add) (DX X.K):=by intro pins s σ H x y v u Q I rx ry h;obtain ⟨a,b,xs,ys,rfl,rfl,ha,hb,hx,hz,q1,q2⟩:=h;cases rx;cases ry;obtain ⟨its,r1,p1,_⟩:=I.tuple ha;obtain ⟨its2,r2,p2,_⟩:=I.tuple hb;refine HT.Y3 p1 p2 (λz=>hx (r1.Wy.mp z)) (λz=>⟨.ref a,H,I,rfl,q1 (r2.Wy.mp z)⟩) (λz=>?_) (by rw [<- r1.length,<- r2.length];exact hz);refine ⟨.ref s.heap.objs.size,_,I.laid (t':=s.toks) (o:=.tup (xs++ys)) (λb ob q=>LX _ q) (L7 _) ?_,rfl,q2 (λw=>z (r2.Wy.mpr w)) _ (I.hok.fresh (L7 _))⟩;exact ⟨by rw [Ma];exact hz,_,r1.append r2,IsTup.new _ _⟩
end
noncomputable def X6 (n:Nat) (i:Int):Option Nat:=if 0<=i then (if i < n then some i.toNat else none) else if -(n:Int)<=i then some (i+n).toNat else none
noncomputable def Yj {α:Type} (xs:List α) (i:Int):Option α:=(X6 xs.length i).bind λj=>xs[j]?
variable {i:Int} {j:Nat}
theorem r6 {n:Nat} (h:X6 n i=some j):seqIndex? i n=some j/\j < n/\-(n:Int)<=i/\i < n:=by
 unfold X6 at h;by_cases h0:0<=i
 ·rw [Mc h0] at h;by_cases h1:i < n
  ·rw [Mc h1] at h;have e:i.toNat=j:=ME h;exact ⟨by rw [seqIndex_of h0 h1,e],by omega,by omega,h1⟩
  ·rw [LZ h1] at h;cases h
 ·rw [LZ h0] at h;by_cases h1:-(n:Int)<=i
  ·rw [Mc h1] at h;have e:(i+n).toNat=j:=ME h;exact ⟨by rw [seqIndex_neg (by omega) h1,e],by omega,h1,by omega⟩
  ·rw [LZ h1] at h;cases h
theorem xC {α:Type} {xs:List α} {v:α} (h:Yj xs i=some v):∃ j,seqIndex? i xs.length=some j/\xs[j]?=some v/\j < xs.length/\-(xs.length:Int)<=i/\i < xs.length:=by
 unfold Yj at h
 cases e:X6 xs.length i with
 | none=>rw [e] at h;cases h
 | some j =>rw [e] at h;obtain ⟨h1,h2,h3,h4⟩:=r6 e;exact ⟨j,h1,h,h2,h3,h4⟩
theorem ja {α:Type} {xs:List α} {v:α} (h:xs[j]?=some v):Yj xs (j:Int)=some v:=by
 have hj:j < xs.length:=(Mg.mp h).1
 have e:X6 xs.length (j:Int)=some j:=by unfold X6;rw [Mc (by omega),Mc (by omega)];simp
 unfold Yj;rw [e];exact h
theorem z0 {α:Type} (xs:List α) (v:α):Yj (xs++[v]) (-1)=some v:=by
 have hl:(xs++[v]).length=xs.length+1:=by simp
 have e:X6 (xs++[v]).length (-1)=some xs.length:=by unfold X6;rw [hl,LZ (by decide),Mc (by omega)];congr 1;omega
 unfold Yj;rw [e];show (xs++[v])[xs.length]?=some v;simp
noncomputable def Cs (b:Expr):Prop:=∀ o i,subscripted b false o i=operate [o,i] (getItem o i)
noncomputable def Y4 (X:Cx) (r:R2):Prop :=
 ∀ (value slice:Expr) (pins:List (Addr × Obj)) (s:Shared) (σ:St) (H:Hp) (x y:V) (v u:Value) (Q:VK),Inv X pins σ H s->RelV x v->RelV y u->r x y H Q ->
  subscripted slice false v u=operate [v,u] (getItem v u)->wpAny (model X.prog X.w) X.A (subscriptTail value slice v u) (EP X pins σ Q) X.xe s
noncomputable def MtR (X:Cx) (id:String) (r:V->List V->Hp->VK->Prop):Prop :=
 ∀ (pins:List (Addr × Obj)) (s:Shared) (σ:St) (H:Hp) (x:V) (xs:List V) (v:Value) (us:List Value) (Q:VK),Inv X pins σ H s->RelV x v->Vals xs us->r x xs H Q ->
  wpAny (model X.prog X.w) X.A (call (.builtin id) (v::us)) (EP X pins σ Q) X.xe s
section
variable {X:Cx} {a b:Expr} {ta tb:TE} {pos:Pos}
theorem Y4.or {r r':R2} (h:Y4 X r) (h':Y4 X r'):Y4 X (λx y H Q=>r x y H Q\/r' x y H Q):=by
 intro value slice pins s σ H x y v u Q I rx ry q hs;rcases q with q | q
 ·exact h value slice pins s σ H x y v u Q I rx ry q hs
 ·exact h' value slice pins s σ H x y v u Q I rx ry q hs
theorem bB {r:R2} (hr:Y4 X r) (ha:PE X a ta) (hb:PE X b tb) (hs:Cs b:=by exact λ_ _=>rfl):PE X (.Subscript a b pos) (S8 r ta tb):=by intro pins s σ H Q I h;exact Subscript_ (Es ha hb I h λv u s2 x y H2 I2 rx ry q=>hr a b pins s2 σ H2 x y v u Q I2 rx ry q (hs _ _))
noncomputable def Bu (K:W.Frag):R2:=λx y H Q=>∃ p xs i v,x=.ref p/\y=.int i/\PJ K H p xs/\Yj xs i=some v/\Q v H
noncomputable def pN (K:W.Frag):R2:=λx y H Q=>∃ p xs i v,x=.ref p/\y=.int i/\QE K H p xs/\Yj xs i=some v/\Q v H
theorem PZ:Y4 X (Bu X.K):=by
 intro value slice pins s σ H x y v u Q I rx ry h hs;obtain ⟨p,xs,i,z,rfl,rfl,hq,he,q⟩:=h;cases rx;obtain ⟨t,rfl⟩:=ry;obtain ⟨its,r,pl,hz⟩:=I.list hq;obtain ⟨j,h1,h2,h3,h4,h5⟩:=xC he;obtain ⟨w,ew,rw'⟩:=r.get h2;have hl:=r.length;have hn:=kT;have fin:EP X pins σ Q w s:=⟨z,H,I,rw',q⟩
 by_cases h0:0<=i
 ·have hj:i.toNat=j:=by
   rw [seqIndex_of h0 h5] at h1;exact ME h1
  exact item_listR pl.isList h0 (by omega) (by rw [hj];simpa using ew) fin hs
 ·have hj:(i+(its.toArray.size:Int)).toNat=j:=by
   rw [seqIndex_neg (by omega) h4] at h1;rw [Me,<- hl];exact ME h1
  exact subscriptTail_builtinR (x:=w) pl.isList.typeIs slot_list_getitem.lookup
   (wpAny_getItem_list_neg (Q:=λr s'=>r=w/\EP X pins σ Q r s') pl.isList (by omega) (by rw [Me] <;> omega) (by omega) (by rw [hj];simpa using ew) ⟨rfl,fin⟩) hs
theorem aW:Y4 X (pN X.K):=by
 intro value slice pins s σ H x y v u Q I rx ry h hs;obtain ⟨p,xs,i,z,rfl,rfl,hq,he,q⟩:=h;cases rx;obtain ⟨t,rfl⟩:=ry;obtain ⟨its,r,pl,hz⟩:=I.tuple hq;obtain ⟨j,h1,h2,h3,h4,h5⟩:=xC he;obtain ⟨w,ew,rw'⟩:=r.get h2;have hl:=r.length;have hn:=kT;have fin:EP X pins σ Q w s:=⟨z,H,I,rw',q⟩
 exact subscriptTail_builtinR (x:=w) pl.typeIs slot_tuple_getitem.lookup
  (getItem_tuple (j:=j) (Q:=λr s'=>r=w/\EP X pins σ Q r s') pl (by omega) (by omega) (by rw [Me,<- hl];exact h1) (by simpa using ew) ⟨rfl,fin⟩) hs
theorem wt (its:List Value) (n j:Nat) (u:Value):Obj.mapSeq (·.setIfInBounds j u) { cls:=.type "list",data:=.seq its.toArray n }={ cls:=.type "list",data:=.seq (its.set j u).toArray n }:=by simp [Obj.mapSeq]
variable {pins:List (Addr × Obj)} {σ:St} {H:Hp} {s:Shared} {p:Addr} {xs:List V}
theorem Inv.lst (I:Inv X pins σ H s) (h:H p=some (.lst xs)) :
  ∃ (its:List Value) (n:Nat),Vals xs its/\s.heap.get? p=some { cls:=.type "list",data:=.seq its.toArray n }/\xs.length<=sizeLine:=by
 obtain ⟨z,its,n,r,e⟩:=I.hok p _ h;exact ⟨its,n,r,e,z⟩
theorem Inv.Zt {ys:List V} {its its':List Value} {n n':Nat} {f:Obj->Obj} (I:Inv X pins σ H s) (h:H p=some (.lst xs))
  (ho:s.heap.get? p=some { cls:=.type "list",data:=.seq its.toArray n }) (hf:f { cls:=.type "list",data:=.seq its.toArray n }={ cls:=.type "list",data:=.seq its'.toArray n' }) (r:Vals ys its') (hz:ys.length<=sizeLine) (t:Nat) :
  Inv X pins σ (upd H p (.lst ys)) { s with heap:=s.heap.update p f,toks:=t }:=by
 have e:(s.heap.update p f).get? p=some { cls:=.type "list",data:=.seq its'.toArray n' }:=by rw [OL f ho (by rw [hf] <;> rfl),hf]
 refine I.write (x:=p) (e:=p) (by rw [h];trivial) (.inl rfl) (λb u hb q=>(Heap.get?_update_other _ _ (MQ hb)).trans q) ⟨_,e⟩ ?_;exact ⟨hz,its',n',r,e⟩
noncomputable def FQ:V->V->V->Hp->(Hp->Prop)->Prop:=λo i v H Q=>∃ p xs k j,o=.ref p/\i=.int k/\H p=some (.lst xs)/\X6 xs.length k=some j/\Q (upd H p (.lst (xs.set j v)))
theorem qk:Ed X FQ:=by
 intro pins s σ H o i v ov iv u Q I ro ri rv h;obtain ⟨p,xs,k,j,rfl,rfl,hp,hj,q⟩:=h;cases ro;obtain ⟨t,rfl⟩:=ri;obtain ⟨its,n,r,ho,hz⟩:=I.lst hp;obtain ⟨h1,h2,h3,h4⟩:=r6 hj;have hl:=r.length;have hn:=kT
 have I':Inv X pins σ (upd H p (.lst (xs.set j v))) { s with heap:=s.heap.update p (Obj.mapSeq (·.setIfInBounds j u)) } :=
  I.Zt hp ho (wt its n j u) (r.set rv j) (by rw [List.length_set];exact hz) s.toks
 by_cases h0:0<=k
 ·have hk:k.toNat=j:=by
   rw [seqIndex_of h0 h4] at h1;exact ME h1
  exact W.ki_setAt ho h0 (by omega) (by rw [Me,<- hl];exact h4) (by rw [hk];exact ⟨_,I',q⟩)
 ·have hk:(k+(its.toArray.size:Int)).toNat=j:=by
   rw [seqIndex_neg (by omega) h3] at h1;rw [Me,<- hl];exact ME h1
  exact W.ki_setBack ho (by omega) (by rw [Me,<- hl];exact h3) (by omega) (by rw [hk];exact ⟨_,I',q⟩)
theorem tR (lo hi:Option Int) (n:Nat):(sliceBounds lo hi none n).1=((HT.QF n 0 lo:Nat):Int)/\(sliceBounds lo hi none n).2.1=((HT.QF n n hi:Nat):Int)/\(sliceBounds lo hi none n).2.2=1:=by
 refine ⟨?_,?_,rfl⟩
 ·cases lo with
  | none=>simp [sliceBounds,HT.QF]
  | some i =>
   simp only [sliceBounds,HT.QF,Option.getD_none,show (1:Int) > 0 by decide,N1];by_cases h:i < 0
   ·simp only [h,N1] <;> omega
   ·simp only [h,Po] <;> omega
 ·cases hi with
  | none=>simp [sliceBounds,HT.QF]
  | some i =>
   simp only [sliceBounds,HT.QF,Option.getD_none,show (1:Int) > 0 by decide,N1];by_cases h:i < 0
   ·simp only [h,N1] <;> omega
   ·simp only [h,Po] <;> omega
theorem qE (its:List Value) (lo hi:Option Int):slicePick its.toArray lo hi none=((its.drop (HT.QF its.length 0 lo)).take (HT.QF its.length its.length hi - HT.QF its.length 0 lo)).toArray:=by obtain ⟨h1,h2,h3⟩:=tR lo hi its.toArray.size;unfold slicePick;rw [h1,h2,h3];simp only [sliceRange_one,pick_run,Me] <;> rfl
noncomputable def E1 (K:W.Frag):V->Option Int->Option Int->Hp->VK->Prop:=λx lo hi H Q=>∃ a xs,x=.ref a/\PJ K H a xs/\∀ p,H p=none->Q (.ref p) (upd H p (.lst (lM xs lo hi)))
theorem Xk:Zf X (E1 X.K):=by intro pins s σ H x v vl vu lo hi sl Q I rx hs pl pu h;obtain ⟨a,xs,rfl,hx,q⟩:=h;cases rx;obtain ⟨its,r,ht,hz⟩:=I.list hx;have hlen:=r.length;refine ⟨"list",_,slot_list_getitem.lookup,ht.isList.typeIs,?_⟩;refine wpAny_getItem_list_slice ht.isList hs pl pu .none (by simp) ?_ (by rw [Me] <;> omega);rw [qE,<- hlen];refine ⟨.ref s.heap.objs.size,_,I.laid (t':=s.toks) (o:=.lst (lM xs lo hi)) (λb ob q=>LX _ q) (L7 _) ?_,rfl,q _ (I.hok.fresh (L7 _))⟩;exact ⟨Mr (ny xs lo hi) hz,_,0,(r.drop (HT.QF xs.length 0 lo)).take (HT.QF xs.length xs.length hi - HT.QF xs.length 0 lo),Mu _ rfl⟩
noncomputable def kF:V->Bool
 | .Py=>true
 | .bl _=>true
 | .int _=>true
 | .str _=>true
 | _=>false
noncomputable def Yr:V->V->Bool
 | .Py,.Py=>true
 | .bl a,.bl b=>a == b
 | .bl a,.int b=>(if a then 1 else 0) == b
 | .int a,.bl b=>a == (if b then 1 else 0)
 | .int a,.int b=>a == b
 | .str a,.str b=>a == b
 | _,_=>false
variable {A:Around} {y x:V} {u v:Value}
theorem Ey (ry:RelV y u) (rx:RelV x v) (fy:kF y=true) (fx:kF x=true):SeqAt.EqAt A s u v (Yr y x):=by
 cases y with
 | Py =>
  cases ry
  cases x with
  | Py=>cases rx;exact SeqAt.EqAt.same _
  | bl b=>cases rx;exact SeqAt.EqAt.none_bool b
  | int b=>obtain ⟨t,rfl⟩:=rx;exact SeqAt.EqAt.none_int b t
  | str b=>obtain ⟨t,rfl⟩:=rx;exact SeqAt.EqAt.none_str b t
  | _=>exact absurd (show false=true from fx) L6
 | bl a =>
  cases ry
  cases x with
  | Py=>cases rx;exact SeqAt.EqAt.bool_none a
  | bl b=>cases rx;exact SeqAt.EqAt.bool_bool a b
  | int b=>obtain ⟨t,rfl⟩:=rx;exact SeqAt.EqAt.bool_int a b t
  | str b=>obtain ⟨t,rfl⟩:=rx;exact SeqAt.EqAt.bool_str a b t
  | _=>exact absurd (show false=true from fx) L6
 | int a =>
  obtain ⟨t',rfl⟩:=ry
  cases x with
  | Py=>cases rx;exact SeqAt.EqAt.int_none a t'
  | bl b=>cases rx;exact SeqAt.EqAt.int_bool a t' b
  | int b=>obtain ⟨t,rfl⟩:=rx;exact SeqAt.EqAt.int_int a t' b t
  | str b=>obtain ⟨t,rfl⟩:=rx;exact O3 a t' b t
  | _=>exact absurd (show false=true from fx) L6
 | str a =>
  obtain ⟨t',rfl⟩:=ry
  cases x with
  | Py=>cases rx;exact SeqAt.EqAt.str_none a t'
  | bl b=>cases rx;exact SeqAt.EqAt.str_bool a t' b
  | int b=>obtain ⟨t,rfl⟩:=rx;exact O4 a t' b t
  | str b=>obtain ⟨t,rfl⟩:=rx;exact SeqAt.EqAt.str_str a t' b t
  | _=>exact absurd (show false=true from fx) L6
 | _=>exact absurd (show false=true from fy) L6
noncomputable def XO (x:V) (u:Value):Bool:=match u with
 | .none=>Yr .Py x
 | .bool b=>Yr (.bl b) x
 | .int i _=>Yr (.int i) x
 | .str z _=>Yr (.str z) x
 | _=>false
theorem Aw (r:RelV y u) (f:kF y=true):XO x u=Yr y x:=by
 cases y with
 | Py=>cases r;rfl
 | bl b=>cases r;rfl
 | int i=>obtain ⟨t,rfl⟩:=r;rfl
 | str z=>obtain ⟨t,rfl⟩:=r;rfl
 | _=>exact absurd (show false=true from f) L6
theorem lH:∀ {xs:List V} {us:List Value},Vals xs us->xs.all kF=true->us.any (XO x)=xs.any λy=>Yr y x
 | _,_,.nil,_=>rfl
 | y::xs,u::us,.cons r t,f=>by rw [List.all_cons,LW] at f;rw [Pf,Pf,Aw r f.1,lH t f.2]
theorem j8 (rx:RelV x v) (fx:kF x=true):∀ {xs:List V} {us:List Value},Vals xs us->xs.all kF=true->∀ u ∈ us,SeqAt.EqAt A s u v (XO x u)
 | _,_,.nil,_=>λu hu=>by cases hu
 | y::xs,u::us,.cons r t,f=>λu' hu=>by
  rw [List.all_cons,LW] at f;rcases Mm.mp hu with rfl | hu
  ·rw [Aw r f.1];exact Ey r rx f.1 fx
  ·exact j8 rx fx t f.2 u' hu
noncomputable def Zg (x:V) (xs:List V):Bool:=xs.any λy=>Yr y x
noncomputable def Zu (K:W.Frag) (neg:Bool):R2:=λx y H Q=>∃ p xs,y=.ref p/\(PJ K H p xs\/QE K H p xs)/\kF x=true/\xs.all kF=true/\Q (.bl (if neg then !Zg x xs else Zg x xs)) H
theorem eA:Se X (compareOp .In) (Zu X.K false):=by
 intro pins s σ H x y v u Q I rx ry h;obtain ⟨p,xs,rfl,hq,fx,fs,q⟩:=h;cases ry;rcases hq with hq | hq
 ·obtain ⟨its,r,pl,hz⟩:=I.list hq;refine SeqAt.in_listAt (XO x) pl.isList (λw hw=>j8 rx fx r fs w (by simpa using hw)) ⟨.bl _,H,I,rfl,?_⟩;rw [show its.toArray.any (XO x)=its.any (XO x) by simp,lH r fs];exact q
 ·obtain ⟨its,r,pl,hz⟩:=I.tuple hq;refine SeqAt.in_tupleAt (XO x) pl (λw hw=>j8 rx fx r fs w (by simpa using hw)) ⟨.bl _,H,I,rfl,?_⟩;rw [show its.toArray.any (XO x)=its.any (XO x) by simp,lH r fs];exact q
theorem sS:Se X (compareOp .NotIn) (Zu X.K true):=by
 intro pins s σ H x y v u Q I rx ry h;obtain ⟨p,xs,rfl,hq,fx,fs,q⟩:=h;cases ry;rcases hq with hq | hq
 ·obtain ⟨its,r,pl,hz⟩:=I.list hq;refine SeqAt.notIn_listAt (XO x) pl.isList (λw hw=>j8 rx fx r fs w (by simpa using hw)) ⟨.bl _,H,I,rfl,?_⟩;rw [show its.toArray.any (XO x)=its.any (XO x) by simp,lH r fs];exact q
 ·obtain ⟨its,r,pl,hz⟩:=I.tuple hq;refine SeqAt.notIn_tupleAt (XO x) pl (λw hw=>j8 rx fx r fs w (by simpa using hw)) ⟨.bl _,H,I,rfl,?_⟩;rw [show its.toArray.any (XO x)=its.any (XO x) by simp,lH r fs];exact q
theorem aZ:jo X (.builtin "len") (λxs H Q=>∃ p ys,xs=[.ref p]/\(PJ X.K H p ys\/QE X.K H p ys)/\Q (.int ys.length) H):=by
 intro pins s σ H xs us Q I r h;obtain ⟨p,ys,rfl,hq,q⟩:=h;obtain ⟨u,rfl,rx⟩:=jC r;cases rx;have hn:=kT;rcases hq with hq | hq
 ·obtain ⟨its,r',pl,hz⟩:=I.list hq;have hlen:=r'.length;exact Calls.call_len_list pl.isList (by simp only [Me] <;> omega) ⟨.int ys.length,H,I.tok _,⟨s.toks+1,by rw [Me,hlen]⟩,q⟩
 ·obtain ⟨its,r',pl,hz⟩:=I.tuple hq;have hlen:=r'.length;exact len_tuple pl (by simp only [Me] <;> omega) ⟨.int ys.length,H,I.tok _,⟨s.toks+1,by rw [Me,hlen]⟩,q⟩
theorem rO:jo X (.builtin "len") (λxs H Q=>∃ z,xs=[.str z]/\z.length<=sizeLine/\Q (.int z.length) H):=by intro pins s σ H xs us Q I r h;obtain ⟨z,rfl,hz,q⟩:=h;obtain ⟨u,rfl,t,rfl⟩:=jC r;have hn:=kT;exact len_str (by omega) ⟨.int z.length,H,I.tok _,⟨_,rfl⟩,q⟩
theorem fD:jo X (.type "list") (λxs H Q=>∃ p ys,xs=[.ref p]/\(PJ X.K H p ys\/QE X.K H p ys)/\∀ l,H l=none->Q (.ref l) (upd H l (.lst ys))):=by
 intro pins s σ H xs us Q I r h;obtain ⟨p,ys,rfl,hq,q⟩:=h;obtain ⟨u,rfl,rx⟩:=jC r;cases rx
 have fin:∀ (its:List Value),Vals ys its->ys.length<=sizeLine->∀ (h':Heap) (c':Nat),(∀ b o',s.heap.get? b=some o'->h'.get? b=some o') ->
   h'.get? s.heap.objs.size=some { cls:=.type "list",dict:=none,data:=.seq its.toArray c',slots:=#[] }->EP X pins σ Q (.ref s.heap.objs.size) { s with heap:=h' }:=λits r' hz h' c' kp e =>
  ⟨.ref s.heap.objs.size,_,I.laid (t':=s.toks) kp (L7 _) (show P1 X.prog X.w _ h' _ (.lst ys) from ⟨hz,its,c',r',e⟩),rfl,q _ (I.hok.fresh (L7 _))⟩
 rcases hq with hq | hq
 ·obtain ⟨its,r',pl,hz⟩:=I.list hq;have hlen:=r'.length;obtain ⟨o,ho,hc,n,hd⟩:=pl.isList;exact call_list_seq p (.inl rfl) ho hc hd (λh' c' kp e=>fin its r' hz h' c' kp e) (by simp only [Me] <;> omega)
 ·obtain ⟨its,r',pl,hz⟩:=I.tuple hq;have hlen:=r'.length;obtain ⟨o,ho,hc,n,hd⟩:=pl;exact call_list_seq p (.inr rfl) ho hc hd (λh' c' kp e=>fin its r' hz h' c' kp e) (by simp only [Me] <;> omega)
theorem jh:jo X (.type "tuple") (λxs H Q=>∃ p ys,xs=[.ref p]/\((PJ X.K H p ys/\∀ l,H l=none->Q (.ref l) (upd H l (.tup ys)))\/(QE X.K H p ys/\Q (.ref p) H))):=by
 intro pins s σ H xs us Q I r h;obtain ⟨p,ys,rfl,h⟩:=h;obtain ⟨u,rfl,rx⟩:=jC r;cases rx;rcases h with ⟨hq,q⟩ | ⟨hq,q⟩
 ·obtain ⟨its,r',pl,hz⟩:=I.list hq;have hlen:=r'.length;refine call_tuple_list pl.isList (λh' kp=>?_) (by simp only [Me] <;> omega);have I1:Inv X pins σ H { s with heap:=h' }:=I.kept (t':=s.toks) kp
  have I2:Inv X pins σ (upd H h'.objs.size (.tup ys)) { s with heap:=h'.push { cls:=.type "tuple",data:=.seq its.toArray } } :=
   I1.laid (t':=s.toks) (λb o e=>LX _ e) (L7 _) (show P1 X.prog X.w _ _ _ (.tup ys) from ⟨hz,its,r',IsTup.new _ _⟩)
  exact ⟨.ref h'.objs.size,_,I2,rfl,q _ (I1.hok.fresh (L7 _))⟩
 ·obtain ⟨its,r',pl,hz⟩:=I.tuple hq;exact call_tuple_same pl ⟨.ref p,H,I,rfl,q⟩
noncomputable def ZV (K:W.Frag) (T:String) (x:V) (H:Hp):Prop:=match x with
 | .str _=>T="str"
 | .int _=>T="int"
 | .ref p=>(T="list"/\∃ xs,PJ K H p xs)\/(T="tuple"/\∃ o,K.lookup p=some o/\o.cls=.type "tuple"/\o.dict=none) \/
   (T="dict"/\((∃ kvs,H p=some (.dK kvs))\/∃ kvs,H p=some (.dT kvs)))\/(T="set"/\∃ S n,H p=some (.set S n))
 | _=>False
theorem Ce {T:String} (I:Inv X pins σ H s) (r:RelV x v) (ty:ZV X.K T x H) :
  s.TypeIs v T/\∀ a,v=.ref a->∃ ob,s.heap.get? a=some ob/\ob.dict=none:=by
 cases x with
 | str z =>obtain ⟨t,rfl⟩:=r;cases (show T="str" from ty);exact ⟨typeIs_str s z t,λ_ e=>nomatch e⟩
 | int i =>obtain ⟨t,rfl⟩:=r;cases (show T="int" from ty);exact ⟨typeIs_int s i t,λ_ e=>nomatch e⟩
 | ref p =>
  cases r;rcases ty with ⟨rfl,xs,hq⟩ | ⟨rfl,o,hk,hc,hd⟩ | ⟨rfl,hk⟩ | ⟨rfl,S,n,hk⟩
  ·obtain ⟨its,_,pl,_⟩:=I.list hq;refine ⟨pl.isList.typeIs,λa e=>?_⟩;cases e;obtain ⟨o,n,e,c,hd,_⟩:=pl;exact ⟨o,e,hd⟩
  ·refine ⟨⟨o,I.Sb p o hk,hc⟩,λa e=>?_⟩;cases e;exact ⟨o,I.Sb _ o hk,hd⟩
  ·have z:∃ o,s.heap.get? p=some o/\o.ExactDict:=by
    rcases hk with ⟨kvs,hk⟩ | ⟨kvs,hk⟩
    ·obtain ⟨_,_,_,_,o,_,_,e,ex,_⟩:=I.hok p _ hk;exact ⟨o,e,ex⟩
    ·obtain ⟨_,_,_,_,o,_,_,e,ex,_⟩:=I.hok p _ hk;exact ⟨o,e,ex⟩
   obtain ⟨o,e,ex⟩:=z;refine ⟨⟨o,e,ex.1⟩,λa e2=>?_⟩;cases e2;exact ⟨o,e,ex.2.1⟩
  ·obtain ⟨o,_,_,_,e,ex,_⟩:=I.hok p _ hk;refine ⟨⟨o,e,ex.1⟩,λa e2=>?_⟩;cases e2;exact ⟨o,e,ex.2.1⟩
 | _=>exact False.elim ty
noncomputable def Fo (K:W.Frag) (T:String) (r:V->List V->Hp->VK->Prop) (to:TE):TE:=λσ H Q=>to σ H λx H1=>ZV K T x H1/\r x [] H1 Q
noncomputable def Zv (K:W.Frag) (T:String) (r:V->List V->Hp->VK->Prop) (to:TE) (t:TA):TE:=λσ H Q=>to σ H λx H1=>ZV K T x H1/\t σ H1 λxs H2=>r x xs H2 Q
variable {o e:Expr} {es:List Expr} {to:TE} {t:TA} {name:Str} {apos cpos:Pos} {T id:String} {r:V->List V->Hp->VK->Prop}
theorem pH (pa:PlainAttrs T) (slot:Slot T name id) (hty:typeOf (.builtin id)=pure (.type "method_descriptor")) (hm:MtR X id r) (ho:PE X o to)
  (hbase:attributeBase o name X.env (eval o X.env)=eval o X.env:=by rfl) (hline:(apos.endLine == cpos.line)=true:=by rfl):PE X (.Call (.Attribute o name apos) [] [] cpos) (Fo X.K T r to):=by
 intro pins s σ H Q I h;refine wpAny_Call_method0_late hbase hline (PB (ho pins s σ H _ I h) λv s1 ⟨x,H1,I1,r1,ty,q1⟩=>?_);obtain ⟨h1,h2⟩:=Ce I1 r1 ty;exact ⟨T,id,pa,slot,hty,h1,h2,OF rfl (PySem.evalArgs_none (hm pins s1 σ H1 x [] v [] Q I1 r1 .nil q1))⟩
theorem eU (pa:PlainAttrs T) (slot:Slot T name id) (hty:typeOf (.builtin id)=pure (.type "method_descriptor")) (hm:MtR X id r) (ho:PE X o to) (ha:PA X (e::es) t)
  (hbase:attributeBase o name X.env (eval o X.env)=eval o X.env:=by rfl)
  (hfew:((backTo cpos (starEach (e::es) X.env)).all (λx=>!x.1) && (backToKw cpos (keywordEach [] X.env)).all (λx=>x.1.isSome)
   && decide ((e::es).length+([]:List Keyword).length+(if ([]:List Keyword).isEmpty then 0 else 1) < 30))=true:=by rfl)
  (hline:(apos.endLine == cpos.line)=true:=by rfl) (hs:starEach (e::es) X.env=(false,eval e X.env)::starEach es X.env:=by rfl) (hplain:(backTo cpos (starEach es X.env)).any (·.1)=false:=by rfl) :
  PE X (.Call (.Attribute o name apos) (e::es) [] cpos) (Zv X.K T r to t):=by
 intro pins s σ H Q I h;refine wpAny_Call_method_late hbase hfew hline rfl (PB (ho pins s σ H _ I h) λv s1 ⟨x,H1,I1,r1,ty,q1⟩=>?_);obtain ⟨h1,h2⟩:=Ce I1 r1 ty;refine ⟨T,id,pa,slot,hty,h1,h2,?_⟩;have hA:=ha cpos pins s1 σ H1 _ I1 q1;rw [hs] at hA ⊢;refine OF (by show (false || (backTo cpos (starEach es X.env)).any (·.1))=false;rw [hplain] <;> rfl) (Calls.evalArgs_plain ?_);exact PB hA λus s2 ⟨vs,H2,I2,r2,q2⟩=>hm pins s2 σ H2 x vs v us Q I2 r1 r2 q2
end
noncomputable def MtM (X:Cx) (id:String) (r:V->List V->Hp->VK->Prop):Prop :=
 ∀ (pins:List (Addr × Obj)) (s:Shared) (σ:St) (H:Hp) (x:V) (xs:List V) (v:Value) (us:List Value) (Q:VK),Inv X pins σ H s->RelV x v->Vals xs us->r x xs H Q ->
  wpAny (model X.prog X.w) X.A (call (.builtin id) (v::us)) (EP X pins σ Q) X.xe s
theorem Vals.one:∀ {x:V} {us:List Value},Vals [x] us->∃ u,us=[u]/\RelV x u
 | _,_,.cons r .nil=>⟨_,rfl,r⟩
theorem Vals.zero:∀ {us:List Value},Vals [] us->us=[]
 | _,.nil=>rfl
theorem Vals.dropLast {xs:List V} {us:List Value} (h:Vals xs us):Vals xs.dropLast us.dropLast:=by
 induction h with
 | nil=>exact .nil
 | cons r t ih =>
  cases t with
  | nil=>exact .nil
  | cons q t'=>exact .cons r ih
theorem wa {α:Type} (l:List α):l.eraseIdx (l.length - 1)=l.dropLast:=by
 induction l with
 | nil=>rfl
 | cons a r ih =>
  cases r with
  | nil=>rfl
  | cons b r =>
   have e:(a::b::r).length - 1=((b::r).length - 1)+1:=by have h1:(a::b::r).length=r.length+2:=rfl;have h2:(b::r).length=r.length+1:=rfl;omega
   rw [e,List.eraseIdx_cons_succ,ih]
   all_goals rfl
section
variable {X:Cx} {pins:List (Addr × Obj)} {σ:St} {H:Hp} {s:Shared} {l b:Addr} {xs ys zs:List V}
variable {its:List Value} {n t':Nat}
theorem Inv.Zw {its':List Value} {f:Array Value->Array Value} (I:Inv X pins σ H s) (hH:H l=some (.lst xs))
  (e:s.heap.get? l=some { cls:=.type "list",data:=.seq its.toArray n }) (hf:f its.toArray=its'.toArray) (hv:Vals ys its') (hz:ys.length<=sizeLine) :
  Inv X pins σ (upd H l (.lst ys)) { s with heap:=s.heap.update l (Obj.mapSeq f),toks:=t' }:=by
 have q:=PySem.IsL.update e f;rw [hf] at q;refine I.write (x:=l) (e:=l) (by rw [hH];exact trivial) (.inl rfl) (λb' u hb hu=>(Heap.get?_update_other s.heap (Obj.mapSeq f) (MQ hb)).trans hu) ⟨_,q⟩ ?_;exact ⟨hz,its',_,hv,q⟩
theorem Inv.lnew (I:Inv X pins σ H s) (hv:Vals ys its) (hz:ys.length<=sizeLine) :
  Inv X pins σ (upd H s.heap.objs.size (.lst ys)) { s with heap:=s.heap.push { cls:=.type "list",data:=.seq its.toArray },toks:=t' } :=
 I.laid (λ_ _ q=>LX _ q) (L7 _) ⟨hz,its,0,hv,Mu _ rfl⟩
theorem Inv.fresh (I:Inv X pins σ H s):H s.heap.objs.size=none:=I.hok.fresh (L7 _)
theorem Inv.YA (I:Inv X pins σ H s) (hH:H l=some (.lst xs)):xs.length<=sizeLine/\∃ (its:List Value) (n:Nat),Vals xs its/\xs.length=its.length/\s.heap.get? l=some { cls:=.type "list",data:=.seq its.toArray n }:=by obtain ⟨z,its,n,r,e⟩:=I.hok l _ hH;exact ⟨z,its,n,r,r.length,e⟩
theorem A5 (h:n<=sizeLine):Builtin.List.listTooLong n=false:=by unfold Builtin.List.listTooLong;exact LY (by omega)
end
section
variable {X:Cx}
noncomputable def jJ:V->List V->Hp->VK->Prop:=λx vs H Q=>∃ l xs y,x=.ref l/\vs=[y]/\H l=some (.lst xs)/\xs.length < sizeLine/\Q .Py (upd H l (.lst (xs++[y])))
theorem bU:MtM X "list.append" jJ:=by intro pins s σ H x vs v us Q I rx rv h;obtain ⟨l,xs,y,rfl,rfl,hH,hz,q⟩:=h;cases rx;obtain ⟨u,rfl,ru⟩:=rv.one;obtain ⟨z,its,n,r,hl,e⟩:=I.YA hH;refine call_meets Mz ⟨_,e,rfl⟩ F.entry_list_append (F.args_list_append_2 _ _) (PySem.list_append l its.toArray n u (by rw [Me];omega)) ⟨e,?_⟩;refine ⟨.Py,_,I.Zw (its':=its++[u]) hH e (by simp) (r.append (.cons ru .nil)) ?_,rfl,q⟩;rw [Ma,List.length_singleton];omega
noncomputable def yu:V->List V->Hp->VK->Prop:=λx vs H Q=>∃ l b xs zs,x=.ref l/\vs=[.ref b]/\H l=some (.lst xs)/\H b=some (.lst zs)/\xs.length+zs.length<=sizeLine/\Q .Py (upd H l (.lst (xs++zs)))
theorem gR:MtM X "list.extend" yu:=by
 intro pins s σ H x vs v us Q I rx rv h;obtain ⟨l,b,xs,zs,rfl,rfl,hH,hB,hz,q⟩:=h;cases rx;obtain ⟨u,rfl,ru⟩:=rv.one;cases ru;obtain ⟨z,its,n,r,hl,e⟩:=I.YA hH;obtain ⟨z2,its2,n2,r2,hl2,e2⟩:=I.YA hB;have hsz:its.toArray.size+its2.toArray.size<=sizeLine:=by rw [Me,Me];omega
 have hlong:¬ (!its.toArray.isEmpty && Builtin.List.listTooLong (its.toArray.size+its2.toArray.size))=true:=by rw [A5 hsz,Bool.and_false];exact L6
 refine call_meets Nt ⟨_,e,rfl⟩ F.entry_list_extend (F.args_list_extend_2 _ _)
  (AutoSeq1.list_extend_list_list_0 l its.toArray n b its2.toArray n2 hlong (by rw [Me];omega) (by omega)) ⟨e,e2,?_⟩
 refine ⟨.Py,_,I.Zw (its':=its++its2) hH e (by simp) (r.append r2) ?_,rfl,q⟩;rw [Ma];omega
noncomputable def Bx:V->List V->Hp->VK->Prop:=λx vs H Q=>∃ l xs y,x=.ref l/\vs=[]/\H l=some (.lst xs)/\xs[xs.length - 1]?=some y/\Q y (upd H l (.lst xs.dropLast))
theorem o9:MtM X "list.pop" Bx:=by
 intro pins s σ H x vs v us Q I rx rv h;obtain ⟨l,xs,y,rfl,rfl,hH,hy,q⟩:=h;cases rx;have Zx:=rv.zero;subst Zx;obtain ⟨z,its,n,r,hl,e⟩:=I.YA hH;obtain ⟨u,hu,ru⟩:=r.get hy
 have hy':its.toArray[its.toArray.size - 1]?=some u:=by show its.toArray[its.length - 1]?=some u;rw [<- Array.getElem?_toList,<- hl];exact hu
 refine call_meets N2 ⟨_,e,rfl⟩ F.entry_list_pop (F.args_list_pop_1 _) (MeetsSeq.list_pop_last l its.toArray n u hy' (by rw [Me];omega)) ⟨e,?_⟩;refine ⟨y,_,I.Zw (its':=its.dropLast) hH e ?_ r.dropLast ?_,ru,q⟩
 ·show its.toArray.eraseIdxIfInBounds (its.toArray.size - 1)=its.dropLast.toArray;rw [Me,List.eraseIdxIfInBounds_toArray,wa]
 ·rw [List.length_dropLast];omega
end
section
variable {prog:Program} {w:World} {A:Around} {E:Value->Shared->Prop} {s:Shared}
end
section
variable {X:Cx}
end
section
variable {κ:Type} [DecidableEq κ]
end
section
variable {P:Program} {w:World} {H:Hp} {h:Heap} {a:Addr}
end
section
variable {X:Cx} {pins:List (Addr × Obj)} {σ:St} {H:Hp} {s:Shared} {a:Addr} {y v:V} {u r:Value} {o:Option V} {A:Around} {E:Value->Shared->Prop}
theorem Inv.big (I:Inv X pins σ H s):sysModules < s.heap.objs.size:=by have h:mainGlobals < s.heap.objs.size:=(I.mod.glob.keeps I.bk).lt;exact Ni (by decide) h
end
section
variable {X:Cx} {pins:List (Addr × Obj)} {σ:St} {H:Hp} {s:Shared} {a:Addr} {kvs:List (Key × V)} {k:Key} {u:Value} {A:Around} {E:Value->Shared->Prop}
end
section
variable {X:Cx} {o i e value:Expr} {pos pos' tpos:Pos} {td ty tv:TE}
end
theorem Av {P:Program} {w:World} {H:Hp} (h:Heap) (hb:sysModules < h.objs.size):P1 P w H (h.push { cls:=.type "dict",data:=.dict #[] }) h.objs.size (.dT []) :=
 ⟨MK _,NG.mpr (MQ (Mq hb)),[],.nil,_,#[],0,Mu _ rfl,⟨rfl,rfl,rfl⟩,rfl,rfl,List.nodup_nil⟩
noncomputable def Fp:TE:=λ_ H Q=>∀ p,H p=none->Q (.ref p) (upd H p (.dT []))
section
variable {X:Cx} {pos:Pos}
theorem Bg:PE X (.Dict [] [] pos) Fp:=λpins s σ H Q I h =>
 wpAny_Dict_empty ⟨.ref s.heap.objs.size,_,I.laid (a:=s.heap.objs.size) (o:=.dT []) (t':=s.toks) (λ_ _ q=>LX _ q) (L7 _) (Av s.heap I.big),rfl,h _ (I.hok.fresh (L7 _))⟩
end
structure M2 (X:Cx) (o:Expr) (m:Str) (apos:Pos) (e f:Expr) (cpos:Pos):Prop where
 base:attributeBase o m X.env (eval o X.env)=eval o X.env
 few:((backTo cpos (starEach [e,f] X.env)).all (λx=>!x.1) && (backToKw cpos (keywordEach [] X.env)).all (λx=>x.1.isSome)
  && decide (([e,f]:List Expr).length+([]:List Keyword).length+(if ([]:List Keyword).isEmpty then 0 else 1) < 30))=true
 line:(apos.endLine == cpos.line)=true
 trees:backTo cpos (starEach [e,f] X.env)=[(false,eval e X.env),(false,eval f X.env)]
section
variable {X:Cx} {pins:List (Addr × Obj)} {σ:St} {H:Hp} {s:Shared} {a:Addr} {y d:V} {u r:Value} {o:Option V} {A:Around} {E:Value->Shared->Prop}
end
section
variable {X:Cx} {o e f:Expr} {apos cpos:Pos} {td ty tx:TE}
end
section
variable {X:Cx} {pins:List (Addr × Obj)} {σ:St} {H:Hp} {s:Shared} {a:Addr} {kvs:List (Key × V)} {A:Around} {E:Value->Shared->Prop}
end
section
variable {X:Cx} {pins:List (Addr × Obj)} {σ:St} {H:Hp} {s:Shared} {a:Addr} {y:V} {u:Value} {A:Around} {E:Value->Shared->Prop}
end
end L2
namespace Att
open PySem PySem.W PySem.Calls PyProof.Rows
variable {P:Params} {h:Heap}
theorem nS:∀ (ns:List Int) (vs:List Value),WellAll P h vs (ns.map WData.int)->IntsAre vs ns:=by
 intro ns
 induction ns with
 | nil =>intro vs w;rw [List.map_nil] at w;cases w;exact .nil
 | cons n ns ih =>
  intro vs w;rw [ND] at w
  cases w with
  | cons a b =>cases a;exact .cons _ _ (ih _ b)
variable {l:OpenLaw} {n:Nat}
theorem zF (hn:l.most=some n) {args:List WData} {vals:List Value}
  (hpre:l.row.toRowW.claim.pre args=true) (hwl:WellAll P h vals args) :
  ∃ a vs ns,vals=[Value.ref a]/\args=[WData.list (ns.map WData.int)]/\h.get? a=some { cls:=.type "list",data:=.seq vs.toArray }/\IntsAre vs ns/\ns.length<=n:=by
 have hsh:WShape.hasAll [] args [.list .int]=true:=(pre_splitW hpre).1;have hc:l.pre.holds [] { args:=args }=true:=(pre_splitW hpre).2;obtain ⟨d,r,rfl,h1,h2⟩:=hasAllW_cons hsh;obtain rfl:=hasAllW_nil h2;obtain ⟨xs,rfl,h3⟩:=hasW_list h1;obtain ⟨ns,rfl⟩:=items_int h3
 have hlen:ns.length<=n:=by
  unfold OpenLaw.pre at hc
  have h4:(WTm.not (.lt (.lit (.int (n:Int))) (.len (.arg 0)))).holds [] { args:=[.list (ns.map .int)] }=true:=by have h4:=(holds_andW hc).1;rw [hn] at h4;exact h4
  have h5:=condW_of h4 (w_not (w_lt w_lit (w_len_list (w_arg rfl))));rw [LR] at h5;refine Nat.le_of_not_lt λq=>?_;have q':(n:Int) < ((ns.length:Nat):Int):=by omega
  first
   | (rw [Mh q'] at h5;exact absurd h5 (by decide))
   | (simp at h5;omega)
 cases hwl with
 | cons w1 w2 =>
  cases w2
  cases w1 with
  | list ho hall=>exact ⟨_,_,ns,rfl,rfl,ho,nS ns _ hall,hlen⟩
theorem zp (l:OpenLaw) (args:List WData):l.row.toRowW.claim.post args (.bool true) args=true :=
 postW_of (r:=l.row.toRowW) (X:=(true == true))
  (show WShape.has [] (.bool true) .bool=true by first | rfl | decide | simp [WShape.has,WShape.arms,WShape.armsAll])
  (show (WTm.eq .res (.lit (.bool true))).value [] { args:=args,res:=some (.bool true),after:=args }=some (.bool (true == true)) from w_eq_bool (w_res rfl) w_lit) rfl
theorem Xy {q:Program} {loose:List Str} {XP:(Str->Option Value)->Heap->Prop} {YP:World->Heap->Prop} {d:DefRec}
  (hn:l.most=some n) (hdf:d.params.defaults=[])
  (call:∀ (w:World) (s₀ s₁:Shared) (mg mb:Str->Option Value) (fa:Addr) (o:Obj) (pm cd doc:Value) (a:Addr) (vs:List Value) (ns:List Int),
   Ground q loose [] XP w s₀ mg mb s₁.heap->YP w s₁.heap ->
   s₁.heap.get? fa=some o->o.data=.func (docDef d.name d.params d.body d.scope pm cd doc)->s₁.heap.CodeRec cd d.name->mg d.name=some (.ref fa) ->
   s₁.heap.get? a=some { cls:=.type "list",data:=.seq vs.toArray }->IntsAre vs ns->ns.length<=n->s₁.gens=#[] ->
   codeAny (model l.prog w) callerA (.call (.ref fa) ⟨[.ref a],[]⟩) (λr s'=>r=.ok (.ret (.bool true))/\OldK s₁.heap s'.heap/\s'.os=s₁.os/\AllBare s'.gens) s₁) :
  WalkO q loose XP YP l.row.toRowW d [] (λf vs=>PySem.call f vs):=by
 intro w s₀ s₁ mg mb G Y fa o pm cd doc dV kV ho hd hcd hD hmg hg args vals as hpre hlay hrd hwl hlo;obtain rfl:dV=.none:=Dflts.none hD hdf;obtain rfl:kV=.none:=Dflts.noKw hD;obtain ⟨a,vs,ns,rfl,rfl,hobj,hints,hlen⟩:=zF hn hpre hwl;refine enter_call (Nq (call w s₀ s₁ mg mb fa o pm cd doc a vs ns G Y ho (fd_plain hd) hcd hmg hobj hints hlen hg) λr s' hq=>?_);obtain ⟨rfl,h2,h3,h4⟩:=hq;exact ⟨.inl ⟨.bool true,.bool true,[],rfl,λ_=>rfl,.bool true,zp l _,λ_=>⟨List.Pairwise.nil,λ_ hm=>(nomatch hm)⟩⟩,h2,h3,h4⟩
section
variable {prog:Program} {w:World} {A:Around} {E:Value->Shared->Prop} {s:Shared} {K:Frag}
end
end Att
namespace L2
open PySem PySem.Spec PyProof.Rows
theorem rJ:∀ {vs:List Value} {ns:List Int},IntsAre vs ns->Vals (ns.map V.int) vs
 | _,_,.nil=>.nil
 | _,_,.cons n t h=>.cons ⟨t,rfl⟩ (rJ h)
noncomputable def Cr (H:Hp):Prop:=∀ b,H b=none\/∃ o xs,H b=some (.Yp o (.lst xs))
variable {P:Program} {w:World} {K:W.Frag} {mg:Str->Option Value} {CX:Xs} {k:Nat} {a:Addr} {fd:FuncData} {x:Str} {sp:Sp} {ns:List Int}
theorem AV {mb:Str->Option Value} {fa:Addr} {s₁:Shared} {vs:List Value}
  (KX:K.In s₁.heap) (hns:s₁.heap.Ns mainGlobals mg) (hb:s₁.heap.Ns builtinsNs mb) (hbb:∀ x:Str,x≠"__name__"->mb x=bootBuiltins x) (hlim:s₁.heap.NoLimit) (hg:s₁.gens=#[])
  (ha:s₁.heap.get? a=some { cls:=.type "list",data:=.seq vs.toArray }) (hi:IntsAre vs ns) (hl:ns.length<=sizeLine) (hr:P8 k callerA)
  (F:∀ base:Heap,K.In base->base.Ns mainGlobals mg->PD P w K mg base CX k fa fd [x] sp) (hbind:∀ (s:Shared) (u:Value),BindsTo s fd ⟨[u],[]⟩ [(x,u)])
  (Yq:∀ H:Hp,Cr H->PJ K H a (ns.map V.int)->sp [.ref a] H (λv _=>v=.bl true) λ_ _ _=>False)
  (hCX:∀ H e s',CX [] H s₁ (λ_ _ _=>False) e s'->False) :
  codeAny (model P w) callerA (.call (.ref fa) ⟨[.ref a],[]⟩) (λr s'=>r=.ok (.ret (.bool true))/\OldK s₁.heap s'.heap/\s'.os=s₁.os/\AllBare s'.gens) s₁:=by
 have rv:=rJ hi;have lenV:=hi.length
 have core:∀ H:Hp,Cr H->PJ K H a (ns.map V.int)->Uz P w H s₁.heap->(∀ b,H b≠none->b=a)->(H a≠none->K.lookup a=none) ->
   codeAny (model P w) callerA (.call (.ref fa) ⟨[.ref a],[]⟩) (λr s'=>r=.ok (.ret (.bool true))/\OldK s₁.heap s'.heap/\s'.os=s₁.os/\AllBare s'.gens) s₁:=by
  intro H hO hS hok hA hK;have X7:∀ {b:Addr} {o:Obj},s₁.heap.get? b=some o->H b=none->(rX s₁.heap H).get? b=some o:=λe n=>AL e n
  have noA:∀ {b:Addr} {o:Obj} {es:Array DictEntry} {ep:Nat},s₁.heap.get? b=some o->o.data=.dict es ep->H b=none:=λ{b o es ep} e d=>by
   cases q:H b with
   | none=>rfl
   | some u =>have e':b=a:=hA b (by rw [q];simp);subst e';rw [ha] at e;cases e;have d':Data.seq vs.toArray _=Data.dict es ep:=d;cases d'
  have nsK:∀ {b:Addr} {m:Str->Option Value},s₁.heap.Ns b m->(rX s₁.heap H).Ns b m:=λ{b m} ⟨o,es,ep,e,d,r⟩=>⟨o,es,ep,X7 e (noA e d),d,r⟩
  have hKb:K.In (rX s₁.heap H):=λb o e=>X7 (KX b o e) (by
   cases q:H b with
   | none=>rfl
   | some u =>have e':b=a:=hA b (by rw [q];simp);subst e';rw [hK (by rw [q];simp)] at e;cases e)
  have hM:Mod K mg (rX s₁.heap H):=⟨hKb,nsK hns,⟨mb,nsK hb,hbb⟩,let ⟨mc,h1,h2⟩:=hlim;⟨mc,nsK h1,h2⟩⟩
  have e0:XN P w K mg (rX s₁.heap H) callerA [] s₁ H:=⟨rfl,hM,λb o e=>CW e,NW (yZ _ _),trivial,λb hb=>absurd (show b ∈ ([]:List Addr) from hb) (by simp),hok,.of_eq hg⟩
  refine Nq ((F _ hKb (nsK hns)).run callerA [] s₁ H ⟨[.ref a],[]⟩ [.ref a] [.ref a] _ _ hr e0 (hbind s₁ (.ref a)) (.cons rfl .nil) (Yq H hO hS)) λr s' h=>?_
  cases r with
  | error e=>exact (hCX H e s' h).elim
  | ok fl =>
   cases fl with
   | next=>exact False.elim h
   | brk=>exact False.elim h
   | cont=>exact False.elim h
   | ret u =>
    obtain ⟨v,H',os,bare,un,Xl,r',q⟩:=h;have q':v=.bl true:=q;subst q';obtain rfl:u=Value.bool true:=r';refine ⟨rfl,OldK.of_keep λb o e=>?_,os,bare⟩
    cases q:H b with
    | none=>exact un.keep b o e q (by intro z;exact absurd (show b ∈ ([]:List Addr) from z) (by simp)) (by simp)
    | some u =>
     rcases hO b with z | ⟨ob,xs,z⟩
     ·rw [q] at z;cases z
     ·have z2:=un.Wo b ob _ z;obtain ⟨e1,_⟩:=hok b _ z;obtain ⟨e2,_⟩:=Xl b _ z2;rw [e] at e1;cases e1;exact e2
 cases hk:K.lookup a with
 | some o =>have e:=KX a o hk;rw [ha] at e;cases e;refine core (λ_=>none) (λ_=>.inl rfl) (.inr ⟨_,vs.toArray,_,hk,rfl,rfl,rfl,by rw [Me,lenV];exact hl,by simpa using rv⟩) (λb u z=>by have z':(none:Option HO)=some u:=z;cases z') (λb z=>absurd rfl z) λz=>absurd rfl z
 | none =>
  refine core (λb=>if b=a then some (.Yp { cls:=.type "list",data:=.seq vs.toArray } (.lst (ns.map V.int))) else none) (λb=>?_) (.inl (.inr ⟨{ cls:=.type "list",data:=.seq vs.toArray },Mc rfl⟩)) (λb u z=>?_) (λb z=>?_) λ_=>hk
  ·by_cases hb:b=a
   ·exact .inr ⟨_,_,Mc hb⟩
   ·exact .inl (LZ hb)
  ·by_cases hb:b=a
   ·have z':=(Mc hb).symm.trans z;cases z';subst hb;exact ⟨ha,by rw [LR];exact hl,vs,_,rv,ha⟩
   ·have z':=(LZ hb).symm.trans z;cases z'
  ·by_cases hb:b=a
   ·exact hb
   ·exact absurd (LZ hb) z
variable {n:Nat}
theorem Y5 {l:W.OpenLaw} {q:Program} {loose:List Str} {XP:(Str->Option Value)->Heap->Prop} {YP:World->Heap->Prop} {d:DefRec} {K:Params->W.Frag} {CX:World->Xs} {sp:World->Sp}
  (hn:l.most=some n) (hn2:n<=sizeLine) (hdf:d.params.defaults=[]) (hr:P8 k callerA)
  (hY:∀ (w:World) (h:Heap),YP w h->(K w.params).In h)
  (F:∀ (w:World) (mg:Str->Option Value) (fa:Addr) (h:Heap),(K w.params).In h->h.Ns mainGlobals mg->mg d.name=some (.ref fa) ->
   ∃ fd:FuncData,(∀ (s:Shared) (u:Value),BindsTo s fd ⟨[u],[]⟩ [(x,u)]) /\
    ∀ base:Heap,(K w.params).In base->base.Ns mainGlobals mg->PD l.prog w (K w.params) mg base (CX w) k fa fd [x] (sp w))
  (Yq:∀ (w:World) (H:Hp) (a:Addr) (ns:List Int),ns.length<=n->Cr H->PJ (K w.params) H a (ns.map V.int)->sp w [.ref a] H (λv _=>v=.bl true) λ_ _ _=>False)
  (hCX:∀ (w:World) (H:Hp) (s:Shared) (e:Value) (s':Shared),CX w [] H s (λ_ _ _=>False) e s'->False) :
  W.WalkO q loose XP YP l.row.toRowW d [] (λf vs=>PySem.call f vs):=by
 refine Att.Xy hn hdf λw s₀ s₁ mg mb fa o pm cd doc a vs ns G Y ho hd hcd hmg hobj hints hlen hg=>?_;have KX:=hY w _ Y;obtain ⟨fd,hb,hF⟩:=F w mg fa _ KX G.T.g hmg;exact AV KX G.T.g G.T.b G.T.builtins G.T.nolimit hg hobj hints (Mr hlen hn2) hr hF hb (λH hO hS=>Yq w H a ns hlen hO hS) λH e s'=>hCX w H s₁ e s'
noncomputable def bP (s:Stmt):Arguments:=match s with
 | .FunctionDef _ a _ _ _ _ _ _ _ _=>a
 | _=>{ posonlyargs:=[],args:=[],vararg:=none,kwonlyargs:=[],kw_defaults:=[],kwarg:=none,defaults:=[] }
noncomputable def bL (s:Stmt):List Stmt:=match s with
 | .FunctionDef _ _ b _ _ _ _ _ _ _=>b
 | _=>[]
noncomputable def aK (s:Stmt):Scope:=match s with
 | .FunctionDef _ _ _ _ _ _ sc _ _ _=>sc
 | _=>{ kind:=.function,names:=[],isGenerator:=false,isCoroutine:=false }
noncomputable abbrev U1:Xs:=λ_ _ _ _ _ _=>False
noncomputable abbrev E0:XK:=λ_ _ _=>False
variable {X:Cx}
theorem ka:fX U1 X E0:=λ_ _ _ _ _ _ _ h=>h.elim
structure W4 (K:W.Frag) (x qual:Str) (st:Stmt) (f:Addr) (fd:FuncData):Prop where
 ex:∃ (oc:Value) (od:Option Addr) (kV doc pm:Value) (an:Option Addr) (cdv ct:Value) (osl:Array (Option Value)),
  fd=W.fnOf x qual (bP st) (bL st) (aK st) .none kV doc pm an cdv ct/\K.lookup f=some ⟨oc,od,.func fd,osl⟩/\W.codeIn K cdv qual=true
 kp:W.keepIn K (.ref f)=true
section
variable {P:Program} {w:World} {K:W.Frag} {mg:Str->Option Value} {base:Heap}
variable {x qual:Str} {f:Addr} {fd:FuncData} {ps:List Str}
theorem W4.ok {st:Stmt} {N:List Str} {k:Nat} {sp:Sp} (F:W4 K x qual st f fd) (S:Pw N ps (aK st)) (len:∀ vs H Q E,sp vs H Q E->vs.length=ps.length)
  (hbody:∀ (cdv:Value) (A:Around) (outer:List Env) (s:Shared) (H:Hp) (vs:List V) (Q:VK) (E:XK),P8 k (A.deeper (envOfC qual (aK st) s.heap.objs.size f cdv))->sp vs H Q E ->
   ∃ t,Wc (nR U1 P w K mg base N qual (aK st) f cdv A outer s H E).Zq (bL st) t/\t { nx:=λ_ H'=>Q .Py H',rt:=Q } (gI N vs) H):PD P w K mg base U1 (k+1) f fd ps sp:=by
 obtain ⟨oc,od,kV,doc,pm,an,cdv,ct,osl,rfl,lk,hcd⟩:=F.ex;refine AA lk hcd S len λA outer s H vs Q E hr Yq=>?_;obtain ⟨t,h,q⟩:=hbody cdv A outer s H vs Q E hr Yq;exact ⟨t,h.Zq,q⟩
theorem W4.binds {st:Stmt} (F:W4 K x qual st f fd)
  (h:∀ (kV doc pm:Value) (an:Option Addr) (cdv ct:Value) (us:List Value),us.length=ps.length->bindArgs (W.fnOf x qual (bP st) (bL st) (aK st) .none kV doc pm an cdv ct) ⟨us,[]⟩=pure (ps.zip us)):Binds K fd ps []:=by
 obtain ⟨oc,od,kV,doc,pm,an,cdv,ct,osl,rfl,lk,hcd⟩:=F.ex;exact .all (h kV doc pm an cdv ct)
theorem f6 {st:Stmt} {oc:Value} {od an:Option Addr} {osl:Array (Option Value)} {kV doc pm cdv ct:Value} (l:K.lookup f=some ⟨oc,od,.func (W.fnOf x qual (bP st) (bL st) (aK st) .none kV doc pm an cdv ct),osl⟩)
  (c:W.codeIn K cdv qual=true) (k:W.keepIn K (.ref f)=true):W4 K x qual st f (W.fnOf x qual (bP st) (bL st) (aK st) .none kV doc pm an cdv ct):=⟨⟨oc,od,kV,doc,pm,an,cdv,ct,osl,rfl,l,c⟩,k⟩
end
theorem dJ (h:n<=1000):n < sizeLine:=O8 h (by decide)
section
variable {X:Cx}
theorem pv (i:Nat) {x:Str} {pos:Pos} (hN:X.N[i]?=some x:=by rfl) (hv:ZS X.env.scope x:=by first | exact Or.inl rfl | exact Or.inr (Or.inl rfl) | exact Or.inr (Or.inr rfl)) (hd:(x == ("__debug__":Str))=false:=by decide)
  (hcd:(x == ("__classdict__":Str))=false:=by decide):PE X (.Name x pos) (dW i):=EU hN hv hd hcd
end
theorem ji {A B:Prop} (h:B):if false=true then A else B:=by rw [LZ L6];exact h
theorem jG {A B:Prop} (h:A):if true=true then A else B:=by rw [Mc rfl];exact h
theorem CN {c A B:Prop} [Decidable c] (h1:c->A) (h2:¬ c->B):if c then A else B:=by
 by_cases h:c
 ·rw [Mc h];exact h1 h
 ·rw [LZ h];exact h2 h
noncomputable def Pr (H H':Hp):Prop:=∀ b o,H b=some o->H' b=some o
theorem Pr.refl (H:Hp):Pr H H:=λ_ _ h=>h
variable {H H1:Hp}
theorem Pr.trans {H2:Hp} (a:Pr H H1) (b:Pr H1 H2):Pr H H2:=λc o h=>b c o (a c o h)
variable {H':Hp} {l:Addr}
theorem Pr.free (e:Pr H H') (h:H' l=Option.none):H l=Option.none:=by
 cases q:H l with
 | none=>rfl
 | some o =>rw [e l o q] at h;cases h
variable {xs:List V}
theorem Pr.seq (e:Pr H H') (h:PJ K H a xs):PJ K H' a xs:=by
 rcases h with (h | ⟨o,h⟩) | h
 ·exact .inl (.inl (e _ _ h))
 ·exact .inl (.inr ⟨o,e _ _ h⟩)
 ·exact .inr h
section
variable {κ:Type} [DecidableEq κ]
end
noncomputable def rk (env:Env) (x:Str) (k:NameKind):NameKind :=
 if (k == NameKind.free && env.scope.kind == .function && env.kindOf x == some .cell)=true then .cell else k
theorem mw (sc:Scope) (env:Env) (x:Str):(relabel sc env).names.lookup x=(sc.names.lookup x).map (rk env x):=by
 have all:∀ l:List (Str × NameKind),(l.map λ(n,k)=>if (k == NameKind.free && env.scope.kind == .function && env.kindOf n == some .cell) then (n,NameKind.cell) else (n,k)).lookup x=(l.lookup x).map (rk env x):=by
  intro l
  induction l with
  | nil=>rfl
  | cons p r ih =>
   obtain ⟨n,k⟩:=p;rw [ND]
   cases hx:x == n with
   | true =>
    have e:x=n:=by simpa using hx
    subst e;by_cases c:(k == NameKind.free && env.scope.kind == .function && env.kindOf x == some .cell)=true
    ·simp [MT,rk,c]
    ·simp [MT,rk,c]
   | false =>
    have e1:((n,k)::r).lookup x=r.lookup x:=by rw [MT,hx]
    rw [e1,<- ih];by_cases c:(k == NameKind.free && env.scope.kind == .function && env.kindOf n == some .cell)=true
    ·show List.lookup x ((if (k == NameKind.free && env.scope.kind == .function && env.kindOf n == some .cell)=true then (n,NameKind.cell) else (n,k))::_)=_;rw [Mc c,MT,hx]
    ·show List.lookup x ((if (k == NameKind.free && env.scope.kind == .function && env.kindOf n == some .cell)=true then (n,NameKind.cell) else (n,k))::_)=_;rw [LZ c,MT,hx]
 exact all sc.names
theorem yC {env:Env}:rk env x .free=.cell\/rk env x .free=.free:=by
 unfold rk;split
 ·exact .inl rfl
 ·exact .inr rfl
theorem BQ {env:Env} {k:NameKind} (h:k≠.free):rk env x k=k:=by
 unfold rk;rw [LZ];intro c
 have:(k == NameKind.free)=true:=by
  cases q:(k == NameKind.free) with
  | true=>rfl
  | false=>rw [q] at c;simp at c
 exact h (by simpa using this)
noncomputable def ED:Option NameKind->Bool
 | some .free=>true
 | _=>false
noncomputable def EC:Option NameKind->Bool
 | some .free=>true
 | some .cell=>true
 | _=>false
noncomputable def EE:Option NameKind->Bool
 | some .local=>true
 | _=>false
theorem yf {o:Option NameKind} (h:ED o=true):o=some .free:=by
 cases o with
 | none=>cases h
 | some k=>cases k <;> first | rfl | cases h
theorem yd {o:Option NameKind} (h:EC o=true):o=some .cell\/o=some .free:=by
 cases o with
 | none=>cases h
 | some k=>cases k <;> first | exact .inl rfl | exact .inr rfl | cases h
theorem yh {o:Option NameKind} (h:EE o=true):o=some .local:=by
 cases o with
 | none=>cases h
 | some k=>cases k <;> first | rfl | cases h
noncomputable def dX (N:List Str) (ok:Str->Option NameKind) (names:List (Str × NameKind)) (own:List Str) (fr:List Nat) (N':List Str):Bool :=
 decide (N'=own++fr.map λj=>N.getD j "") && (fr.all λj=>decide (j < N.length) && ED (names.lookup (N.getD j ""))) &&
  names.all λp=>match p.2 with
   | .free=>EC (ok p.1)
   | .cell=>false
   | .local=>EE (names.lookup p.1)
   | _=>true
structure Blk (N:List Str) (ok:Str->Option NameKind) (names:List (Str × NameKind)) (own:List Str) (fr:List Nat) (N':List Str):Prop where
 eN:N'=own++fr.map λj=>N.getD j ""
 fr:∀ j ∈ fr,j < N.length/\names.lookup (N.getD j "")=some .free
 free:∀ p ∈ names,p.2=.free->ok p.1=some .cell\/ok p.1=some .free
 cell:∀ p ∈ names,p.2≠.cell
 loc:∀ p ∈ names,p.2=.local->names.lookup p.1=some .local
theorem vU {N:List Str} {ok:Str->Option NameKind} {names:List (Str × NameKind)} {own:List Str} {fr:List Nat} {N':List Str} (h:dX N ok names own fr N'=true):Blk N ok names own fr N':=by
 unfold dX at h;rw [LW,LW] at h;obtain ⟨⟨h1,h2⟩,h3⟩:=h;have h3':=MF.mp h3;refine ⟨LS h1,λj hj=>?_,λp hp e=>?_,λp hp e=>?_,λp hp e=>?_⟩
 ·have q:=MF.mp h2 j hj;rw [LW] at q;exact ⟨LS q.1,yf q.2⟩
 ·have q:=h3' p hp;rw [e] at q;exact yd q
 ·have q:=h3' p hp;rw [e] at q;cases q
 ·have q:=h3' p hp;rw [e] at q;exact yh q
noncomputable def Xu (own:List Str) (fr:List Nat) (σ:St):St:=own.map (λ_=>none)++fr.map λj=>(σ[j]?).getD none
theorem Ap (sc:Scope) (env:Env) (h:∀ p ∈ sc.names,p.2=.free->∃ c,env.cells.lookup p.1=some c) :
  ∃ cl,closureFor sc env=pure cl/\(∀ x c,cl.lookup x=some c->env.cells.lookup x=some c)/\∀ p ∈ sc.names,p.2=.free->cl.lookup p.1=env.cells.lookup p.1:=by
 unfold closureFor
 have all:∀ (l:List (Str × NameKind)) (acc:List (Str × Addr)),(∀ p ∈ l,p.2=.free->∃ c,env.cells.lookup p.1=some c)->(∀ x c,acc.lookup x=some c->env.cells.lookup x=some c) ->
   ∃ cl,(forIn l acc λ(p:Str × NameKind) (r:List (Str × Addr))=>(match p with
    | (name,kind)=>if (kind == NameKind.free)=true then (do let a <- cellOf env name;pure (ForInStep.yield ((name,a)::r))) else pure (ForInStep.yield r):Sem (ForInStep (List (Str × Addr)))))=pure cl /\
    (∀ x c,cl.lookup x=some c->env.cells.lookup x=some c)/\(∀ p ∈ l,p.2=.free->cl.lookup p.1=env.cells.lookup p.1)/\∀ x,acc.lookup x=env.cells.lookup x->cl.lookup x=env.cells.lookup x:=by
  intro l
  induction l with
  | nil=>intro acc _ ha;exact ⟨acc,rfl,ha,λp hp=>(by simp at hp),λx e=>e⟩
  | cons p r ih =>
   intro acc hl ha;obtain ⟨n,k⟩:=p;rw [List.forIn_cons];by_cases hk:k=.free
   ·subst hk;obtain ⟨c,hc⟩:=hl (n,.free) Mw rfl;have hce:cellOf env n=pure c:=by unfold cellOf;rw [hc]
    obtain ⟨cl,e1,e2,e3,e4⟩:=ih ((n,c)::acc) (λp hp=>hl p (Mt _ hp)) (λx c' e=>by
     rw [MT] at e
     cases hx:x == n with
     | true =>
      rw [hx] at e;have:x=n:=by simpa using hx
      subst this;cases e;exact hc
     | false=>rw [hx] at e;exact ha x c' e)
    refine ⟨cl,?_,e2,λp hp e=>?_,λx e=>e4 x ?_⟩
    ·simp only [beq_self_eq_true,N1,hce];exact e1
    ·rcases Mm.mp hp with rfl | hp
     ·exact e4 n (by rw [MT];simp [hc])
     ·exact e3 p hp e
    ·rw [MT]
     cases hx:x == n with
     | true =>
      have:x=n:=by simpa using hx
      subst this;simp [hc]
     | false=>exact e
   ·have hb:(k == NameKind.free)=false:=by simpa using hk
    obtain ⟨cl,e1,e2,e3,e4⟩:=ih acc (λp hp=>hl p (Mt _ hp)) ha;refine ⟨cl,?_,e2,λp hp e=>?_,e4⟩
    ·simp only [hb,O9,Po];exact e1
    ·rcases Mm.mp hp with rfl | hp
     ·exact absurd e hk
     ·exact e3 p hp e
 obtain ⟨cl,e1,e2,e3,_⟩:=all sc.names [] h (λx c e=>by simp at e);refine ⟨cl,?_,e2,e3⟩;have W8:=MH (λt:Sem (List (Str × Addr))=>t >>= λcs=>pure cs) e1
 first
  | exact W8
  | (simp only [pure_bind] at W8;exact W8)
  | (refine Eq.trans ?_ W8;rfl)
  | (dsimp only at W8 ⊢;exact W8)
noncomputable def Cx.Ry (X:Cx) (sc:Scope) (cl:List (Str × Addr)) (C:Addr) (N:List Str) (s:Shared) (H:Hp) (fp:List Addr):Cx where
 prog:=X.prog
 w:=X.w
 K:=X.K
 mg:=X.mg
 base:=X.base
 A:=X.A
 N:=N
 s₀:=s
 H₀:=H
 env:=compEnvC sc cl C X.env
 outer:=X.stack
 stack:=X.stack
 ex:=fp
 fn:=λ_=>false
 calm:=X.calm
 pn:=[]
 xe:=λ_ _=>False
section
variable {X:Cx} {pins:List (Addr × Obj)} {σ:St} {H:Hp} {s:Shared} {sc:Scope} {cl:List (Str × Addr)} {own:List Str} {fr:List Nat} {N':List Str} {fp:List Addr}
variable {C:Addr}
theorem qL (I:Inv X pins σ H s) (B:Blk X.N X.env.kindOf sc.names own fr N') (hk:sc.kind=.function)
  (sub:∀ x c,cl.lookup x=some c->X.env.cells.lookup x=some c) (has:∀ p ∈ sc.names,p.2=.free->cl.lookup p.1=X.env.cells.lookup p.1)
  (f2:∀ b ∈ fp,jT X pins H b) (fo:∀ b ∈ fp,b < s.heap.objs.size) {h1:Heap} {tk:Nat} {D:Addr} {n:Nat} (eD:D=s.heap.objs.size) (eC:s.heap.objs.size < C)
  (hns:h1.Ns C (λ_=>none)) (old:∀ b o,s.heap.get? b=some o->h1.get? b=some o) (hD:h1.get? D=some { cls:=.type "list",data:=.seq ([]:List Value).toArray n }) :
  Inv (X.Ry sc cl C N' s H fp) [] (Xu own fr σ) (upd H D (.lst [])) { s with heap:=h1,toks:=tk }:=by
 have WC:∀ x c,cl.lookup x=some c->c < s.heap.objs.size:=λx c e=>by obtain ⟨v,q⟩:=I.cell x c (sub x c e);exact q.lt
 have hDn:H D=none:=I.hok.fresh (NW eD.symm);have kind:∀ x,(X.Ry sc cl C N' s H fp).env.kindOf x=(sc.names.lookup x).map (rk X.env x):=λx=>mw sc X.env x
 refine ⟨⟨I.ok.mod,hk,I.ok.glob,I.ok.blt,Np eC,λx y c e1 e2=>I.ok.inj x y c (sub x c e1) (sub y c e2),λx hx=>?_,(λx c e=>nomatch (show false=true from e)),I.ok.hd,I.ok.frames,.inl rfl,λb hb=>⟨?_,λx c e=>?_⟩,I.bs,Mr I.ok.Yh I.sz,λb o e hb=>?_,λb hb=>?_,I.stack,I.Vr⟩,
  rfl,I.bare,Un.laid old (NW eD.symm) hDn,⟨_,hns,λi x v e1 e2 e3=>?_⟩,λx c e=>?_,?_,λx c e=>?_,λp hp=>?_,I.hok.laid old (NW eD.symm) ⟨MK _,[],n,.nil,hD⟩,?_⟩
 ·have hx':(sc.names.lookup x).map (rk X.env x)=some .cell\/(sc.names.lookup x).map (rk X.env x)=some .free:=by
   rw [<- kind x];exact hx
  cases q:sc.names.lookup x with
  | none=>rw [q] at hx';simp at hx'
  | some k =>
   have hm:=M0 q;by_cases hf:k=.free
   ·subst hf;show ∃ c,cl.lookup x=some c;rw [has _ hm rfl];have z:=B.free _ hm rfl;exact I.ok.has x z
   ·rw [q] at hx';simp only [Nu,BQ hf] at hx';rcases hx' with z | z
    ·exact absurd (ME z) (B.cell _ hm)
    ·exact absurd (ME z) hf
 ·exact Mq (Ni (fo b hb) eC)
 ·exact (f2 b hb).2.2.2.2.1 x c (sub x c e)
 ·rcases (f2 b hb).2.2.2.1 with z | z
  ·exact I.ok.Xv b o e z
  ·exact absurd (Mp (Mi e) (Mr I.ok.Yh z)) (M1 _)
 ·intro z;rcases Mm.mp (I.Vb b z) with e | e
  ·exact (f2 b hb).2.1 e
  ·exact (f2 b hb).2.2.1 e
 ·
  have W8:N'[i]?=some x:=e1
  have hi:¬ i < own.length:=λz=>by unfold Xu at e2;rw [Ot (by simpa using z),LV,LQ z] at e2;cases e2
  unfold Xu at e2;rw [Nd (by simpa using hi),LR,LV] at e2;rw [B.eN,Nd (by simpa using hi),LV] at W8
  cases q:fr[i - own.length]? with
  | none=>rw [q] at e2;cases e2
  | some j =>
   rw [q] at e2 W8;simp only [Nu,Option.some.injEq] at e2 W8;obtain ⟨hj,hfr⟩:=B.fr j (Mj q)
   have ej:X.N[j]?=some x:=by rw [<- W8,Ml,LQ hj];rfl
   have eσ:σ[j]?=some (some v):=by
    cases z:σ[j]? with
    | none=>rw [z] at e2;cases e2
    | some o=>rw [z] at e2;simp only [Option.getD_some] at e2;rw [e2]
   rw [W8] at hfr;have hm:=M0 hfr;have hok:=B.free _ hm rfl;obtain ⟨m0,hn0,Zh⟩:=I.loc
   have hv:ZS X.env.scope x:=by
    rcases hok with z | z
    ·exact .inr (.inl z)
    ·exact .inr (.inr z)
   obtain ⟨u,r,l⟩:=Zh j x v ej eσ hv;refine ⟨u,r,?_⟩;rcases l with ⟨z,_⟩ | ⟨_,c,hc,o,ho,hd⟩
   ·have Xl:X.env.kindOf x=some .cell\/X.env.kindOf x=some .free:=hok;rw [z] at Xl;rcases Xl with y | y <;> cases y
   ·refine .inr ⟨?_,c,?_,o,old c o ho,hd⟩
    ·rw [kind x,hfr];rcases yC (env:=X.env) (x:=x) with y | y
     ·exact .inl (by rw [Nu,y])
     ·exact .inr (by rw [Nu,y])
    ·show cl.lookup x=some c;have z:=has _ hm rfl;exact z.trans hc
 ·obtain ⟨v,o,ho,hd⟩:=I.cell x c (sub x c e);exact ⟨v,o,old c o ho,hd⟩
 ·show upd H D _ C=none;rw [aX (by rw [eD];exact MR eC)];exact I.hok.fresh (Np eC)
 ·show upd H D _ c=none;rw [aX (by rw [eD];exact Mq (WC x c e))];exact I.RY x c (sub x c e)
 ·exact absurd (show p ∈ ([]:List (Addr × Obj)) from hp) (by simp)
 ·show (Xu own fr σ).length=N'.length;rw [B.eN];simp [Xu]
theorem rM {σ':St} {H':Hp} {s':Shared} (I:Inv X pins σ H s) (f2:∀ b ∈ fp,jT X pins H b) (J:Inv (X.Ry sc cl C N' s H fp) [] σ' H' s'):Inv X pins σ H' s' :=
 I.Wb (ch:=fp) J.os J.base J.hok J.bare λb hb=>⟨(f2 b hb).2.2.2.1,(f2 b hb).2.1,(f2 b hb).2.2.2.2.1,(f2 b hb).2.2.2.2.2⟩
theorem Inv.young {s0:Shared} {H0:Hp} {σ0:St} {h':Heap} (I0:Inv X pins σ0 H0 s0) (I:Inv X pins σ H s) (hC:s0.heap.objs.size<=C) (hn:H C=none) (hs:Heap.SameBut C s.heap h'):Inv X pins σ H { s with heap:=h' } :=
 I.turned (t':=s.toks) (λb o hb e=>(hs.2 b hb).trans e) hn (MR (Mp I0.lt hC)) (.inr (Mr I0.sz hC))
  (λx c e z=>by
   obtain ⟨v,q⟩:=I0.cell x c e;exact absurd (Mp q.lt (by rw [z];exact hC)) (M1 _))
  (λp hp z=>absurd (Mp (Mi (I0.pin p hp).1) (by rw [z];exact hC)) (M1 _))
end
noncomputable def ud (X:Cx) (ifs:List Expr) (t:TT):Prop :=
 ∀ (pins:List (Addr × Obj)) (s:Shared) (σ:St) (H:Hp) (Q:Bool->Hp->Prop),Inv X pins σ H s->t σ H Q ->
  wpAny (model X.prog X.w) X.A (forIn ifs true λc r=>if r=true then do let ok <- isTrue c X.env (eval c X.env);pure (ForInStep.yield ok) else pure (ForInStep.yield r)) (TP X pins σ Q) X.xe s
noncomputable def fP:TT:=λ_ H Q=>Q true H
theorem cX:ud X [] fP:=λpins s σ H Q I h=>wpAny_tests_nil ⟨H,I,h⟩
theorem pI {c:Expr} {t:TT} (h:PT X c t):ud X [c] t:=λpins s σ H Q I hw=>wpAny_tests_one (h pins s σ H Q I hw)
section
variable {prog:Program} {w:World} {A:Around} {R:Result->Shared->Prop} {s:Shared}
theorem lL {elt target iter:Expr} {ifs:List Expr} {scope:Scope} {pos:Pos} {it acc:Value} {env:Env} (J:Nat->Shared->Prop)
  (turn:∀ n s,J n s->wpAny (model prog w) A (pyNext it) (λr s₁=>match r with
   | none=>R (.ok .next) s₁
   | some v=>wpAny (model prog w) A (letOwnedTupleGo target it v) (λ_ s₂=>wpAny (model prog w) A (assign target env v) (λ_ s₃ =>
     wpAny (model prog w) A (forIn ifs true λc r=>if r=true then do let ok <- isTrue c env (eval c env);pure (ForInStep.yield ok) else pure (ForInStep.yield r)) (λok s₄ =>
      if ok=true then wpAny (model prog w) A (eval elt env) (λx s₅=>wpAny (model prog w) A (call (.builtin "list.append") [acc,x]) (λ_ s₆=>∃ m,m < n/\J m s₆) (λ_ _=>False) s₅) (λ_ _=>False) s₄
      else ∃ m,m < n/\J m s₄) (λ_ _=>False) s₃) (λ_ _=>False) s₂) (λ_ _=>False) s₁) (λ_ _=>False) s)
  (n:Nat) (h:J n s):codeAny (model prog w) A (.compLoop (.ListComp elt [⟨target,iter,ifs,0⟩] scope pos) 0 it acc env) R s:=by
 refine codeAny_loop rfl J (λn s hJ=>?_) n h;show wpAny (model prog w) A ((compTurn (.ListComp elt [⟨target,iter,ifs,0⟩] scope pos) 0 it acc env).onRaise λx=>do noteFrame x env;theTreesLotGoes x) _ _ s;refine wpAny_noted (Pg ?_);rw [compTurn_list];refine LU (M4 (LU (PB (turn n s hJ) λr s₁ h₁=>?_)))
 cases r with
 | none=>exact L8 h₁
 | some v =>
  refine LU (PB h₁ λ_ s₂ h₂=>LU (PB h₂ λ_ s₃ h₃=>LU (PB h₃ λok s₄ h₄=>?_)))
  cases ok with
  | false=>exact L8 ⟨rfl,h₄⟩
  | true=>exact LU (LU (PB h₄ λx s₅ h₅=>LU (PB h₅ λ_ s₆ h₆=>L8 (L8 ⟨rfl,h₆⟩))))
end
noncomputable def gM (wi:TI) (mk:St->St) (g:TG) (tt:TT) (te:TE):TE:=λσ H Q=>wi σ H λJ H1=>∀ D,H1 D=none->∃ W:Nat->Nat->St->Hp->Prop,(∃ m,W 0 m (mk σ) (upd H1 D (.lst [])))/\∀ i m σ' H',W i m σ' H' ->
 (J.stop i H'/\Q (.ref D) H') \/
 (J.go i H'/\∃ Nx:St->Hp->Prop,(∀ σ'' PN,Nx σ'' PN->∃ m',m' < m/\W (i+1) m' σ'' PN)/\∀ x PN,J.Vs i H' x PN->g x σ' PN λσ2 H2=>tt σ2 H2 λb H3 =>
  if b=true then te σ2 H3 λv H4=>∃ ys,H4 D=some (.lst ys)/\ys.length < sizeLine/\Nx σ2 (upd H4 D (.lst (ys++[v]))) else Nx σ2 H3)
section
variable {X:Cx} {elt iter tg:Expr} {ifs:List Expr} {sc:Scope} {pos:Pos} {wi:TI} {own:List Str} {fr:List Nat} {N':List Str} {g:TG} {tt:TT} {te:TE}
theorem uv {pins:List (Addr × Obj)} {σ:St} {H:Hp} {s:Shared} {cl:List (Str × Addr)} {fp:List Addr} {it:Addr} {J:It} {tn:Nat->Heap->Prop} {E:Value->Shared->Prop} {Q:VK} {RR:Value->Addr->Result->Shared->Prop}
  (I:Inv X pins σ H s) (B:Blk X.N X.env.kindOf sc.names own fr N') (hk:sc.kind=.function) (hc:X.calm=true)
  (sub:∀ x c,cl.lookup x=some c->X.env.cells.lookup x=some c) (has:∀ p ∈ sc.names,p.2=.free->cl.lookup p.1=X.env.cells.lookup p.1)
  (T:mK X.prog X.w X.K tg J fp it tn) (st:tn 0 s.heap) (f2:∀ b ∈ fp,jT X pins H b)
  (hg:∀ cl C s H fp,PG (X.Ry sc cl C N' s H fp) tg g) (ht:∀ cl C s H fp,ud (X.Ry sc cl C N' s H fp) ifs tt) (he:∀ cl C s H fp,PE (X.Ry sc cl C N' s H fp) elt te)
  (hw:∀ D,H D=none->∃ W:Nat->Nat->St->Hp->Prop,(∃ m,W 0 m (Xu own fr σ) (upd H D (.lst [])))/\∀ i m σ' H',W i m σ' H' ->
   (J.stop i H'/\Q (.ref D) H') \/
   (J.go i H'/\∃ Nx:St->Hp->Prop,(∀ σ'' PN,Nx σ'' PN->∃ m',m' < m/\W (i+1) m' σ'' PN)/\∀ x PN,J.Vs i H' x PN->g x σ' PN λσ2 H2=>tt σ2 H2 λb H3 =>
    if b=true then te σ2 H3 λv H4=>∃ ys,H4 D=some (.lst ys)/\ys.length < sizeLine/\Nx σ2 (upd H4 D (.lst (ys++[v]))) else Nx σ2 H3))
  (hRR:∀ D C σ' H' s',D=s.heap.objs.size->s.heap.objs.size<=C->Inv (X.Ry sc cl C N' s H fp) [] σ' H' s'->Q (.ref D) H'->RR (.ref D) C (.ok .next) s') :
  wpAny (model X.prog X.w) X.A (newList []) (λacc s₃=>wpAny (model X.prog X.w) X.A (newFunctionEnv sc X.env.globals cl [] X.env.qual none .none (some X.env)) (λcenv s₄ =>
   codeAny (model X.prog X.w) X.A (.compStart (.ListComp elt [⟨tg,iter,ifs,0⟩] sc pos) 0 (.ref it) acc { cenv with scope:=relabel sc X.env }) (RR acc cenv.locals) s₄) E s₃) E s:=by
 have fo:∀ b ∈ fp,b < s.heap.objs.size:=λb hb=>by obtain ⟨o,e,_⟩:=T.obj _ _ st b hb;exact Mi e
 refine Nm (wpAny_newFunctionEnv B.cell (by intro y hy;simp at hy) (λh₁ hns₁ hsb₁=>?_) hk);dsimp only at hns₁ hsb₁ ⊢;generalize YB:s.heap.push { cls:=.type "list",dict:=none,data:=.seq ([]:List Value).toArray }=G at hns₁ hsb₁ ⊢;have hG:G.objs.size=s.heap.objs.size+1:=by rw [<- YB,MW]
 have hlt:s.heap.objs.size < G.objs.size:=by rw [hG];exact Nh _
 have old:∀ b o,s.heap.get? b=some o->h₁.get? b=some o:=λb o e =>
  hsb₁.extBut b o (Mq (Ni (Mi e) hlt)) (LX _ (YB ▸ LX _ e))
 have hacc:h₁.get? s.heap.objs.size=some { cls:=.type "list",data:=.seq ([]:List Value).toArray } :=
  hsb₁.extBut _ _ (Mq hlt) (LX _ (YB ▸ Mu _ rfl))
 obtain ⟨W,⟨m0,w0⟩,turn⟩:=hw s.heap.objs.size (I.hok.fresh (L7 _));have st₁:tn 0 h₁:=T.keep _ _ _ st λb _ o e=>old b o e
 have YC:h₁.Ns G.objs.size (λ_=>none):=by
  have e:(λx=>([]:List (Str × Value)).reverse.lookup x)=(λ_:Str=>(none:Option Value)):=by funext x;rfl
  first
   | exact hns₁
   | (rw [e] at hns₁;exact hns₁)
 have loop:∀ s₃:Shared,s₃={ s with heap:=h₁,toks:=s.toks+([]:List (Str × Value)).length } ->
   codeAny (model X.prog X.w) X.A (.compLoop (.ListComp elt [⟨tg,iter,ifs,0⟩] sc pos) 0 (.ref it) (.ref s.heap.objs.size) (compEnvC sc cl G.objs.size X.env)) (RR (.ref s.heap.objs.size) G.objs.size) s₃:=by
  rintro s₃ rfl;have I0:=qL (tk:=s.toks+([]:List (Str × Value)).length) I B hk sub has f2 fo rfl hlt YC old hacc
  have Ue:∀ {Rq:List (Addr × Obj)} {H':Hp},Rq=[]->(∀ b ∈ fp,H' b=none)->∀ b ∈ fp,jT (X.Ry sc cl G.objs.size N' s H fp) Rq H' b:=λep hn b hb=>by
   subst ep;refine ⟨hn b hb,Mq (Ni (fo b hb) hlt),λz=>?_,.inl hb,λx c e=>(f2 b hb).2.2.2.2.1 x c (sub x c e),λp hp=>absurd (show p ∈ ([]:List (Addr × Obj)) from hp) (by simp)⟩;rcases Mm.mp (I.Vb b z) with e | e
   ·exact (f2 b hb).2.1 e
   ·exact (f2 b hb).2.2.1 e
  have fr0:∀ b ∈ fp,upd H s.heap.objs.size (.lst []) b=none:=λb hb=>by rw [aX (Mq (fo b hb))];exact (f2 b hb).1
  refine lL (λn s'=>∃ i σ' H',Inv (X.Ry sc cl G.objs.size N' s H fp) [] σ' H' s'/\tn i s'.heap/\(∀ b ∈ fp,H' b=none)/\W i n σ' H') ?_ m0 ⟨0,_,_,I0,st₁,fr0,w0⟩;rintro n s3 ⟨i,σ3,H3,I3,st3,X4,w3⟩;rcases turn i n σ3 H3 w3 with ⟨stop,qn⟩ | ⟨go,Nx,hN,step⟩
  ·refine PB (T.done (X.Ry sc cl G.objs.size N' s H fp) rfl rfl rfl hc i [] s3 σ3 H3 _ I3 (Ue rfl X4) st3 stop) λr s4 ⟨hr,I4⟩=>?_;subst hr;exact hRR _ _ _ _ _ rfl (Np hlt) I4 qn
  ·refine PB (T.item (X.Ry sc cl G.objs.size N' s H fp) rfl rfl rfl hc i [] s3 σ3 H3 _ I3 (Ue rfl X4) st3 go) λr s4 ⟨u,hr,h4⟩=>?_;subst hr;refine PB h4 λ_ s5 ⟨x,H5,I5,r5,y5,Xj,YZ⟩=>?_;have Y0:=I5.pinned (Ue rfl YZ) (T.obj _ _ Xj);refine PB (hg cl G.objs.size s H fp _ s5 σ3 H5 x u _ Y0 r5 (step x H5 y5)) λ_ s6 ⟨σ6,H6,I6,q6⟩=>?_;refine PB (ht cl G.objs.size s H fp _ s6 σ6 H6 _ I6 q6) λok s7 ⟨H7,I7,q7⟩=>?_
   have again:∀ {s8:Shared} {H8:Hp},Inv (X.Ry sc cl G.objs.size N' s H fp) ([]++kY fp s5.heap) σ6 H8 s8->Nx σ6 H8 ->
     ∃ m,m < n/\∃ i σ' H',Inv (X.Ry sc cl G.objs.size N' s H fp) [] σ' H' s8/\tn i s8.heap/\(∀ b ∈ fp,H' b=none)/\W i m σ' H':=λ{s8 H8} I8 n8=>by
    obtain ⟨m',hm,w8⟩:=hN σ6 H8 n8;refine ⟨m',hm,i+1,σ6,H8,I8.Sd,T.keep _ _ _ Xj λb hb o e=>(I8.pin (b,o) (Ms _ (Ms _ (eL hb e)))).1,λb hb=>?_,w8⟩;obtain ⟨o,e,d⟩:=T.obj _ _ Xj b hb;exact (I8.pin (b,o) (Ms _ (Ms _ (eL hb e)))).2.1
   cases ok with
   | false =>rw [LZ L6] at q7 ⊢;exact again I7 q7
   | true =>rw [Mc rfl] at q7 ⊢;refine PB (he cl G.objs.size s H fp _ s7 σ6 H7 _ I7 q7) λy s8 ⟨v,H8,I8,rv,ys,hD8,hz,nx⟩=>?_;refine PB (bU (X:=X.Ry sc cl G.objs.size N' s H fp) _ s8 σ6 H8 (.ref s.heap.objs.size) [v] (.ref s.heap.objs.size) [y] (λ_ H9=>Nx σ6 H9) I8 rfl (.cons rv .nil) ⟨_,ys,v,rfl,rfl,hD8,hz,nx⟩) λ_ s9 ⟨_,H9,I9,_,n9⟩=>?_;exact again I9 n9
 exact OG (loop _ rfl) (T.self _ 0 _ _ _ st₁ (loop _ rfl))
theorem dZ (hi:PI X tg iter wi) (hk:sc.kind=.function) (hb:dX X.N X.env.kindOf sc.names own fr N'=true) (hc:X.calm=true)
  (hg:∀ cl C s H fp,PG (X.Ry sc cl C N' s H fp) tg g) (ht:∀ cl C s H fp,ud (X.Ry sc cl C N' s H fp) ifs tt) (he:∀ cl C s H fp,PE (X.Ry sc cl C N' s H fp) elt te)
  (hs:∀ x,foldedSetIterable iter X.env x=pure x:=by intro _;rfl):PE X (.ListComp elt [⟨tg,iter,ifs,0⟩] sc pos) (gM wi (Xu own fr) g tt te):=by
 intro pins s σ H Q I h;have B:=vU hb;obtain ⟨cl,hcl,sub,has⟩:=Ap sc X.env λp hp e=>I.ok.has p.1 (B.free p hp e);rw [eval_ListComp];refine Nv (use:=none) rfl hs hcl hk B.loc (PB (hi pins s σ H _ I h) λv s1 h1=>PB h1 λitv s2 h2=>?_);obtain ⟨it,fp,tn,J,H2,e,I2,T,st2,f2,body⟩:=h2;subst e;refine uv (RR:=λacc C=>compPost (model X.prog X.w) X.A X.xe none (EP X pins σ Q) acc C) I2 B hk hc sub has T st2 f2 hg ht he body ?_;intro D C σ' H' s' eD hC J' q;obtain ⟨m,hn,_⟩:=J'.loc;refine ⟨m,hn,λh' hs'=>⟨.ref D,H',?_,rfl,q⟩⟩;exact Inv.young I2 (rM I2 f2 J') hC J'.free hs'
theorem pK {i:Nat} {y:Str} {py spos:Pos} (hi:PI X tg iter wi) (hk:sc.kind=.function) (hb:dX X.N X.env.kindOf sc.names own fr N'=true) (hc:X.calm=true)
  (hg:∀ cl C s H fp,PG (X.Ry sc cl C N' s H fp) tg g) (ht:∀ cl C s H fp,ud (X.Ry sc cl C N' s H fp) ifs tt) (he:∀ cl C s H fp,PE (X.Ry sc cl C N' s H fp) elt te)
  (hN:X.N.Nodup) (hy:X.N[i]?=some y) (hx:X.env.scope.names.lookup y=some .local)
  (hsw:swapsWith (.ListComp elt [⟨tg,iter,ifs,0⟩] sc pos) (some (.Name y py)) spos.line X.env=pure true)
  (hs:∀ x,foldedSetIterable iter X.env x=pure x:=by intro _;rfl):PS X (.Assign [.Name y py] (.ListComp elt [⟨tg,iter,ifs,0⟩] sc pos) spos) (lA (gM wi (Xu own fr) g tt te) (bW i)):=by
 intro pins s σ H D I h;have B:=vU hb;obtain ⟨cl,hcl,sub,has⟩:=Ap sc X.env λp hp e=>I.ok.has p.1 (B.free p hp e);rw [OM _ _ _ _ hsw];refine LU (M4 (LU ?_));show wpAny _ _ (do let _ <- comprehension (.ListComp elt [⟨tg,iter,ifs,0⟩] sc pos) sc X.env _ (newList []) false (eval iter X.env) (some (assign (.Name y py) X.env))) _ _ s
 refine LU (MX (Nv (use:=some (assign (.Name y py) X.env)) (Q:=λ_ s'=>SP X pins D .next s') rfl hs hcl hk B.loc
  (PB (hi pins s σ H _ I h) λv s1 h1=>PB h1 λitv s2 h2=>?_)) (λ_ s' hq=>L8 (L8 hq)) λ_ _ e=>e)
 obtain ⟨it,fp,tn,J,H2,e,I2,T,st2,f2,body⟩:=h2;subst e;refine uv (Q:=λv H'=>D.nx (σ.set i (some v)) H') (RR:=λacc C=>compPost (model X.prog X.w) X.A X.xe (some (assign (.Name y py) X.env)) (λ_ s'=>SP X pins D .next s') acc C) I2 B hk hc sub has T st2 f2 hg ht he body ?_;intro D' C σ' H' s' eD hC J' q;have I3:=rM I2 f2 J';show wpAny _ _ (assign (.Name y py) X.env (.ref D')) _ _ s';refine OD (ku I3 hN hy (.inl hx) (v:=.ref D') rfl (λs4 I4 ⟨a,hsb,ha⟩=>?_) (.inr hx));obtain ⟨m,hn,_⟩:=J'.loc
 have hCa:C≠a:=by
  rcases ha with e | e
  ·rw [e];exact MR (Mp I2.lt hC)
  ·obtain ⟨v,z⟩:=I2.cell _ _ e;exact MR (Mp z.lt hC)
 refine ⟨m,hn.sameBut hsb hCa,λh' hs'=>⟨_,H',?_,q⟩⟩;exact Inv.young I2 I4 hC J'.free hs'
end
inductive D where
 | Py | bl (b:Bool) | int (i:Int) | str (x:Str) | tup (ds:List D)
 | lst
mutual
noncomputable def Dat (K:W.Frag) (H:Hp):D->V->Prop
 | .Py,v=>v=.Py
 | .bl b,v=>v=.bl b
 | .int i,v=>v=.int i
 | .str x,v=>v=.str x
 | .tup ds,v=>∃ a vs,v=.ref a/\QE K H a vs/\Pq K H ds vs
 | .lst,v=>∃ a vs,v=.ref a/\PJ K H a vs
noncomputable def Pq (K:W.Frag) (H:Hp):List D->List V->Prop
 | [],vs=>vs=[]
 | d::ds,vs=>∃ v r,vs=v::r/\Dat K H d v/\Pq K H ds r
end
section
variable {K:W.Frag} {H H':Hp}
variable {a:Addr} {vs:List V} {ds:List D}
theorem Dat.tupI (h:QE K H a vs) (r:Pq K H ds vs):Dat K H (.tup ds) (.ref a):=by unfold Dat;exact ⟨a,vs,rfl,h,r⟩
theorem Pq.nil:Pq K H [] []:=by unfold Pq;rfl
variable {d:D} {v:V}
theorem Pq.cons (h:Dat K H d v) (r:Pq K H ds vs):Pq K H (d::ds) (v::vs):=by unfold Pq;exact ⟨v,vs,rfl,h,r⟩
theorem Dat.Px (i:Int):Dat K H (.int i) (.int i):=by unfold Dat;rfl
theorem Dat.Rb (x:Str):Dat K H (.str x) (.str x):=by unfold Dat;rfl
theorem Dat.UA (b:Bool):Dat K H (.bl b) (.bl b):=by unfold Dat;rfl
theorem Dat.W5:Dat K H .Py .Py:=by unfold Dat;rfl
theorem Dat.lstI (h:PJ K H a vs):Dat K H .lst (.ref a):=by unfold Dat;exact ⟨a,vs,rfl,h⟩
theorem Dat.P7 (h:Dat K H (.tup ds) v):∃ a vs,v=.ref a/\QE K H a vs/\Pq K H ds vs:=by unfold Dat at h;exact h
theorem Dat.Pz {i:Int} (h:Dat K H (.int i) v):v=.int i:=by unfold Dat at h;exact h
theorem Dat.P9 {x:Str} (h:Dat K H (.str x) v):v=.str x:=by unfold Dat at h;exact h
theorem Dat.VR {b:Bool} (h:Dat K H (.bl b) v):v=.bl b:=by unfold Dat at h;exact h
theorem Dat.Tv (h:Dat K H .Py v):v=.Py:=by unfold Dat at h;exact h
theorem Dat.XQ (h:Dat K H .lst v):∃ a vs,v=.ref a/\PJ K H a vs:=by unfold Dat at h;exact h
theorem Pq.Vc (h:Pq K H [] vs):vs=[]:=by unfold Pq at h;exact h
theorem Pq.QB (h:Pq K H (d::ds) vs):∃ v r,vs=v::r/\Dat K H d v/\Pq K H ds r:=by unfold Pq at h;exact h
structure fA (K:W.Frag) (H H':Hp):Prop where
 tup:∀ a xs,QE K H a xs->QE K H' a xs
 lst:∀ a xs,PJ K H a xs->∃ ys,PJ K H' a ys
mutual
theorem Dat.mono (g:fA K H H'):∀ (d:D) {v:V},Dat K H d v->Dat K H' d v
 | .Py,v,h=>by unfold Dat at h ⊢;exact h
 | .bl b,v,h=>by unfold Dat at h ⊢;exact h
 | .int i,v,h=>by unfold Dat at h ⊢;exact h
 | .str x,v,h=>by unfold Dat at h ⊢;exact h
 | .tup ds,v,h=>by obtain ⟨a,vs,e,q,r⟩:=h.P7;subst e;exact Dat.tupI (g.tup _ _ q) (Pq.mono g ds r)
 | .lst,v,h=>by obtain ⟨a,vs,e,q⟩:=h.XQ;subst e;obtain ⟨ys,q'⟩:=g.lst _ _ q;exact Dat.lstI q'
theorem Pq.mono (g:fA K H H'):∀ (ds:List D) {vs:List V},Pq K H ds vs->Pq K H' ds vs
 | [],vs,h=>by unfold Pq at h ⊢;exact h
 | d::ds,vs,h=>by obtain ⟨v,r,e,h1,h2⟩:=h.QB;subst e;exact Pq.cons (Dat.mono g d h1) (Pq.mono g ds h2)
end
theorem Pq.length:∀ {ds:List D} {vs:List V},Pq K H ds vs->ds.length=vs.length
 | [],vs,h=>by rw [h.Vc];rfl
 | d::ds,vs,h=>by obtain ⟨v,r,e,h1,h2⟩:=h.QB;subst e;rw [L5,L5,Pq.length h2]
theorem Pq.get:∀ {ds:List D} {vs:List V} {i:Nat} {d:D},Pq K H ds vs->ds[i]?=some d->∃ v,vs[i]?=some v/\Dat K H d v
 | [],_,i,d,_,e=>by simp at e
 | d0::ds,vs,0,d,h,e=>by obtain ⟨v,r,e1,h1,h2⟩:=h.QB;subst e1;simp at e;subst e;exact ⟨v,rfl,h1⟩
 | d0::ds,vs,i+1,d,h,e=>by obtain ⟨v,r,e1,h1,h2⟩:=h.QB;subst e1;obtain ⟨u,q1,q2⟩:=Pq.get (i:=i) (d:=d) h2 (by simpa using e);exact ⟨u,by simpa using q1,q2⟩
theorem Pq.WD:∀ {ds:List D} {vs:List V} {i:Nat} {v:V},Pq K H ds vs->vs[i]?=some v->∃ d,ds[i]?=some d/\Dat K H d v
 | [],vs,i,v,h,e=>by rw [h.Vc] at e;simp at e
 | d0::ds,vs,0,v,h,e=>by obtain ⟨u,r,e1,h1,h2⟩:=h.QB;subst e1;simp at e;subst e;exact ⟨d0,rfl,h1⟩
 | d0::ds,vs,i+1,v,h,e=>by obtain ⟨u,r,e1,h1,h2⟩:=h.QB;subst e1;obtain ⟨d,q1,q2⟩:=Pq.WD (i:=i) (v:=v) h2 (by simpa using e);exact ⟨d,by simpa using q1,q2⟩
theorem Pq.append:∀ {ds es:List D} {vs us:List V},Pq K H ds vs->Pq K H es us->Pq K H (ds++es) (vs++us)
 | [],es,vs,us,h,h'=>by rw [h.Vc];exact h'
 | d::ds,es,vs,us,h,h'=>by obtain ⟨v,r,e,h1,h2⟩:=h.QB;subst e;exact Pq.cons h1 (Pq.append h2 h')
end
mutual
noncomputable def Qe:D->D->Bool
 | .Py,.Py=>true
 | .bl a,.bl b=>a == b
 | .int a,.int b=>a == b
 | .bl a,.int b=>(if a then 1 else 0) == b
 | .int a,.bl b=>a == (if b then 1 else 0)
 | .str a,.str b=>a == b
 | .tup a,.tup b=>QM a b
 | _,_=>false
noncomputable def QM:List D->List D->Bool
 | [],[]=>true
 | a::r,b::q=>Qe a b && QM r q
 | _,_=>false
end
mutual
noncomputable def fJ:D->Nat
 | .tup ds=>PC ds+1
 | _=>0
noncomputable def PC:List D->Nat
 | []=>0
 | d::ds=>max (fJ d) (PC ds)
end
mutual
noncomputable def Rp:D->Bool
 | .tup ds=>PY ds
 | .lst=>false
 | _=>true
noncomputable def PY:List D->Bool
 | []=>true
 | d::ds=>Rp d && PY ds
end
noncomputable def Y6 (a b:List D) (j:Nat):Bool:=match a[j]?,b[j]? with
 | some x,some y=>Qe x y
 | _,_=>false
theorem oK (n:Nat) (e:Nat->Bool):(List.range (n+1)).all e=(e 0 && (List.range n).all λj=>e (j+1)):=by rw [List.range_succ_eq_map,List.all_cons,List.all_map];rfl
theorem jE:∀ a b:List D,((List.range (min a.length b.length)).all (Y6 a b) && a.length == b.length)=QM a b
 | [],[]=>by unfold QM;rfl
 | [],y::b=>by unfold QM;simp
 | x::a,[]=>by unfold QM;simp
 | x::a,y::b=>by
  have ih:=jE a b;unfold QM;rw [<- ih,L5,L5,Nat.succ_min_succ,oK];have e0:Y6 (x::a) (y::b) 0=Qe x y:=rfl
  have e1:(λj=>Y6 (x::a) (y::b) (j+1))=Y6 a b:=by
   funext j
   simp [Y6]
  rw [e0,e1,Bool.and_assoc];congr 2;simp
theorem ux {a b:List D} (h:a.length=b.length):(List.range a.length).all (Y6 a b)=QM a b:=by have q:=jE a b;rw [<- h,Nat.min_self] at q;rw [<- q];simp
mutual
theorem j3:∀ d:D,Rp d=true->Qe d d=true
 | .Py,_=>by unfold Qe;rfl
 | .bl b,_=>by unfold Qe;simp
 | .int i,_=>by unfold Qe;simp
 | .str x,_=>by unfold Qe;simp
 | .tup ds,h=>by unfold Qe;unfold Rp at h;exact VS ds h
 | .lst,h=>by unfold Rp at h;cases h
theorem VS:∀ ds:List D,PY ds=true->QM ds ds=true
 | [],_=>by unfold QM;rfl
 | d::ds,h=>by unfold PY at h;rw [LW] at h;unfold QM;rw [j3 d h.1,VS ds h.2];rfl
end
section
variable {X:Cx} {pins:List (Addr × Obj)} {σ:St} {H:Hp} {s:Shared}
mutual
theorem rQ (I:Inv X pins σ H s):∀ (d e:D) {v:V},Rp d=true->Dat X.K H d v->Dat X.K H e v->Rp e=true->d=e
 | .Py,e,v,hn,h,h',hn'=>by
  have z:=h.Tv;subst z
  cases e with
  | Py=>rfl
  | bl b=>exact nomatch h'.VR
  | int i=>exact nomatch h'.Pz
  | str x=>exact nomatch h'.P9
  | tup ds=>obtain ⟨_,_,q,_⟩:=h'.P7;exact nomatch q
  | lst=>obtain ⟨_,_,q,_⟩:=h'.XQ;exact nomatch q
 | .bl b,e,v,hn,h,h',hn'=>by
  have z:=h.VR;subst z
  cases e with
  | Py=>exact nomatch h'.Tv
  | bl c=>have q:=h'.VR;injection q with q;rw [q]
  | int i=>exact nomatch h'.Pz
  | str x=>exact nomatch h'.P9
  | tup ds=>obtain ⟨_,_,q,_⟩:=h'.P7;exact nomatch q
  | lst=>obtain ⟨_,_,q,_⟩:=h'.XQ;exact nomatch q
 | .int i,e,v,hn,h,h',hn'=>by
  have z:=h.Pz;subst z
  cases e with
  | Py=>exact nomatch h'.Tv
  | bl c=>exact nomatch h'.VR
  | int j=>have q:=h'.Pz;injection q with q;rw [q]
  | str x=>exact nomatch h'.P9
  | tup ds=>obtain ⟨_,_,q,_⟩:=h'.P7;exact nomatch q
  | lst=>obtain ⟨_,_,q,_⟩:=h'.XQ;exact nomatch q
 | .str x,e,v,hn,h,h',hn'=>by
  have z:=h.P9;subst z
  cases e with
  | Py=>exact nomatch h'.Tv
  | bl c=>exact nomatch h'.VR
  | int j=>exact nomatch h'.Pz
  | str y=>have q:=h'.P9;injection q with q;rw [q]
  | tup ds=>obtain ⟨_,_,q,_⟩:=h'.P7;exact nomatch q
  | lst=>obtain ⟨_,_,q,_⟩:=h'.XQ;exact nomatch q
 | .tup ds,e,v,hn,h,h',hn'=>by
  obtain ⟨a,vs,z,q,r⟩:=h.P7;subst z
  cases e with
  | Py=>exact nomatch h'.Tv
  | bl c=>exact nomatch h'.VR
  | int j=>exact nomatch h'.Pz
  | str y=>exact nomatch h'.P9
  | tup es =>obtain ⟨a',vs',z,q',r'⟩:=h'.P7;cases z;have ev:=I.W7 q q';subst ev;unfold Rp at hn hn';rw [Xz I ds es hn r r' hn']
  | lst=>unfold Rp at hn';cases hn'
 | .lst,e,v,hn,h,h',hn'=>by unfold Rp at hn;cases hn
theorem Xz (I:Inv X pins σ H s):∀ (ds es:List D) {vs:List V},PY ds=true->Pq X.K H ds vs->Pq X.K H es vs->PY es=true->ds=es
 | [],es,vs,_,h,h',_=>by
  have z:=h.Vc;subst z
  cases es with
  | nil=>rfl
  | cons e es=>obtain ⟨_,_,q,_⟩:=h'.QB;exact nomatch q
 | d::ds,es,vs,hn,h,h',hn'=>by
  obtain ⟨v,r,z,h1,h2⟩:=h.QB;subst z
  cases es with
  | nil=>exact nomatch h'.Vc
  | cons e es =>obtain ⟨v',r',z,h1',h2'⟩:=h'.QB;injection z with z1 z2;subst z1 z2;unfold PY at hn hn';rw [LW] at hn hn';rw [rQ I d e hn.1 h1 h1' hn'.1,Xz I ds es hn.2 h2 h2' hn'.2]
end
end
theorem mT (A:Around):A.in1.units=A.units+1:=rfl
section
variable {X:Cx} {pins:List (Addr × Obj)} {σ:St} {H:Hp} {s:Shared}
theorem kR:∀ {ds:List D} {j:Nat} {d:D},ds[j]?=some d->fJ d<=PC ds
 | [],_,_,e=>by simp at e
 | d0::ds,0,d,e=>by simp at e;subst e;unfold PC;exact Nat.le_max_left _ _
 | d0::ds,j+1,d,e=>by have q:=kR (ds:=ds) (j:=j) (d:=d) (by simpa using e);unfold PC;exact Mr q (Nat.le_max_right _ _)
theorem jw:∀ {ds:List D} {j:Nat} {d:D},PY ds=true->ds[j]?=some d->Rp d=true
 | [],_,_,_,e=>by simp at e
 | d0::ds,0,d,h,e=>by simp at e;subst e;unfold PY at h;rw [LW] at h;exact h.1
 | d0::ds,j+1,d,h,e=>by unfold PY at h;rw [LW] at h;exact jw (ds:=ds) (j:=j) (d:=d) h.2 (by simpa using e)
variable {A:Around} {ds es:List D} {xs ys:List V}
theorem oS {us ws:List Value} (n:Nat)
  (all:∀ (d e:D) (x y:V) (u w:Value),fJ d<=n->Rp d=true->Rp e=true->Dat X.K H d x->Dat X.K H e y->RelV x u->RelV y w->SeqAt.EqAt A s u w (Qe d e))
  (hn:PC ds<=n) (h1:PY ds=true) (h2:PY es=true) (r1:Pq X.K H ds xs) (r2:Pq X.K H es ys) (v1:Vals xs us) (v2:Vals ys ws) :
  ∀ j (k1:j < us.toArray.size) (k2:j < ws.toArray.size),SeqAt.EqAt A s us.toArray[j] ws.toArray[j] (Y6 ds es j):=by
 intro j k1 k2;have l1:j < xs.length:=by rw [v1.length];simpa using k1
 have l2:j < ys.length:=by rw [v2.length];simpa using k2
 obtain ⟨u,eu,ru⟩:=v1.get (i:=j) (x:=xs[j]) (LQ l1);obtain ⟨w,ew,rw'⟩:=v2.get (i:=j) (x:=ys[j]) (LQ l2);obtain ⟨d,ed,qd⟩:=r1.WD (i:=j) (v:=xs[j]) (LQ l1);obtain ⟨e,ee,qe⟩:=r2.WD (i:=j) (v:=ys[j]) (LQ l2)
 have z1:us.toArray[j]=u:=by
  have:us[j]?=some u:=eu;have k1':j < us.length:=by simpa using k1
  rw [LQ k1'] at this;simpa using ME this
 have z2:ws.toArray[j]=w:=by
  have:ws[j]?=some w:=ew;have k2':j < ws.length:=by simpa using k2
  rw [LQ k2'] at this;simpa using ME this
 have z3:Y6 ds es j=Qe d e:=by unfold Y6;rw [ed,ee]
 rw [z1,z2,z3];exact all d e _ _ u w (Mr (kR ed) hn) (jw h1 ed) (jw h2 ee) qd qe ru rw'
theorem vi {a b:Addr} (I:Inv X pins σ H s) (hu:A.units < cLine) (n:Nat)
  (all:∀ (d e:D) (x y:V) (u w:Value),fJ d<=n->Rp d=true->Rp e=true->Dat X.K H d x->Dat X.K H e y->RelV x u->RelV y w->SeqAt.EqAt A.in1 s u w (Qe d e))
  (hn:PC ds<=n) (h1:PY ds=true) (h2:PY es=true) (r1:Pq X.K H ds xs) (r2:Pq X.K H es ys) (q1:QE X.K H a xs) (q2:QE X.K H b ys) :
  SeqAt.RcAt A s (.ref a) (.ref b) (QM ds es)/\SeqAt.RcNeAt A s (.ref a) (.ref b) (!QM ds es):=by
 obtain ⟨us,v1,t1,_⟩:=I.tuple q1;obtain ⟨ws,v2,t2,_⟩:=I.tuple q2;have hi:=oS (X:=X) (H:=H) (s:=s) n all hn h1 h2 r1 r2 v1 v2;have p:=SeqAt.RcAt.tuples (show s.heap.IsTuple a us.toArray from t1) (show s.heap.IsTuple b ws.toArray from t2) hu hi;have p':=SeqAt.RcNeAt.tuples (show s.heap.IsTuple a us.toArray from t1) (show s.heap.IsTuple b ws.toArray from t2) hu hi;have e1:us.toArray.size=ds.length:=by rw [Me,<- v1.length,r1.length]
 have e2:ws.toArray.size=es.length:=by rw [Me,<- v2.length,r2.length]
 rw [e1,e2,jE] at p p';exact ⟨p,p'⟩
theorem vZ (I:Inv X pins σ H s):∀ (n:Nat) (A:Around) (d e:D) (x y:V) (u w:Value),A.units+n+1 < cLine->fJ d<=n->Rp d=true->Rp e=true->Dat X.K H d x->Dat X.K H e y->RelV x u->RelV y w->SeqAt.EqAt A s u w (Qe d e):=by
 intro n
 induction n with
 | zero =>
  intro A d e x y u w hu hn h1 h2 q1 q2 r1 r2
  exact base I A d e x y u w (by omega) h1 h2 q1 q2 r1 r2 λds es a b xs ys ed ee=>by subst ed;unfold fJ at hn;omega
 | succ n ih =>intro A d e x y u w hu hn h1 h2 q1 q2 r1 r2;refine base I A d e x y u w (by omega) h1 h2 q1 q2 r1 r2 λds es a b xs ys ed ee t1 t2 s1 s2 hne=>?_;subst ed ee;unfold fJ at hn;unfold Rp at h1 h2;have p:=(vi (A:=A) (ds:=ds) (es:=es) I (by omega) n (λd e x y u w k1 k2 k3 k4 k5 k6 k7=>ih A.in1 d e x y u w (by rw [mT];omega) k1 k2 k3 k4 k5 k6 k7) (by omega) h1 h2 t1 t2 s1 s2).1;unfold Qe;exact .of_refs hne p
where
 base (I:Inv X pins σ H s) (A:Around) (d e:D) (x y:V) (u w:Value) (hu:A.units < cLine) (h1:Rp d=true) (h2:Rp e=true) (q1:Dat X.K H d x) (q2:Dat X.K H e y) (r1:RelV x u) (r2:RelV y w)
   (tt:∀ (ds es:List D) (a b:Addr) (xs ys:List V),d=.tup ds->e=.tup es->Pq X.K H ds xs->Pq X.K H es ys->QE X.K H a xs->QE X.K H b ys->a≠b->SeqAt.EqAt A s (.ref a) (.ref b) (Qe (.tup ds) (.tup es))) :
   SeqAt.EqAt A s u w (Qe d e):=by
  cases d with
  | lst=>unfold Rp at h1;cases h1
  | Py =>
   have z:=q1.Tv;subst z;cases r1
   cases e with
   | lst=>unfold Rp at h2;cases h2
   | Py=>have z:=q2.Tv;subst z;cases r2;unfold Qe;exact SeqAt.EqAt.same _
   | bl b=>have z:=q2.VR;subst z;cases r2;unfold Qe;exact SeqAt.EqAt.none_bool b
   | int i=>have z:=q2.Pz;subst z;obtain ⟨t,rfl⟩:=r2;unfold Qe;exact SeqAt.EqAt.none_int i t
   | str i=>have z:=q2.P9;subst z;obtain ⟨t,rfl⟩:=r2;unfold Qe;exact SeqAt.EqAt.none_str i t
   | tup es=>obtain ⟨b,ys,z,s2,t2⟩:=q2.P7;subst z;cases r2;obtain ⟨ws,v2,p2,_⟩:=I.tuple s2;unfold Qe;exact SeqAt.EqAt.none_tuple (show s.heap.IsTuple b ws.toArray from p2) hu
  | bl c =>
   have z:=q1.VR;subst z;cases r1
   cases e with
   | lst=>unfold Rp at h2;cases h2
   | Py=>have z:=q2.Tv;subst z;cases r2;unfold Qe;exact SeqAt.EqAt.bool_none c
   | bl b=>have z:=q2.VR;subst z;cases r2;unfold Qe;exact SeqAt.EqAt.bool_bool c b
   | int i=>have z:=q2.Pz;subst z;obtain ⟨t,rfl⟩:=r2;unfold Qe;exact SeqAt.EqAt.bool_int c i t
   | str i=>have z:=q2.P9;subst z;obtain ⟨t,rfl⟩:=r2;unfold Qe;exact SeqAt.EqAt.bool_str c i t
   | tup es=>obtain ⟨b,ys,z,s2,t2⟩:=q2.P7;subst z;cases r2;obtain ⟨ws,v2,p2,_⟩:=I.tuple s2;unfold Qe;exact SeqAt.EqAt.bool_tuple c (show s.heap.IsTuple b ws.toArray from p2) hu
  | int c =>
   have z:=q1.Pz;subst z;obtain ⟨tc,rfl⟩:=r1
   cases e with
   | lst=>unfold Rp at h2;cases h2
   | Py=>have z:=q2.Tv;subst z;cases r2;unfold Qe;exact SeqAt.EqAt.int_none c tc
   | bl b=>have z:=q2.VR;subst z;cases r2;unfold Qe;exact SeqAt.EqAt.int_bool c tc b
   | int i=>have z:=q2.Pz;subst z;obtain ⟨t,rfl⟩:=r2;unfold Qe;exact SeqAt.EqAt.int_int c tc i t
   | str i=>have z:=q2.P9;subst z;obtain ⟨t,rfl⟩:=r2;unfold Qe;exact O3 c tc i t
   | tup es=>obtain ⟨b,ys,z,s2,t2⟩:=q2.P7;subst z;cases r2;obtain ⟨ws,v2,p2,_⟩:=I.tuple s2;unfold Qe;exact SeqAt.EqAt.int_tuple c tc (show s.heap.IsTuple b ws.toArray from p2) hu
  | str c =>
   have z:=q1.P9;subst z;obtain ⟨tc,rfl⟩:=r1
   cases e with
   | lst=>unfold Rp at h2;cases h2
   | Py=>have z:=q2.Tv;subst z;cases r2;unfold Qe;exact SeqAt.EqAt.str_none c tc
   | bl b=>have z:=q2.VR;subst z;cases r2;unfold Qe;exact SeqAt.EqAt.str_bool c tc b
   | int i=>have z:=q2.Pz;subst z;obtain ⟨t,rfl⟩:=r2;unfold Qe;exact O4 c tc i t
   | str i=>have z:=q2.P9;subst z;obtain ⟨t,rfl⟩:=r2;unfold Qe;exact SeqAt.EqAt.str_str c tc i t
   | tup es=>obtain ⟨b,ys,z,s2,t2⟩:=q2.P7;subst z;cases r2;obtain ⟨ws,v2,p2,_⟩:=I.tuple s2;unfold Qe;exact SeqAt.EqAt.str_tuple c tc (show s.heap.IsTuple b ws.toArray from p2) hu
  | tup ds =>
   have q1':=q1
   obtain ⟨a,xs,z,s1,t1⟩:=q1.P7;subst z;cases r1;obtain ⟨us,v1,p1,_⟩:=I.tuple s1
   have p1':s.heap.IsTuple a us.toArray:=p1
   cases e with
   | lst=>unfold Rp at h2;cases h2
   | Py=>have z:=q2.Tv;subst z;cases r2;unfold Qe;exact SeqAt.EqAt.tuple_none p1' hu
   | bl b=>have z:=q2.VR;subst z;cases r2;unfold Qe;exact SeqAt.EqAt.tuple_bool b p1' hu
   | int i=>have z:=q2.Pz;subst z;obtain ⟨t,rfl⟩:=r2;unfold Qe;exact SeqAt.EqAt.tuple_int i t p1' hu
   | str i=>have z:=q2.P9;subst z;obtain ⟨t,rfl⟩:=r2;unfold Qe;exact SeqAt.EqAt.tuple_str i t p1' hu
   | tup es =>
    have q2':=q2
    obtain ⟨b,ys,z,s2,t2⟩:=q2.P7;subst z;cases r2
    by_cases hab:a=b
    ·subst hab
     have ee:=rQ I (.tup ds) (.tup es) h1 q1' q2' h2
     rw [<- ee,j3 _ h1]
     exact SeqAt.EqAt.same _
    ·exact tt ds es a b xs ys rfl rfl t1 t2 s1 s2 hab
theorem FT (I:Inv X pins σ H s) (n:Nat) (A:Around) (d e:D) (x y:V) (u w:Value) (hu:A.units+n+2 < cLine) (hn:fJ d<=n+1) (h1:Rp d=true) (h2:Rp e=true) (q1:Dat X.K H d x) (q2:Dat X.K H e y) (r1:RelV x u) (r2:RelV y w) :
  SeqAt.RcAt A s u w (Qe d e)/\SeqAt.RcNeAt A s u w (!Qe d e):=by
 have W0:A.units < cLine:=by omega
 cases d with
 | lst=>unfold Rp at h1;cases h1
 | Py =>
  have z:=q1.Tv;subst z;cases r1
  cases e with
  | lst=>unfold Rp at h2;cases h2
  | Py=>have z:=q2.Tv;subst z;cases r2;unfold Qe;exact ⟨SeqAt.RcAt.none_none,SeqAt.RcNeAt.none_none⟩
  | bl b=>have z:=q2.VR;subst z;cases r2;unfold Qe;exact ⟨SeqAt.RcAt.none_bool b,SeqAt.RcNeAt.none_bool b⟩
  | int i=>have z:=q2.Pz;subst z;obtain ⟨t,rfl⟩:=r2;unfold Qe;exact ⟨SeqAt.RcAt.none_int i t,SeqAt.RcNeAt.none_int i t⟩
  | str i=>have z:=q2.P9;subst z;obtain ⟨t,rfl⟩:=r2;unfold Qe;exact ⟨SeqAt.RcAt.none_str i t,SeqAt.RcNeAt.none_str i t⟩
  | tup es=>obtain ⟨b,ys,z,s2,t2⟩:=q2.P7;subst z;cases r2;obtain ⟨ws,v2,p2,_⟩:=I.tuple s2;unfold Qe;exact ⟨SeqAt.RcAt.none_tuple (show s.heap.IsTuple b ws.toArray from p2) W0,SeqAt.RcNeAt.none_tuple (show s.heap.IsTuple b ws.toArray from p2) W0⟩
 | bl c =>
  have z:=q1.VR;subst z;cases r1
  cases e with
  | lst=>unfold Rp at h2;cases h2
  | Py=>have z:=q2.Tv;subst z;cases r2;unfold Qe;exact ⟨SeqAt.RcAt.bool_none c,SeqAt.RcNeAt.bool_none c⟩
  | bl b=>have z:=q2.VR;subst z;cases r2;unfold Qe;exact ⟨SeqAt.RcAt.bool_bool c b,SeqAt.RcNeAt.bool_bool c b⟩
  | int i=>have z:=q2.Pz;subst z;obtain ⟨t,rfl⟩:=r2;unfold Qe;exact ⟨SeqAt.RcAt.bool_int c i t,SeqAt.RcNeAt.bool_int c i t⟩
  | str i=>have z:=q2.P9;subst z;obtain ⟨t,rfl⟩:=r2;unfold Qe;exact ⟨SeqAt.RcAt.bool_str c i t,SeqAt.RcNeAt.bool_str c i t⟩
  | tup es=>obtain ⟨b,ys,z,s2,t2⟩:=q2.P7;subst z;cases r2;obtain ⟨ws,v2,p2,_⟩:=I.tuple s2;unfold Qe;exact ⟨SeqAt.RcAt.bool_tuple c (show s.heap.IsTuple b ws.toArray from p2) W0,SeqAt.RcNeAt.bool_tuple c (show s.heap.IsTuple b ws.toArray from p2) W0⟩
 | int c =>
  have z:=q1.Pz;subst z;obtain ⟨tc,rfl⟩:=r1
  cases e with
  | lst=>unfold Rp at h2;cases h2
  | Py=>have z:=q2.Tv;subst z;cases r2;unfold Qe;exact ⟨SeqAt.RcAt.int_none c tc,SeqAt.RcNeAt.int_none c tc⟩
  | bl b=>have z:=q2.VR;subst z;cases r2;unfold Qe;exact ⟨SeqAt.RcAt.int_bool c tc b,SeqAt.RcNeAt.int_bool c tc b⟩
  | int i=>have z:=q2.Pz;subst z;obtain ⟨t,rfl⟩:=r2;unfold Qe;exact ⟨SeqAt.RcAt.int_int c tc i t,SeqAt.RcNeAt.int_int c tc i t⟩
  | str i=>have z:=q2.P9;subst z;obtain ⟨t,rfl⟩:=r2;unfold Qe;exact ⟨SeqAt.RcAt.int_str c tc i t,SeqAt.RcNeAt.int_str c tc i t⟩
  | tup es=>obtain ⟨b,ys,z,s2,t2⟩:=q2.P7;subst z;cases r2;obtain ⟨ws,v2,p2,_⟩:=I.tuple s2;unfold Qe;exact ⟨SeqAt.RcAt.int_tuple c tc (show s.heap.IsTuple b ws.toArray from p2) W0,SeqAt.RcNeAt.int_tuple c tc (show s.heap.IsTuple b ws.toArray from p2) W0⟩
 | str c =>
  have z:=q1.P9;subst z;obtain ⟨tc,rfl⟩:=r1
  cases e with
  | lst=>unfold Rp at h2;cases h2
  | Py=>have z:=q2.Tv;subst z;cases r2;unfold Qe;exact ⟨SeqAt.RcAt.str_none c tc,SeqAt.RcNeAt.str_none c tc⟩
  | bl b=>have z:=q2.VR;subst z;cases r2;unfold Qe;exact ⟨SeqAt.RcAt.str_bool c tc b,SeqAt.RcNeAt.str_bool c tc b⟩
  | int i=>have z:=q2.Pz;subst z;obtain ⟨t,rfl⟩:=r2;unfold Qe;exact ⟨SeqAt.RcAt.str_int c tc i t,SeqAt.RcNeAt.str_int c tc i t⟩
  | str i=>have z:=q2.P9;subst z;obtain ⟨t,rfl⟩:=r2;unfold Qe;exact ⟨SeqAt.RcAt.str_str c tc i t,SeqAt.RcNeAt.str_str c tc i t⟩
  | tup es=>obtain ⟨b,ys,z,s2,t2⟩:=q2.P7;subst z;cases r2;obtain ⟨ws,v2,p2,_⟩:=I.tuple s2;unfold Qe;exact ⟨SeqAt.RcAt.str_tuple c tc (show s.heap.IsTuple b ws.toArray from p2) W0,SeqAt.RcNeAt.str_tuple c tc (show s.heap.IsTuple b ws.toArray from p2) W0⟩
 | tup ds =>
  obtain ⟨a,xs,z,s1,t1⟩:=q1.P7;subst z;cases r1;obtain ⟨us,v1,p1,_⟩:=I.tuple s1;have p1':s.heap.IsTuple a us.toArray:=p1
  cases e with
  | lst=>unfold Rp at h2;cases h2
  | Py=>have z:=q2.Tv;subst z;cases r2;unfold Qe;exact ⟨SeqAt.RcAt.tuple_none p1' W0,SeqAt.RcNeAt.tuple_none p1' W0⟩
  | bl b=>have z:=q2.VR;subst z;cases r2;unfold Qe;exact ⟨SeqAt.RcAt.tuple_bool b p1' W0,SeqAt.RcNeAt.tuple_bool b p1' W0⟩
  | int i=>have z:=q2.Pz;subst z;obtain ⟨t,rfl⟩:=r2;unfold Qe;exact ⟨SeqAt.RcAt.tuple_int i t p1' W0,SeqAt.RcNeAt.tuple_int i t p1' W0⟩
  | str i=>have z:=q2.P9;subst z;obtain ⟨t,rfl⟩:=r2;unfold Qe;exact ⟨SeqAt.RcAt.tuple_str i t p1' W0,SeqAt.RcNeAt.tuple_str i t p1' W0⟩
  | tup es =>obtain ⟨b,ys,z,s2,t2⟩:=q2.P7;subst z;cases r2;unfold fJ at hn;unfold Rp at h1 h2;unfold Qe;exact vi (A:=A) (ds:=ds) (es:=es) I W0 n (λd e x y u w k1 k2 k3 k4 k5 k6 k7=>vZ I n A.in1 d e x y u w (by rw [mT];omega) k1 k2 k3 k4 k5 k6 k7) (by omega) h1 h2 t1 t2 s1 s2
theorem FU (I:Inv X pins σ H s) (n:Nat) (A:Around) (ds es:List D) (a b:Addr) (xs ys:List V) (hu:A.units+n+2 < cLine) (hn:PC ds<=n) (h1:PY ds=true) (h2:PY es=true) (q1:PJ X.K H a xs) (q2:PJ X.K H b ys) (r1:Pq X.K H ds xs) (r2:Pq X.K H es ys) :
  SeqAt.RcAt A s (.ref a) (.ref b) (QM ds es)/\SeqAt.RcNeAt A s (.ref a) (.ref b) (!QM ds es):=by
 have W0:A.units < cLine:=by omega
 obtain ⟨us,v1,p1,_⟩:=I.list q1;obtain ⟨ws,v2,p2,_⟩:=I.list q2;have e1:us.toArray.size=ds.length:=by rw [Me,<- v1.length,r1.length]
 have e2:ws.toArray.size=es.length:=by rw [Me,<- v2.length,r2.length]
 have hi:=oS (X:=X) (H:=H) (s:=s) (A:=A.in1) n (λd e x y u w k1 k2 k3 k4 k5 k6 k7=>vZ I n A.in1 d e x y u w (by rw [mT];omega) k1 k2 k3 k4 k5 k6 k7) hn h1 h2 r1 r2 v1 v2;by_cases hl:ds.length=es.length
 ·have hsz:us.toArray.size=ws.toArray.size:=by rw [e1,e2,hl]
  have p:=SeqAt.RcAt.lists p1.isList p2.isList hsz W0 hi;have p':=SeqAt.RcNeAt.lists p1.isList p2.isList hsz W0 hi;rw [e1,ux hl] at p p';exact ⟨p,p'⟩
 ·have hsz:(us.toArray.size != ws.toArray.size)=true:=by rw [e1,e2];simpa using hl
  have z:QM ds es=false:=by
   rw [<- jE];have:(ds.length == es.length)=false:=by simpa using hl
   rw [this,Bool.and_false]
  rw [z];exact ⟨SeqAt.RcAt.lists_lengths p1.isList p2.isList hsz W0,SeqAt.RcNeAt.lists_lengths p1.isList p2.isList hsz W0⟩
end
section
variable {X:Cx} {k:Nat}
noncomputable def EY (K:W.Frag) (neg:Bool):R2:=λx y H Q=>∃ d e,Dat K H d x/\Dat K H e y/\Rp d=true/\Rp e=true/\fJ d<=20/\Q (.bl (if neg then !Qe d e else Qe d e)) H
theorem EO (hr:P8 k X.A):Se X (compareOp .Eq) (EY X.K false):=by
 intro pins s σ H x y v u Q I rx ry h;obtain ⟨d,e,q1,q2,h1,h2,hn,q⟩:=h;have hu:X.A.units+19+2 < cLine:=by have:=hr.un;omega
 exact (FT I 19 X.A d e x y v u hu (by omega) h1 h2 q1 q2 rx ry).1 _ _ _ _ ⟨.bl _,H,I,rfl,q⟩
theorem Bc (hr:P8 k X.A):Se X (compareOp .NotEq) (EY X.K true):=by
 intro pins s σ H x y v u Q I rx ry h;obtain ⟨d,e,q1,q2,h1,h2,hn,q⟩:=h;have hu:X.A.units+19+2 < cLine:=by have:=hr.un;omega
 exact (FT I 19 X.A d e x y v u hu (by omega) h1 h2 q1 q2 rx ry).2 _ _ _ _ ⟨.bl _,H,I,rfl,q⟩
noncomputable def vf (K:W.Frag) (neg:Bool):R2:=λx y H Q=>∃ a b xs ys ds es,x=.ref a/\y=.ref b/\PJ K H a xs/\PJ K H b ys/\Pq K H ds xs/\Pq K H es ys/\PY ds=true/\PY es=true/\PC ds<=20/\Q (.bl (if neg then !QM ds es else QM ds es)) H
theorem sR (hr:P8 k X.A):Se X (compareOp .Eq) (vf X.K false):=by
 intro pins s σ H x y v u Q I rx ry h;obtain ⟨a,b,xs,ys,ds,es,ex,ey,q1,q2,r1,r2,h1,h2,hn,q⟩:=h;subst ex ey;cases rx;cases ry;have hu:X.A.units+20+2 < cLine:=by have:=hr.un;omega
 exact (FU I 20 X.A ds es a b xs ys hu hn h1 h2 q1 q2 r1 r2).1 _ _ _ _ ⟨.bl _,H,I,rfl,q⟩
theorem pG (hr:P8 k X.A):Se X (compareOp .NotEq) (vf X.K true):=by
 intro pins s σ H x y v u Q I rx ry h;obtain ⟨a,b,xs,ys,ds,es,ex,ey,q1,q2,r1,r2,h1,h2,hn,q⟩:=h;subst ex ey;cases rx;cases ry;have hu:X.A.units+20+2 < cLine:=by have:=hr.un;omega
 exact (FU I 20 X.A ds es a b xs ys hu hn h1 h2 q1 q2 r1 r2).2 _ _ _ _ ⟨.bl _,H,I,rfl,q⟩
noncomputable def Zi:D->String
 | .Py=>"NoneType"
 | .bl _=>"bool"
 | .int _=>"int"
 | .str _=>"str"
 | .tup _=>"tuple"
 | .lst=>"list"
noncomputable def nU (d:D) (T:String):Bool:=Zi d == T || (Zi d == "bool" && T == "int")
theorem fB {T:String} (hk:∀ d:D,W.kitOne X.K (.type (Zi d)) (.type T)=some (nU d T)) :
  jo X (.builtin "isinstance") (λxs H Q=>∃ x d,xs=[x,.ty T]/\Dat X.K H d x/\Q (.bl (nU d T)) H):=by
 intro pins s σ H xs us Q I r h;obtain ⟨x,d,e,q,h⟩:=h;subst e;obtain ⟨u,c,e,ru,rc⟩:=Gg r;subst e;cases (show c=Value.type T from rc);have fin:∀ tk,EP X pins σ Q (.bool (nU d T)) { s with toks:=tk }:=λtk=>⟨.bl _,H,I.tok tk,rfl,h⟩
 have kd:=hk d
 cases d with
 | Py=>have z:=q.Tv;subst z;cases ru;exact Pb W.kitx_none I.Sb True.intro kd (λz=>nomatch z) fin
 | bl b=>have z:=q.VR;subst z;cases ru;exact Pb W.kitx_bool I.Sb True.intro kd (λz=>nomatch z) fin
 | int i=>have z:=q.Pz;subst z;obtain ⟨t,rfl⟩:=ru;exact Pb W.kitx_int I.Sb True.intro kd (λz=>nomatch z) fin
 | str y=>have z:=q.P9;subst z;obtain ⟨t,rfl⟩:=ru;exact Pb W.kitx_str I.Sb True.intro kd (λz=>nomatch z) fin
 | tup ds =>obtain ⟨a,vs,z,sq,_⟩:=q.P7;subst z;cases ru;obtain ⟨its,_,⟨o,e1,e2,_⟩,_⟩:=I.tuple sq;exact Pb W.kitx_tuple I.Sb ⟨o,e1,e2⟩ kd (λz=>nomatch z) fin
 | lst =>obtain ⟨a,vs,z,sq⟩:=q.XQ;subst z;cases ru;obtain ⟨its,_,⟨o,_,e1,e2,_⟩,_⟩:=I.list sq;exact Pb W.kitx_list I.Sb ⟨o,e1,e2⟩ kd (λz=>nomatch z) fin
end
noncomputable def jX (K:W.Frag) (a:Addr) (T:List (Str × KTD.Dat)):Prop:=∀ h:Heap,K.In h->KTD.TextTab h a T
section
variable {X:Cx}
theorem pF:Se X (compareOp .In) (λx y H Q=>∃ k a T,x=.str k/\y=.ref a/\jX X.K a T/\Q (.bl (KTD.inKeys k T)) H):=by intro pins s σ H x y v u Q I rx ry h;obtain ⟨k,a,T,ex,ey,t,q⟩:=h;subst ex ey;obtain ⟨tk,rfl⟩:=rx;cases ry;exact KTD.in_text (h₀:=s.heap) ⟨t _ I.Sb,λ_ _ e=>e⟩ ⟨.bl _,H,I.tok _,rfl,q⟩
noncomputable def Bv (K:W.Frag):R2:=λx y H Q=>∃ a k T i,x=.ref a/\y=.str k/\jX K a T/\(T.all λp=>KTD.plain p.2)=true/\KTD.datumAt k T=some (.flat (.int i))/\Q (.int i) H
theorem AU:Y4 X (Bv X.K):=by
 intro value slice pins s σ H x y v u Q I rx ry h hs;obtain ⟨a,k,T,i,ex,ey,t,hp,hd,q⟩:=h;subst ex ey;obtain ⟨tk,rfl⟩:=ry;cases rx;have hm:KTD.inKeys k T=true:=by rw [<- KTD.isSome_datumAt,hd];rfl
 refine KTD.item_textA (h₀:=s.heap) ⟨t _ I.Sb,λ_ _ e=>e⟩ hp hm ?_ hs
 exact each T hd λv hv=>by obtain ⟨t',rfl⟩:=PyProof.V.Flat.int_inv hv;exact ⟨.int i,H,I.tok _,⟨t',rfl⟩,q⟩
where
 each {h:Heap} {k:Str} {P:Value->Prop} {i:Int}:∀ (T:List (Str × KTD.Dat)),KTD.datumAt k T=some (.flat (.int i))->(∀ v,PyProof.V.Flat v (.int i)->P v)->KTD.EachL h k P T
  | [],hd,_=>by simp [KTD.datumAt] at hd
  | (x,d)::T,hd,hP=>by
   have hd':(if decide (k=x)=true then some d else KTD.datumAt k T)=some (.flat (.int i)):=hd
   by_cases hx:k=x
   ·rw [Mc (Mh hx)] at hd'
    cases hd'
    refine KTD.eachL_hit hx ?_
    exact opened hP
   ·rw [LZ (by simp [hx])] at hd'
    exact KTD.eachL_miss hx (each T hd' hP)
 opened {h:Heap} {P:Value->Prop} {i:Int} (hP:∀ v,PyProof.V.Flat v (.int i)->P v):KTD.Opened h P (.flat (.int i)):=by
  first
   | exact KTD.opened_int λt=>hP _ (PyProof.V.Flat.int i t)
   | exact λt=>hP _ (PyProof.V.Flat.int i t)
end
section
variable {K:W.Frag} {H H' H2:Hp}
variable {a:Addr} {xs:List V}
theorem Pr.YM (e:Pr H H') (h:QE K H a xs):QE K H' a xs:=by
 rcases h with (h | ⟨o,h⟩) | h
 ·exact .inl (.inl (e _ _ h))
 ·exact .inl (.inr ⟨o,e _ _ h⟩)
 ·exact .inr h
theorem Pr.grow (e:Pr H H'):fA K H H':=⟨λ_ _ h=>e.YM h,λ_ xs h=>⟨xs,e.seq h⟩⟩
theorem Pr.dat {d:D} {v:V} (e:Pr H H') (h:Dat K H d v):Dat K H' d v:=Dat.mono e.grow d h
theorem Pr.P0 {ds:List D} {vs:List V} (e:Pr H H') (h:Pq K H ds vs):Pq K H' ds vs:=Pq.mono e.grow ds h
theorem aT {p:Addr} (h:H p=none) (o:HO):Pr H (upd H p o):=λb u q=>by rw [aX (bS q h)];exact q
noncomputable def PX (t:Addr) (H H':Hp):Prop:=∀ b o,b≠t->H b=some o->H' b=some o
variable {t:Addr}
theorem Pr.but (e:Pr H H'):PX t H H':=λb o _ h=>e b o h
theorem PX.trans (a:PX t H H') (b:PX t H' H2):PX t H H2:=λc o n h=>b c o n (a c o n h)
theorem PX.upd {o:HO} (a:PX t H H'):PX t H (upd H' t o):=λb u n h=>by rw [aX n];exact a b u n h
variable {zs:List V}
theorem PX.YM (e:PX t H H') (ht:H t=some (.lst zs)) (h:QE K H a xs):QE K H' a xs:=by
 rcases h with (h | ⟨o,h⟩) | h
 ·exact .inl (.inl (e _ _ (λz=>by rw [z,ht] at h;cases h) h))
 ·exact .inl (.inr ⟨o,e _ _ (λz=>by rw [z,ht] at h;cases h) h⟩)
 ·exact .inr h
theorem PX.S7 (e:PX t H H') (n:a≠t) (h:PJ K H a xs):PJ K H' a xs:=by
 rcases h with (h | ⟨o,h⟩) | h
 ·exact .inl (.inl (e _ _ n h))
 ·exact .inl (.inr ⟨o,e _ _ n h⟩)
 ·exact .inr h
theorem PX.grow {zs':List V} (e:PX t H H') (ht:H t=some (.lst zs)) (ht':H' t=some (.lst zs')):fA K H H' :=
 ⟨λ_ _ h=>e.YM ht h,λa xs h=>by
  by_cases n:a=t
  ·subst n;exact ⟨zs',PJ.of ht'⟩
  ·exact ⟨xs,e.S7 n h⟩⟩
end
section
variable {K:W.Frag}
theorem AJ (d:D):W.kitOne K (.type (Zi d)) (.type "int")=some (nU d "int"):=by cases d <;> rfl
theorem CK (d:D):W.kitOne K (.type (Zi d)) (.type "bool")=some (nU d "bool"):=by cases d <;> rfl
theorem AK (d:D):W.kitOne K (.type (Zi d)) (.type "str")=some (nU d "str"):=by cases d <;> rfl
theorem j5 (d:D):W.kitOne K (.type (Zi d)) (.type "tuple")=some (nU d "tuple"):=by cases d <;> rfl
theorem CL (d:D):W.kitOne K (.type (Zi d)) (.type "list")=some (nU d "list"):=by cases d <;> rfl
end
noncomputable def Qh (K:W.Frag) (R:List D->D->Prop):Sp:=λvs H Q _=>∃ ds d,Pq K H ds vs/\R ds d/\∀ v H',Pr H H'->Dat K H' d v->Q v H'
noncomputable def iU (K:W.Frag) (R:List D->List D->Prop):Sp:=λvs H Q _=>∃ ds es,Pq K H ds vs/\R ds es/\∀ r us H',Pr H H'->H' r=some (.lst us)->H r=none->Pq K H' es us->Q (.ref r) H'
variable {vs:List V}
theorem hX {a:D} (h:Pq K H [a] vs):∃ u,vs=[u]/\Dat K H a u:=by obtain ⟨u,r,e,h1,h⟩:=h.QB;have z:=h.Vc;subst z e;exact ⟨u,rfl,h1⟩
variable {b:D}
theorem jb {a:D} (h:Pq K H [a,b] vs):∃ u v,vs=[u,v]/\Dat K H a u/\Dat K H b v:=by obtain ⟨u,r,e,h1,h⟩:=h.QB;obtain ⟨v,q,h2⟩:=hX h;subst q e;exact ⟨u,v,rfl,h1,h2⟩
theorem nA {a c:D} (h:Pq K H [a,b,c] vs):∃ u v w,vs=[u,v,w]/\Dat K H a u/\Dat K H b v/\Dat K H c w:=by obtain ⟨u,r,e,h1,h⟩:=h.QB;obtain ⟨v,w,q,h2⟩:=jb h;subst q e;exact ⟨u,v,w,rfl,h1,h2⟩
variable {σ:St} {j:Nat}
theorem mH {z:Option V} {x:Option V}:(σ.set j z).set j x=σ.set j x:=by rw [Oa]
variable {J:It} {item:Nat->V} {te:TE} {σ0:St} {Q:VK}
theorem vX (Ok:Hp->Prop)
  (go:∀ i H',Ok H'->i < n->J.go i H'/\∀ x PN,J.Vs i H' x PN->PN=H'/\x=item i) (stop:∀ H',Ok H'->J.stop n H') (h0:σ0.set j none=σ0)
  (D:Addr) (Pn:Nat->Hp->Prop) (p0:Pn 0 (upd H1 D (.lst []))) (ok:∀ i H',i<=n->Pn i H'->Ok H')
  (turn:∀ i H',i < n->Pn i H'->te (σ0.set j (some (item i))) H' λv H4=>∃ ys,H4 D=some (.lst ys)/\ys.length < sizeLine/\(∃ z,σ0.set j (some (item i))=σ0.set j z)/\Pn (i+1) (upd H4 D (.lst (ys++[v]))))
  (fin:∀ H',Pn n H'->Q (.ref D) H') :
  ∃ W:Nat->Nat->St->Hp->Prop,(∃ m,W 0 m σ0 (upd H1 D (.lst [])))/\∀ i m σ' H',W i m σ' H' ->
   (J.stop i H'/\Q (.ref D) H') \/
   (J.go i H'/\∃ Nx:St->Hp->Prop,(∀ σ'' PN,Nx σ'' PN->∃ m',m' < m/\W (i+1) m' σ'' PN)/\∀ x PN,J.Vs i H' x PN->bW j x σ' PN λσ2 H2=>fP σ2 H2 λb H3 =>
    if b=true then te σ2 H3 λv H4=>∃ ys,H4 D=some (.lst ys)/\ys.length < sizeLine/\Nx σ2 (upd H4 D (.lst (ys++[v]))) else Nx σ2 H3):=by
 refine ⟨λi m σ' H'=>m=n - i/\i<=n/\(∃ z,σ'=σ0.set j z)/\Pn i H',⟨n,by omega,MK _,⟨none,h0.symm⟩,p0⟩,?_⟩;rintro i m σ' H' ⟨rfl,hi,⟨z,rfl⟩,p⟩;have o:=ok i H' hi p;by_cases hlt:i < n
 ·obtain ⟨g,y⟩:=go i H' o hlt;refine .inr ⟨g,λσ'' PN=>(∃ z,σ''=σ0.set j z)/\Pn (i+1) PN,λσ'' PN q=>⟨n - (i+1),by omega,rfl,hlt,q.1,q.2⟩,λx PN yx=>?_⟩;obtain ⟨e1,e2⟩:=y x PN yx;subst e1 e2;simp only [bW,fP,N1,mH];exact turn i _ hlt p
 ·have e:i=n:=by omega
  subst e;exact .inl ⟨stop H' o,fin H' p⟩
theorem AG (i:Nat) (H':Hp) (h:QE K H' a xs) (hi:i < xs.length):(Yx K a).go i H'/\∀ x PN,(Yx K a).Vs i H' x PN->PN=H'/\x=xs.getD i .Py:=by refine ⟨⟨xs,xs[i],h,LQ hi⟩,λx PN y=>⟨y.1,?_⟩⟩;have q:=y.2 xs h;rw [Ml,q];rfl
theorem oX (i:Nat) (H':Hp) (h:PJ K H' a xs) (hi:i < xs.length):(Yw K a).go i H'/\∀ x PN,(Yw K a).Vs i H' x PN->PN=H'/\x=xs.getD i .Py:=by refine ⟨⟨xs,xs[i],h,LQ hi⟩,λx PN y=>⟨y.1,?_⟩⟩;have q:=y.2 xs h;rw [Ml,q];rfl
theorem wg (i:Nat) (H':Hp) (hi:i < n):(Ze 0 n).go i H'/\∀ x PN,(Ze 0 n).Vs i H' x PN->PN=H'/\x=.int i:=by refine ⟨hi,λx PN y=>⟨y.1,?_⟩⟩;have q:=y.2;rw [q];simp
section
variable {X:Cx}
noncomputable def FO (K:W.Frag):V->V->Hp->VK->Prop:=λo i H Q=>∃ p xs k v,o=.ref p/\i=.int k/\0<=k/\PJ K H p xs/\xs[k.toNat]?=some v/\Q v H
theorem AE:FD X (FO X.K):=by intro pins s σ H o i ov iv Q I r1 r2 h;obtain ⟨p,xs,k,v,eo,ei,h0,hq,he,q⟩:=h;subst eo ei;cases r1;obtain ⟨t,rfl⟩:=r2;obtain ⟨its,r,pl,hz⟩:=I.list hq;obtain ⟨w,ew,rw'⟩:=r.get he;have hl:=r.length;have hlt:k.toNat < xs.length:=(Mg.mp he).1;have hn:=kT;exact wpAny_getItem_list pl.isList h0 (by omega) (by simpa using ew) ⟨v,H,I,rw',q⟩
theorem C1:Se X (binaryOp .Mult) (rI IntMulOk λi j=>.int (i * j)):=opI λ_ _ _ _ _ _ _ hc q=>mul_int q hc
end
theorem yj (h:j < n):X6 n (j:Int)=some j:=by unfold X6;rw [Mc (by omega),Mc (by omega)];simp
theorem at0 {α:Type} {x:α} {r:List α}:Yj (x::r) 0=some x:=ja (j:=0) rfl
theorem at1 {α:Type} {x y:α} {r:List α}:Yj (x::y::r) 1=some y:=ja (j:=1) rfl
theorem ix0:X6 (n+1) 0=some 0:=yj (j:=0) (by omega)
theorem ix1:X6 (n+2) 1=some 1:=yj (j:=1) (by omega)
theorem eP:∀ ns:List Int,Pq K H (ns.map D.int) (ns.map V.int)
 | []=>Pq.nil
 | n::ns=>Pq.cons (Dat.Px n) (eP ns)
theorem fE:∀ ns:List Int,PY (ns.map D.int)=true
 | []=>by unfold PY;rfl
 | n::ns=>by show PY (D.int n::ns.map D.int)=true;unfold PY;rw [fE ns];unfold Rp;rfl
theorem cW:∀ ns:List Int,PC (ns.map D.int)=0
 | []=>by unfold PC;rfl
 | n::ns=>by show PC (D.int n::ns.map D.int)=0;unfold PC;rw [cW ns];unfold fJ;rfl
theorem lP (ns:List Int):QM (ns.map D.int) []=ns.isEmpty:=by
 cases ns with
 | nil=>unfold QM;rfl
 | cons n ns=>show QM (D.int n::ns.map D.int) []=false;unfold QM;rfl
theorem jg (h:n<=1000):n<=sizeLine:=Np (dJ h)
noncomputable def XG (K:W.Frag) (H:Hp) (a:Addr) (ns:List Int):Prop:=(∃ o,H a=some (.Yp o (.lst (ns.map V.int)))) \/
 ∃ (o:Obj) (its:Array Value) (n:Nat),K.lookup a=some o/\o.cls=.type "list"/\o.dict=none/\o.data=.seq its n/\its.size<=sizeLine/\Vals (ns.map V.int) its.toList
theorem XG.S7 (h:XG K H a ns):PJ K H a (ns.map V.int):=by
 rcases h with ⟨o,h⟩ | h
 ·exact .inl (.inr ⟨o,h⟩)
 ·exact .inr h
theorem XG.but {t:Addr} {zs:List V} (h:XG K H a ns) (e:PX t H H') (ht:H t=some (.lst zs)):XG K H' a ns:=by
 rcases h with ⟨o,h⟩ | h
 ·exact .inl ⟨o,e _ _ (λz=>by rw [z,ht] at h;cases h) h⟩
 ·exact .inr h
theorem XG.same (h:XG K H a ns) (e:Pr H H'):XG K H' a ns:=by
 rcases h with ⟨o,h⟩ | h
 ·exact .inl ⟨o,e _ _ h⟩
 ·exact .inr h
theorem Fm (hO:Cr H) (h:PJ K H a (ns.map V.int)):XG K H a ns:=by
 rcases h with (h | ⟨o,h⟩) | h
 ·rcases hO a with z | ⟨o,xs,z⟩
  ·rw [h] at z;cases z
  ·rw [h] at z;cases z
 ·exact .inl ⟨o,h⟩
 ·exact .inr h
noncomputable def tS (K:W.Frag):Sp:=λvs H Q _=>∃ (a t:Addr) (ns:List Int) (m p q:Int) (rest:List V),vs=[.ref a,.ref t,.int m]/\XG K H a ns/\H t=some (.lst (.int p::.int q::rest))/\0<=p/\0 < m/\m<=1000000 /\
 ∀ (r:Int) (H':Hp) (p' q':Int),PX t H H'->H' t=some (.lst (.int p'::.int q'::rest))->0<=p'->0<=r->r < m->Q (.int r) H'
noncomputable def RE (K:W.Frag) (t:TE) (σ:St) (H:Hp) (d:D):Prop:=∀ H1,Pr H H1->∀ Q:VK,(∀ v H',Pr H1 H'->Dat K H' d v->Q v H')->t σ H1 Q
noncomputable def RT (t:TT) (σ:St) (H:Hp) (b:Bool):Prop:=∀ H1,Pr H H1->∀ Q:Bool->Hp->Prop,(∀ H',Pr H1 H'->Q b H')->t σ H1 Q
noncomputable def RA (K:W.Frag) (t:TA) (σ:St) (H:Hp) (ds:List D):Prop:=∀ H1,Pr H H1->∀ Q:List V->Hp->Prop,(∀ vs H',Pr H1 H'->Pq K H' ds vs->Q vs H')->t σ H1 Q
section
variable {K:W.Frag} {σ:St} {H H':Hp} {d d':D} {ds:List D} {t u ta tb:TE} {tt uu:TT} {tA:TA} {i j:Int} {b c:Bool}
theorem RE.mono (h:RE K t σ H d) (e:Pr H H'):RE K t σ H' d:=λH1 s Q q=>h H1 (e.trans s) Q q
theorem RA.mono (h:RA K tA σ H ds) (e:Pr H H'):RA K tA σ H' ds:=λH1 s Q q=>h H1 (e.trans s) Q q
theorem RT.mono (h:RT tt σ H b) (e:Pr H H'):RT tt σ H' b:=λH1 s Q q=>h H1 (e.trans s) Q q
theorem RE.as (h:RE K t σ H d) (e:d=d'):RE K t σ H d':=e ▸ h
theorem RT.as (h:RT tt σ H b) (e:b=c):RT tt σ H c:=e ▸ h
theorem RE.use {Q:VK} (h:RE K t σ H d) (q:∀ v H',Pr H H'->Dat K H' d v->Q v H'):t σ H Q:=h H (Pr.refl H) Q q
theorem RT.use {Q:Bool->Hp->Prop} (h:RT tt σ H b) (q:∀ H',Pr H H'->Q b H'):tt σ H Q:=h H (Pr.refl H) Q q
theorem RA.use {Q:List V->Hp->Prop} (h:RA K tA σ H ds) (q:∀ vs H',Pr H H'->Pq K H' ds vs->Q vs H'):tA σ H Q:=h H (Pr.refl H) Q q
theorem aE:RE K (tC (.int i)) σ H (.int i):=λH1 _ Q q=>q _ _ (Pr.refl _) (Dat.Px i)
variable {x:Str}
theorem aL:RE K (tC (.str x)) σ H (.str x):=λH1 _ Q q=>q _ _ (Pr.refl _) (Dat.Rb x)
theorem gL:RE K (tC (.bl b)) σ H (.bl b):=λH1 _ Q q=>q _ _ (Pr.refl _) (Dat.UA b)
theorem Ff:RE K (tC .Py) σ H .Py:=λH1 _ Q q=>q _ _ (Pr.refl _) Dat.W5
variable {k:Nat}
theorem aB {v:V} (h:Dat K H d v) (e:σ[k]?=some (some v):=by rfl):RE K (dW k) σ H d:=λH1 s Q q=>⟨v,e,q _ _ (Pr.refl _) (s.dat h)⟩
theorem aI:RA K dH σ H []:=λH1 _ Q q=>q _ _ (Pr.refl _) Pq.nil
theorem aA (h:RE K t σ H d) (r:RA K tA σ H ds):RA K (bO t tA) σ H (d::ds):=λH1 s Q q =>
 h H1 s _ λv H2 s2 q2=>r H2 (s.trans s2) _ λvs H3 s3 q3=>q _ _ (s2.trans s3) (Pq.cons (s3.dat q2) q3)
theorem aR (h:RA K tA σ H ds) (hl:ds.length<=1000:=by simp):RE K (Ge tA) σ H (.tup ds):=λH1 s Q q =>
 h H1 s _ λvs H2 s2 q2=>⟨by rw [<- q2.length];exact jg hl,λp hp=>q _ _ (s2.trans (aT hp _)) (Dat.tupI (QE.of aM) ((aT hp _).P0 q2))⟩
theorem D0 {g:Int->Int} (h:RE K t σ H (.int i)):RE K (tUn (rU λi=>.int (g i)) t) σ H (.int (g i)):=λH1 s Q q =>
 h H1 s _ λv H2 s2 q2=>⟨i,q2.Pz,q _ _ s2 (Dat.Px _)⟩
variable {g:Int->Int->V}
theorem wU (h1:RE K ta σ H (.int i)) (h2:RE K tb σ H (.int j)) (hd:∀ H,Dat K H d (g i j)):RE K (S8 (XJ g) ta tb) σ H d:=λH1 s Q q =>
 h1 H1 s _ λv H2 s2 q2=>h2 H2 (s.trans s2) _ λw H3 s3 q3=>⟨i,j,q2.Pz,q3.Pz,q _ _ (s2.trans s3) (hd _)⟩
theorem wV {C:Int->Int->Prop} (h1:RE K ta σ H (.int i)) (h2:RE K tb σ H (.int j)) (hc:C i j) (hd:∀ H,Dat K H d (g i j)):RE K (S8 (rI C g) ta tb) σ H d:=λH1 s Q q =>
 h1 H1 s _ λv H2 s2 q2=>h2 H2 (s.trans s2) _ λw H3 s3 q3=>⟨i,j,q2.Pz,q3.Pz,hc,q _ _ (s2.trans s3) (hd _)⟩
theorem dU (h1:RE K ta σ H (.int i)) (h2:RE K tb σ H (.int j)):RE K (S8 (XJ λi j=>.int (i+j)) ta tb) σ H (.int (i+j)):=wU h1 h2 λ_=>Dat.Px _
theorem wW (h1:RE K ta σ H (.int i)) (h2:RE K tb σ H (.int j)):RE K (S8 (XJ λi j=>.int (i - j)) ta tb) σ H (.int (i - j)):=wU h1 h2 λ_=>Dat.Px _
variable {p:Int->Int->Bool}
theorem cO (h1:RE K ta σ H (.int i)) (h2:RE K tb σ H (.int j)):RE K (S8 (XJ λi j=>.bl (p i j)) ta tb) σ H (.bl (p i j)):=wU h1 h2 λ_=>Dat.UA _
theorem eS (h1:RE K ta σ H (.int i)) (h2:RE K tb σ H (.int j)):RE K (S8 rEq ta tb) σ H (.bl (decide (i=j))):=λH1 s Q q =>
 h1 H1 s _ λv H2 s2 q2=>h2 H2 (s.trans s2) _ λw H3 s3 q3=>by
  rw [q2.Pz,q3.Pz];refine ⟨rfl,?_⟩;have e:decide (V.int i=V.int j)=decide (i=j):=by by_cases z:i=j <;> simp [z]
  rw [e];exact q _ _ (s2.trans s3) (Dat.UA _)
theorem pS (h1:RE K ta σ H (.int i)) (h2:RE K tb σ H (.int j)):RE K (S8 rNe ta tb) σ H (.bl (!decide (i=j))):=λH1 s Q q =>
 h1 H1 s _ λv H2 s2 q2=>h2 H2 (s.trans s2) _ λw H3 s3 q3=>by
  rw [q2.Pz,q3.Pz];refine ⟨rfl,?_⟩;have e:decide (V.int i=V.int j)=decide (i=j):=by by_cases z:i=j <;> simp [z]
  rw [e];exact q _ _ (s2.trans s3) (Dat.UA _)
theorem bF {y:Str} (h1:RE K ta σ H (.str x)) (h2:RE K tb σ H (.str y)):RE K (S8 rEq ta tb) σ H (.bl (decide (x=y))):=λH1 s Q q =>
 h1 H1 s _ λv H2 s2 q2=>h2 H2 (s.trans s2) _ λw H3 s3 q3=>by
  rw [q2.P9,q3.P9];refine ⟨rfl,?_⟩;have e:decide (V.str x=V.str y)=decide (x=y):=by by_cases z:x=y <;> simp [z]
  rw [e];exact q _ _ (s2.trans s3) (Dat.UA _)
theorem a7 (h1:RE K ta σ H (.tup ds)) (h2:RE K tb σ H (.int k)) (e:ds[k]?=some d):RE K (S8 (pN K) ta tb) σ H d:=λH1 s Q q =>
 h1 H1 s _ λv H2 s2 q2=>h2 H2 (s.trans s2) _ λw H3 s3 q3=>by obtain ⟨a,vs,ev,hq,hd⟩:=(s3.dat q2).P7;obtain ⟨x,ex,hx⟩:=hd.get e;exact ⟨a,vs,k,x,ev,q3.Pz,hq,ja ex,q _ _ (s2.trans s3) hx⟩
theorem cY (h:RE K t σ H (.tup ds)):RE K (WB (λxs H Q=>∃ p ys,xs=[.ref p]/\(PJ K H p ys\/QE K H p ys)/\Q (.int ys.length) H) (bO t dH)) σ H (.int ds.length):=λH1 s Q q =>
 h H1 s _ λv H2 s2 q2=>by obtain ⟨a,vs,ev,hq,hd⟩:=q2.P7;subst ev;refine ⟨a,vs,rfl,.inr hq,?_⟩;rw [<- hd.length];exact q _ _ s2 (Dat.Px _)
theorem cJ {T:String} (h:RE K t σ H d):RE K (WB (λxs H Q=>∃ x d,xs=[x,.ty T]/\Dat K H d x/\Q (.bl (nU d T)) H) (bO t (bO (tC (.ty T)) dH))) σ H (.bl (nU d T)):=λH1 s Q q =>
 h H1 s _ λv H2 s2 q2=>⟨v,d,rfl,q2,q _ _ s2 (Dat.UA _)⟩
theorem bE {R:List D->D->Prop} {E:XK} (h:RA K tA σ H ds) (e:R ds d):RE K (gJ (Qh K R) [] E tA) σ H d:=λH1 s Q q =>
 h H1 s _ λvs H2 s2 q2=>⟨ds,d,by rw [MI];exact q2,e,λv H3 s3 q3=>q _ _ (s2.trans s3) q3⟩
variable {a:Addr} {T:List (Str × KTD.Dat)}
theorem pQ {k:Str} (h:RE K t σ H (.str k)) (ht:jX K a T):RE K (S8 (λx y H Q=>∃ k a T,x=.str k/\y=.ref a/\jX K a T/\Q (.bl (KTD.inKeys k T)) H) t (tC (.ref a))) σ H (.bl (KTD.inKeys k T)):=λH1 s Q q =>
 h H1 s _ λv H2 s2 q2=>⟨k,a,T,q2.P9,rfl,ht,q _ _ s2 (Dat.UA _)⟩
theorem vp {k:Str} (h:RE K t σ H (.str k)) (ht:jX K a T) (hp:(T.all λp=>KTD.plain p.2)=true) (e:KTD.datumAt k T=some (.flat (.int i))):RE K (S8 (Bv K) (tC (.ref a)) t) σ H (.int i):=λH1 s Q q =>
 h H1 s _ λv H2 s2 q2=>⟨a,k,T,i,rfl,q2.P9,ht,hp,e,q _ _ s2 (Dat.Px _)⟩
theorem FZ {n:Nat}:HT.QF (n+1) 0 (some 1)=1:=by have:=HT.U0 (n+1) 0 1;simpa using this
theorem Gp (v:V) (r:List V):lM (v::r) (some 1) none=r:=by unfold lM;rw [L5,FZ,HT.Xx];simp
theorem zC (h:RE K t σ H (.tup (d'::ds))):RE K (Zs (E3 K) t (kN (tC (.int 1))) oH) σ H (.tup ds):=λH1 s Q q =>
 h H1 s _ λv H2 s2 q2=>by
  obtain ⟨a,vs,ev,hq,hd⟩:=q2.P7;obtain ⟨w,r,er,h1,h2⟩:=hd.QB;subst ev er;refine ⟨1,rfl,a,w::r,rfl,hq,λz=>?_,λp hp=>?_⟩
  ·rw [L5,FZ] at z;exact absurd z.1 (by decide)
  ·rw [Gp];exact q _ _ (s2.trans (aT hp _)) (Dat.tupI (QE.of aM) ((aT hp _).P0 h2))
theorem eR (h1:RE K ta σ H (.bl b)) (h2:b=true->RE K tb σ H (.bl c)):RE K (D8 ta tb) σ H (.bl (b && c)):=λH1 s Q q =>
 h1 H1 s _ λv H2 s2 q2=>⟨b,q2.VR,by
  cases b with
  | true=>rw [Mc rfl];exact h2 rfl H2 (s.trans s2) _ λw H3 s3 q3=>q _ _ (s2.trans s3) q3
  | false=>rw [LZ L6];exact q _ _ s2 (Dat.UA _)⟩
theorem DZ (h1:RE K ta σ H (.bl b)) (h2:b=false->RE K tb σ H (.bl c)):RE K (Gc ta tb) σ H (.bl (b || c)):=λH1 s Q q =>
 h1 H1 s _ λv H2 s2 q2=>⟨b,q2.VR,by
  cases b with
  | true=>rw [Mc rfl];exact q _ _ s2 (Dat.UA _)
  | false=>rw [LZ L6];exact h2 rfl H2 (s.trans s2) _ λw H3 s3 q3=>q _ _ (s2.trans s3) q3⟩
theorem BO (h:RE K t σ H (.bl b)):RE K (Ea t) σ H (.bl (!b)):=λH1 s Q q =>
 h H1 s _ λv H2 s2 q2=>⟨b,q2.VR,q _ _ s2 (Dat.UA _)⟩
theorem mq {r:Int->Int->Bool} {k:Int} {tc:TE} (h1:RE K ta σ H (.int i)) (h2:RE K tb σ H (.int j)) (h3:p i j=true->RE K tc σ H (.int k)) :
  RE K (tV (XJ λi j=>.bl (p i j)) (XJ λi j=>.bl (r i j)) ta tb tc) σ H (.bl (p i j && r j k)):=λH1 s Q q =>
 h1 H1 s _ λv H2 s2 q2=>h2 H2 (s.trans s2) _ λw H3 s3 q3=>by
  refine ⟨i,j,q2.Pz,q3.Pz,p i j,rfl,?_⟩
  cases hp:p i j with
  | true =>simp only [N1,Nk];exact h3 hp H3 (s.trans (s2.trans s3)) _ λz H4 s4 q4=>⟨j,k,q3.Pz,q4.Pz,q _ _ (s2.trans (s3.trans s4)) (by rw [hp];exact Dat.UA _)⟩
  | false =>simp only [O9,Po,NV];exact q _ _ (s2.trans s3) (by rw [hp];exact Dat.UA _)
theorem jR (h:RT tt σ H b) (h1:b=true->RE K ta σ H d) (h2:b=false->RE K tb σ H d):RE K (tIf tt ta tb) σ H d:=λH1 s Q q =>
 h H1 s _ λH2 s2=>by
  cases b with
  | true=>rw [Mc rfl];exact h1 rfl H2 (s.trans s2) _ λw H3 s3 q3=>q _ _ (s2.trans s3) q3
  | false=>rw [LZ L6];exact h2 rfl H2 (s.trans s2) _ λw H3 s3 q3=>q _ _ (s2.trans s3) q3
theorem aJ (h:RE K t σ H (.bl b)):RT (vE t) σ H b:=λH1 s Q q=>h H1 s _ λv H2 s2 q2=>⟨b,q2.VR,q _ s2⟩
theorem bH (h:RE K t σ H (.bl b)):RT (λσ H Q=>t σ H λx H'=>∃ k,vP K x H' k/\Q k H') σ H b:=λH1 s Q q=>h H1 s _ λv H2 s2 q2=>by rw [q2.VR];exact ⟨b,rfl,q _ s2⟩
theorem bX (h:RT tt σ H b):RT (Fq tt) σ H (!b):=λH1 s Q q=>h H1 s _ λH2 s2=>q _ s2
theorem k8 (h:RT tt σ H b) (h2:b=true->RT uu σ H c):RT (F3 tt uu) σ H (b && c):=λH1 s Q q=>h H1 s _ λH2 s2=>by
 cases b with
 | true=>rw [Mc rfl];exact h2 rfl H2 (s.trans s2) _ λH3 s3=>q _ (s2.trans s3)
 | false=>rw [LZ L6];exact q _ s2
theorem eI (h:RT tt σ H b) (h2:b=false->RT uu σ H c):RT (tOr tt uu) σ H (b || c):=λH1 s Q q=>h H1 s _ λH2 s2=>by
 cases b with
 | true=>rw [Mc rfl];exact q _ s2
 | false=>rw [LZ L6];exact h2 rfl H2 (s.trans s2) _ λH3 s3=>q _ (s2.trans s3)
variable {En:Ends}
theorem bC (h:RE K t σ H d) (q:∀ v H',Pr H H'->Dat K H' d v->En.rt v H'):Fu t En σ H:=h.use q
theorem Fi (h:RE K t σ H d) (q:∀ v H',Pr H H'->Dat K H' d v->En.nx (σ.set k (some v)) H'):lA t (bW k) En σ H:=h.use q
theorem fL {ts us:TS} (h:RT tt σ H b) (h1:b=true->∀ H',Pr H H'->ts En σ H') (h2:b=false->∀ H',Pr H H'->us En σ H'):DC tt ts us En σ H:=h.use λH' s=>by
 cases b with
 | true=>rw [Mc rfl];exact h1 rfl H' s
 | false=>rw [LZ L6];exact h2 rfl H' s
end
theorem cC:bootBuiltins "len"=some (.builtin "len"):=by decide +kernel
theorem cR:bootBuiltins "isinstance"=some (.builtin "isinstance"):=by decide +kernel
theorem oO:bootBuiltins "all"=some (.builtin "all"):=by decide +kernel
theorem Eu:bootBuiltins "sum"=some (.builtin "sum"):=by decide +kernel
theorem Ag:bootBuiltins "int"=some (.type "int"):=by decide +kernel
theorem Cz:bootBuiltins "bool"=some (.type "bool"):=by decide +kernel
theorem Ah:bootBuiltins "str"=some (.type "str"):=by decide +kernel
theorem hV:bootBuiltins "tuple"=some (.type "tuple"):=by decide +kernel
theorem fZ:bootBuiltins "list"=some (.type "list"):=by decide +kernel
theorem lJ:bootBuiltins "range"=some (.type "range"):=by decide +kernel
theorem Et:bootBuiltins "set"=some (.type "set"):=by decide +kernel
theorem rN:bootBuiltins "enumerate"=some (.type "enumerate"):=by decide +kernel
theorem um:bootBuiltins "reversed"=some (.type "reversed"):=by decide +kernel
variable {ds:List D}
theorem Fh {tA:TA} (h:RA K tA σ H ds) (q:∀ p vs H1,Pr H H1->H1 p=none->Pq K H1 ds vs->Q (.ref p) (upd H1 p (.lst vs))) (hl:ds.length<=1000:=by simp):B5 tA σ H Q :=
 h.use λvs H1 s1 q1=>⟨by rw [<- q1.length];exact jg hl,λp hp=>q p vs H1 s1 hp q1⟩
theorem iK {K:PySem.W.Frag} (go:∀ i H',Pr H1 H'->i < n->J.go i H'/\∀ x PN,J.Vs i H' x PN->PN=H'/\x=item i) (stop:∀ H',Pr H1 H'->J.stop n H')
  (h0:σ0.set j none=σ0) (es:List D) (hn:es.length=n) (hb:n<=1000) (turn:∀ i d,es[i]?=some d->RE K te (σ0.set j (some (item i))) H1 d)
  (fin:∀ l ys H',H1 l=none->Pr H1 H'->H' l=some (.lst ys)->Pq K H' es ys->Q (.ref l) H') (l:Addr) (hl:H1 l=none) :
  ∃ W:Nat->Nat->St->Hp->Prop,(∃ m,W 0 m σ0 (upd H1 l (.lst [])))/\∀ i m σ' H',W i m σ' H' ->
   (J.stop i H'/\Q (.ref l) H') \/
   (J.go i H'/\∃ Nx:St->Hp->Prop,(∀ σ'' PN,Nx σ'' PN->∃ m',m' < m/\W (i+1) m' σ'' PN)/\∀ x PN,J.Vs i H' x PN->bW j x σ' PN λσ2 H2=>fP σ2 H2 λb H3 =>
    if b=true then te σ2 H3 λv H4=>∃ ys,H4 l=some (.lst ys)/\ys.length < sizeLine/\Nx σ2 (upd H4 l (.lst (ys++[v]))) else Nx σ2 H3):=by
 refine vX (λH'=>Pr H1 H') go stop h0 l (λi H'=>Pr H1 H'/\∃ ys,H' l=some (.lst ys)/\Pq K H' (es.take i) ys) ?_ ?_ ?_ ?_
 ·exact ⟨aT hl _,[],aM,by rw [M5];exact Pq.nil⟩
 ·intro i H' _ p;exact p.1
 ·intro i H' hi ⟨s1,ys,hy,hd⟩;have hi':i < es.length:=by omega
  refine ((turn i es[i] (LQ hi')).mono s1).use λv H4 s4 q4=>?_;have Sg:=s4 _ _ hy;have lys:ys.length=i:=by rw [<- hd.length,Mx];omega
  refine ⟨ys,Sg,dJ (by omega),⟨_,rfl⟩,λb o hb=>?_,ys++[v],aM,?_⟩
  ·rw [aX (bS hb hl)];exact s4 _ _ (s1 _ _ hb)
  ·have g:fA K H4 (upd H4 l (.lst (ys++[v]))):=PX.grow (t:=l) (PX.upd (Pr.refl H4).but) Sg aM;rw [MP,LQ hi'];exact Pq.append (Pq.mono g _ (s4.P0 hd)) (Pq.cons (Dat.mono g _ q4) Pq.nil)
 ·intro H' ⟨s1,ys,hy,hd⟩;rw [Nr (by omega)] at hd;exact fin l ys H' hl s1 hy hd
variable {tt:TT} {En:Ends} {ts us:TS}
theorem aP {K:W.Frag} {b:Bool} (h:RT tt σ H b) (h1:b=true->∀ H',Pr H H'->ts { En with nx:=us En } σ H') (h2:b=false->∀ H',Pr H H'->us En σ H'):lC (DC tt ts kn) us En σ H :=
 fL h h1 h2
variable {d:D}
theorem cF {t:TE} (h:RE K t σ H d) (q:∀ v H',Pr H H'->Dat K H' d v->us En (σ.set k (some v)) H'):lC (lA t (bW k)) us En σ H:=h.use q
theorem gW (h:te σ H λx H1=>us En (σ.set k (some x)) H1):lC (lA te (bW k)) us En σ H:=h
theorem jM (h:te σ H λ_ H1=>us En σ H1):lC (nM te) us En σ H:=h
variable {v:V}
theorem FX (h:Q v H):tC v σ H Q:=h
theorem jx (h:te σ H En.rt):Fu te En σ H:=h
theorem cZ (h:ts { En with nx:=us En } σ H):lC ts us En σ H:=h
variable {mk:St->St}
theorem zx {tl:TE} {cs:List D} (h:RE K tl σ H (.tup cs)) (hc:cs.length<=1000) (es:List D) (hl:es.length=cs.length) (h0:(mk σ).set j none=mk σ)
  (turn:∀ H1 (i:Nat) c v d,Pr H H1->cs[i]?=some c->es[i]?=some d->Dat K H1 c v->RE K te ((mk σ).set j (some v)) H1 d)
  (fin:∀ l ys H',H l=none->Pr H H'->H' l=some (.lst ys)->Pq K H' es ys->Q (.ref l) H'):gM (y9 K tl) mk (bW j) fP te σ H Q:=by
 refine h.use λv4 H4 s4 q4=>?_;obtain ⟨a,vs,e,hq,hd⟩:=q4.P7;subst e;have l4:=hd.length;refine ⟨a,rfl,⟨vs,hq⟩,?_⟩;refine iK (K:=K) (Q:=Q) (n:=vs.length) (item:=λi=>vs.getD i .Py) (λi H' s hi=>AG i H' (s.YM hq) hi) (λH' s=>⟨vs,s.YM hq,L7 _⟩) h0 es (by omega) (by omega) (λi d hi=>?_) (λl ys H5 Yk s5=>fin l ys H5 (s4.free Yk) (s4.trans s5));have hi':i < es.length:=(Mg.mp hi).1;have hic:i < cs.length:=by omega
 obtain ⟨vz,ez,hz⟩:=hd.get (LQ hic);have q:=turn H4 i cs[i] vz d s4 (LQ hic) hi hz;rw [Ml,ez];exact q
theorem zw {tA:TA} (h:RA K tA σ H [.int n]) (hc:n<=1000) (es:List D) (hl:es.length=n) (h0:(mk σ).set j none=mk σ)
  (turn:∀ H1 (i:Nat) d,Pr H H1->es[i]?=some d->RE K te ((mk σ).set j (some (.int i))) H1 d)
  (fin:∀ l ys H',H l=none->Pr H H'->H' l=some (.lst ys)->Pq K H' es ys->Q (.ref l) H'):gM (xX tA) mk (bW j) fP te σ H Q:=by
 refine h.use λv4 H4 s4 q4=>?_;obtain ⟨u,e,hu⟩:=hX q4;have eu:=hu.Pz;subst eu e;refine ⟨n,rfl,by omega,by omega,?_⟩;rw [OE];exact iK (K:=K) (Q:=Q) (n:=n) (item:=λi=>.int i) (λi H' s hi=>wg i H' hi) (λH' s=>L7 _) h0 es hl hc (λi d hi=>turn H4 i d s4 hi) (λl ys H5 Yk s5=>fin l ys H5 (s4.free Yk) (s4.trans s5))
theorem eY {Q:St->Hp->Prop} (h:Q (σ.set j (some v)) H):bW j v σ H Q:=h
theorem jq {base:Heap} {f:Addr} {ps:List Str} (no:∀ vs H Q E,¬ sp vs H Q E):PD P w K mg base CX k f fd ps sp :=
 ⟨λvs H Q E h=>absurd h (no vs H Q E),λA outer s H args us vs Q E _ _ _ _ h=>absurd h (no vs H Q E)⟩
theorem je {ta:TE} {r:List V->Hp->VK->Prop} (h:ta σ H λx H1=>r [x] H1 Q):WB r (bO ta dH) σ H Q:=h
theorem kr {i:Nat} {e:D} (h:RE K te σ H (.tup [d,e])) (q:∀ v w H',Pr H H'->Dat K H' d v->Dat K H' e w->us En ((σ.set i (some v)).set j (some w)) H') :
  lC (lA te (rV K 2 (iG (bW i) (iG (bW j) wc)))) us En σ H :=
 h.use λx H1 s1 q1=>by obtain ⟨a,vs,e1,hq,hd⟩:=q1.P7;obtain ⟨v,w,e2,hv,hw⟩:=jb hd;subst e1 e2;exact ⟨a,_,rfl,hq,rfl,v,_,rfl,w,_,rfl,rfl,q v w H1 s1 hv hw⟩
noncomputable def DR:Expr->Bool
 | .Starred ..=>false
 | _=>true
variable {e:Expr} {es:List Expr}
theorem zG {env:Env} (h:DR e=true):starEach (e::es) env=(false,eval e env)::starEach es env:=by cases e <;> first | rfl | cases h
theorem aD {t:TA} (ha:PE X e te) (hr:PA X es t) (h:DR e=true:=by rfl):PA X (e::es) (bO te t):=dA ha hr (zG h)
theorem xu {bs:List Bool} {us:List Value}:Vals (bs.map V.bl) us->us=bs.map Value.bool:=by
 intro h
 induction bs generalizing us with
 | nil=>cases h;rfl
 | cons b bs ih =>
  cases h with
  | cons r t=>cases r;rw [ih t];rfl
theorem E6 (bs:List Bool) (d:Bool):(List.range bs.length).map (λi=>(bs[i]?).getD d)=bs:=by
 apply List.ext_getElem
 ·simp
 ·intro i h1 h2;simp at h1;simp [h1]
section
variable {X:Cx}
theorem j0 (hc:X.calm=true):jo X (.builtin "all") (λxs H Q=>∃ (l:Addr) (bs:List Bool),xs=[.ref l]/\PJ X.K H l (bs.map V.bl)/\Q (.bl (bs.all id)) H):=by
 intro pins s σ H xs us Q I r h;obtain ⟨l,bs,rfl,hq,q⟩:=h;obtain ⟨u,rfl,ru⟩:=jC r;cases ru;obtain ⟨its,rv,p,hz⟩:=I.list hq;have ei:=xu rv;have hl:=p.isList;have hlt:l < s.heap.objs.size:=by obtain ⟨_,e,_⟩:=hl;exact Mi e
 refine call_all_walk (N4 hl ?_)
 refine ⟨s.heap.objs.size,[s.heap.objs.size,l],[s.heap.objs.size],its.toArray.size,_,_,λi=>(bs[i]?).getD true,rfl,Walks.list (A:=X.A.in1) (I.ok.hd hc) _ l (Mq hlt) its.toArray,
  ⟨⟨_,Mu _ rfl,rfl,rfl⟩,hl.push _⟩,λi v s' Q' E' hP hQ=>?_,λh' tk hk=>?_⟩
 ·subst ei;have hP':(bs.map Value.bool)[i]?=some v:=by simpa using hP
  rw [LV] at hP'
  cases hb:bs[i]? with
  | none=>rw [hb] at hP';cases hP'
  | some b =>rw [hb] at hP';cases hP';simp only [hb,Option.getD_some] at hQ;exact Nf hQ
 ·have e:((List.range its.toArray.size).all λi=>(bs[i]?).getD true)=bs.all id:=by
   subst ei;rw [Me,LR]
   conv=>rhs;rw [<- E6 bs true]
   rw [List.all_map];rfl
  rw [e];exact ⟨.bl _,H,I.kept (t':=tk) λb x e=>hk b x (λhm=>by rw [Mv.mp hm] at e;exact M1 _ (Mi e)) (LX _ e),rfl,q⟩
end
structure Y7 (K:W.Frag) (x qual:Str) (st:Stmt) (f:Addr) (fd:FuncData) (T:Addr) (ds:List Value):Prop where
 ex:∃ (oc:Value) (od:Option Addr) (kV doc pm:Value) (an:Option Addr) (cdv ct:Value) (osl:Array (Option Value)),
  fd=W.fnOf x qual (bP st) (bL st) (aK st) (.ref T) kV doc pm an cdv ct/\K.lookup f=some ⟨oc,od,.func fd,osl⟩/\W.codeIn K cdv qual=true
 kp:W.keepIn K (.ref f)=true
 df:∃ (o:Obj) (n:Nat),K.lookup T=some o/\o.data=.seq ds.toArray n
section
variable {P:Program} {w:World} {K:W.Frag} {mg:Str->Option Value} {base:Heap}
theorem Y7.ok {x qual:Str} {st:Stmt} {f T:Addr} {fd:FuncData} {ds:List Value} {N ps:List Str} {k:Nat} {sp:Sp} (F:Y7 K x qual st f fd T ds) (S:Pw N ps (aK st)) (len:∀ vs H Q E,sp vs H Q E->vs.length=ps.length)
  (hbody:∀ (cdv:Value) (A:Around) (outer:List Env) (s:Shared) (H:Hp) (vs:List V) (Q:VK) (E:XK),P8 k (A.deeper (envOfC qual (aK st) s.heap.objs.size f cdv))->sp vs H Q E ->
   ∃ t,Wc (nR U1 P w K mg base N qual (aK st) f cdv A outer s H E).Zq (bL st) t/\t { nx:=λ_ H'=>Q .Py H',rt:=Q } (gI N vs) H):PD P w K mg base U1 (k+1) f fd ps sp:=by
 obtain ⟨oc,od,kV,doc,pm,an,cdv,ct,osl,rfl,lk,hcd⟩:=F.ex;refine AA lk hcd S len λA outer s H vs Q E hr Yq=>?_;obtain ⟨t,h,q⟩:=hbody cdv A outer s H vs Q E hr Yq;exact ⟨t,h.Zq,q⟩
end
section
variable {K:W.Frag} {σ:St} {H H':Hp} {d d':D} {ds:List D} {t u ta tb:TE} {tt uu:TT} {tA:TA} {i j:Int} {b c:Bool}
theorem gU (h1:RE K ta σ H (.int i)) (h2:RE K tb σ H (.int j)) (hj:0 < j):RE K (S8 (rI (λ_ j=>0 < j) λi j=>.int (i % j)) ta tb) σ H (.int (i % j)):=wV h1 h2 hj λ_=>Dat.Px _
theorem tE (h1:RE K ta σ H (.int i)) (h2:RE K tb σ H (.int j)) (hc:Yy i j):RE K (S8 (rI Yy λi j=>.int (i * j)) ta tb) σ H (.int (i * j)):=wV h1 h2 hc λ_=>Dat.Px _
theorem yA (h1:RE K ta σ H (.int i)) (h2:RE K tb σ H (.int j)) (hc:Eb i j):RE K (S8 (rI Eb λi j=>.int (i / j)) ta tb) σ H (.int (i / j)):=wV h1 h2 hc λ_=>Dat.Px _
theorem DM:∀ {bs:List Bool} {vs:List V},Pq K H (bs.map D.bl) vs->vs=bs.map V.bl
 | [],vs,h=>by rw [Pq.Vc h];rfl
 | b::bs,vs,h=>by obtain ⟨v,r,e,h1,h2⟩:=h.QB;rw [e,h1.VR,DM h2];rfl
theorem xI:∀ {xs:List Str} {vs:List V},Pq K H (xs.map D.str) vs->vs=xs.map V.str
 | [],vs,h=>by rw [Pq.Vc h];rfl
 | x::xs,vs,h=>by obtain ⟨v,r,e,h1,h2⟩:=h.QB;rw [e,h1.P9,xI h2];rfl
theorem CC (x y:Str):Yr (.str x) (.str y)=decide (x=y):=by unfold Yr;by_cases h:x=y <;> simp [h]
theorem rY (x:Str):∀ ys:List Str,Zg (.str x) (ys.map V.str)=decide (x ∈ ys)
 | []=>by simp [Zg]
 | y::ys=>by
  have ih:=rY x ys;unfold Zg at ih ⊢;rw [ND,Pf,ih,CC];by_cases h:y=x
  ·subst h;simp
  ·have h':¬ x=y:=λz=>h z.symm;simp [h,h']
theorem qQ (ys:List Str):(ys.map V.str).all kF=true:=by rw [MF];intro v hv;obtain ⟨y,_,rfl⟩:=M9.mp hv;rfl
variable {x:Str} {ys:List Str}
theorem iR (h1:RE K ta σ H (.str x)) (h2:RE K tb σ H (.tup (ys.map D.str))):RE K (S8 (Zu K false) ta tb) σ H (.bl (decide (x ∈ ys))):=λH1 s Q q =>
 h1 H1 s _ λv H2 s2 q2=>h2 H2 (s.trans s2) _ λw H3 s3 q3=>by obtain ⟨a,vs,ev,hq,hd⟩:=q3.P7;have e:=xI hd;subst e;rw [q2.P9];refine ⟨a,_,ev,.inr hq,rfl,qQ ys,?_⟩;rw [rY];exact q _ _ (s2.trans s3) (Dat.UA _)
theorem zB (h1:RE K ta σ H (.str x)) (h2:RE K tb σ H (.tup (ys.map D.str))):RE K (S8 (Zu K true) ta tb) σ H (.bl (!decide (x ∈ ys))):=λH1 s Q q =>
 h1 H1 s _ λv H2 s2 q2=>h2 H2 (s.trans s2) _ λw H3 s3 q3=>by obtain ⟨a,vs,ev,hq,hd⟩:=q3.P7;have e:=xI hd;subst e;rw [q2.P9];refine ⟨a,_,ev,.inr hq,rfl,qQ ys,?_⟩;rw [rY];exact q _ _ (s2.trans s3) (Dat.UA _)
theorem BN {y:Str} (h1:RE K ta σ H (.str x)) (h2:RE K tb σ H (.str y)):RE K (S8 rNe ta tb) σ H (.bl (!decide (x=y))):=λH1 s Q q =>
 h1 H1 s _ λv H2 s2 q2=>h2 H2 (s.trans s2) _ λw H3 s3 q3=>by
  rw [q2.P9,q3.P9];refine ⟨rfl,?_⟩;have e:decide (V.str x=V.str y)=decide (x=y):=by by_cases z:x=y <;> simp [z]
  rw [e];exact q _ _ (s2.trans s3) (Dat.UA _)
end
section
variable {X:Cx}
theorem Bb:Se X (compareOp .LtE) (λx y H Q=>∃ i j:Str,x=.str i/\y=.str j/\Q (.bl (!decide (j.cps.toList < i.cps.toList))) H):=by intro pins s σ H x y v u Q I rx ry h;obtain ⟨i,j,rfl,rfl,q⟩:=h;obtain ⟨t,rfl⟩:=rx;obtain ⟨t',rfl⟩:=ry;refine PySem.P.le_str ?_;exact ⟨.bl _,H,I,rfl,q⟩
noncomputable def Its (x:Str):It:=⟨λi _=>i < x.cps.size,λi H v H'=>H'=H/\∃ c,x.cps[i]?=some c/\v=.str ⟨#[c]⟩,λi _=>i=x.cps.size⟩
theorem rH {P:Program} {w:World} {K:PySem.W.Frag} {tg:Expr} {it:Addr} {n:String} {x:Str} {t:Tok} (hn:["enumerate","zip","dict_itemiterator","dict_reverseitemiterator","odict_iterator","itertools.zip_longest","itertools.pairwise"].contains n=false)
  (W:∀ A:Around,A.handled=none->Walks P w A it [it] [it] x.cps.size (SignAt x) (λi h=>h.IsStrIter it n x t i))
  (self:∀ (A:Around) (i:Nat) (s:Shared) (Q:Value->Shared->Prop) (E:Value->Shared->Prop),s.heap.IsStrIter it n x t i->Q (.ref it) s->wpAny (model P w) A (pyIter (.ref it)) Q E s) :
  mK P w K tg (Its x) [it] it (λi h=>h.IsStrIter it n x t i) where
 mem:=by simp
 obj:=λi h st b hb=>by
  have e:b=it:=by simpa using hb
  subst e;obtain ⟨o,e,c,d⟩:=st;exact ⟨o,e,λv z=>by rw [d] at z;cases z⟩
 keep:=λi h h' st k=>by obtain ⟨o,e,r⟩:=st;exact ⟨o,k it (by simp) o e,r⟩
 item:=by intro X hP hw hK hc i pins s σ H E I hf st hg;subst hP hw hK;obtain ⟨f0,f1,f2,f3,f4,f5⟩:=hf it (by simp);refine (W X.A (I.ok.hd hc)).item i s _ _ hg st λv h' tk hv st' kk=>?_;obtain ⟨c,u,hx,rfl⟩:=hv;have I1:Inv X pins σ H { s with heap:=h',toks:=tk }:=I.turned (λb o hb e=>kk b o (by simpa using hb) e) f0 f1 f3 f4 f5;obtain ⟨o,e,cc,d⟩:=id st';exact ⟨_,rfl,uC (s:={ s with heap:=h',toks:=tk }) e cc d hn ⟨.str ⟨#[c]⟩,H,I1,⟨u,rfl⟩,⟨rfl,c,hx,rfl⟩,st',λb hb=>(hf b hb).1⟩⟩
 done:=by intro X hP hw hK hc i pins s σ H E I hf st hg;subst hP hw hK;obtain ⟨f0,f1,f2,f3,f4,f5⟩:=hf it (by simp);have hg':i=x.cps.size:=hg;subst hg';exact (W X.A (I.ok.hd hc)).done s _ _ st λh' tk eb=>⟨rfl,I.turned (λb o hb e=>eb b o (by simpa using hb) e) f0 f1 f3 f4 f5⟩
 self:=self
variable {tg:Expr}
noncomputable def FK (tl:TE):TI:=λσ H R=>tl σ H λv H1=>∃ x,v=.str x/\R (Its x) H1
theorem EV {l:Expr} {tl:TE} (hl:PE X l tl):PI X tg l (FK tl):=by
 intro pins s σ H R I h;refine PB (hl pins s σ H _ I h) λv s1 ⟨xv,H1,I1,r1,q1⟩=>?_;obtain ⟨x,e,q⟩:=q1;subst e;obtain ⟨t,rfl⟩:=r1
 have fin:∀ (o:Obj) (n:String),mK X.prog X.w X.K tg (Its x) [s1.heap.objs.size] s1.heap.objs.size (λi h=>h.IsStrIter s1.heap.objs.size n x t i)->(s1.heap.push o).IsStrIter s1.heap.objs.size n x t 0->PIE X pins σ tg R (.ref s1.heap.objs.size) { s1 with heap:=s1.heap.push o }:=by
  intro o n T st;refine ⟨s1.heap.objs.size,[s1.heap.objs.size],_,_,H1,rfl,I1.kept (t':=s1.toks) λb o e=>LX _ e,T,st,λb hb=>?_,q⟩;have e:b=s1.heap.objs.size:=by simpa using hb
  subst e;exact I1.Xw (L7 _) (I1.hok.fresh (L7 _))
 cases ha:x.cps.all (· < 128)
 ·exact wpAny_pyIter_wide ha (fin _ "str_iterator" (rH (by decide) (λA hA=>Walks.strWide hA _ x t) λA i s Q E st q=>wpAny_pyIter_striter_wide st q) ⟨_,Mu _ rfl,rfl,rfl⟩)
 ·exact wpAny_pyIter_ascii ha (fin _ "str_ascii_iterator" (rH (by decide) (λA hA=>Walks.strAscii hA _ x t) λA i s Q E st q=>wpAny_pyIter_striter_ascii st q) ⟨_,Mu _ rfl,rfl,rfl⟩)
theorem uW:Se X (compareOp .NotIn) (λx y H Q=>∃ k a T,x=.str k/\y=.ref a/\jX X.K a T/\Q (.bl (!KTD.inKeys k T)) H):=by intro pins s σ H x y v u Q I rx ry h;obtain ⟨k,a,T,ex,ey,t,q⟩:=h;subst ex ey;obtain ⟨tk,rfl⟩:=rx;cases ry;exact KTD.notin_text (h₀:=s.heap) ⟨t _ I.Sb,λ_ _ e=>e⟩ ⟨.bl _,H,I.tok _,rfl,q⟩
noncomputable def yv (K:W.Frag):R2:=λx y H Q=>∃ a k T z,x=.ref a/\y=.str k/\jX K a T/\(T.all λp=>KTD.plain p.2)=true/\KTD.datumAt k T=some (.flat (.str z))/\Q (.str z) H
theorem CO:Y4 X (yv X.K):=by
 intro value slice pins s σ H x y v u Q I rx ry h hs;obtain ⟨a,k,T,z,ex,ey,t,hp,hd,q⟩:=h;subst ex ey;obtain ⟨tk,rfl⟩:=ry;cases rx;have hm:KTD.inKeys k T=true:=by rw [<- KTD.isSome_datumAt,hd];rfl
 refine KTD.item_textA (h₀:=s.heap) ⟨t _ I.Sb,λ_ _ e=>e⟩ hp hm ?_ hs;exact each T hd λt'=>⟨.str z,H,I.tok _,⟨t',rfl⟩,q⟩
where
 each {h:Heap} {k:Str} {P:Value->Prop} {z:Str}:∀ (T:List (Str × KTD.Dat)),KTD.datumAt k T=some (.flat (.str z))->(∀ t,P (.str z t))->KTD.EachL h k P T
  | [],hd,_=>by simp [KTD.datumAt] at hd
  | (x,d)::T,hd,hP=>by
   have hd':(if decide (k=x)=true then some d else KTD.datumAt k T)=some (.flat (.str z)):=hd
   by_cases hx:k=x
   ·rw [Mc (Mh hx)] at hd'
    cases hd'
    exact KTD.eachL_hit hx (KTD.opened_str hP)
   ·rw [LZ (by simp [hx])] at hd'
    exact KTD.eachL_miss hx (each T hd' hP)
noncomputable def yH (K:W.Frag) (td ty tx:TE):TE:=λσ H Q=>td σ H λx H1=>∃ a T,x=.ref a/\jX K a T/\ty σ H1 λy H2=>tx σ H2 λz H3=>∃ k i,y=.str k/\z=.int i/\(∀ p ∈ T,∃ j,p.2=.flat (.int j)) /\
 Q (.int (match KTD.datumAt k T with | some (.flat (.int j))=>j | _=>i)) H3
theorem qW {o e f:Expr} {apos cpos:Pos} {td ty tx:TE} (ho:PE X o td) (he:PE X e ty) (hf:PE X f tx) (m:M2 X o "get" apos e f cpos):PE X (.Call (.Attribute o "get" apos) [e,f] [] cpos) (yH X.K td ty tx):=by
 intro pins s σ H Q I h;refine wpAny_Call_method m.base m.few m.line F.plainAttrs_dict F.slot_dict_get F.type_dict_get (PB (ho pins s σ H _ I h) λu s1 ⟨x,H1,I1,rx,a,T,ex,tk,q1⟩=>?_);subst ex;obtain rfl:u=Value.ref a:=rx;have t1:=tk _ I1.Sb;obtain ⟨lo,ob,es,ep,hob,hex,hdat,hrows⟩:=id t1;refine ⟨⟨ob,hob,hex.1⟩,λb eb=>?_,?_⟩
 ·cases eb;exact ⟨ob,hob,hex.2.1⟩
 rw [m.trees]
 refine OF rfl (Calls.evalArgs_plain (O6 (PB (he pins s1 σ H1 _ I1 q1) λiv s2 ⟨y,H2,I2,ry,q2⟩ =>
  O6 (PB (hf pins s2 σ H2 _ I2 q2) λfv s3 ⟨z,H3,I3,rz,k,i,ey,ez,hT,q3⟩=>Calls.spliced_nil ?_))))
 subst ey ez;obtain ⟨tok1,rfl⟩:=ry;obtain ⟨tok2,rfl⟩:=rz;refine KTD.get2_text (h₀:=s3.heap) ⟨tk _ I3.Sb,λ_ _ e=>e⟩ ?_
 have fin:∀ (D:List (Str × KTD.Dat)),(∀ p ∈ D,∃ j,p.2=.flat (.int j))->Q (.int (match KTD.datumAt k D with | some (.flat (.int j))=>j | _=>i)) H3 ->
   KTD.Each s3.heap k (λv=>EP X pins σ Q v { s3 with toks:=s3.toks+1 }) (EP X pins σ Q (.int i tok2) { s3 with toks:=s3.toks+1 }) D:=by
  intro D
  induction D with
  | nil=>intro _ q;exact KTD.each_nil ⟨.int i,H3,I3.tok _,⟨_,rfl⟩,q⟩
  | cons p D ih =>
   intro hD q;obtain ⟨x,d⟩:=p;obtain ⟨j,ej⟩:=hD (x,d) Mw;have ej':d=.flat (.int j):=ej;subst ej';have ed:KTD.datumAt k ((x,KTD.Dat.flat (.int j))::D)=if decide (k=x)=true then some (.flat (.int j)) else KTD.datumAt k D:=rfl;rw [ed] at q;by_cases hx:k=x
   ·rw [Mc (Mh hx)] at q;exact KTD.each_hit hx (KTD.opened_int λt=>⟨.int j,H3,I3.tok _,⟨t,rfl⟩,q⟩)
   ·rw [LZ (by simp [hx])] at q;exact KTD.each_miss hx (ih (λp hp=>hD p (Mt _ hp)) q)
 exact fin T hT q3
end
structure zQ (P:Program) (w:World) (K:W.Frag) (a:Addr) (ks:List Str):Prop where
 lk:∃ o,K.lookup a=some o
 tb:∀ h:Heap,K.In h->∃ D,StrTab P w h a D/\D.map (·.1)=ks.map PyData.str
noncomputable def Itk (ks:List Str):It:=⟨λi _=>i < ks.length,λi H v H'=>H'=H/\∃ k,ks[i]?=some k/\v=.str k,λi _=>i=ks.length⟩
variable {kvs:List (Str × Value)}
theorem yW {D:List (PyData × PyData)} {ks:List Str} (h:PyProof.V.FlatPairs PyData.str kvs D) (e:D.map (·.1)=ks.map PyData.str):kvs.map (·.1)=ks:=by
 induction h generalizing ks with
 | nil =>
  cases ks with
  | nil=>rfl
  | cons k ks=>simp at e
 | cons _ _ ih =>
  cases ks with
  | nil=>simp at e
  | cons k ks =>simp only [ND,List.cons.injEq] at e;obtain ⟨e1,e2⟩:=e;injection e1 with e1;rw [ND,ih e2,<- e1]
variable {it:Addr}
theorem Cb {tg:Expr} {d:Addr} {ep:Nat} (hD:∀ h:Heap,K.In h->h.DictAt (strKind P w) d kvs ep) :
  mK P w K tg (Itk (kvs.map (·.1))) [it] it (λi h=>h.IsKeyIter it d i kvs.length ep) where
 mem:=by simp
 obj:=λi h st b hb=>by
  have e:b=it:=by simpa using hb
  subst e;obtain ⟨o,e,c,d⟩:=st;exact ⟨o,e,λv z=>by rw [d] at z;cases z⟩
 keep:=λi h h' st k=>by obtain ⟨o,e,r⟩:=st;exact ⟨o,k it (by simp) o e,r⟩
 item:=by
  intro X hP hw hK hc i pins s σ H E I hf st hg;subst hP hw hK;obtain ⟨f0,f1,f2,f3,f4,f5⟩:=hf it (by simp);have hi:i < kvs.length:=by have z:i < (kvs.map (·.1)).length:=hg;simpa using z
  refine wpAny_pyNext_dict_item st (hD _ I.Sb) (LQ hi) λkey h' hk st' sb=>?_;obtain ⟨t,rfl⟩:=Value.isStrOf_shape hk;have I1:Inv X pins σ H { s with heap:=h' }:=I.turned (t':=s.toks) (λb o hb e=>(sb.2 b hb).trans e) f0 f1 f3 f4 f5;refine ⟨_,rfl,PyProof.Rows.letGo_keyiter (s':={ s with heap:=h' }) st' ⟨.str (kvs[i]).1,H,I1,⟨t,rfl⟩,⟨rfl,(kvs[i]).1,?_,rfl⟩,st',λb hb=>(hf b hb).1⟩⟩;rw [LV,LQ hi];rfl
 done:=by
  intro X hP hw hK hc i pins s σ H E I hf st hg;subst hP hw hK;obtain ⟨f0,f1,f2,f3,f4,f5⟩:=hf it (by simp);have hi:i=kvs.length:=by have z:i=(kvs.map (·.1)).length:=hg;simpa using z
  exact wpAny_pyNext_dict_end (I.ok.hd hc) st (hD _ I.Sb) (by simp [hi]) λh' eb=>⟨rfl,I.turned (t':=s.toks) (λb o hb e=>eb b o hb e) f0 f1 f3 f4 f5⟩
 self:=λA i s Q E st q=>wpAny_pyIter_keyiter st q
section
variable {X:Cx} {tg:Expr}
noncomputable def FL (P:Program) (w:World) (K:W.Frag) (tl:TE):TI:=λσ H R=>tl σ H λv H1=>∃ a ks,v=.ref a/\zQ P w K a ks/\R (Itk ks) H1
theorem EW {l:Expr} {tl:TE} (hl:PE X l tl):PI X tg l (FL X.prog X.w X.K tl):=by
 intro pins s σ H R I h;refine PB (hl pins s σ H _ I h) λv s1 ⟨xv,H1,I1,r1,q1⟩=>?_;obtain ⟨a,ks,e,hK,q⟩:=q1;subst e;cases r1;obtain ⟨D,T,hD⟩:=hK.tb _ I1.Sb;obtain ⟨o,ho⟩:=hK.lk;obtain ⟨lo,kvs,hdo,hf⟩:=T;obtain ⟨ep,hat⟩:=hdo.dictAt;have ek:=yW hf hD;subst ek
 have hall:∀ h:Heap,X.K.In h->h.DictAt (strKind X.prog X.w) a kvs ep:=λh x=>by obtain ⟨o',es,e1,r⟩:=hat;have z:=I1.Sb _ _ ho;rw [e1] at z;cases z;exact ⟨_,es,x _ _ ho,r⟩
 refine wpAny_pyIter_dict lo hat ?_;refine ⟨s1.heap.objs.size,[s1.heap.objs.size],_,_,H1,rfl,I1.kept (t':=s1.toks) λb o e=>LX _ e,Cb hall,⟨_,Mu _ rfl,rfl,rfl⟩,λb hb=>?_,q⟩;have e:b=s1.heap.objs.size:=by simpa using hb
 subst e;exact I1.Xw (L7 _) (I1.hok.fresh (L7 _))
end
noncomputable def RC (K:W.Frag) (t:TE) (σ:St) (H:Hp) (es:List D):Prop:=∀ H1,Pr H H1->∀ Q:VK,(∀ l ys H',H1 l=none->Pr H1 H'->H' l=some (.lst ys)->Pq K H' es ys->Q (.ref l) H')->t σ H1 Q
section
variable {K:W.Frag} {σ:St} {H H':Hp} {d d':D} {ds es:List D} {t u ta tb te tl:TE} {tt uu:TT} {tA:TA} {i j:Int} {b c:Bool} {mk:St->St} {jj:Nat}
theorem RC.mono (h:RC K t σ H es) (e:Pr H H'):RC K t σ H' es:=λH1 s Q q=>h H1 (e.trans s) Q q
theorem RC.as (h:RC K t σ H es) (e:es=ds):RC K t σ H ds:=e ▸ h
theorem RC.use {Q:VK} (h:RC K t σ H es) (q:∀ l ys H',H l=none->Pr H H'->H' l=some (.lst ys)->Pq K H' es ys->Q (.ref l) H'):t σ H Q:=h H (Pr.refl H) Q q
theorem cE (h:RA K tA σ H es) (hl:es.length<=1000:=by simp):RC K (B5 tA) σ H es:=λH1 s Q q =>
 Fh (h.mono s) (λp vs H2 s2 hp hd=>q p vs _ (s2.free hp) (s2.trans (aT hp _)) aM ((aT hp _).P0 hd)) hl
variable {cs:List D}
theorem wQ (h:RE K tl σ H (.tup cs)) (hc:cs.length<=1000) (es:List D) (hl:es.length=cs.length) (h0:(mk σ).set jj none=mk σ)
  (turn:∀ H1 (i:Nat) c v d,Pr H H1->cs[i]?=some c->es[i]?=some d->Dat K H1 c v->RE K te ((mk σ).set jj (some v)) H1 d):RC K (gM (y9 K tl) mk (bW jj) fP te) σ H es:=λH1 s Q q =>
 zx (K:=K) (h.mono s) hc es hl h0 (λH2 i c v d s2=>turn H2 i c v d (s.trans s2)) (λl ys H2 hl s2 hy hd=>q l ys H2 hl s2 hy hd)
variable {x:Str}
theorem E9 (h:RE K tl σ H (.str x)) (hc:x.cps.size<=1000) (es:List D) (hl:es.length=x.cps.size) (h0:(mk σ).set jj none=mk σ)
  (turn:∀ H1 (i:Nat) c d,Pr H H1->x.cps[i]?=some c->es[i]?=some d->RE K te ((mk σ).set jj (some (.str ⟨#[c]⟩))) H1 d):RC K (gM (FK tl) mk (bW jj) fP te) σ H es:=λH1 s Q q=>by
 refine (h.mono s).use λv4 H4 s4 q4=>?_;have e:=q4.P9;subst e;refine ⟨x,rfl,?_⟩;refine iK (K:=K) (Q:=Q) (n:=x.cps.size) (item:=λi=>.str ⟨#[x.cps.getD i 0]⟩) (λi H' s hi=>⟨hi,λv PN y=>⟨y.1,?_⟩⟩) (λH' s=>rfl) h0 es hl hc (λi d hi=>?_) (λl ys H5 Yk s5=>q l ys H5 (s4.free Yk) (s4.trans s5))
 ·obtain ⟨_,c,hc,e⟩:=y;rw [e,Array.getD_eq_getD_getElem?,hc];rfl
 ·have hi':i < es.length:=(Mg.mp hi).1
  have hc:x.cps[i]?=some (x.cps.getD i 0):=by rw [Array.getD_eq_getD_getElem?,Array.getElem?_eq_getElem (by omega)];rfl
  exact turn H4 i _ d (s.trans s4) hc hi
variable {a:Addr}
theorem Fb {P:Program} {w:World} {ks:List Str} (hK:zQ P w K a ks) (hc:ks.length<=1000) (es:List D) (hl:es.length=ks.length) (h0:(mk σ).set jj none=mk σ)
  (turn:∀ H1 (i:Nat) k d,Pr H H1->ks[i]?=some k->es[i]?=some d->RE K te ((mk σ).set jj (some (.str k))) H1 d):RC K (gM (FL P w K (tC (.ref a))) mk (bW jj) fP te) σ H es:=λH1 s Q q=>by
 refine ⟨a,ks,rfl,hK,?_⟩;refine iK (K:=K) (Q:=Q) (n:=ks.length) (item:=λi=>.str (ks.getD i "")) (λi H' s hi=>⟨hi,λv PN y=>⟨y.1,?_⟩⟩) (λH' s=>rfl) h0 es hl hc (λi d hi=>?_) q
 ·obtain ⟨_,k,hk,e⟩:=y;rw [e,Ml,hk];rfl
 ·have hi':i < es.length:=(Mg.mp hi).1
  have hk:ks[i]?=some (ks.getD i ""):=by rw [Ml,LQ (by omega)];rfl
  exact turn H1 i _ d s hk hi
theorem Di (h:RC K tl σ H cs) (hc:cs.length<=1000) (es:List D) (hl:es.length=cs.length) (h0:(mk σ).set jj none=mk σ)
  (turn:∀ H1 (i:Nat) c v d,Pr H H1->cs[i]?=some c->es[i]?=some d->Dat K H1 c v->RE K te ((mk σ).set jj (some v)) H1 d):RC K (gM (lS K tl) mk (bW jj) fP te) σ H es:=λH1 s Q q=>by
 refine (h.mono s).use λl4 Tw H4 hl4 s4 Sg W9=>?_;have ll:=W9.length;refine ⟨l4,rfl,⟨Tw,PJ.of Sg⟩,?_⟩;refine iK (K:=K) (Q:=Q) (n:=Tw.length) (item:=λi=>Tw.getD i .Py) (λi H' s hi=>oX i H' (PJ.of (s _ _ Sg)) hi) (λH' s=>⟨Tw,PJ.of (s _ _ Sg),L7 _⟩) h0 es (by omega) (by omega) (λi d hi=>?_) (λl ys H5 Yk s5=>q l ys H5 (s4.free Yk) (s4.trans s5));have hi':i < es.length:=(Mg.mp hi).1;have hic:i < cs.length:=by omega
 obtain ⟨vz,ez,hz⟩:=W9.get (LQ hic);have q:=turn H4 i cs[i] vz d (s.trans s4) (LQ hic) hi hz;rw [Ml,ez];exact q
theorem fG {R:List D->List D->Prop} {E:XK} (h:RA K tA σ H ds) (e:R ds es):RC K (gJ (iU K R) [] E tA) σ H es:=λH1 s Q q =>
 h H1 s _ λvs H2 s2 q2=>⟨ds,es,by rw [MI];exact q2,e,λr us H3 s3 hr hr0 hd=>q r us H3 (s2.free hr0) (s2.trans s3) hr hd⟩
theorem mm {bs:List Bool} (h:RC K t σ H (bs.map D.bl)):RE K (WB (λxs H Q=>∃ (l:Addr) (bs:List Bool),xs=[.ref l]/\PJ K H l (bs.map V.bl)/\Q (.bl (bs.all id)) H) (bO t dH)) σ H (.bl (bs.all id)):=λH1 s Q q =>
 je ((h.mono s).use λl ys H' _ s' hy hd=>⟨l,bs,rfl,by rw [<- DM hd];exact PJ.of hy,q _ _ s' (Dat.UA _)⟩)
theorem rg (h:RC K t σ H es):RE K (WB (λxs H Q=>∃ p ys,xs=[.ref p]/\((PJ K H p ys/\∀ l,H l=none->Q (.ref l) (upd H l (.tup ys)))\/(QE K H p ys/\Q (.ref p) H))) (bO t dH)) σ H (.tup es):=λH1 s Q q =>
 je ((h.mono s).use λl ys H' _ s' hy hd=>⟨l,ys,rfl,.inl ⟨PJ.of hy,λp hp=>q _ _ (s'.trans (aT hp _)) (Dat.tupI (QE.of aM) ((aT hp _).P0 hd))⟩⟩)
theorem rj (h:RE K t σ H (.tup es)):RE K (WB (λxs H Q=>∃ p ys,xs=[.ref p]/\((PJ K H p ys/\∀ l,H l=none->Q (.ref l) (upd H l (.tup ys)))\/(QE K H p ys/\Q (.ref p) H))) (bO t dH)) σ H (.tup es):=λH1 s Q q =>
 je ((h.mono s).use λv H' s' hd=>by
  obtain ⟨a,vs,e,hq,hds⟩:=hd.P7;subst e;exact ⟨a,vs,rfl,.inr ⟨hq,q _ _ s' (Dat.tupI hq hds)⟩⟩)
theorem Dn (h:RC K t σ H es):RE K (WB (λxs H Q=>∃ p ys,xs=[.ref p]/\(PJ K H p ys\/QE K H p ys)/\Q (.int ys.length) H) (bO t dH)) σ H (.int es.length):=λH1 s Q q =>
 je ((h.mono s).use λl ys H' _ s' hy hd=>⟨l,ys,rfl,.inl (PJ.of hy),by rw [<- hd.length];exact q _ _ s' (Dat.Px _)⟩)
theorem Do (h:RE K t σ H (.str x)) (hx:x.length<=sizeLine):RE K (WB (λxs H Q=>∃ z:Str,xs=[.str z]/\z.length<=sizeLine/\Q (.int z.length) H) (bO t dH)) σ H (.int x.length):=λH1 s Q q =>
 je ((h.mono s).use λv H' s' hd=>by
  rw [hd.P9];exact ⟨x,rfl,hx,q _ _ s' (Dat.Px _)⟩)
theorem gE {us:TS} {En:Ends} {k:Nat} (h:RC K t σ H es) (q:∀ l ys H',H l=none->Pr H H'->H' l=some (.lst ys)->Pq K H' es ys->us En (σ.set k (some (.ref l))) H'):lC (lA t (bW k)) us En σ H:=h.use q
variable {z:Str}
theorem zy {tc:TE} {y:Str} {p q':Str->Str->Bool} (h1:RE K ta σ H (.str x)) (h2:RE K tb σ H (.str y)) (h3:p x y=true->RE K tc σ H (.str z)) :
  RE K (tV (λu v H Q=>∃ i j:Str,u=.str i/\v=.str j/\Q (.bl (p i j)) H) (λu v H Q=>∃ i j:Str,u=.str i/\v=.str j/\Q (.bl (q' i j)) H) ta tb tc) σ H (.bl (p x y && q' y z)):=λH1 s Q q =>
 h1 H1 s _ λv H2 s2 q2=>h2 H2 (s.trans s2) _ λw H3 s3 q3=>by
  refine ⟨x,y,q2.P9,q3.P9,p x y,rfl,?_⟩
  cases hp:p x y with
  | true =>simp only [N1,Nk];exact h3 hp H3 (s.trans (s2.trans s3)) _ λz' H4 s4 q4=>⟨y,z,q3.P9,q4.P9,q _ _ (s2.trans (s3.trans s4)) (by rw [hp];exact Dat.UA _)⟩
  | false =>simp only [O9,Po,NV];exact q _ _ (s2.trans s3) (by rw [hp];exact Dat.UA _)
variable {k:Str} {T:List (Str × KTD.Dat)}
theorem vq (h:RE K t σ H (.str k)) (ht:jX K a T):RE K (S8 (λx y H Q=>∃ k a T,x=.str k/\y=.ref a/\jX K a T/\Q (.bl (!KTD.inKeys k T)) H) t (tC (.ref a))) σ H (.bl (!KTD.inKeys k T)):=λH1 s Q q =>
 h H1 s _ λv H2 s2 q2=>⟨k,a,T,q2.P9,rfl,ht,q _ _ s2 (Dat.UA _)⟩
theorem zz (h:RE K t σ H (.str k)) (ht:jX K a T) (hp:(T.all λp=>KTD.plain p.2)=true) (e:KTD.datumAt k T=some (.flat (.str z))):RE K (S8 (yv K) (tC (.ref a)) t) σ H (.str z):=λH1 s Q q =>
 h H1 s _ λv H2 s2 q2=>⟨a,k,T,z,rfl,q2.P9,ht,hp,e,q _ _ s2 (Dat.Rb _)⟩
noncomputable def kB (k:Str) (T:List (Str × KTD.Dat)) (i:Int):Int:=match KTD.datumAt k T with | some (.flat (.int j))=>j | _=>i
theorem rb (ht:jX K a T) (h1:RE K ta σ H (.str k)) (h2:RE K tb σ H (.int i)) (hT:∀ p ∈ T,∃ j,p.2=.flat (.int j)):RE K (yH K (tC (.ref a)) ta tb) σ H (.int (kB k T i)):=λH1 s Q q =>
 ⟨a,T,rfl,ht,h1 H1 s _ λv H2 s2 q2=>h2 H2 (s.trans s2) _ λw H3 s3 q3=>⟨k,i,(s3.dat q2).P9,q3.Pz,hT,q _ _ (s2.trans s3) (Dat.Px _)⟩⟩
theorem rP {vs:List V} {lo hi:Nat}:lM vs (some (lo:Int)) (some (hi:Int))=(vs.drop lo).take (hi - lo):=by
 unfold lM;rw [HT.U0,HT.U0];apply Pk;intro i;simp only [List.getElem?_take,List.getElem?_drop];by_cases h1:i < hi - lo
 ·rw [Mc h1];by_cases h2:i < min hi vs.length - min lo vs.length
  ·rw [Mc h2];congr 1;omega
  ·rw [LZ h2,Ng (by omega)]
 ·rw [LZ h1,LZ (by omega)]
theorem Pq.X8:∀ {n:Nat} {ds:List D} {vs:List V},Pq K H ds vs->Pq K H (ds.drop n) (vs.drop n)
 | 0,_,_,h=>h
 | n+1,[],_,h=>by rw [h.Vc];exact Pq.nil
 | n+1,d::ds,_,h=>by obtain ⟨v,r,e,h1,h2⟩:=h.QB;subst e;exact Pq.X8 (n:=n) h2
theorem Pq.XA:∀ {n:Nat} {ds:List D} {vs:List V},Pq K H ds vs->Pq K H (ds.take n) (vs.take n)
 | 0,_,_,h=>by rw [M5,M5];exact Pq.nil
 | n+1,[],_,h=>by rw [h.Vc];exact Pq.nil
 | n+1,d::ds,_,h=>by obtain ⟨v,r,e,h1,h2⟩:=h.QB;subst e;exact Pq.cons h1 (Pq.XA (n:=n) h2)
end
mutual
noncomputable def gK (K:W.Frag):D->Value->Bool
 | .Py,u=>(match u with | .none=>true | _=>false)
 | .bl b,u=>(match u with | .bool c=>b == c | _=>false)
 | .int i,u=>(match u with | .int j _=>i == j | _=>false)
 | .str x,u=>(match u with | .str y _=>x == y | _=>false)
 | .tup ds,u=>(match u with | .ref a=>(match K.lookup a with | some ⟨.type "tuple",_,.seq its _,_⟩=>decide (its.size<=1000) && VT K ds its.toList | _=>false) | _=>false)
 | .lst,_=>false
noncomputable def VT (K:W.Frag):List D->List Value->Bool
 | [],us=>us.isEmpty
 | d::ds,us=>(match us with | u::r=>gK K d u && VT K ds r | []=>false)
end
mutual
variable {K:W.Frag}
theorem nz (H:Hp):∀ (d:D) (u:Value),gK K d u=true->∃ v,RelV v u/\Dat K H d v
 | .Py,u,h=>by unfold gK at h;cases u <;> first | (exact ⟨.Py,rfl,Dat.W5⟩) | cases h
 | .bl b,u,h=>by
  unfold gK at h;cases u <;> first | cases h | skip
  rename_i c;have e:b=c:=by simpa using h
  subst e;exact ⟨.bl b,rfl,Dat.UA _⟩
 | .int i,u,h=>by
  unfold gK at h;cases u <;> first | cases h | skip
  rename_i j t;have e:i=j:=by simpa using h
  subst e;exact ⟨.int i,⟨t,rfl⟩,Dat.Px _⟩
 | .str x,u,h=>by
  unfold gK at h;cases u <;> first | cases h | skip
  rename_i y t;have e:x=y:=by simpa using h
  subst e;exact ⟨.str x,⟨t,rfl⟩,Dat.Rb _⟩
 | .tup ds,u,h=>by
  unfold gK at h;cases u <;> first | cases h | skip
  rename_i a;dsimp only at h;split at h
  ·rename_i od its n sl e;rw [LW] at h;obtain ⟨vs,r,hd⟩:=Ug H ds its.toList h.2;refine ⟨.ref a,rfl,Dat.tupI (.inr ⟨_,its,n,e,rfl,rfl,?_,r⟩) hd⟩;exact Mr (LS h.1) (by decide)
  ·cases h
 | .lst,u,h=>by unfold gK at h;cases h
theorem Ug (H:Hp):∀ (ds:List D) (us:List Value),VT K ds us=true->∃ vs,Vals vs us/\Pq K H ds vs
 | [],us,h=>by
  unfold VT at h
  cases us with
  | nil=>exact ⟨[],.nil,Pq.nil⟩
  | cons u r=>cases h
 | d::ds,us,h=>by
  unfold VT at h
  cases us with
  | nil=>cases h
  | cons u r =>dsimp only at h;rw [LW] at h;obtain ⟨v,r1,h1⟩:=nz H d u h.1;obtain ⟨vs,r2,h2⟩:=Ug H ds r h.2;exact ⟨v::vs,.cons r1 r2,Pq.cons h1 h2⟩
end
theorem Gq (h:gK K (.tup ds) (.ref a)=true) (H:Hp):Dat K H (.tup ds) (.ref a):=by obtain ⟨v,r,hd⟩:=nz H _ _ h;obtain ⟨b,vs,e,_⟩:=id hd.P7;subst e;have z:Value.ref a=.ref b:=r;cases z;exact hd
theorem gT (h:gK K (.tup ds) (.ref a)=true):RE K (tC (.ref a)) σ H (.tup ds):=λH1 _ Q q=>q _ _ (Pr.refl _) (Gq h H1)
section
variable {X:Cx}
theorem lK:jo X (.type "range") (λxs H Q=>∃ n:Nat,xs=[.int n]/\∀ p,H p=none->Q (.ref p) (upd H p (.Wn 0 n))):=by intro pins s σ H xs us Q I r h;obtain ⟨n,rfl,q⟩:=h;obtain ⟨u,rfl,ru⟩:=jC r;obtain ⟨t,rfl⟩:=ru;refine call_range_1 ⟨.ref s.heap.objs.size,_,I.laid (λb o e=>LX _ e) (L7 _) (show P1 X.prog X.w _ _ _ (.Wn 0 n) from ⟨_,_,_,Mu _ rfl⟩),rfl,q _ (I.hok.fresh (L7 _))⟩
theorem Ck {n:Nat} {acc:Array Value} (h:ItemsOf (λi v=>∃ t,v=.int ((0:Int)+(i:Nat) * 1) t) acc n):Vals ((List.range n).map λi:Nat=>V.int i) acc.toList:=by
 obtain ⟨hs,hi⟩:=h
 have all:∀ (l:List Value) (k:Nat),(∀ (j:Nat) (v:Value),l[j]?=some v->∃ t,v=Value.int ((0:Int)+((k+j:Nat):Int) * 1) t)->Vals ((List.range' k l.length).map λi:Nat=>V.int i) l:=by
  intro l
  induction l with
  | nil=>intro k _;exact .nil
  | cons u l ih =>
   intro k hj;rw [L5,List.range'_succ,ND];refine .cons ?_ (ih (k+1) λj v e=>?_)
   ·obtain ⟨t,e⟩:=hj 0 u rfl;refine ⟨t,?_⟩;rw [e];congr 1;simp
   ·obtain ⟨t,e'⟩:=hj (j+1) v (by simpa using e);refine ⟨t,?_⟩;rw [e'];congr 1;have:k+(j+1)=k+1+j:=by omega
    rw [this]
 have q:=all acc.toList 0 λj v e=>by rw [Nat.zero_add];exact hi j v (by simpa using e)
 rw [List.range_eq_range'];rw [Om,hs] at q;exact q
theorem gY (hc:X.calm=true):jo X (.type "list") (λxs H Q=>∃ (p:Addr) (n:Nat),xs=[.ref p]/\H p=some (.Wn 0 n)/\n<=1000/\∀ l,H l=none->Q (.ref l) (upd H l (.lst ((List.range n).map λi:Nat=>V.int i)))):=by
 intro pins s σ H xs us Q I r h;obtain ⟨p,n,rfl,hp,hn,q⟩:=h;obtain ⟨u,rfl,rx⟩:=jC r;cases rx;obtain ⟨t,u,v,e⟩:=(show P1 X.prog X.w H s.heap p (.Wn 0 n) from I.hok p _ hp)
 refine call_list_range (n:=n) (I.ok.hd hc) (show IsRange s.heap p 0 n 1 t u v from e) (small_one (by omega) (by omega) (by omega) (by omega)) ?_ (by omega) λh' tk acc' c' kp e' hacc=>?_
 ·rw [rangeSize_one];split <;> omega
 ·have hv:=Ck hacc;have hl:=hv.length;refine ⟨.ref s.heap.objs.size,_,I.laid kp (L7 _) (show P1 X.prog X.w _ h' _ (.lst _) from ⟨?_,acc'.toList,c',hv,by simpa using e'⟩),rfl,q _ (I.hok.fresh (L7 _))⟩;simp only [LR,Nn];exact Mr hn (by decide)
noncomputable def FC (K:W.Frag) (a:Addr) (xs:List V):Prop:=∃ (its:Array Value) (n:Nat),K.lookup a=some ⟨.type "list",none,.seq its n,#[]⟩/\its.size<=1000/\Vals xs its.toList
noncomputable def VU (K:W.Frag) (H:Hp) (a:Addr) (xs:List V):Prop:=H a=some (.lst xs)\/FC K a xs
variable {H:Hp} {a:Addr} {xs:List V}
theorem VU.S7 {K:W.Frag} (h:VU K H a xs):PJ K H a xs:=by
 rcases h with h | ⟨its,n,e,hz,r⟩
 ·exact PJ.of h
 ·exact .inr ⟨_,its,n,e,rfl,rfl,rfl,Mr hz (by decide),r⟩
theorem VU.at {pins:List (Addr × Obj)} {σ:St} {s:Shared} (I:Inv X pins σ H s) (h:VU X.K H a xs):∃ (its:List Value) (n:Nat),Vals xs its/\s.heap.get? a=some { cls:=.type "list",data:=.seq its.toArray n }:=by
 rcases h with h | ⟨its,n,e,hz,r⟩
 ·obtain ⟨z,its,n,r,hl,e⟩:=I.YA h;exact ⟨its,n,r,e⟩
 ·exact ⟨its.toList,n,r,by simpa using I.Sb _ _ e⟩
noncomputable def DW (K:W.Frag):R2:=λx y H Q=>∃ l b xs zs,x=.ref l/\y=.ref b/\VU K H l xs/\VU K H b zs/\xs.length+zs.length<=1000/\∀ p,H p=none->Q (.ref p) (upd H p (.lst (xs++zs)))
theorem l8:Se X (binaryOp .Add) (DW X.K):=by
 intro pins s σ H x y v u Q I rx ry h;obtain ⟨l,b,xs,zs,rfl,rfl,hH,hB,hz,q⟩:=h;cases rx;cases ry;obtain ⟨its,n,r,e⟩:=hH.at I;obtain ⟨its2,n2,r2,e2⟩:=hB.at I;have l1:=r.length;have l2:=r2.length;have hz':xs.length+zs.length<=sizeLine:=Mr hz (by decide);refine PySem.P.add_list e e2 ?_ (by rw [Me,Me];omega);have ea:its.toArray++its2.toArray=(its++its2).toArray:=by simp
 rw [ea];exact ⟨.ref _,_,I.lnew (t':=s.toks) (r.append r2) (by rw [Ma];omega),rfl,q _ I.fresh⟩
end
section
variable {K:W.Frag} {σ:St} {H:Hp} {t:TE} {n:Nat}
noncomputable def o6 (K:W.Frag) (ds:List D) (a:Addr):Bool:=match K.lookup a with
 | some ⟨.type "list",none,.seq its _,sl⟩=>decide (its.size<=1000) && (sl.isEmpty && VT K ds its.toList)
 | _=>false
theorem sg {K:W.Frag} {ds:List D} {a:Addr} (h:o6 K ds a=true) (H:Hp):∃ vs,FC K a vs/\Pq K H ds vs:=by
 unfold o6 at h;split at h
 ·rename_i its n sl e;rw [LW,LW] at h;obtain ⟨vs,r,hd⟩:=Ug H ds its.toList h.2.2;have es:sl=#[]:=by simpa using h.2.1
  subst es;exact ⟨vs,⟨its,n,e,LS h.1,r⟩,hd⟩
 ·cases h
theorem jL (h:RE K t σ H (.int n)) (hn:n<=1000):RC K (WB (λxs H Q=>∃ (p:Addr) (n:Nat),xs=[.ref p]/\H p=some (.Wn 0 n)/\n<=1000/\∀ l,H l=none->Q (.ref l) (upd H l (.lst ((List.range n).map λi:Nat=>V.int i))))
  (bO (WB (λxs H Q=>∃ n:Nat,xs=[.int n]/\∀ p,H p=none->Q (.ref p) (upd H p (.Wn 0 n))) (bO t dH)) dH)) σ H ((List.range n).map λi:Nat=>D.int i):=λH1 s Q q =>
 je (je ((h.mono s).use λv H2 s2 q2=>by
  rw [q2.Pz];refine ⟨n,rfl,λp hp=>⟨p,n,rfl,aM,hn,λl hl=>?_⟩⟩;have s3:=s2.trans ((aT hp (.Wn 0 n)).trans (aT hl (.lst ((List.range n).map λi:Nat=>V.int i))));refine q l _ _ ((s2.trans (aT hp _)).free hl) s3 aM ?_
  have z:∀ m:List Nat,Pq K (upd (upd H2 p (.Wn 0 n)) l (.lst ((List.range n).map λi:Nat=>V.int i))) (m.map λi:Nat=>D.int i) (m.map λi:Nat=>V.int i):=by
   intro m
   induction m with
   | nil=>exact Pq.nil
   | cons a m ih=>exact Pq.cons (Dat.Px _) ih
  exact z _))
end
section
variable {K:W.Frag} {l0 l1 l2:Addr} {H H' H2:Hp} {a b c a' b' c':List V} {v:V}
theorem jf {te:TE} {us:TS} {En:Ends} {σ:St} {G:Hp} {j:Nat} {l:Addr} {xs:List V} {d:D} (h:RE K te σ G d) (hl:G l=some (.lst xs)) (hx:xs.length<=900)
  (q:∀ y G',PX l G G'->G' l=some (.lst (xs++[y]))->Dat K G' d y->us En σ G') (hv:σ[j]?=some (some (.ref l)):=by rfl):lC (nM (Zv K "list" jJ (dW j) (bO te dH))) us En σ G:=by
 refine ⟨_,hv,.inl ⟨rfl,_,PJ.of hl⟩,h.use λy H1 s1 q1=>?_⟩;have hl1:=s1 _ _ hl;refine ⟨l,xs,y,rfl,rfl,hl1,dJ (by omega),?_⟩;have b:PX l H1 (upd H1 l (.lst (xs++[y]))):=PX.upd (Pr.refl _).but;exact q y _ (s1.but.trans b) aM (Dat.mono (b.grow hl1 aM) _ q1)
end
theorem yb:∀ {ns:List Int} {us:List Value},Vals (ns.map V.int) us->IntsAre us ns
 | [],us,h=>by cases h;exact .nil
 | n::ns,us,h=>by
  cases h with
  | cons r t =>obtain ⟨tk,rfl⟩:=r;exact .cons n tk (yb t)
section
variable {X:Cx}
theorem Am (hc:X.calm=true):jo X (.builtin "sum") (λxs H Q=>∃ (l:Addr) (ns:List Int),xs=[.ref l]/\PJ X.K H l (ns.map V.int)/\Q (.int ns.sum) H):=by
 intro pins s σ H xs us Q I r h;obtain ⟨l,ns,rfl,hq,q⟩:=h;obtain ⟨u,rfl,ru⟩:=jC r;cases ru;obtain ⟨its,rv,p,hz⟩:=I.list hq;have hi:=yb rv;obtain ⟨zs,hzs⟩:=hi.allInts.items;refine sum_intListG (I.ok.hd hc) (show s.heap.IsList l (intItems zs) from hzs ▸ p.isList) λh' tk t' hk=>?_
 have a1:zs.toList.map (·.1)=ns:=by have z:=hi.numsOf;rw [show its=(intItems zs).toList by rw [<- hzs]] at z;rw [<- z,nums_intItems]
 have a2:preSum (numAt zs) zs.size=ns.sum:=by rw [preSum_eq,<- a1,Nr (by simp)]
 rw [a2];exact ⟨.int ns.sum,H,I.kept (t':=tk) hk,⟨t',rfl⟩,q⟩
variable {tg:Expr}
end
noncomputable def met (f:Nat->Str) (i:Nat):List Str:=((List.range i).map f).foldl step_dedup []
theorem j9 (f:Nat->Str) (i:Nat):met f (i+1)=step_dedup (met f i) (f i):=by unfold met;rw [List.range_succ,MM,List.foldl_append];rfl
theorem rS (l:List Str) (x:Str):(step_dedup l x).length=if l.any (· == x) then l.length else l.length+1:=by unfold step_dedup;split <;> simp
theorem xN (l:List Str) (x y:Str):(step_dedup l x).any (· == y)=(l.any (· == y) || decide (y=x)):=by
 unfold step_dedup;split
 ·rename_i h;by_cases e:y=x
  ·subst e;rw [h];rfl
  ·rw [LY e,Bool.or_false]
 ·rw [List.any_append];congr 1;by_cases e:y=x
  ·subst e;simp
  ·have e':¬ x=y:=λz=>e z.symm;simp [e,e']
theorem sr (f:Nat->Str):∀ i,(met f i).length<=i
 | 0=>by simp [met]
 | i+1=>by rw [j9,rS];have:=sr f i;split <;> omega
variable {A:Around}
theorem Ci {R:Result->Shared->Prop} {fp wr:List Addr} {G:Array GenState->Array GenState->Prop} {Pv:Nat->Value->Prop} {St:Nat->Shared->Prop}
  (W:WalksS P w A.in1 it fp wr G n Pv St) (sa:Addr) (nsa:sa ∉ fp) (f:Nat->Str) (hf:∀ i v,Pv i v->∃ t,v=.str (f i) t) (few:n+1 < scanBound) :
  ∀ (m i:Nat) (s:Shared),n - i=m->i<=n->St i s->s.heap.SetOf (strKind P w) sa (λy=>(met f i).any (· == y)) (met f i).length ->
   (∀ s',Moved (sa::wr) G s s'->s'.heap.SetOf (strKind P w) sa (λy=>(met f n).any (· == y)) (met f n).length->R (.ok (.ret .none)) s')->codeAny (model P w) A (.builtin "set.update.loop" ⟨[.ref sa,.ref it],[]⟩) R s:=by
 have nw:sa ∉ wr:=λz=>nsa (W.sub _ z);have more:∀ b ∈ wr,b ∈ sa::wr:=λb z=>Mt _ z;intro m
 induction m with
 | zero =>
  intro i s e1 e2 st so fin;obtain rfl:i=n:=by omega
  refine codeAny_builtin OA ?_;rw [Around.under_plainId NL _];show wpAny _ A.in1 (pyNext (.ref it) >>= _) _ _ s;refine LU (W.done s _ _ st λs2 mv=>?_);show wpAny _ A.in1 (ret Value.none) _ _ s2;obtain ⟨o,es,ep,tb,g,rest⟩:=so;exact L8 (fin s2 (mv.mono more) ⟨o,es,ep,tb,mv.heap sa _ nw g,rest⟩)
 | succ m ih =>
  intro i s e1 e2 st so fin;have lt:i < n:=by omega
  refine codeAny_builtin OA ?_;rw [Around.under_plainId NL _];show wpAny _ A.in1 (pyNext (.ref it) >>= _) _ _ s;refine LU (W.item i s _ _ lt st λv s2 pv st2 mv=>?_);obtain ⟨tk,rfl⟩:=hf i v pv;have so2:s2.heap.SetOf (strKind P w) sa (λy=>(met f i).any (· == y)) (met f i).length:=let ⟨o,es,ep,tb,g,rest⟩:=so;⟨o,es,ep,tb,mv.heap sa _ nw g,rest⟩;show wpAny _ A.in1 (holding [Value.str (f i) tk] (setAdd sa (.str (f i) tk)) >>= _) _ _ s2;refine LU (Nj ?_);unfold setAdd;refine Nj (LU ((strKind P w).pyHash (k:=f i) (strKind_is P w _ _) ?_));have rm:(met f i).length+1 < scanBound:=by have:=sr f i;omega
  refine wpAny_setAddHashed_of (knd:=strKind P w) (s:={ s2 with toks:=s2.toks+1 }) (strKind_is P w _ _) rfl so2 rm λh' sb so3=>?_;have so4:h'.SetOf (strKind P w) sa (λy=>(met f (i+1)).any (· == y)) (met f (i+1)).length:=SetOf_congr so3 (λy=>by rw [j9,xN]) (by rw [j9,rS]);refine L8 ⟨plainId_quiet NL _,ih (i+1) _ (by omega) lt (W.frame _ s2 _ _ st2 (O2 _) λb z o g=>?_) so4 λs3 mv3 so5=>?_⟩
  ·rw [sb.2 b (λq:b=sa=>nsa (by rw [<- q];exact z))];exact g
  ·refine fin s3 (Moved.trans W.gtrans ((mv.mono more).then_heap (O2 _) λb o z g=>?_) mv3) so5;rw [sb.2 b (λq:b=sa=>z (by rw [q];exact Mw))];exact g
noncomputable abbrev tP (led:Bool):Obj:={ cls:=.type "set",dict:=none,data:=.set #[] 0 (.fresh 0 0 led) }
theorem yQ {E:Value->Shared->Prop} {s:Shared} {items:Array Value} {f:Nat->Str} {Q:Value->Shared->Prop} (hh:A.handled=none) (hl:s.heap.IsList l items)
  (hi:∀ (i:Nat) (v:Value),items[i]?=some v->∃ t,v=.str (f i) t) (few:items.size+1 < scanBound)
  (fin:∀ (h':Heap) (tk:Nat),h'.SetOf (strKind P w) s.heap.objs.size (λy=>(met f items.size).any (· == y)) (met f items.size).length->(∀ b o,b < s.heap.objs.size->s.heap.get? b=some o->h'.get? b=some o)->Q (.ref s.heap.objs.size) { s with heap:=h',toks:=tk }) :
  wpAny (model P w) A (call (.type "set") [.ref l]) Q E s:=by
 obtain ⟨c,tl,mro⟩:=NY.mro;have made:=NY.made;have sub:=NY.sub;refine Og (codeAny_of_tree ?_);show wpAny _ _ (callAny (.type "set") _) _ _ _;refine L8 ⟨Pc _ (by decide +kernel),codeAny_builtin F.entry_type_call ?_⟩;rw [Around.under_plain (weight_type_call_type "set" [.ref l] []) rfl];have k1:=NY.notType;have k2:=NY.canCreate;have k3:=F.typeCall_set_1 (.ref l)
 repeat (any_goals (first | assumption | wp_step))
 refine Nq (code_set_new_1 (.ref l) (E:=E) (Q₁:=λobj s1=>∃ led:Bool,obj=.ref s.heap.objs.size/\s1={ s with heap:=s.heap.push (tP led) }) λled=>⟨led,rfl,rfl⟩) λr s1 hr=>?_
 cases r with
 | error e=>exact hr
 | ok fl =>
  cases fl with
  | ret obj =>
   obtain ⟨led,rfl,rfl⟩:=hr;have g0:(s.heap.push (tP led)).get? s.heap.objs.size=some (tP led):=Mu _ rfl;have ty:Shared.TypeIs { s with heap:=s.heap.push (tP led) } (.ref s.heap.objs.size) "set":=⟨_,g0,rfl⟩
   have k4:=NY.init.lookup;have k5:=NY.init.bind (.ref s.heap.objs.size)
   repeat (any_goals (first | assumption | wp_step))
   refine Nq (OT (R:=wants (λr s2=>r=.none/\∃ h' tk,s2={ s with heap:=h',toks:=tk }/\h'.SetOf (strKind P w) s.heap.objs.size (λy=>(met f items.size).any (· == y)) (met f items.size).length /\
     (∀ b o,b < s.heap.objs.size->s.heap.get? b=some o->h'.get? b=some o)) E) NY.init.plain F.entry_set_init (check_set_init_1 ty ?_)) λr2 s2 hr2=>?_
   ·obtain ⟨ol,g1,g2,nl,g3⟩:=hl;obtain ⟨oc,od,ob,os⟩:=ol;simp only at g2 g3;subst g2;subst g3;have g4:(s.heap.push (tP led)).get? l=some { cls:=.type "list",dict:=od,data:=.seq items nl,slots:=os }:=LX _ g1;have m1:=F.sub_list_set;have m2:=F.sub_list_frozenset;have m3:(Value.type "list" == Value.type "dict")=false:=by decide
    have il:(s.heap.push (tP led)).IsList l items:=⟨_,g4,rfl,nl,rfl⟩
    unfold Builtin.«set.__init__» noKeywords Builtin.Frozenset.updateFrom;generalize hPI:pyIter=PI
    wp_walk
    subst hPI;refine N4 il (LU (wpAny_runValue ?_));have ll:l < s.heap.objs.size:=Mi g1;have h3:A.in1.in1.in1.handled=none:=by simp [hh]
    have n1:l≠(s.heap.push (tP led)).objs.size:=by rw [MW];exact Mq (N5 ll)
    have n2:s.heap.objs.size ∉ [(s.heap.push (tP led)).objs.size,l]:=by rw [MW];simp only [Mm,Mv,Nc,Oi,not_or];exact ⟨Mq (Nh _),MR ll⟩
    refine Ci ((Walks.list h3 _ l n1 items).toS) s.heap.objs.size n2 f hi few (items.size - 0) 0 _ (by omega) (MK _) ⟨⟨_,Mu _ rfl,rfl,rfl⟩,(il.push _)⟩ ?so ?fi
    case so=>exact SetOf_congr ((setObjOf_fresh (knd:=strKind P w) led).setOf (LX _ g0) (by unfold scanBound;omega)) (λ_=>rfl) rfl
    case fi =>
     intro s' mv so;obtain ⟨h',g',d',tk',os'⟩:=s';obtain rfl:g'=s.gens:=mv.gens;obtain rfl:d'=s.drawn:=mv.drawn;obtain rfl:os'=s.os:=mv.os;show wpAny _ _ _ _ _ _;refine L8 ?_;show wpAny _ _ (ret Value.none) _ _ _;refine L8 ⟨rfl,h',tk',rfl,so,λb o z g=>?_⟩;have z1:b≠s.heap.objs.size:=Mq z;have z2:b≠(s.heap.push (tP led)).objs.size:=by rw [MW];exact Mq (N5 z)
     exact mv.heap b o (by simp only [Mm,Mv,Nc,Oi,not_or];exact ⟨z1,z2⟩) (LX _ (LX _ g))
   ·cases r2 with
    | error e=>exact hr2
    | ok fl2 =>
     cases fl2 with
     | ret r =>
      obtain ⟨rfl,h',tk,rfl,so,kp⟩:=hr2
      repeat (any_goals (first | assumption | wp_step))
      exact fin _ _ so kp
     | _=>exact hr2.elim
  | _=>exact hr.elim
noncomputable def xh (a:Addr) (n:Nat) (h:Heap):Prop:=∃ o es ep t,h.get? a=some o/\o.ExactSet/\o.data=.set es ep t/\t.fits es.size=true/\es.size=n
section
variable {X:Cx}
theorem yG:∀ {zs:List Str} {us:List Value} (i:Nat) (v:Value),Vals (zs.map V.str) us->us[i]?=some v->∃ t,v=.str (zs.getD i "") t
 | [],us,i,v,h,e=>by cases h;simp at e
 | z::zs,us,i,v,h,e=>by
  cases h with
  | cons r t =>
   obtain ⟨tk,rfl⟩:=r
   cases i with
   | zero =>
    have e':Value.str z tk=v:=by simpa using e
    exact ⟨tk,e'.symm⟩
   | succ i =>obtain ⟨t',e'⟩:=yG (zs:=zs) i v t (by simpa using e);exact ⟨t',by simpa using e'⟩
noncomputable def rR (zs:List Str):Nat:=(met (λi=>zs.getD i "") zs.length).length
theorem yR (hc:X.calm=true):jo X (.type "set") (λxs H Q=>∃ (l:Addr) (zs:List Str),xs=[.ref l]/\PJ X.K H l (zs.map V.str)/\zs.length<=100/\∀ p,H p=none->Q (.ref p) (upd H p (.ext (xh p (rR zs))))):=by
 intro pins s σ H xs us Q I r h;obtain ⟨l,zs,rfl,hq,hz,q⟩:=h;obtain ⟨u,rfl,ru⟩:=jC r;cases ru;obtain ⟨its,rv,p,_⟩:=I.list hq;have lr:=rv.length;rw [LR] at lr;refine yQ (f:=λi=>zs.getD i "") (I.ok.hd hc) p.isList (λi v e=>yG i v rv (by simpa using e)) (by unfold scanBound;simp;omega) λh' tk so kp=>?_
 have so':xh s.heap.objs.size (rR zs) h':=by obtain ⟨o,es,ep,t,a1,a2,a3,_,_,_,a4,a5⟩:=so;refine ⟨o,es,ep,t,a1,a2,a3,a4,?_⟩;rw [a5];unfold rR;rw [lr];simp
 refine ⟨.ref s.heap.objs.size,_,I.laid (t':=tk) (λb o e=>kp b o (Mi e) e) (L7 _) (show P1 X.prog X.w _ h' _ (.ext (xh s.heap.objs.size (rR zs))) from ⟨so',?_,λh1 h2 z k=>?_⟩),rfl,q _ (I.hok.fresh (L7 _))⟩
 ·obtain ⟨o,_,_,_,a1,_⟩:=so';exact ⟨o,a1⟩
 ·obtain ⟨o,es,ep,t,a1,rest⟩:=z;exact ⟨o,es,ep,t,k _ a1,rest⟩
theorem uq:jo X (.builtin "len") (λxs H Q=>∃ (p:Addr) (n:Nat),xs=[.ref p]/\H p=some (.ext (xh p n))/\n<=1000/\Q (.int n) H):=by
 intro pins s σ H xs us Q I r h;obtain ⟨p,n,rfl,hp,hn,q⟩:=h;obtain ⟨u,rfl,ru⟩:=jC r;cases ru;obtain ⟨⟨o,es,ep,t,a1,a2,a3,a4,a5⟩,_⟩:=(show P1 X.prog X.w H s.heap p (.ext (xh p n)) from I.hok p _ hp)
 subst a5;exact call_len_set a1 a2 a3 a4 (by omega) ⟨.int (es.size:Nat),H,I.tok _,⟨_,rfl⟩,q⟩
end
theorem Pr.VU (e:Pr H H') (h:VU K H a xs):VU K H' a xs:=h.elim (λz=>.inl (e _ _ z)) .inr
noncomputable def LD (K:W.Frag) (H:Hp) (ds:List D) (v:V):Prop:=∃ a vs,v=.ref a/\VU K H a vs/\Pq K H ds vs
theorem Pr.ld (e:Pr H H') (h:LD K H ds v):LD K H' ds v:=by obtain ⟨a,vs,e1,h1,h2⟩:=h;exact ⟨a,vs,e1,e.VU h1,e.P0 h2⟩
theorem LD.lst (h:LD K H ds v):Dat K H .lst v:=by obtain ⟨a,vs,rfl,h1,_⟩:=h;exact Dat.lstI h1.S7
theorem LD.of (h:H a=some (.lst vs)) (hd:Pq K H ds vs):LD K H ds (.ref a):=⟨a,vs,rfl,.inl h,hd⟩
inductive Ar where
 | d (x:D)
 | l (ds:List D)
noncomputable def ZW (K:W.Frag) (H:Hp):Ar->V->Prop
 | .d x,v=>Dat K H x v
 | .l ds,v=>LD K H ds v
inductive YD (K:W.Frag) (H:Hp):List Ar->List V->Prop
 | nil:YD K H [] []
 | cons {a v as vs}:ZW K H a v->YD K H as vs->YD K H (a::as) (v::vs)
theorem Pr.ari {a:Ar} (e:Pr H H') (h:ZW K H a v):ZW K H' a v:=by
 cases a with
 | d x=>exact e.dat h
 | l ds=>exact e.ld h
theorem YD.length {as:List Ar} (h:YD K H as vs):as.length=vs.length:=by
 induction h with
 | nil=>rfl
 | cons _ _ ih=>simp [ih]
theorem Ep {a:Ar} (h:YD K H [a] vs):∃ u,vs=[u]/\ZW K H a u:=by
 cases h with
 | cons h1 h2=>cases h2;exact ⟨_,rfl,h1⟩
theorem zZ {a b:Ar} (h:YD K H [a,b] vs):∃ u v,vs=[u,v]/\ZW K H a u/\ZW K H b v:=by
 cases h with
 | cons h1 h2=>obtain ⟨v,rfl,q⟩:=Ep h2;exact ⟨_,v,rfl,h1,q⟩
noncomputable def spA (K:W.Frag) (R:List Ar->D->Prop):Sp:=λvs H Q _=>∃ as d,YD K H as vs/\R as d/\∀ v H',Pr H H'->Dat K H' d v->Q v H'
noncomputable def RL (K:W.Frag) (t:TE) (σ:St) (H:Hp) (ds:List D):Prop:=∀ H1,Pr H H1->∀ Q:VK,(∀ v H',Pr H1 H'->LD K H' ds v->Q v H')->t σ H1 Q
noncomputable def RB (K:W.Frag) (t:TA) (σ:St) (H:Hp) (as:List Ar):Prop:=∀ H1,Pr H H1->∀ Q:List V->Hp->Prop,(∀ vs H',Pr H1 H'->YD K H' as vs->Q vs H')->t σ H1 Q
section
variable {K:W.Frag} {σ:St} {H H':Hp} {d d':D} {ds es:List D} {t u ta tb te tl:TE} {tt uu:TT} {tA:TA} {i j:Int} {b c:Bool} {mk:St->St} {jj:Nat} {ar:List Ar}
theorem RL.mono (h:RL K t σ H es) (e:Pr H H'):RL K t σ H' es:=λH1 s Q q=>h H1 (e.trans s) Q q
theorem RL.as (h:RL K t σ H es) (e:es=ds):RL K t σ H ds:=e ▸ h
theorem RL.use {Q:VK} (h:RL K t σ H es) (q:∀ v H',Pr H H'->LD K H' es v->Q v H'):t σ H Q:=h H (Pr.refl H) Q q
theorem RB.use {Q:List V->Hp->Prop} (h:RB K tA σ H ar) (q:∀ vs H',Pr H H'->YD K H' ar vs->Q vs H'):tA σ H Q:=h H (Pr.refl H) Q q
theorem tq:RB K dH σ H []:=λH1 _ Q q=>q _ _ (Pr.refl _) .nil
theorem E7 (h:RE K t σ H d) (r:RB K tA σ H ar):RB K (bO t tA) σ H (.d d::ar):=λH1 s Q q =>
 h H1 s _ λv H2 s2 q2=>r H2 (s.trans s2) _ λvs H3 s3 q3=>q _ _ (s2.trans s3) (.cons (s3.ari (a:=.d d) q2) q3)
theorem E8 (h:RL K t σ H ds) (r:RB K tA σ H ar):RB K (bO t tA) σ H (.l ds::ar):=λH1 s Q q =>
 h H1 s _ λv H2 s2 q2=>r H2 (s.trans s2) _ λvs H3 s3 q3=>q _ _ (s2.trans s3) (.cons (s3.ari (a:=.l ds) q2) q3)
variable {k:Nat} {v:V}
theorem cK (h:LD K H ds v) (e:σ[k]?=some (some v):=by rfl):RL K (dW k) σ H ds:=λH1 s Q q=>⟨v,e,q _ _ (Pr.refl _) (s.ld h)⟩
theorem eT (h:RC K t σ H es):RL K t σ H es:=λH1 s Q q=>h H1 s _ λl ys H' _ s' hy hd=>q _ _ s' (LD.of hy hd)
theorem BR {a:Addr} (h:o6 K ds a=true):RL K (tC (.ref a)) σ H ds:=λH1 _ Q q=>by obtain ⟨vs,h1,h2⟩:=sg h H1;exact q _ _ (Pr.refl _) ⟨a,vs,rfl,.inr h1,h2⟩
theorem vm {R:List Ar->D->Prop} {E:XK} (h:RB K tA σ H ar) (e:R ar d):RE K (gJ (spA K R) [] E tA) σ H d:=λH1 s Q q =>
 h H1 s _ λvs H2 s2 q2=>⟨ar,d,by rw [MI];exact q2,e,λv H3 s3 q3=>q _ _ (s2.trans s3) q3⟩
theorem BM (h1:RL K ta σ H ds) (h2:RE K tb σ H (.int k)) (e:ds[k]?=some d):RE K (S8 (Bu K) ta tb) σ H d:=λH1 s Q q =>
 h1 H1 s _ λv H2 s2 q2=>h2 H2 (s.trans s2) _ λw H3 s3 q3=>by obtain ⟨a,vs,ev,hq,hd⟩:=s3.ld q2;obtain ⟨x,ex,hx⟩:=hd.get e;exact ⟨a,vs,k,x,ev,q3.Pz,hq.S7,ja ex,q _ _ (s2.trans s3) hx⟩
theorem Pq.Zj {b:D}:∀ {as:List D} {vs:List V},Pq K H (as++[b]) vs->∃ us v,vs=us++[v]/\Pq K H as us/\Dat K H b v
 | [],vs,h=>by obtain ⟨v,rfl,q⟩:=hX h;exact ⟨[],v,rfl,Pq.nil,q⟩
 | a::as,vs,h=>by obtain ⟨v,r,rfl,h1,h2⟩:=h.QB;obtain ⟨us,w,rfl,q1,q2⟩:=Pq.Zj (as:=as) h2;exact ⟨v::us,w,rfl,Pq.cons h1 q1,q2⟩
theorem qZ (h1:RL K ta σ H (ds++[d])) (h2:RE K tb σ H (.int (-1))):RE K (S8 (Bu K) ta tb) σ H d:=λH1 s Q q =>
 h1 H1 s _ λv H2 s2 q2=>h2 H2 (s.trans s2) _ λw H3 s3 q3=>by obtain ⟨a,vs,ev,hq,hd⟩:=s3.ld q2;obtain ⟨us,x,rfl,hu,hx⟩:=hd.Zj;exact ⟨a,_,-1,x,ev,q3.Pz,hq.S7,z0 us x,q _ _ (s2.trans s3) hx⟩
theorem eO (h:RL K t σ H es):RE K (WB (λxs H Q=>∃ p ys,xs=[.ref p]/\(PJ K H p ys\/QE K H p ys)/\Q (.int ys.length) H) (bO t dH)) σ H (.int es.length):=λH1 s Q q =>
 je ((h.mono s).use λv H' s' hd=>by
  obtain ⟨l,ys,rfl,hy,hd⟩:=hd;exact ⟨l,ys,rfl,.inl hy.S7,by rw [<- hd.length];exact q _ _ s' (Dat.Px _)⟩)
theorem lO:∀ {ns:List Int} {vs:List V},Pq K H (ns.map D.int) vs->vs=ns.map V.int
 | [],vs,h=>by rw [Pq.Vc h];rfl
 | n::ns,vs,h=>by obtain ⟨v,r,e,h1,h2⟩:=h.QB;rw [e,h1.Pz,lO h2];rfl
theorem Ds {ns:List Int} (h:RL K t σ H (ns.map D.int)):RE K (WB (λxs H Q=>∃ (l:Addr) (ns:List Int),xs=[.ref l]/\PJ K H l (ns.map V.int)/\Q (.int ns.sum) H) (bO t dH)) σ H (.int ns.sum):=λH1 s Q q =>
 je ((h.mono s).use λv H' s' hd=>by
  obtain ⟨l,ys,rfl,hy,hd⟩:=hd;exact ⟨l,ns,rfl,by rw [<- lO hd];exact hy.S7,q _ _ s' (Dat.Px _)⟩)
noncomputable def ZX:D->Bool
 | .Py=>true
 | _=>false
theorem yi (h:Dat K H d v):decide (v=.Py)=ZX d:=by
 cases d with
 | Py=>rw [h.Tv];rfl
 | bl b=>rw [h.VR];rfl
 | int i=>rw [h.Pz];rfl
 | str x=>rw [h.P9];rfl
 | tup ds=>obtain ⟨a,vs,e,_⟩:=h.P7;rw [e];rfl
 | lst=>obtain ⟨a,vs,e,_⟩:=h.XQ;rw [e];rfl
theorem wR (h:RE K ta σ H d):RE K (S8 (λx y H Q=>y=.Py/\Q (.bl (decide (x=.Py))) H) ta (tC .Py)) σ H (.bl (ZX d)):=λH1 s Q q =>
 h H1 s _ λv H2 s2 q2=>⟨rfl,by rw [yi q2];exact q _ _ s2 (Dat.UA _)⟩
theorem tF (h:RE K ta σ H d):RE K (S8 (λx y H Q=>y=.Py/\Q (.bl (!decide (x=.Py))) H) ta (tC .Py)) σ H (.bl (!ZX d)):=λH1 s Q q =>
 h H1 s _ λv H2 s2 q2=>⟨rfl,by rw [yi q2];exact q _ _ s2 (Dat.UA _)⟩
theorem mj {cs:List D} (h:RL K tl σ H cs) (hc:cs.length<=1000) (es:List D) (hl:es.length=cs.length) (h0:(mk σ).set jj none=mk σ)
  (turn:∀ H1 (i:Nat) c v d,Pr H H1->cs[i]?=some c->es[i]?=some d->Dat K H1 c v->RE K te ((mk σ).set jj (some v)) H1 d):RC K (gM (lS K tl) mk (bW jj) fP te) σ H es:=λH1 s Q q=>by
 refine (h.mono s).use λv4 H4 s4 q4=>?_;obtain ⟨l4,Tw,rfl,Sg,W9⟩:=q4;have ll:=W9.length;refine ⟨l4,rfl,⟨Tw,Sg.S7⟩,?_⟩;refine iK (K:=K) (Q:=Q) (n:=Tw.length) (item:=λi=>Tw.getD i .Py) (λi H' s hi=>oX i H' (s.seq Sg.S7) hi) (λH' s=>⟨Tw,s.seq Sg.S7,L7 _⟩) h0 es (by omega) (by omega) (λi d hi=>?_) (λl ys H5 Yk s5=>q l ys H5 (s4.free Yk) (s4.trans s5));have hi':i < es.length:=(Mg.mp hi).1;have hic:i < cs.length:=by omega
 obtain ⟨vz,ez,hz⟩:=W9.get (LQ hic);have q:=turn H4 i cs[i] vz d (s.trans s4) (LQ hic) hi hz;rw [Ml,ez];exact q
theorem jK (h:RL K t σ H es):RC K (WB (λxs H Q=>∃ p ys,xs=[.ref p]/\(PJ K H p ys\/QE K H p ys)/\∀ l,H l=none->Q (.ref l) (upd H l (.lst ys))) (bO t dH)) σ H es:=λH1 s Q q =>
 je ((h.mono s).use λv H' s' hd=>by
  obtain ⟨p,ys,rfl,hy,hd⟩:=hd;exact ⟨p,ys,rfl,.inl hy.S7,λl hl=>q l ys _ (s'.free hl) (s'.trans (aT hl _)) aM ((aT hl _).P0 hd)⟩)
theorem mf (h1:RL K ta σ H ds) (h2:RL K tb σ H es) (hl:ds.length+es.length<=1000):RC K (S8 (DW K) ta tb) σ H (ds++es):=λH1 s Q q =>
 h1 H1 s _ λv H2 s2 q2=>h2 H2 (s.trans s2) _ λw H3 s3 q3=>by obtain ⟨a,xs,rfl,ha,da⟩:=s3.ld q2;obtain ⟨b,ys,rfl,hb,db⟩:=q3;have l1:=da.length;have l2:=db.length;exact ⟨a,b,xs,ys,rfl,rfl,ha,hb,by omega,λp hp=>q p _ _ ((s2.trans s3).free hp) (s2.trans (s3.trans (aT hp _))) aM ((aT hp _).P0 (Pq.append da db))⟩
theorem Ex {vs:List V} {n:Nat}:lM vs none (some (n:Int))=vs.take n:=by
 unfold lM;rw [HT.U0,HT.Xx];simp only [List.drop_zero,Nat.sub_zero];apply Pk;intro i;simp only [List.getElem?_take];by_cases h1:i < n
 ·rw [Mc h1];by_cases h2:i < min n vs.length
  ·rw [Mc h2]
  ·rw [LZ h2,Ng (by omega)]
 ·rw [LZ h1,LZ (by omega)]
end
section
variable {K:W.Frag} {σ:St} {H H':Hp} {d d':D} {ds es:List D} {t u ta tb te tl:TE}
theorem zA {zs:List Str} (h:RC K t σ H (zs.map D.str)) (hz:zs.length<=100):RE K (WB (λxs H Q=>∃ (p:Addr) (n:Nat),xs=[.ref p]/\H p=some (.ext (xh p n))/\n<=1000/\Q (.int n) H)
  (bO (WB (λxs H Q=>∃ (l:Addr) (zs:List Str),xs=[.ref l]/\PJ K H l (zs.map V.str)/\zs.length<=100/\∀ p,H p=none->Q (.ref p) (upd H p (.ext (xh p (rR zs))))) (bO t dH)) dH)) σ H (.int (rR zs)):=λH1 s Q q =>
 je (je ((h.mono s).use λl ys H2 _ s2 hy hd=>by
  refine ⟨l,zs,rfl,by rw [<- xI hd];exact PJ.of hy,hz,λp hp=>⟨p,rR zs,rfl,aM,?_,q _ _ (s2.trans (aT hp _)) (Dat.Px _)⟩⟩;have:=sr (λi=>zs.getD i "") zs.length;unfold rR;omega))
theorem xO (zs:List Str):∀ i,i<=zs.length->((∀ y,(met (λi=>zs.getD i "") i).any (· == y)=decide (y ∈ zs.take i))/\((met (λi=>zs.getD i "") i).length=i↔(zs.take i).Nodup))
 | 0,_=>⟨λy=>by simp [met],by simp [met]⟩
 | i+1,h=>by
  obtain ⟨i1,i2⟩:=xO zs i (by omega);have hle:=sr (λi=>zs.getD i "") i;have hi:i < zs.length:=h;have et:zs.take (i+1)=zs.take i++[zs[i]]:=by rw [MP,LQ hi];rfl
  have eg:zs.getD i ""=zs[i]:=by rw [Ml,LQ hi];rfl
  refine ⟨λy=>?_,?_⟩
  ·rw [j9,xN,i1,et];simp only [eg,Na,Mv];by_cases h1:y ∈ zs.take i <;> by_cases h2:y=zs[i] <;> simp [h1,h2]
  ·rw [j9,rS,i1,et];simp only [eg];rw [List.nodup_append];by_cases hm:zs[i] ∈ zs.take i
   ·rw [Mc (Mh hm)];constructor
    ·intro z;omega
    ·rintro ⟨_,_,z⟩;exact absurd rfl (z _ hm _ (Mv.mpr rfl))
   ·rw [LZ (by simpa using hm)];constructor
    ·intro z;refine ⟨i2.mp (by omega),by simp,?_⟩;rintro a ha b hb rfl;rw [Mv.mp hb] at ha;exact hm ha
    ·rintro ⟨z,_⟩;have:=i2.mpr z;omega
theorem CA (zs:List Str):rR zs=zs.length↔zs.Nodup:=by have h:=(xO zs zs.length (L7 _)).2;rw [MY] at h;exact h
end
section
variable {X:Cx}
end
section
variable {K:W.Frag} {σ:St} {H:Hp} {te:TE}
end
theorem nv (Ok:Hp->Prop)
  (go:∀ i H',Ok H'->i < n->J.go i H'/\∀ x PN,J.Vs i H' x PN->PN=H'/\x=item i) (stop:∀ H',Ok H'->J.stop n H') (h0:σ0.set j none=σ0)
  (D:Addr) (Pn:Nat->Hp->Prop) (p0:Pn 0 (upd H1 D (.lst []))) (ok:∀ i H',i<=n->Pn i H'->Ok H')
  (turn:∀ i H',i < n->Pn i H'->tt (σ0.set j (some (item i))) H' λb H3=>if b=true then te (σ0.set j (some (item i))) H3 λv H4=>∃ ys,H4 D=some (.lst ys)/\ys.length < sizeLine/\(∃ z,σ0.set j (some (item i))=σ0.set j z)/\Pn (i+1) (upd H4 D (.lst (ys++[v]))) else (∃ z,σ0.set j (some (item i))=σ0.set j z)/\Pn (i+1) H3)
  (fin:∀ H',Pn n H'->Q (.ref D) H') :
  ∃ W:Nat->Nat->St->Hp->Prop,(∃ m,W 0 m σ0 (upd H1 D (.lst [])))/\∀ i m σ' H',W i m σ' H' ->
   (J.stop i H'/\Q (.ref D) H') \/
   (J.go i H'/\∃ Nx:St->Hp->Prop,(∀ σ'' PN,Nx σ'' PN->∃ m',m' < m/\W (i+1) m' σ'' PN)/\∀ x PN,J.Vs i H' x PN->bW j x σ' PN λσ2 H2=>tt σ2 H2 λb H3 =>
    if b=true then te σ2 H3 λv H4=>∃ ys,H4 D=some (.lst ys)/\ys.length < sizeLine/\Nx σ2 (upd H4 D (.lst (ys++[v]))) else Nx σ2 H3):=by
 refine ⟨λi m σ' H'=>m=n - i/\i<=n/\(∃ z,σ'=σ0.set j z)/\Pn i H',⟨n,by omega,MK _,⟨none,h0.symm⟩,p0⟩,?_⟩;rintro i m σ' H' ⟨rfl,hi,⟨z,rfl⟩,p⟩;have o:=ok i H' hi p;by_cases hlt:i < n
 ·obtain ⟨g,y⟩:=go i H' o hlt;refine .inr ⟨g,λσ'' PN=>(∃ z,σ''=σ0.set j z)/\Pn (i+1) PN,λσ'' PN q=>⟨n - (i+1),by omega,rfl,hlt,q.1,q.2⟩,λx PN yx=>?_⟩;obtain ⟨e1,e2⟩:=y x PN yx;subst e1 e2;simp only [bW,mH];exact turn i _ hlt p
 ·have e:i=n:=by omega
  subst e;exact .inl ⟨stop H' o,fin H' p⟩
section
variable {P:Program} {w:World} {H H':Hp} {h h1 h2:Heap} {a b T:Addr} {o:HO} {fs:List Addr}
theorem P1.has (x:P1 P w H h a o):∃ u,h.get? a=some u:=by
 cases o with
 | lst xs=>obtain ⟨_,_,_,_,e⟩:=x;exact ⟨_,e⟩
 | tup xs=>obtain ⟨_,_,_,ob,e,_⟩:=x;exact ⟨ob,e⟩
 | dK kvs=>obtain ⟨_,_,_,_,o,_,_,e,_⟩:=x;exact ⟨_,e⟩
 | dT kvs=>obtain ⟨_,_,_,_,o,_,_,e,_⟩:=x;exact ⟨_,e⟩
 | set S n=>obtain ⟨o,_,_,_,e,_⟩:=x;exact ⟨_,e⟩
 | ins C dx fs=>obtain ⟨_,_,_,e,_⟩:=x;exact ⟨_,e⟩
 | own y=>exact x
 | xd fs=>obtain ⟨_,⟨_,_,_,e,_⟩,_⟩:=x;exact ⟨_,e⟩
 | Wn lo hi=>obtain ⟨_,_,_,e⟩:=x;exact ⟨_,e⟩
 | Yp ob u=>obtain ⟨e,_⟩:=x;exact ⟨_,e⟩
 | Zd ps=>exact ⟨_,(show h.get? a=some _ from x)⟩
 | met f y=>exact ⟨_,(show h.get? a=some _ from x)⟩
 | ext φ=>obtain ⟨_,e,_⟩:=x;exact e
theorem Uz.empty (x:Uz P w H h) (e:h.get? a=none):H a=none:=by
 cases q:H a with
 | none=>rfl
 | some u =>obtain ⟨v,r⟩:=(x a u q).has;rw [e] at r;cases r
noncomputable def Zy (h:Heap) (e T:Addr) (cls a0:Value):Prop :=
 ∃ oe vs oT ts,h.get? e=some oe/\(oe.cls=cls/\vs[0]?=some a0)/\oe.data=.fields vs/\vs[1]?=some (.ref T)/\T≠e/\h.get? T=some oT/\oT.data=.fields ts/\ts[3]?=some .none
noncomputable def CX1 (P:Program) (w:World):Xs:=λouter H s E e s' =>
 ∃ a T cls a0 H',e=.ref a/\s'.os=s.os/\AllBare s'.gens/\Un (frs outer) [] H H' s.heap s'.heap/\Uz P w H' s'.heap /\
  (s.heap.get? a=none/\s.heap.get? T=none/\H' a=none/\H' T=none)/\Zy s'.heap a T cls a0/\E cls none H'
theorem Cg (U:Un fs [] H H' h h1) (ha:h.get? a=none) (hT:h.get? T=none) (k:∀ b o,h1.get? b=some o->b≠a->b≠T->b ∉ fs->h2.get? b=some o)
  (sl:∀ b o,h1.get? b=some o->b ∈ fs->∃ sl,h2.get? b=some { o with slots:=sl }):Un fs [] H H' h h2:=by
 have na:∀ b o,h.get? b=some o->b≠a:=λb o q z=>by rw [z,ha] at q;cases q
 have nT:∀ b o,h.get? b=some o->b≠T:=λb o q z=>by rw [z,hT] at q;cases q
 refine ⟨λb o q n hb hx=>k b o (U.keep b o q n hb hx) (na b o q) (nT b o q) hb,λb o q n hb hx=>?_,U.free,λb o q hx=>?_,U.tups,U.Wo,U.WA⟩
 ·obtain ⟨s1,e1⟩:=U.slot b o q n hb hx;obtain ⟨s2,e2⟩:=sl b _ e1 hb;exact ⟨s2,e2⟩
 ·obtain ⟨o1,e1⟩:=U.there b o q hx;by_cases hb:b ∈ fs
  ·obtain ⟨s2,e2⟩:=sl b _ e1 hb;exact ⟨_,e2⟩
  ·exact ⟨o1,k b o1 e1 (na b o q) (nT b o q) hb⟩
theorem AM (O:Uz P w H h1) (ha:H a=none) (hT:H T=none) (hf:∀ b ∈ fs,H b=none) (k:∀ b o,h1.get? b=some o->b≠a->b≠T->b ∉ fs->h2.get? b=some o):Uz P w H h2:=λc u e =>
 (O c u e).stay (λb v hb q=>by
  have hn:H b≠none:=by
   rcases hb with z | z
   ·rw [z,e];exact λy=>nomatch y
   ·rw [z];exact λy=>nomatch y
  exact k b v q (λz=>hn (by rw [z];exact ha)) (λz=>hn (by rw [z];exact hT)) λz=>hn (hf b z)) (λ_ q=>q) λ_ _ q=>q
variable {base:Heap} {l:List Env} {cls a0:Value}
theorem Ez (F:h.FunFrames base l) (t:Zy h a T cls a0):Heap.FlyingW (W.hideAll h (a::T::frs l)) l a cls a0 h:=by
 obtain ⟨oe,vs,oT,ts,he,hc,hd,hv,hne,hT,hdT,h3⟩:=t
 exact ⟨λb o q=>W.of_hideAll _ q,OC _ (.head _),W.funFrames_hide F λenv hm b hb=>.tail _ (.tail _ (Ox.mpr ⟨env,hm,hb⟩)),
  oe,vs,T,oT,ts,he,hc,hd,hv,OC _ (.tail _ (.head _)),hne,hT,hdT,h3⟩
theorem uB {l':List Env} (F:h.FunFrames base l) (x:Heap.FlyingW (W.hideAll h (a::T::frs l)) l' a cls a0 h2) (U:h.UpToSlots h2) :
  ∃ T2,Zy h2 a T2 cls a0/\(T2=T\/h.get? T2=none)/\(∀ b o,h.get? b=some o->b≠a->b≠T->b ∉ frs l->h2.get? b=some o)/\(∀ b o,h.get? b=some o->b ∈ frs l->∃ sl,h2.get? b=some { o with slots:=sl }):=by
 obtain ⟨f1,f2,f3,oe,vs,T2,oT,ts,he,hc,hd,hv,hn,hne,hT,hdT,h3⟩:=x
 have sl:∀ b o,h.get? b=some o->b ∈ frs l->∃ sl,h2.get? b=some { o with slots:=sl }:=λb o q hb=>by obtain ⟨_,o',ho',hnf⟩:=F.mem hb;rw [q] at ho';cases ho';exact U b o q hnf
 refine ⟨T2,⟨oe,vs,oT,ts,he,hc,hd,hv,hne,hT,hdT,h3⟩,?_,λb o q n1 n2 n3=>f1 b o (W.hideAll_get _ q λz=>?_),sl⟩
 ·cases q:h.get? T2 with
  | none=>exact .inr rfl
  | some o =>
   refine .inl ?_;by_cases m:T2 ∈ a::T::frs l
   ·rcases Mm.mp m with z | m
    ·exact absurd z hne
    ·rcases Mm.mp m with z | m
     ·exact z
     ·obtain ⟨_,o',ho',hnf⟩:=F.mem m;rw [q] at ho';cases ho';obtain ⟨s2,e2⟩:=sl T2 o q m;rw [hT] at e2;cases e2;exact absurd hdT (hnf ts)
   ·rw [W.hideAll_get _ q m] at hn;cases hn
 ·rcases Mm.mp z with z | z
  ·exact n1 z
  ·rcases Mm.mp z with z | z
   ·exact n2 z
   ·exact n3 z
end
section
variable {X:Cx} {pins:List (Addr × Obj)} {σ:St} {H:Hp} {s s':Shared} {E:XK} {e:Value}
theorem CX1.behind (I:Inv X pins σ H s) (x:CX1 X.prog X.w X.stack H s E e s'):∃ a T cls a0 H',e=.ref a/\E cls none H'/\s.heap.get? a=none/\H' a=none/\Inv X pins σ H' s' /\
  Heap.FlyingW (W.hideAll s'.heap (a::T::frs X.stack)) X.stack a cls a0 s'.heap /\
  ∀ h2 l',Heap.FlyingW (W.hideAll s'.heap (a::T::frs X.stack)) l' a cls a0 h2->s'.heap.UpToSlots h2 ->
   ∃ T2,Inv X pins σ H' { s' with heap:=h2 }/\Zy h2 a T2 cls a0/\s.heap.get? T2=none/\H' T2=none/\Un (frs X.stack) [] H H' s.heap h2:=by
 obtain ⟨a,T,cls,a0,H',he,os,bare,un,hok,⟨sa,sT,na,nT⟩,tr,q⟩:=x;have J:Inv X pins σ H' s':=I.Wb (ch:=[]) os un hok bare (λb z=>absurd z (by simp));refine ⟨a,T,cls,a0,H',he,q,sa,na,J,Ez J.stack tr,λh2 l' fl up=>?_⟩;obtain ⟨T2,t2,hT2,k2,sl2⟩:=uB J.stack fl up
 have nT2:H' T2=none:=by
  rcases hT2 with z | z
  ·rw [z];exact nT
  ·exact hok.empty z
 have sT2:s.heap.get? T2=none:=by
  rcases hT2 with z | z
  ·rw [z];exact sT
  ·cases q:s.heap.get? T2 with
   | none=>rfl
   | some o =>obtain ⟨o',r⟩:=un.there T2 o q (by simp);rw [z] at r;cases r
 exact ⟨T2,I.Wb (s':={ s' with heap:=h2 }) (ch:=[]) os (Cg un sa sT k2 sl2) (AM hok na nT J.Vr k2) bare (λb z=>absurd z (by simp)),t2,sT2,nT2,Cg un sa sT k2 sl2⟩
end
noncomputable def Fre (h:Heap) (e:Addr) (cls a0:Value):Prop:=∃ oe vs,h.get? e=some oe/\(oe.cls=cls/\vs[0]?=some a0)/\oe.data=.fields vs/\vs[1]?=some .none
noncomputable def Ax (K:W.Frag) (C:Addr) (bmB:List Value) (newId:String) (ini:Option Value):Bool:=match K.lookup C with
 | some ⟨.type "type",_,.cls cd,slots⟩=>(match cd.mro,slots.toList with
  | .ref C'::bm,[_,_,_,_,some (.builtin n),_]=>C' == C && n == newId && !cd.hasDel && W.tailIn K bmB bm && W.nsOkIn K cd.ns && W.nsIn K cd.ns "__init__" == some ini
  | _,_=>false)
 | _=>false
variable {h:Heap}
theorem wA {N:Addr} {n:Str} {v:Value} (X:K.In h) (G:h.Ns N mg) (e:W.nsIn K N n=some (some v)):mg n=some v:=by
 obtain ⟨o,es,ep,ho,hd,_,hf⟩:=G;unfold W.nsIn at e;split at e
 ·rename_i c d es' n' sl q;have:=X _ _ q;rw [ho] at this;cases this;cases hd;split at e
  ·rename_i en he;rw [<- hf];unfold nsFind findBy;rw [<- Array.find?_toList,he];cases e;rfl
  ·split at e <;> cases e
 ·cases e
theorem Ay {C:Addr} {bmB:List Value} {newId:String} {ini:Option Value} (X:K.In h) (q:Ax K C bmB newId ini=true) :
  ∃ bm N nm qn bs hd sn sub ab col dd k0 k1 k2 k3 k5 mN,h.get? C=some (excClassObj nm qn C N bs bm hd sn sub ab col dd k0 k1 k2 k3 k5 newId)/\h.Ns N mN/\mN "__init__"=ini/\OwnTail h bmB bm:=by
 unfold Ax at q;split at q
 ·rename_i dd cd sl ho;split at q
  ·rename_i C' bm k0 k1 k2 k3 n k5 hm hs;rw [LW,LW,LW,LW,LW] at q;obtain ⟨⟨⟨⟨⟨e1,e2⟩,hdel⟩,ht⟩,hok⟩,hni⟩:=q;obtain rfl:=NT.mp e1;obtain rfl:=NT.mp e2;have hni:=NT.mp hni;obtain ⟨cnm,cbs,mro,ns,cqn,chd,csn,csub,YU,ccol,del⟩:=cd;have hsl:sl.toList.toArray=[k0,k1,k2,k3,some (.builtin n),k5].toArray:=by rw [hs]
   rw [Array.toArray_toList] at hsl;subst hsl;have hm:mro=.ref C'::bm:=hm
   have hde:del=false:=by
    have z:(!del)=true:=hdel
    cases del with
    | true=>cases z
    | false=>rfl
   clear hdel;subst hm hde;have hN:h.Ns ns (h.nsMap ns):=.of_isNs (W.isNs_of_in X hok);refine ⟨bm,ns,cnm,cqn,cbs,chd,csn,csub,YU,ccol,dd,k0,k1,k2,k3,k5,_,X _ _ ho,hN,?_,W.tail_of_in X ht⟩
   cases ini with
   | none=>exact W.ns_none_of X hN hni
   | some v=>exact wA X hN hni
  ·cases q
 ·cases q
noncomputable def iJ (CX:Xs) (X:Cx) (E:St->XK):Prop:=∀ (pins:List (Addr × Obj)) (σ:St) (H:Hp) (s:Shared) (e:Value) (s':Shared),Inv X pins σ H s->CX X.stack H s (E σ) e s'->X.xe e s'
section
variable {X:Cx} {CX:Xs} {k:Nat} {f C:Addr} {fd:FuncData} {ps:List Str} {sp:Sp} {Tu:List V} {ds:List Value} {E:St->XK} {x m:Str} {p pos apos:Pos} {e o:Expr} {es:List Expr} {ta:TE} {t:TA}
theorem tN {pins:List (Addr × Obj)} {σ:St} {H:Hp} {s:Shared} {Q:VK} {us:List Value} {vs:List V} (F:PD X.prog X.w X.K X.mg X.base CX k f fd ps sp) (hr:P8 k X.A) (hb:Binds X.K fd ps ds) (hd:Vals Tu ds) (hx:iJ CX X E)
  (I:Inv X pins σ H s) (r:Vals vs us) (h:sp (vs++Tu) H Q (E σ)):wpAny (model X.prog X.w) X.A (call (.ref f) us) (EP X pins σ Q) X.xe s:=by
 have r2:Vals (vs++Tu) (us++ds):=r.append hd;have hl:(us++ds).length=ps.length:=by rw [<- r2.length];exact F.len _ _ _ _ h
 refine Og (Nq (F.run X.A X.stack s H ⟨us,[]⟩ (us++ds) (vs++Tu) Q (E σ) hr I.Yz (hb s us I.Sb hl) r2 h) λr s' hq=>?_)
 cases r with
 | error e=>exact hx pins σ H s e s' I hq
 | ok fl =>
  cases fl with
  | ret u=>exact I.after hq
  | next=>exact False.elim hq
  | brk=>exact False.elim hq
  | cont=>exact False.elim hq
theorem Be (F:PD X.prog X.w X.K X.mg X.base CX k f fd ps sp) (hr:P8 k X.A) (hg:Gl X x) (hm:X.mg x=some (.ref f)) (hk:W.keepIn X.K (.ref f)=true) (hb:Binds X.K fd ps ds) (hd:Vals Tu ds) (hx:iJ CX X E)
  (ha:PA X (e::es) t) (hdb:(x == ("__debug__":Str))=false:=by decide) (he:starEach (e::es) X.env=(false,eval e X.env)::starEach es X.env:=by rfl) (hpl:(backTo pos (starEach es X.env)).any (·.1)=false:=by rfl) :
  PE X (.Call (.Name x p) (e::es) [] pos) (λσ=>gJ sp Tu (E σ) t σ):=by
 intro pins s σ H Q I h;refine Nb (gZ I hg hm ?_ hdb);refine Oz (h₀:=X.base) I.ok.mod.YT hk (PB (ha pos pins s σ H _ I h) λus s1 ⟨vs,H1,I1,r,q⟩=>⟨I1.Sb,?_⟩) he hpl;exact tN F hr hb hd hx I1 r q
end
noncomputable def Cx.hand (X:Cx) (e:Value):Cx:={ X with A:=X.A.mark (some e),calm:=false,xe:=λ_ _=>False }
theorem Cx.Ok.hand {e:Value} (o:X.Ok):(X.hand e).Ok :=
 ⟨o.mod,o.kind,o.glob,o.blt,o.above,o.inj,o.has,o.YU,(λz=>nomatch z),o.frames,o.stk,o.exf,o.bs,o.Yh,o.Xv,o.Yi,o.Vq,o.YV⟩
section
variable {X:Cx} {pins Rq:List (Addr × Obj)} {σ:St} {H:Hp} {s:Shared} {xe:Value->Shared->Prop} {e:Value}
theorem Inv.hand (I:Inv X pins σ H s):Inv (X.hand e) pins σ H s:=⟨I.ok.hand,I.os,I.bare,I.base,I.loc,I.cell,I.free,I.RY,I.pin,I.hok,I.len⟩
theorem Inv.UG (o:X.Ok) (I:Inv (X.hand e) pins σ H s):Inv X pins σ H s:=⟨o,I.os,I.bare,I.base,I.loc,I.cell,I.free,I.RY,I.pin,I.hok,I.len⟩
theorem Inv.Zk (I:Inv X pins σ H s):Inv { X with pn:=X.pn++pins,xe:=xe } [] σ H s :=
 ⟨⟨I.ok.mod,I.ok.kind,I.ok.glob,I.ok.blt,I.ok.above,I.ok.inj,I.ok.has,I.ok.YU,I.ok.hd,I.ok.frames,I.ok.stk,I.ok.exf,I.ok.bs,I.ok.Yh,I.ok.Xv,I.ok.Yi,I.ok.Vq,I.ok.YV⟩,I.os,I.bare,I.base,I.loc,I.cell,I.free,I.RY,
  λp hp=>I.pin p (by simpa using hp),I.hok,I.len⟩
theorem Inv.QN (o:X.Ok) (I:Inv { X with pn:=X.pn++pins,xe:=xe } Rq σ H s):Inv X pins σ H s :=
 ⟨o,I.os,I.bare,I.base,I.loc,I.cell,I.free,I.RY,λp hp=>I.pin p (Of _ hp),I.hok,I.len⟩
end
end L2
namespace L2
open PySem PySem.Spec PySem.Calls PyProof.Rows PySem.W PySem.Builtin PySem.Builtin.ObjectAttr PySem.Builtin.Getset_descriptor
section
variable {prog:Program} {w:World} {A:Around} {E:Value->Shared->Prop} {s:Shared} {K:Frag} {x D:Addr} {ox:Obj} {od:Option Obj} {name:Str}
theorem Af (o:Value):bindSpecial (.builtin "BaseException.__getattribute__") o=pure (.builtin "BaseException.__getattribute__",[o]):=F.attr_ValueError.ga.bind o
structure yK (K:Frag) (D:Addr):Prop where
 ga:findIn K (.ref D) "__getattribute__"=some (some (.builtin "BaseException.__getattribute__"))
 gt:findIn K (.ref D) "__getattr__"=some none
 dct:hasDictIn K D=true
 a:findIn K (.ref D) "__class__"=some (some (.builtin "object.__class__"))
 n:specialIn K (.builtin "object.__class__") "__get__"=some (some (.builtin "getset_descriptor.__get__"))
 tk:takesIn K (.builtin "object.__class__")=some true
 m:mroIn K D (.type "object")=some true
 b:mroIn K D (.type "BaseException")=some true
end
noncomputable def Gj (x:Addr) (D:Addr):HO:=.ext λh=>∃ oe,h.get? x=some oe/\oe.cls=.ref D
section
variable {X:Cx} {pins:List (Addr × Obj)} {σ:St} {H H':Hp} {s s2:Shared} {a:Addr} {o:HO}
theorem Uz.Xa {P:Program} {w:World} {h:Heap} (hok:Uz P w H h) (na:H a=none) (new:P1 P w (upd H a o) h a o):Uz P w (upd H a o) h:=λb u e=>by
 by_cases hb:b=a
 ·subst hb;rw [aM] at e;cases e;exact new
 ·rw [aX hb] at e;exact (hok b u e).stay (λ_ _ _ q=>q) (λc q=>by rw [aX (bS q na)];exact q) λc xs q=>by rw [aX (bS q na)];exact q
theorem Inv.Xa (I:Inv X pins σ H s) (J:Inv X pins σ H' s2) (un:Un (frs X.stack) [] H H' s.heap s2.heap) (sa:s.heap.get? a=none) (na:H' a=none) (new:P1 X.prog X.w (upd H' a o) s2.heap a o):Inv X pins σ (upd H' a o) s2:=by
 have nb:∀ b u,s.heap.get? b=some u->b≠a:=λb u q z=>by rw [z,sa] at q;cases q
 refine I.Wb (ch:=[]) (J.os.trans I.os.symm) ⟨un.keep,un.slot,λb u q n hx=>by rw [aX (nb b u q)];exact un.free b u q n hx,un.there,λb xs q=>?_,λb u xs q=>?_,λb ps q=>?_⟩ (J.hok.Xa na new) J.bare (λb z=>absurd z (by simp))
 ·have z:=un.tups b xs q;rw [aX (bS z na)];exact z
 ·have z:=un.Wo b u xs q;rw [aX (bS z na)];exact z
 ·obtain ⟨m,z⟩:=un.WA b ps q;exact ⟨m,by rw [aX (bS z na)];exact z⟩
theorem Inv.gone {M:Model} {A:Around} {E:Value->Shared->Prop} {i:Nat} {n:Str} {pos:Pos} {Q:Unit->Shared->Prop} (I:Inv X pins σ H s) (hN:X.N.Nodup) (hi:X.N[i]?=some n) (hl:X.env.kindOf n=some .local)
  (h:∀ s',Inv X pins (σ.set i none) H s'->Q () s'):wpAny M A (do bindName X.env n .none;unbindBehindTheSuite X.env n pos) Q E s:=by
 obtain ⟨m,hn,hlo⟩:=id I.loc;obtain ⟨oL,_,_,hoL,_⟩:=id hn;have Yu:=I.Yu;refine wpAny_nameGoes_keeps hl hn (by rw [I.ok.kind];rfl) λh' v hn' hs=>h _ ?_
 have hok:Uz X.prog X.w H h':=λb ob e=>by
  refine (I.hok b ob e).stay (λc w' hc q=>(hs.2 c ?_).trans q) (λ_ q=>q) λ_ _ q=>q;rintro rfl;rcases hc with z | z
  ·rw [<- z,I.free] at e;cases e
  ·rw [I.free] at z;cases z
 refine ⟨I.ok,I.os,I.bare,⟨λb o e n hb hx=>?_,λb o e n hb hx=>?_,I.base.free,λb o e hx=>?_,I.base.tups,I.base.Wo,I.base.WA⟩,⟨_,hn',λj y v' e1 e2 e3=>?_⟩,λy c e=>?_,I.free,I.RY,λp hp=>?_,hok,by simpa using I.len⟩
 ·exact (hs.2 b (Mq (Mp (Mi e) I.ok.above))).trans (I.base.keep b o e n hb hx)
 ·obtain ⟨sl,e1⟩:=I.base.slot b o e n hb hx;exact ⟨sl,(hs.2 b (Mq (Mp (Mi e) I.ok.above))).trans e1⟩
 ·obtain ⟨o',e1⟩:=I.base.there b o e hx;exact ⟨o',(hs.2 b (Mq (Mp (Mi e) I.ok.above))).trans e1⟩
 ·by_cases hj:j=i
  ·subst hj;rw [List.getElem?_set] at e2;simp at e2
  ·rw [NS (MQ hj)] at e2;obtain ⟨u',r',q⟩:=hlo j y v' e1 e2 e3;refine ⟨u',r',?_⟩;rcases q with ⟨k,e⟩ | ⟨k,c,e,z⟩
   ·refine .inl ⟨k,?_⟩;have:y≠n:=λe=>hj (pe hN e1 (e ▸ hi));simp [this,e]
   ·exact .inr ⟨k,c,e,z.sameBut hs (Yu y c e)⟩
 ·obtain ⟨w',z⟩:=I.cell y c e;exact ⟨w',z.sameBut hs (Yu y c e)⟩
 ·obtain ⟨e,n,ne,nf,d⟩:=I.pin p hp;exact ⟨(hs.2 p.1 ne).trans e,n,ne,nf,d⟩
end
noncomputable def Ends.gone (D:Ends) (i:Nat):Ends:={ nx:=λσ H=>D.nx (σ.set i none) H,rt:=D.rt,bk:=λσ H=>D.bk (σ.set i none) H,ct:=λσ H=>D.ct (σ.set i none) H }
end L2
namespace L2
open PySem PySem.Spec PySem.Calls PyProof.Rows
section
variable {P:Program} {w:World} {K:W.Frag} {mg:Str->Option Value} {base:Heap}
end
section
variable {X:Cx} {k:Nat} {f:Addr} {fd:FuncData} {ps:List Str} {sp:Sp} {Tu:List V} {ds:List Value} {E:XK} {x:Str} {p pos:Pos} {e:Expr} {es:List Expr} {t:TA}
end
section
variable {X:Cx}
end
section
variable {P:Program} {w:World} {K:W.Frag} {mg:Str->Option Value} {base:Heap}
end
section
variable {X:Cx} {CX:Xs} {k:Nat} {f C:Addr} {fd:FuncData} {ps ks:List Str} {sp:Sp} {E:St->XK} {x m:Str} {p pos apos kpos:Pos} {e o:Expr} {es:List Expr} {kws:List Keyword} {te ta:TE} {t tk:TA} {nm:Option Str} {g:List Value->List Value->List Value} {gV:List V->List V->List V}
end
section
variable {K:W.Frag} {σ:St} {H:Hp} {tA tK:TA} {ds es fs:List D} {d e:D} {Tu:List V} {R:List D->D->Prop} {B:List D->Addr->Prop} {E:XK} {Q:VK} {C:Addr} {gV:List V->List V->List V} {ta tb:TE}
theorem Dq (h1:RE K ta σ H d) (h2:RE K tb σ H e) (n1:Rp d=true) (n2:Rp e=true) (dp:fJ d<=20):RE K (S8 (EY K true) ta tb) σ H (.bl (!Qe d e)):=λH1 s Q q =>
 h1 H1 s _ λv H2 s2 q2=>h2 H2 (s.trans s2) _ λw H3 s3 q3=>⟨d,e,s3.dat q2,q3,n1,n2,dp,q _ _ (s2.trans s3) (Dat.UA _)⟩
end
section
variable {X:Cx}
end
end L2
namespace L2
open PySem PySem.Spec PySem.Calls PyProof.Rows PySem.W PySem.Builtin PySem.Builtin.ObjectAttr
noncomputable abbrev FE (us:List Value):Obj:={ cls:=.type "tuple",data:=.seq us.toArray }
noncomputable abbrev Ac (C t:Addr):Obj:={ cls:=.ref C,data:=.fields #[.ref t,.none,.none,.none,.bool false,.none] }
noncomputable abbrev nC (h:Heap) (C:Addr) (us:List Value):Heap:=(h.push (FE us)).push (Ac C h.objs.size)
variable {h:Heap} {C:Addr} {us:List Value}
theorem iz (b:Addr) (o:Obj) (q:h.get? b=some o):(nC h C us).get? b=some o:=by have q1:=LX (FE us) q;exact LX _ q1
theorem jt:(nC h C us).get? (h.objs.size+1)=some (Ac C h.objs.size):=by heap_get
theorem zd:h.get? (h.objs.size+1)=none:=Heap.get?_none_of_le (by omega)
structure uc (K:Frag) (C fI:Addr):Prop where
 at_:Ax K C [.type "ValueError",.type "Exception",.type "BaseException",.type "object"] "ValueError.__new__" (some (.ref fI))=true
 ini:findIn K (.ref C) "__init__"=some (some (.ref fI))
 fn:typeIn K (.ref fI)=some (.type "function")
 kp:keepIn K (.ref C)=true
section
variable {prog:Program} {w:World} {A:Around} {E:Value->Shared->Prop} {K:Frag} {C fI:Addr} {us:List Value}
theorem ze {s:Shared} {Q:Value->Shared->Prop} (X:K.In s.heap) (kc:uc K C fI) (hl:us.length<=sizeLine)
  (h:wpAny (model prog w) (A.under (.builtin "type.__call__" ⟨.ref C::us,[]⟩)) (call (.ref fI) (.ref (s.heap.objs.size+1)::us)) (λr s'=>r=.none/\Q (.ref (s.heap.objs.size+1)) s') E { s with heap:=nC s.heap C us }) :
  wpAny (model prog w) A (call (.ref C) us) Q E s:=by
 obtain ⟨bm,N,nm,qn,bs,hdd,sn,sub,ab,col,dd,k0,k1,k2,k3,k5,mN,hC,_,_,T⟩:=Ay X kc.at_;have V:=F.excBase_ValueError;have ZY:s.TypeIs (.ref C) "type":=⟨_,hC,rfl⟩
 have l1:=tc_lookup;have l2:=tc_bind (.ref C);have hC2:=iz (us:=us) (C:=C) C _ hC;have X2:K.In (nC s.heap C us):=X.keeps iz;have YE:(Value.ref C::bm).contains (.ref C)=true:=by simp
 obtain ⟨h0,g0,d0,t0,o0⟩:=s;refine Og (codeAny_of_tree ?_);show wpAny _ _ (callAny (.ref C) _) _ _ _
 repeat' (first | assumption | (with_reducible refine N6 hC ?_) | wp_step)
 refine ⟨rfl,codeAny_call_builtin_at (Pc _ (by decide +kernel)) entry_typeCall (wpAny_check_type_call_sub hC ?_)⟩
 repeat (first | (with_reducible refine wpAny_madeBy_exc hC ?_) | (with_reducible refine Oo hC ?_) | (with_reducible refine N6 hC ?_) | wp_step)
 refine codeAny_call_builtin_code (Pc _ V.quiet) (wpAny_check_new_subU V (by decide) T hC (codeAny_exc_new_subU V (by decide) V T hC ?_ hl));show wpAny _ _ _ _ _ _;unfold isInstance
 repeat (first | (with_reducible refine wpAny_madeBy_exc jt ?_) | (with_reducible refine Oo jt ?_) | (with_reducible refine N6 jt ?_) | wp_step)
 refine Oo hC2 ?_;rw [YE];refine LU (Nj (special_fn (s:=⟨nC h0 C us,g0,d0,t0,o0⟩) X2 (od:=none) ⟨jt,rfl,rfl,trivial⟩ kc.ini kc.fn (MX h (λr s' ⟨er,q⟩=>?_) λ_ _ z=>z)));subst er;exact L8 q
end
noncomputable abbrev vG (h:Heap) (x:Addr):Heap:=(h.push { cls:=.type "dict",data:=.dict #[] }).update x λo=>{ cls:=o.cls,dict:=some h.objs.size,data:=o.data,slots:=o.slots }
section
variable {h:Heap} {x b:Addr} {o:Obj} {vs:Array Value}
theorem Cn (q:h.get? x=some o) (hd:o.data=.fields vs):(vG h x).get? x=some { o with dict:=some h.objs.size }:=by have q1:(h.push { cls:=.type "dict",data:=.dict #[] }).get? x=some o:=LX _ q;refine OL _ q1 ?_;obtain ⟨c,d,dt,sl⟩:=o;subst hd;rfl
theorem vH (hb:b≠x) (q:h.get? b=some o):(vG h x).get? b=some o:=by rw [Oq _ _ _ _ hb];exact LX _ q
theorem xw (q:h.get? x=some o):(vG h x).Ns1 h.objs.size λ_=>none:=by
 have lt:h.objs.size≠x:=MQ (Mq (Mi q))
 have e:(vG h x).get? h.objs.size=some { cls:=.type "dict",data:=.dict #[] }:=by rw [Oq _ _ _ _ lt];exact NR rfl rfl
 exact Heap.Ns1.of_empty ⟨_,#[],_,e,rfl,λen hen=>absurd hen (by simp),λ_=>rfl⟩
end
noncomputable def md:List Value->Bool
 | .ref _::r=>md r
 | l=>l == [.type "ValueError",.type "Exception",.type "BaseException",.type "object"]
theorem nF (self:Value):∀ {l:List Value},md l=true->refuseLoop self "__setattr__" l=pure ()
 | [],e=>by simp [md] at e
 | v::r,e=>by
  cases v with
  | ref c=>rw [refuseLoop_ref];exact nF self (l:=r) e
  | type n =>have e':=NT.mp (show (Value.type n::r == [.type "ValueError",.type "Exception",.type "BaseException",.type "object"])=true from e);rw [e'];exact F.store_ValueError.passes self
  | _=>exact absurd (NT.mp (show (_ == ([.type "ValueError",.type "Exception",.type "BaseException",.type "object"]:List Value))=true from e)) (by simp)
structure vO (K:Frag) (C:Addr) (name:Str):Prop where
 sa:findIn K (.ref C) "__setattr__"=some (some (.builtin "object.__setattr__"))
 ob:mroIn K C (.type "object")=some true
 over:(clsIn K C).any (λcd=>md cd.mro)=true
 no:findIn K (.ref C) name=some none
 hd:(clsIn K C).any (·.hasDict)=true
section
variable {prog:Program} {w:World} {A:Around} {E:Value->Shared->Prop} {s:Shared} {K:Frag} {x C:Addr} {ox:Obj} {name:Str} {v:Value} {vs:Array Value}
theorem r9 {M:Model} (X:K.In s.heap) (ty:Looks M s.heap (typeOf (.ref x)) (.ref C)) (st:vO K C name):Looks M s.heap (refuseIfOverridden (.ref x) "__setattr__") ():=by obtain ⟨cd,hc,hov⟩:=any_some st.over;have row:Looks M s.heap (mroOf (.ref C)) cd.mro:=(looks_clsIn X hc).andThen .now;exact ty.andThen (row.andThen (Looks.of_pure (nF (.ref x) hov)))
theorem vB {Q:Unit->Shared->Prop} (X:K.In s.heap) (st:vO K C name) (hx:s.heap.get? x=some ox) (hc:ox.cls=.ref C) (hd:ox.dict=none) (hdt:ox.data=.fields vs)
  (h:∀ h' tk,(∀ b o,b≠x->s.heap.get? b=some o->h'.get? b=some o)->h'.get? x=some { ox with dict:=some s.heap.objs.size }->h'.Ns1 s.heap.objs.size (λy=>if y=name then some v else none)->Q () { s with heap:=h',toks:=tk }) :
  wpAny (model prog w) A (setAttr (.ref x) name v) Q E s:=by
 have inst:InstAt s.heap x ox C none:=⟨hx,hc,by unfold notCls;rw [hdt],by rw [hd];trivial⟩
 have ty:Looks (model prog w) s.heap (typeOf (.ref x)) (.ref C):=inst.type;have ok:Looks (model prog w) s.heap (isInstance (.ref x) (.type "object")) true:=ty.andThen (looks_mroIn X st.ob);have SO:=F.store_object;refine set_plain X inst st.sa (OT SO.slot.plain SO.entry ?_);refine @check_slot (model prog w) _ _ { s with toks:=s.toks+1 } "object.__setattr__" "object" "__setattr__" (.ref x) [.str name s.toks,v] [] _ SO.kind SO.split ok (SO.args _ _ _) ?_;rw [osa_eq];refine LU ((r9 (s:={ s with toks:=s.toks+1 }) X ty st).here ?_);refine LU (Looks.here (s:={ s with toks:=s.toks+1 }) ty ?_);refine LU (Looks.here (s:={ s with toks:=s.toks+1 }) (looks_findIn X st.no) ?_);refine LU (L8 ?_);obtain ⟨cd,hcd,has⟩:=any_some st.hd;obtain ⟨oc,od,oda,osl⟩:=ox;dsimp only at hc hd hdt;subst hc hd hdt;obtain ⟨h0,g0,d0,t0,o0⟩:=s;show wpAny _ _ (storeInOwnDict (.ref x) (.ref C) (.str name t0) name v false) _ _ ⟨h0,g0,d0,t0+1,o0⟩;have X':K.In h0:=X;refine LU (L8 (LU ?_));show wpAny _ _ (instanceDict x true) _ _ _;refine LU (wpAny_loadPart hx (LU (Looks.here (s:=⟨h0,g0,d0,t0+1,o0⟩) (looks_clsIn X' hcd) ?_)));rw [has];dsimp only;rw [LZ (by simp)];refine LU (wpAny_alloc' (LU (wpAny_update' (LX _ hx) (L8 ?_))));show wpAny _ _ (storeInDict h0.objs.size (.str name t0) name v) _ _ ⟨vG h0 x,g0,d0,t0+1,o0⟩;unfold storeInDict newKeyGuard;refine LU (L8 (LU (wpAny_nsSet1 (xw hx) λh' ns' same=>?_)));obtain ⟨od',es,ep,hod,hes,few⟩:=ns'.count (Within.cons name v Within.nil);have few':es.size<=1:=few;refine LU (wpAny_lookBehind hod (by rw [hes];exact pastItsLine_dict (by rw [N3];omega)) (L8 (h h' _ (λb ob hb q=>?_) ?_ ns')))
 ·exact (same.2 b (Mq (Mi q))).trans (vH hb q)
 ·exact (same.2 x (Mq (Mi hx))).trans (Cn hx rfl)
end
noncomputable def nP (e C:Addr) (a0:Value):HO:=.ext λh=>∃ oe vs,h.get? e=some oe/\(oe.cls=.ref C/\vs[0]?=some a0)/\oe.data=.fields vs/\vs[1]?=some .none/\oe.dict=none
section
variable {X:Cx} {pins:List (Addr × Obj)} {σ:St} {H:Hp} {s s':Shared} {C fI e:Addr} {fd:FuncData} {k:Nat} {ps:List Str} {a0:Value}
end
theorem zt {M:Model} {A:Around} {E:Value->Shared->Prop} {s:Shared} {env:Env} {K:Frag} {fI:Addr} {x:Sem Value} {Q:Flow->Shared->Prop} (kc:uc K C fI) (hh:A.handled=none)
  (h:wpAny M A x (λr s'=>∃ e oe vs,r=.ref e/\s'.heap.get? e=some oe/\oe.cls=.ref C/\oe.data=.fields vs/\vs[1]?=some .none/\K.In s'.heap/\E (.ref e) s') E s):wpAny M A (raiseStmt env (some x) none) Q E s:=by
 refine LU (PB h λr s1 ⟨e,oe,vs,er,he,hcl,hdt,hv1,X1,q⟩=>?_);subst er;obtain ⟨bm,N,nm,qn,bs,hdd,sn,sub,ab,col,dd,k0,k1,k2,k3,k5,mN,hC,_,_,T⟩:=Ay X1 kc.at_
 have isB:(Value.ref C::bm).contains (.type "BaseException")=true:=by rw [List.contains_cons,T.hasType (X:="BaseException") (b:=true) (by decide)];rfl
 obtain ⟨oc,od,odt,osl⟩:=oe;obtain rfl:oc=.ref C:=hcl;obtain rfl:odt=.fields vs:=hdt;obtain ⟨h1,g1,d1,t1,o1⟩:=s1
 repeat (first | (with_reducible refine N6 he ?_) | (with_reducible refine N6 hC ?_) | (with_reducible refine Oo hC ?_;rw [isB]) | rw [hv1] | wp_step)
 exact wpAny_raiseNew_none hh q
end L2
namespace L2
open PySem PySem.Spec PySem.Calls PyProof.Rows
section
variable {prog:Program} {w:World} {A:Around} {E:Value->Shared->Prop} {s:Shared} {it t:Addr} {i:Nat} {items:Array Value}
end
noncomputable abbrev qO (it:Addr):Obj:={ cls:=.type "enumerate",data:=.fields #[.none,.bool false,.ref it,rawInt 0,.none,.none] }
theorem Inv.Y8 {X:Cx} {pins:List (Addr × Obj)} {σ:St} {H:Hp} {s:Shared} {h':Heap} {t':Nat} {its:List Addr} (I:Inv X pins σ H s) (k:∀ b o,b ∉ its->s.heap.get? b=some o->h'.get? b=some o)
  (ok:∀ b ∈ its,H b=none/\b≠X.env.locals/\(b ∈ X.ex\/X.s₀.heap.objs.size<=b)/\(∀ x c,X.env.cells.lookup x=some c->c≠b)/\∀ p ∈ X.pn++pins,p.1≠b):Inv X pins σ H { s with heap:=h',toks:=t' }:=by
 have out:∀ b u,H b=some u->b ∉ its:=λb u e z=>by rw [(ok b z).1] at e;cases e
 refine I.step (g':=s.gens) (d':=s.drawn) (ch:=its) (λb hb=>⟨(ok b hb).2.2.1,(ok b hb).2.1,(ok b hb).2.2.2⟩) (λb o _ _ hc e _=>k b o hc e) (λb o _ _ hc e _=>⟨o.slots,k b o hc e⟩) (λ_ _ _ _ n=>n)
  (λb o hc e=>⟨o,k b o hc e⟩) (λ_ _ e=>e) (λ_ _ _ e=>e) (λb ps e=>⟨#[],by rw [Pd];exact e⟩) (λm hm=>?_) (λb u e=>?_) I.bare
 ·obtain ⟨o,es,ep,ho,r⟩:=hm;exact ⟨o,es,ep,k _ o (λz=>(ok _ z).2.1 rfl) ho,r⟩
 ·refine (I.hok b u e).stay (λc v hc q=>k c v ?_ q) (λ_ q=>q) λ_ _ q=>q;rcases hc with z | z
  ·rw [z];exact out b u e
  ·exact out c _ z
section
variable {prog:Program} {w:World} {A:Around} {E:Value->Shared->Prop} {s:Shared} {z TI TO i1 i2 t1 t2:Addr} {k:Nat} {xs ys:Array Value}
end
theorem Dz (σ:St) {i j:Nat} (ne:i≠j) (a b c d:Option V):((((σ.set i a).set j b).set i c).set j d)=(σ.set i c).set j d:=by rw [List.set_comm _ _ (MQ ne),Oa,Oa]
section
variable {K:W.Frag} {σ:St} {H:Hp} {tA:TA} {ar:List Ar} {d:D} {R:List Ar->D->Prop} {B:List Ar->Addr->Prop} {E:XK} {Q:VK} {C:Addr}
end
end L2
namespace L2
open PySem
noncomputable def Kept (h h':Heap):Prop:=∀ (b:Addr) (o:Obj),h.objs[b]?=some o->∃ o',h'.objs[b]?=some o'/\o'.dict=o.dict
variable {h:Heap}
theorem Kept.refl:Kept h h:=λ_ o e=>⟨o,e,rfl⟩
theorem Kept.trans {h1 h2 h3:Heap} (x:Kept h1 h2) (y:Kept h2 h3):Kept h1 h3:=λb o e =>
 let ⟨o1,e1,d1⟩:=x b o e;let ⟨o2,e2,d2⟩:=y b o1 e1;⟨o2,e2,d2.trans d1⟩
theorem Kept.push {o:Obj}:Kept h (h.push o):=λb u e=>by obtain ⟨objs,l⟩:=h;refine ⟨u,?_,rfl⟩;show (objs.push o)[b]?=some u;have e:objs[b]?=some u:=e;rw [Array.getElem?_push_lt (Ol.mp e).1];exact MH some (Ol.mp e).2
variable {a:Addr} {f:Obj->Obj}
theorem Kept.update (hf:∀ o,(f o).dict=o.dict):Kept h (h.update a f):=λb u e=>by
 obtain ⟨objs,l⟩:=h;have e:objs[b]?=some u:=e;by_cases q:a=b
 ·refine ⟨f u,?_,hf u⟩;show (objs.modify a f)[b]?=some (f u);rw [Array.getElem?_modify,Mc q,e];rfl
 ·refine ⟨u,?_,rfl⟩;show (objs.modify a f)[b]?=some u;rw [Array.getElem?_modify,LZ q,e]
theorem Kept.at {h':Heap} {o o':Obj} (k:Kept h h') (e:h.get? a=some o) (e':h'.get? a=some o'):o'.dict=o.dict:=by
 have r:∀ {g:Heap} {u:Obj},g.get? a=some u->g.objs[a]?=some u:=λ{g u} q=>by
  unfold Heap.get? at q;split at q
  ·cases q
  ·exact q
 obtain ⟨u,eu,d⟩:=k a o (r e);have z:=(r e').symm.trans eu;cases z;exact d
noncomputable def PL {α:Type}:Sem α->Prop
 | .rule _ k=>PL (k ())
 | .at _ k=>PL (k ())
 | .load _ _ k=>∀ x,PL (k x)
 | .update _ _ f k=>(∀ o,(f o).dict=o.dict)/\PL (k ())
 | .loadIfAlive _ k=>∀ x,PL (k x)
 | .point _ k=>PL (k ())
 | .alloc _ k=>∀ x,PL (k x)
 | .fresh k=>∀ x,PL (k x)
 | .ask k=>∀ x,PL (k x)
 | .choose _ _ k=>∀ x,PL (k x)
 | .handled _ k=>∀ x,PL (k x)
 | .stack k=>∀ x,PL (k x)
 | .call ..=>False
 | .resume ..=>False
 | .os ..=>False
 | .newGen ..=>False
 | .genState ..=>False
 | .thread ..=>False
 | _=>True
theorem PL.bind {α β:Type} {f:α->Sem β} (hf:∀ a,PL (f a)):∀ {m:Sem α},PL m->PL (m >>= f):=by
 intro m hm;show PL (m.bind f)
 induction m with
 | pure a=>exact hf a
 | rule _ k ih=>exact ih () hm
 | «at» _ k ih=>exact ih () hm
 | load _ _ k ih=>exact λx=>ih x (hm x)
 | update _ _ g k ih=>exact ⟨hm.1,ih () hm.2⟩
 | loadIfAlive _ k ih=>exact λx=>ih x (hm x)
 | point _ k ih=>exact ih () hm
 | alloc _ k ih=>exact λx=>ih x (hm x)
 | fresh k ih=>exact λx=>ih x (hm x)
 | ask k ih=>exact λx=>ih x (hm x)
 | choose _ _ k ih=>exact λx=>ih x (hm x)
 | handled _ k ih=>exact λx=>ih x (hm x)
 | stack k ih=>exact λx=>ih x (hm x)
 | call=>exact hm.elim
 | resume=>exact hm.elim
 | os=>exact hm.elim
 | newGen=>exact hm.elim
 | genState=>exact hm.elim
 | thread=>exact hm.elim
 | _=>trivial
variable {M:Model}
theorem DH {α:Type} {Γ:Ctx} {Q:α->Pos->Shared->Prop} {E:Value->Pos->Shared->Prop} {h0:Heap}:∀ {t:Sem α} {p:Pos} {s:Shared},PL t->Kept h0 s.heap->Sem.wp M Γ t Q E p s ->
  Sem.wp M Γ t (λa p' s'=>Q a p' s'/\Kept h0 s'.heap) E p s:=by
 intro t
 induction t with
 | pure a=>exact λ_ k h=>⟨h,k⟩
 | raise e=>exact λ_ _ h=>h
 | unsupported=>exact λ_ _ h=>h
 | finish=>exact λ_ _ h=>h
 | rule _ k ih=>exact λhm kp h=>ih () hm kp h
 | «at» _ k ih=>exact λhm kp h=>ih () hm kp h
 | load _ _ k ih=>exact λhm kp ⟨o,e,h⟩=>⟨o,e,ih o (hm o) kp h⟩
 | update _ _ f k ih=>exact λhm kp ⟨e,h⟩=>⟨e,ih () hm.2 (kp.trans (Kept.update hm.1)) h⟩
 | loadIfAlive _ k ih=>exact λhm kp h=>ih _ (hm _) kp h
 | point _ k ih=>exact λhm kp h=>ih () hm kp h
 | register=>exact λ_ _ h=>h
 | alloc _ k ih=>exact λhm kp h=>ih _ (hm _) (kp.trans Kept.push) h
 | fresh k ih=>exact λhm kp h=>ih _ (hm _) kp h
 | ask k ih=>exact λhm kp h=>ih _ (hm _) kp h
 | choose _ _ k ih=>exact λhm kp ⟨n,h⟩=>⟨n,ih _ (hm _) kp h⟩
 | handled _ k ih=>exact λhm kp h=>ih _ (hm _) kp h
 | stack k ih=>exact λhm kp h=>ih _ (hm _) kp h
 | yield=>exact λ_ _ h=>h
 | fork=>exact λ_ _ h=>h
 | await=>exact λ_ _ h=>h
 | _=>exact λhm=>hm.elim
theorem iX {α:Type} {A:Around} {t:Sem α} {Q:α->Shared->Prop} {E:Value->Shared->Prop} {s:Shared} (hs:PL t) (h:wpAny M A t Q E s):wpAny M A t (λa s'=>Q a s'/\Kept s.heap s'.heap) E s :=
 λΓ p hΓ=>DH hs Kept.refl (h Γ p hΓ)
theorem jA {α:Type} (a:α):PL (pure a:Sem α):=trivial
theorem BX (h:∀ o,(f o).dict=o.dict):PL (update a f):=⟨h,trivial⟩
theorem qh:PL stack:=λ_=>trivial
theorem qD (v:Value):PL (fieldsOf v):=by
 unfold fieldsOf;split
 ·refine PL.bind (λo=>?_) (λ_=>trivial);split <;> trivial
 ·trivial
theorem jO (v:Value) (i:Nat):PL (field v i):=by unfold field;refine PL.bind (λvs=>?_) (qD v);split <;> trivial
theorem o7 (f:Array Value->Array Value) (o:Obj):(Obj.mapFields f o).dict=o.dict:=by unfold Obj.mapFields;split <;> rfl
theorem jn (v:Value) (i:Nat) (x:Value):PL (setField v i x):=by
 unfold setField;split
 ·unfold updateField;refine PL.bind (λo=>?_) (λ_=>trivial);split
  ·split
   ·exact ⟨λo=>o7 _ o,trivial⟩
   ·trivial
  ·trivial
 ·trivial
theorem vA (env:Env) (outer:List Env):PL (behindIsImport env outer):=by
 unfold behindIsImport;split
 ·trivial
 ·split
  ·trivial
  ·exact PL.bind (λ_=>jA _) (jO _ _)
theorem zE (env:Env) (b:Bool) (outer:List Env):PL (keptBack env b outer):=by
 unfold keptBack;split
 ·split
  ·trivial
  ·have h:PL underTheClaimsCaller:=PL.bind (λ_=>jA _) qh;exact PL.bind (λc=>jA _) h
 ·trivial
theorem qg:∀ l:List Env,PL (readyFrames l)
 | []=>trivial
 | env::outer=>by
  unfold readyFrames;split
  ·refine PL.bind (λo=>?_) (λ_=>trivial);split
   ·trivial
   ·refine PL.bind (λi=>PL.bind (λb=>PL.bind (λ_=>qg outer) ?_) (zE _ _ _)) (vA _ _);exact BX λ_=>rfl
  ·trivial
theorem xf (env:Env):PL (frameOf env):=by
 unfold frameOf;have h:PL frameEnvs:=PL.bind (λ_=>jA _) qh;refine PL.bind (λl=>?_) h;refine PL.bind (λo=>?_) ?_
 ·split <;> trivial
 ·unfold frameObject;split
  ·trivial
  ·exact PL.bind (λ_=>jA _) (qg (_::_))
theorem xg (f:Addr) (b:Bool):PL (entryPlaceOf f b):=by unfold entryPlaceOf;refine PL.bind (λl=>?_) (λ_=>trivial);split <;> trivial
theorem xc (a b c d e:Value) (l:List Value):PL (EntryCells.newEntry a b c d e l):=by
 unfold EntryCells.newEntry newFields newObj;have h:∀ d:Data,PL (newObjAsIs (.type "traceback") d):=λd _=>trivial;generalize ([a,b,c,d,e]++if l.isEmpty=true then List.replicate 6 Value.none else l).toArray=vs;dsimp only;split
 ·exact PL.bind (λ_=>h _) (m:=unsupported _) trivial
 ·exact h _
theorem km (e:Value) (f:Option Addr):PL (setFlight e f):=by
 unfold setFlight;refine PL.bind (λtb=>?_) (jO _ _);split
 ·exact jn _ _ _
 ·trivial
theorem rF (e:Value) (env:Env):PL (noteFrame e env):=by
 unfold noteFrame;split
 ·refine PL.bind (λhd=>?_) (jO _ _)
  have last:∀ b:Bool,PL (do setField e 1 (<- EntryCells.newEntry hd (<- frameOf env) .none (rawInt ‹Addr›) .none (<- entryPlaceOf ‹Addr› b))):=λb =>
   PL.bind (λfr=>PL.bind (λpl=>PL.bind (λen=>jn _ _ _) (xc _ _ _ _ _ _)) (xg _ _)) (xf _)
  split
  ·refine PL.bind (λfl=>?_) (jO _ _);split
   ·trivial
   ·exact PL.bind (λ_=>last _) (jn _ _ _)
  ·exact last _
 ·trivial
theorem mG (env:Env) (e:Value):PL (leaving env e):=PL.bind (λ_=>km _ _) (rF _ _)
end L2
namespace L2
open PySem PySem.Spec PySem.Calls PyProof.Rows PySem.W PySem.Builtin PySem.Builtin.ObjectAttr
noncomputable def DictAt (h:Heap) (a:Addr) (dx:Option Addr):Prop:=∃ oe,h.get? a=some oe/\oe.dict=dx
theorem Kept.dictAt {h h':Heap} {a:Addr} {dx:Option Addr} {cls a0:Value} {T:Addr} (k:Kept h h') (d:DictAt h a dx) (t:Zy h' a T cls a0):DictAt h' a dx:=by obtain ⟨oe,he,hd⟩:=d;obtain ⟨o2,_,_,_,h2,_⟩:=t;exact ⟨o2,h2,(k.at he h2).trans hd⟩
noncomputable def UC (P:Program) (w:World):Xs:=λouter H s E e s' =>
 ∃ a T cls a0 dx H',e=.ref a/\s'.os=s.os/\AllBare s'.gens/\Un (frs outer) [] H H' s.heap s'.heap/\Uz P w H' s'.heap /\
  (s.heap.get? a=none/\s.heap.get? T=none/\H' a=none/\H' T=none)/\Zy s'.heap a T cls a0/\DictAt s'.heap a dx/\E cls dx H'
section
variable {X:Cx} {pins:List (Addr × Obj)} {σ:St} {H:Hp} {s s':Shared} {E:XK} {e:Value}
theorem UC.behind (I:Inv X pins σ H s) (x:UC X.prog X.w X.stack H s E e s'):∃ a T cls a0 dx H',e=.ref a/\E cls dx H'/\DictAt s'.heap a dx/\s.heap.get? a=none/\H' a=none/\Inv X pins σ H' s' /\
  Heap.FlyingW (W.hideAll s'.heap (a::T::frs X.stack)) X.stack a cls a0 s'.heap /\
  ∀ h2 l',Heap.FlyingW (W.hideAll s'.heap (a::T::frs X.stack)) l' a cls a0 h2->s'.heap.UpToSlots h2 ->
   ∃ T2,Inv X pins σ H' { s' with heap:=h2 }/\Zy h2 a T2 cls a0/\s.heap.get? T2=none/\H' T2=none/\Un (frs X.stack) [] H H' s.heap h2:=by
 obtain ⟨a,T,cls,a0,dx,H',rfl,os,bare,un,hok,fr,tr,da,q⟩:=x;obtain ⟨a2,T2,c2,a02,H2,e2,⟨rfl,rfl⟩,sa,na,J,fl,back⟩:=CX1.behind (E:=λc _ G=>c=cls/\G=H') I ⟨a,T,cls,a0,H',rfl,os,bare,un,hok,fr,tr,rfl,rfl⟩;cases e2;exact ⟨a,T2,_,a02,dx,_,rfl,q,da,sa,na,J,fl,back⟩
end
variable {P:Program} {w:World} {K:W.Frag} {mg:Str->Option Value} {base:Heap} {N:List Str} {qual:Str} {scope:Scope} {A:Around} {outer:List Env} {s:Shared} {H:Hp} {E:XK}
theorem iH {f:Addr} {cd:Value} :
  fX (UC P w) (nR (UC P w) P w K mg base N qual scope f cd A outer s H E) E:=by
 intro pins σ H1 s1 e s' I x;obtain ⟨a,T,cls,a0,dx,H',rfl,q,da,sa,na,J,fl,back⟩:=UC.behind I x
 refine MX (iX (mG _ _) (wpAny_leaves_onW (Q:=λ_ s2=>∃ h2,s2={ s' with heap:=h2 }/\Heap.FlyingW (W.hideAll s'.heap (a::T::frs (envOfC qual scope s.heap.objs.size f cd::outer))) outer a cls a0 h2/\s'.heap.UpToSlots h2)
  (L:=s.heap.objs.size) I.ok.frames rfl fl λh2 f2 up=>⟨h2,rfl,f2,up⟩)) (λ_ s2 ⟨⟨h2,e2,f2,up⟩,kp⟩=>?_) λ_ _ z=>z
 subst e2;obtain ⟨T2,J2,t2,sT2,nT2,_⟩:=back h2 _ f2 up
 have up0:∀ b,s1.heap.get? b=none->s.heap.get? b=none:=λb z=>by
  cases q:s.heap.get? b with
  | none=>rfl
  | some o =>obtain ⟨o',r⟩:=I.base.there b o q (by show b ∉ ([]:List Addr);simp);rw [z] at r;cases r
 exact ⟨a,T2,cls,a0,dx,H',rfl,J2.os,J2.bare,J2.base,J2.hok,⟨up0 a sa,up0 T2 sT2,na,nT2⟩,t2,kp.dictAt da t2,q⟩
noncomputable def Ec (P:Program) (w:World):Xs:=λouter H s E e s' =>
 ∃ a cls a0 dx H',e=.ref a/\s'.os=s.os/\AllBare s'.gens/\Un (frs outer) [] H H' s.heap s'.heap/\Uz P w H' s'.heap /\
  (s.heap.get? a=none/\H' a=none)/\Fre s'.heap a cls a0/\DictAt s'.heap a dx/\E cls dx H'
theorem iW {f:Addr} {cd:Value} :
  fX (Ec P w) (nR (UC P w) P w K mg base N qual scope f cd A outer s H E) E:=by
 intro pins σ H1 s1 e s' I x;obtain ⟨a,cls,a0,dx,H',rfl,os,bare,un,hok,⟨sa,na⟩,⟨oe,vs,he,⟨hc,h0⟩,hd,hv⟩,da,q⟩:=x;have J:Inv (nR (UC P w) P w K mg base N qual scope f cd A outer s H E) pins σ H' s':=I.Wb (ch:=[]) os un hok bare (λb z=>absurd z (by simp));subst hc
 refine MX (iX (mG _ _) (wpAny_leaving_firstW (Q:=λ_ s2=>∃ h2,s2={ s' with heap:=h2 }/\Heap.LeftW (W.hideAll s'.heap (a::a::frs (envOfC qual scope s.heap.objs.size f cd::outer))) (envOfC qual scope s.heap.objs.size f cd::outer) a oe.cls a0 s'.heap h2) (L:=s.heap.objs.size) (a0:=a0) I.ok.frames
  (W.funFrames_hide J.stack λenv hm b hb=>.tail _ (.tail _ (Ox.mpr ⟨env,hm,hb⟩))) rfl he (λb o q=>W.of_hideAll _ q) (OC _ (.head _)) hd hv h0 λh2 L2=>⟨h2,rfl,L2⟩)) (λ_ s2 ⟨⟨h2,e2,k1,k2,k3,k4⟩,kp⟩=>?_) λ_ _ z=>z
 subst e2;obtain ⟨T2,t2,hT2,kk,sl2⟩:=uB (T:=a) J.stack (show Heap.FlyingW _ _ a oe.cls a0 h2 from ⟨k1,OC _ (.head _),k2,k3⟩) k4;have neT:T2≠a:=by obtain ⟨_,_,_,_,_,_,_,_,z,_⟩:=t2;exact z
 have nT:s'.heap.get? T2=none:=hT2.resolve_left neT
 have sT:s1.heap.get? T2=none:=by
  cases q:s1.heap.get? T2 with
  | none=>rfl
  | some o =>obtain ⟨o',r⟩:=un.there T2 o q (by simp);rw [nT] at r;cases r
 have up0:∀ b,s1.heap.get? b=none->s.heap.get? b=none:=λb z=>by
  cases q:s.heap.get? b with
  | none=>rfl
  | some o =>obtain ⟨o',r⟩:=I.base.there b o q (by show b ∉ ([]:List Addr);simp);rw [z] at r;cases r
 have J2:Inv (nR (UC P w) P w K mg base N qual scope f cd A outer s H E) pins σ H' { s' with heap:=h2 } :=
  I.Wb (s':={ s' with heap:=h2 }) (ch:=[]) os (Cg un sa sa kk sl2) (AM hok na na J.Vr kk) bare (λb z=>absurd z (by simp))
 exact ⟨a,T2,oe.cls,a0,dx,H',rfl,J2.os,J2.bare,J2.base,J2.hok,⟨up0 a sa,up0 T2 sT,na,hok.empty nT⟩,t2,kp.dictAt da t2,q⟩
variable {x:Str} {fd:FuncData} {ps:List Str} {k:Nat}
theorem W4.YF {st:Stmt} {f:Addr} {sp:Sp} (F:W4 K x qual st f fd) (S:Pw N ps (aK st)) (len:∀ vs H Q E,sp vs H Q E->vs.length=ps.length)
  (hbody:∀ (cdv:Value) (A:Around) (outer:List Env) (s:Shared) (H:Hp) (vs:List V) (Q:VK) (E:XK),P8 k (A.deeper (envOfC qual (aK st) s.heap.objs.size f cdv))->sp vs H Q E ->
   ∃ t,Wc (nR (UC P w) P w K mg base N qual (aK st) f cdv A outer s H E) (bL st) t/\t { nx:=λ_ H'=>Q .Py H',rt:=Q } (gI N vs) H):PD P w K mg base (UC P w) (k+1) f fd ps sp:=by
 obtain ⟨oc,od,kV,doc,pm,an,cdv,ct,osl,rfl,lk,hcd⟩:=F.ex;exact AA lk hcd S len λA outer s H vs Q E hr Yq=>hbody cdv A outer s H vs Q E hr Yq
noncomputable def zP (e C:Addr) (a0:Value) (dx:Addr):HO:=.ext λh=>∃ oe vs,h.get? e=some oe/\(oe.cls=.ref C/\vs[0]?=some a0)/\oe.data=.fields vs/\vs[1]?=some .none/\oe.dict=some dx
noncomputable abbrev mI (H:Hp) (e C:Addr) (a0:Value) (dx:Addr) (f:Str) (v:V):Hp:=upd (upd H e (zP e C a0 dx)) dx (.xd [(f,v)])
section
variable {H:Hp} {e C dx b:Addr} {a0:Value} {f:Str} {v:V}
theorem Co:mI H e C a0 dx f v dx=some (.xd [(f,v)]):=aM
theorem tZ (h:dx≠e):mI H e C a0 dx f v e=some (zP e C a0 dx):=(aX (MQ h)).trans aM
theorem Cp (h:b≠dx) (h':b≠e):mI H e C a0 dx f v b=H b:=(aX h).trans (aX h')
end
variable {X:Cx} {C:Addr} {f:Str} {ta:TE} {pos:Pos}
theorem pJ {o value:Expr} {tv:TE} {pos':Pos} (st:vO X.K C f) (ha:PE X o ta) (hv:PE X value tv) (hs:swapsWith value (some (.Attribute o f pos')) pos.line X.env=pure false:=by rfl) :
  PS X (.Assign [.Attribute o f pos'] value pos) (λD σ H=>tv σ H λy H1=>ta σ H1 λx H2=>∃ e a0,x=.ref e/\H2 e=some (nP e C a0)/\∀ dx,H2 dx=none->D.nx σ (mI H2 e C a0 dx f y)):=by
 intro pins s σ H D I h;refine ON (PB (hv pins s σ H _ I h) λu s1 ⟨y,H1,I1,ry,q⟩=>PB (ha pins s1 σ H1 _ I1 q) λov s2 ⟨x,H2,I2,rx,e,a0,ex,he,q2⟩=>?_) hs;subst ex;obtain rfl:ov=Value.ref e:=rx;obtain ⟨⟨oe,vs,Zz,⟨hcl,hv0⟩,hdt,hv1,hdn⟩,_,_⟩:=(show P1 X.prog X.w H2 s2.heap e (nP e C a0) from I2.hok e _ he)
 refine vB I2.Sb st Zz hcl hdn hdt λh' tk k hx' ns=>?_
 have sd:s2.heap.get? s2.heap.objs.size=none:=by
  cases q:s2.heap.get? s2.heap.objs.size with
  | none=>rfl
  | some o=>exact absurd (Mi q) (M1 _)
 have nd:H2 s2.heap.objs.size=none:=I2.hok.empty sd
 have J:Inv X pins σ (upd H2 e (zP e C a0 s2.heap.objs.size)) { s2 with heap:=h',toks:=tk }:=by refine I2.write (x:=e) (e:=e) (t':=tk) (by rw [he];trivial) (.inl rfl) k ⟨_,hx'⟩ ?_;exact ⟨⟨_,vs,hx',⟨hcl,hv0⟩,hdt,hv1,rfl⟩,⟨_,hx'⟩,λh1 h2 ⟨o1,v1,e1,c1⟩ k=>⟨o1,v1,k o1 e1,c1⟩⟩
 have nb:∀ b,H2 b=none->b≠e:=λb z y=>by rw [y,he] at z;cases z
 have un:Un (frs X.stack) [] H2 (upd H2 e (zP e C a0 s2.heap.objs.size)) s2.heap h':=by
  refine ⟨λb o q n hf hx=>k b o (nb b n) q,λb o q n hf hx=>⟨o.slots,k b o (nb b n) q⟩,λb o q n hx=>by rw [aX (nb b n)];exact n,λb o q hx=>?_,λb xs q=>?_,λb u xs q=>?_,λb ps q=>⟨#[],?_⟩⟩
  ·by_cases hb:b=e
   ·subst hb;exact ⟨_,hx'⟩
   ·exact ⟨o,k b o hb q⟩
  ·rw [aX (λz=>by rw [z,he] at q;cases q)];exact q
  ·rw [aX (λz=>by rw [z,he] at q;cases q)];exact q
  ·rw [Pd,aX (λz=>by rw [z,he] at q;cases q)];exact q
 refine ⟨σ,_,Inv.Xa (o:=.xd [(f,y)]) I2 J un sd (by rw [aX (nb _ nd)];exact nd) (show ∃ mA,h'.Ns1 _ mA/\_ from ⟨_,ns,λg=>?_⟩),q2 _ nd⟩;by_cases hg:g=f
 ·subst hg;rw [Mc rfl,List.lookup_cons_self];exact ry
 ·rw [LZ hg]
  have e:List.lookup g [(f,y)]=none:=by rw [MT,NG.mpr hg];rfl
  rw [e]
  trivial
noncomputable def fH (C:Addr) (f:Str):Sp:=λvs H Q _=>∃ e a0 v,vs=[.ref e,v]/\H e=some (nP e C a0)/\∀ dx,H dx=none->Q .Py (mI H e C a0 dx f v)
section
variable {X:Cx} {pins:List (Addr × Obj)} {σ:St} {H:Hp} {s s':Shared} {C fI e dx:Addr} {fd:FuncData} {k:Nat} {ps:List Str} {a0:Value} {f:Str} {v:V}
theorem ug (I:Inv X pins σ H s) (hn:s.heap.get? e=none) (na:H e=none) (nd:upd H e (nP e C a0) dx=none) {h1:Heap} (k1:∀ b o,s.heap.get? b=some o->h1.get? b=some o)
  (un:Un (frs X.stack) [] (upd H e (nP e C a0)) (mI (upd H e (nP e C a0)) e C a0 dx f v) h1 s'.heap) (hok:Uz X.prog X.w (mI (upd H e (nP e C a0)) e C a0 dx f v) s'.heap) :
  H dx=none/\dx≠e/\Un (frs X.stack) [] H (upd H dx (.xd [(f,v)])) s.heap s'.heap/\Uz X.prog X.w (upd H dx (.xd [(f,v)])) s'.heap /\
   ∃ oe vs,s'.heap.get? e=some oe/\(oe.cls=.ref C/\vs[0]?=some a0)/\oe.data=.fields vs/\vs[1]?=some .none/\oe.dict=some dx:=by
 have de:dx≠e:=λz=>by rw [z,aM] at nd;cases nd
 have nd0:H dx=none:=by rw [aX de] at nd;exact nd
 have off:∀ b o,s.heap.get? b=some o->b≠e:=λb o q z=>by rw [z,hn] at q;cases q
 have offH:∀ b u,H b=some u->b≠e:=λb u q z=>by rw [z,na] at q;cases q
 have ZA:∀ b u,H b=some u->b≠dx:=λb u q z=>by rw [z,nd0] at q;cases q
 have same:∀ b,b≠e->mI (upd H e (nP e C a0)) e C a0 dx f v b=upd H dx (.xd [(f,v)]) b:=λb z=>by
  by_cases hb:b=dx
  ·rw [hb,Co,aM]
  ·rw [Cp hb z,aX hb,aX z]
 refine ⟨nd0,de,⟨λb o q n hf hx=>?_,λb o q n hf hx=>?_,λb o q n hx=>?_,λb o q hx=>un.there b o (k1 b o q) hx,λb xs q=>?_,λb u xs q=>?_,λb ps q=>⟨#[],?_⟩⟩,λb u q=>?_,?_⟩
 ·exact un.keep b o (k1 b o q) (by rw [aX (off b o q)];exact n) hf hx
 ·exact un.slot b o (k1 b o q) (by rw [aX (off b o q)];exact n) hf hx
 ·have z:=un.free b o (k1 b o q) (by rw [aX (off b o q)];exact n) hx;rw [same b (off b o q)] at z;exact z
 ·rw [aX (ZA b _ q)];exact q
 ·rw [aX (ZA b _ q)];exact q
 ·rw [Pd,aX (ZA b _ q)];exact q
 ·have hb:b≠e:=λz=>by rw [z,aX (MQ de),na] at q;cases q
  refine (hok b u (by rw [same b hb];exact q)).stay (λ_ _ _ z=>z) (λc z=>?_) λc xs z=>?_
  ·have hc:c≠e:=λy=>by rw [y,tZ de] at z;cases z
   rw [same c hc] at z;exact z
  ·have hc:c≠e:=λy=>by rw [y,tZ de] at z;cases z
   rw [same c hc] at z;exact z
 ·obtain ⟨q,_,_⟩:=(show P1 X.prog X.w _ s'.heap e (zP e C a0 dx) from hok e _ (tZ de))
  exact q
theorem zD {E:XK} {u:Value} (kc:uc X.K C fI) (FI:PD X.prog X.w X.K X.mg X.base U1 k fI fd ps (fH C f)) (hb:Binds X.K fd ps []) (hr:P8 (k+1) X.A) (I:Inv X pins σ H s) (ru:RelV v u) (q:∀ dx,H dx=none->E (.ref C) (some dx) (upd H dx (.xd [(f,v)]))) :
  wpAny (model X.prog X.w) X.A (call (.ref C) [u]) (λr s'=>∃ e oe vs,r=.ref e/\s'.heap.get? e=some oe/\oe.cls=.ref C/\oe.data=.fields vs/\vs[1]?=some .none/\X.K.In s'.heap/\Ec X.prog X.w X.stack H s E (.ref e) s') X.xe s:=by
 refine ze I.Sb kc (by rw [N3];simp) ?_;have I2:Inv X pins σ H { s with heap:=nC s.heap C [u] }:=I.kept (t':=s.toks) iz;have hn:s.heap.get? (s.heap.objs.size+1)=none:=zd;have na:H (s.heap.objs.size+1)=none:=I.hok.empty hn;have he:(nC s.heap C [u]).get? (s.heap.objs.size+1)=some (Ac C s.heap.objs.size):=jt;generalize s.heap.objs.size+1=e at hn na he ⊢
 have I3:Inv X pins σ (upd H e (nP e C (.ref s.heap.objs.size))) { s with heap:=nC s.heap C [u] } :=
  Inv.Xa I I2 (Un.kept iz) hn na ⟨⟨_,_,he,⟨rfl,rfl⟩,rfl,rfl,rfl⟩,⟨_,he⟩,λg1 g2 ⟨o1,v1,e1,c1⟩ kk=>⟨o1,v1,kk o1 e1,c1⟩⟩
 have hq:fH C f [.ref e,v] (upd H e (nP e C (.ref s.heap.objs.size))) (λw H2=>∃ dx,upd H e (nP e C (.ref s.heap.objs.size)) dx=none/\w=.Py/\H2=mI (upd H e (nP e C (.ref s.heap.objs.size))) e C (.ref s.heap.objs.size) dx f v) (λ_ _ _=>True) :=
  ⟨e,_,v,rfl,aM,λdx n=>⟨dx,n,rfl,rfl⟩⟩
 have hl:([Value.ref e,u]++[]).length=ps.length:=FI.len _ _ _ _ hq;refine Og (Nq (FI.run _ X.stack _ _ ⟨[.ref e,u],[]⟩ [.ref e,u] _ _ (λ_ _ _=>True) (hr.make C [u] []) (I3.Yz.make C [u] []) (hb _ [.ref e,u] I3.Sb hl) (show Vals [V.ref e,v] [Value.ref e,u] from .cons rfl (.cons ru .nil)) hq) λr s' hq'=>?_)
 cases r with
 | error _=>exact False.elim hq'
 | ok fl =>
  cases fl with
  | ret uu =>obtain ⟨_,_,os',bare',un',Xl,rv,dx,nd,rfl,rfl⟩:=hq';obtain ⟨nd0,de,un2,hok2,oe,ws,Zz,hcl,hdt,hv1,hdx⟩:=ug I hn na nd iz un' Xl;have I4:Inv X pins σ _ s':=I.Wb (ch:=[]) os' un2 hok2 bare' (λb z=>absurd z (by simp));exact ⟨rv,e,oe,ws,rfl,Zz,hcl.1,hdt,hv1,I4.Sb,e,.ref C,_,some dx,_,rfl,os',bare',un2,hok2,⟨hn,by rw [aX (MQ de)];exact na⟩,⟨oe,ws,Zz,hcl,hdt,hv1⟩,⟨oe,Zz,hdx⟩,q dx nd0⟩
  | _=>exact False.elim hq'
end
theorem eB {fI:Addr} {np cpos:Pos} {e₀:Expr} {ta:TA} (kc:uc X.K C fI)
  (FI:PD X.prog X.w X.K X.mg X.base U1 k fI fd ps (fH C f)) (hb:Binds X.K fd ps []) (hr:P8 (k+1) X.A) (ht:fX (Ec X.prog X.w) X E) (hg:Gl X x) (hm:X.mg x=some (.ref C)) (ha:PA X [e₀] ta) (hcalm:X.calm=true:=by rfl)
  (he:starEach [e₀] X.env=(false,eval e₀ X.env)::starEach [] X.env:=by rfl) (hpl:(backTo cpos (starEach [] X.env)).any (·.1)=false:=by rfl) (hd:(x == ("__debug__":Str))=false:=by decide) :
  PS X (.Raise (some (.Call (.Name x np) [e₀] [] cpos)) none pos) (λ_ σ H=>ta σ H λvs H1=>∃ v,vs=[v]/\∀ dx,H1 dx=none->E (.ref C) (some dx) (upd H1 dx (.xd [(f,v)]))):=by
 intro pins s σ H D I h;rw [arm_exec_Raise];refine LU (M4 (zt (K:=X.K) kc (I.ok.hd hcalm) ?_));refine LU (Nb (gZ I hg hm ?_ hd));refine Oz (h₀:=X.base) I.ok.mod.YT kc.kp (PB (ha cpos pins s σ H _ I h) λus s1 ⟨vs,H1,I1,r,v,hv,q⟩=>⟨I1.Sb,?_⟩) he hpl;subst hv;obtain ⟨u,rfl,ru⟩:=jC r;refine PB (zD (E:=E) kc FI hb hr I1 ru q) λr s2 ⟨e,oe,ws,er,h1,h2,h3,h4,h5,h6⟩=>LU (M4 (L8 ?_));exact ⟨e,oe,ws,er,h1,h2,h3,h4,h5,ht pins σ H1 s1 _ _ I1 h6⟩
noncomputable def yJ (x D:Addr) (dx:Option Addr):HO:=.ext λh=>∃ oe vs,h.get? x=some oe/\oe.cls=.ref D/\oe.data=.fields vs/\oe.dict=dx
theorem zc {prog:Program} {E:Value->Shared->Prop} {K:Frag} {x D:Addr} {ox:Obj} {od:Option Obj} {name:Str} {v:Value} {b:Bool} {Q:Value->Shared->Prop} (X:K.In s.heap) (I:W.InstAt s.heap x ox D od) (kx:yK K D)
  (hf:findObj K D od name=some (.value v)) (hv:handedIn v=true) (h:Q v { s with toks:=s.toks+1 }):wpAny (model prog w) A (getAttr (.ref x) name b) Q E s:=by
 obtain ⟨hh,g,d,t,os⟩:=s;have L0:Looks (model prog w) hh (typeOf (.ref x)) (.ref D):=I.type;have L1:=looks_findIn (M:=model prog w) X kx.ga;have L2:=looks_findIn (M:=model prog w) X kx.gt;have L3:=looks_find (M:=model prog w) X I hf;have L4:Looks (model prog w) hh (isInstance (.ref x) (.type "BaseException")) true:=L0.andThen (looks_mroIn X kx.b);unfold getAttr getAttrBy;refine LU (wpAny_mkText (Nj ?_));refine LU (L0.at ?_);refine LU (L1.at ?_);show wpAny _ _ (getAttrByItsOwn _ _ _ _ _ _) _ _ _;unfold getAttrByItsOwn hookBefore;refine LU ?_;show wpAny _ _ (typeLookup (.ref D) "__getattr__") _ _ _;refine L2.at (LU (Ph (Nj ?_)))
 have e:callGetattribute (.ref x) (.str name t) (.builtin "BaseException.__getattribute__") b=boundAndCalled (.builtin "BaseException.__getattribute__") (.ref x) (.str name t):=by unfold callGetattribute;rw [LZ (by cases b <;> decide)]
 rw [e];unfold boundAndCalled;rw [Af];refine LU (L8 (Og ?_));refine OT F.attr_ValueError.ga.plain F.entry_bexc_ga (@check_slot (model prog w) _ _ _ "BaseException.__getattribute__" "BaseException" "__getattribute__" (.ref x) _ [] _ (by decide +kernel) (by decide +kernel) L4 (F.args_bexc_ga _ _) ?_);refine LU (L8 (LU (L8 (LU (L0.at (LU (L3.at ?_)))))));refine L8 ?_;refine handed_on hv ?_;exact h
noncomputable def Ga (K:W.Frag) (ta:TE) (f:Str):TE:=λσ H Q=>ta σ H λx H1=>∃ a C dx v,x=.ref a/\H1 a=some (yJ a C (some dx))/\H1 dx=some (.xd [(f,v)])/\yK K C/\findIn K (.ref C) f=some none/\Q v H1
theorem C4 {e:Expr} (hK:X.K=K) (he:PE X e ta) (hb:attributeBase e f X.env (eval e X.env)=eval e X.env:=by rfl):PE X (.Attribute e f pos) (Ga K ta f):=by
 subst hK;intro pins s σ H Q I h;refine xD hb (PB (he pins s σ H _ I h) λu s1 ⟨x,H1,I1,rx,a,C,dx,v,ex,ea,ed,kx,hn,q⟩=>?_);subst ex;obtain rfl:u=Value.ref a:=rx;obtain ⟨⟨oe,vs,Zz,hcl,hdt,hdx⟩,_,_⟩:=(show P1 X.prog X.w H1 s1.heap a (yJ a C (some dx)) from I1.hok a _ ea)
 obtain ⟨mA,ns,rf⟩:=(show P1 X.prog X.w H1 s1.heap dx (.xd [(f,v)]) from I1.hok dx _ ed)
 obtain ⟨od,ho,hl⟩:=qS ns;obtain ⟨u,hu,ru⟩:=Wz.some_of (v:=v) (o:=mA f) (by have z:=rf f;rw [List.lookup_cons_self] at z;exact z);have inst:W.InstAt s1.heap a oe C (some od):=⟨Zz,hcl,by unfold notCls;rw [hdt],by rw [hdx];exact ho⟩
 exact zc I1.Sb inst kx (findObj_own kx.dct hn rfl (by rw [hl,hu])) (qR ru) ⟨v,H1,I1.tok _,ru,q⟩
theorem Dg {σ:St} {t tb:TE} {ds:List D} {lo hi:Nat} (h:RL K t σ H ds) (h1:RE K ta σ H (.int lo)) (h2:RE K tb σ H (.int hi)):RC K (Zs (E1 K) t (kN ta) (kN tb)) σ H ((ds.drop lo).take (hi - lo)):=λH1 s Q q =>
 h H1 s _ λv H2 s2 q2=>h1 H2 (s.trans s2) _ λv3 H3 s3 q3=>⟨lo,q3.Pz,h2 H3 (s.trans (s2.trans s3)) _ λv4 H4 s4 q4=>⟨hi,q4.Pz,by
  obtain ⟨a,vs,rfl,hq,hds⟩:=(s3.trans s4).ld q2;refine ⟨a,vs,rfl,hq.S7,λp hp=>?_⟩;rw [rP];exact q p _ _ ((s2.trans (s3.trans s4)).free hp) (s2.trans (s3.trans (s4.trans (aT hp _)))) aM ((aT hp _).P0 (Pq.XA (Pq.X8 hds)))⟩⟩
noncomputable def xj (K:W.Frag) (f:Str) (R:List Ar->D->Prop) (B:List Ar->Addr->Int->Prop):Sp:=λvs H Q E =>
 ∃ as,YD K H as vs/\((∃ d,R as d/\∀ v H',Pr H H'->Dat K H' d v->Q v H')\/∃ C i,B as C i/\∀ H' dx,Pr H H'->H' dx=some (.xd [(f,.int i)])->E (.ref C) (some dx) H')
section
variable {K:W.Frag} {σ:St} {H:Hp} {tA:TA} {ar:List Ar} {d:D} {f:Str} {es:List D} {R:List Ar->D->Prop} {RL:List Ar->List D->Prop} {B:List Ar->Addr->Int->Prop} {E:XK} {Q:VK} {C:Addr} {i:Int}
theorem qY (h:RB K tA σ H ar) (r:R ar d):RE K (gJ (xj K f R B) [] E tA) σ H d:=λH1 s Q q =>
 h H1 s _ λvs H2 s2 q2=>⟨ar,by rw [MI];exact q2,.inl ⟨d,r,λv H3 s3 q3=>q _ _ (s2.trans s3) q3⟩⟩
theorem m8 (h:RB K tA σ H ar) (r:B ar C i) (q:∀ H' dx,Pr H H'->H' dx=some (.xd [(f,.int i)])->E (.ref C) (some dx) H'):gJ (xj K f R B) [] E tA σ H Q :=
 h.use λvs H2 s2 q2=>⟨ar,by rw [MI];exact q2,.inr ⟨C,i,r,λH3 dx s3=>q _ dx (s2.trans s3)⟩⟩
end
end L2
namespace L2
open PySem PySem.Spec PySem.Calls PyProof.Rows
noncomputable abbrev pT (t:Addr) (i:Int):Obj:={ cls:=.type "reversed",data:=.fields #[.ref t,rawInt i] }
theorem qF:Slot "reversed" "__init__" "object.__init__":=.of (owner:="object") (n:="__init__") (by rw [Ou,NQ];kernel_rfl) (by decide +kernel) (by decide +kernel) (by decide +kernel) (by first | exact .inl (by decide +kernel) | exact .inr (by decide +kernel)) (by rw [O1];kernel_rfl)
theorem vW:TypeCalled "reversed" "reversed.__new__" "object.__init__":=⟨by decide +kernel,by decide +kernel,⟨_,_,F.mro_reversed⟩,F.made_reversed,by decide +kernel,F.sub_reversed_self,qF⟩
theorem QC:Slot "reversed" "__next__" "reversed.__next__":=.of (owner:="reversed") (n:="__next__") (by rw [Ou,NQ];kernel_rfl) (by decide +kernel) (by decide +kernel) (by decide +kernel) (by first | exact .inl (by decide +kernel) | exact .inr (by decide +kernel)) (by rw [O1];kernel_rfl)
theorem kM:Slot "reversed" "__iter__" "reversed.__iter__":=.of (owner:="reversed") (n:="__iter__") (by rw [Ou,NQ];kernel_rfl) (by decide +kernel) (by decide +kernel) (by decide +kernel) (by first | exact .inl (by decide +kernel) | exact .inr (by decide +kernel)) (by rw [O1];kernel_rfl)
theorem j2:entryFor table "reversed.__next__"=some Builtin.«reversed.__next__»:=entryFor_of_tree (by kernel_rfl)
theorem oR:entryFor table "reversed.__iter__"=some Builtin.«dict_keyiterator.__iter__»:=entryFor_alias (id':="dict_keyiterator.__iter__") (by kernel_rfl) (by first | rfl | decide +kernel | (unfold String.splitOn;simp +decide [String.splitOnAux])) (by decide +kernel) (by kernel_rfl)
theorem qV:Manifest.owners.lookup (String.ofList ['d','e','s','r','e','v','e','r'].reverse)=some Manifest.sig_reversed:=by kernel_rfl
theorem kD (a:Value):argsOk "reversed.__next__" ⟨[a],[]⟩:=by unfold argsOk;rw [signature?_of (id:="reversed.__next__") (n:=['_','_','t','x','e','n','_','_']) (o:=['d','e','s','r','e','v','e','r']) (by kernel_rfl) qV];kernel_rfl
theorem qq (a:Value):argsOk "reversed.__iter__" ⟨[a],[]⟩:=by unfold argsOk;rw [signature?_of (id:="reversed.__iter__") (n:=['_','_','r','e','t','i','_','_']) (o:=['d','e','s','r','e','v','e','r']) (by kernel_rfl) qV];kernel_rfl
theorem zL:typeLookup (.type "tuple") "__reversed__"=pure none:=by rw [Ou,NQ];kernel_rfl
theorem xo:isSubtype (.type "tuple") (.type "dict")=pure false:=by rw [O1];kernel_rfl
theorem nO:typeLookup (.type "tuple") "__getitem__"=pure (some (.builtin "tuple.__getitem__")):=by rw [Ou,NQ];kernel_rfl
theorem BP (t:Addr) (items:Array Value) (n:Nat) (d2:Option Addr) (s2:Array (Option Value)) :
  Meets (Builtin.«reversed.__new__» ⟨[.type "reversed",.ref t],[]⟩) (λ_ R s=>s.heap.get? t=some { cls:=.type "tuple",dict:=d2,data:=.seq items n,slots:=s2 } /\
   (items.size:Int) < 2 ^ 63/\R (.ok (.ret (.ref s.heap.objs.size))) { s with heap:=s.heap.push (pT t ((items.size:Int) - 1)),toks:=s.toks+2 }) :=
 .of_wp λ_ _ _ _ s q=>by
  obtain ⟨h0,g0,d0,t0,o0⟩:=s;obtain ⟨a1,fit,q⟩:=q;have ZY:Heap.IsTuple (Shared.heap ⟨h0,g0,d0,t0,o0⟩) t items:=⟨_,a1,rfl,n,rfl⟩
  have YE:=F.sub_reversed_self
  wp_walk
  show wpAny _ _ (typeLookup (.type "tuple") "__reversed__") _ _ _;rw [zL];refine L8 ?_;dsimp only
  wp_walk
  show wpAny _ _ (isSubtype (.type "tuple") (.type "dict")) _ _ _;rw [xo];refine L8 ?_;rw [LZ (by decide)]
  wp_walk
  show wpAny _ _ (typeLookup (.type "tuple") "__getitem__") _ _ _;rw [nO];refine L8 ?_;dsimp only;rw [Mc (by decide +kernel)];refine L8 ?_;rw [LZ (by decide)];refine LU ?_;refine PyProof.Rows.len_tuple ZY fit ?_
  wp_walk
  exact ⟨_,rfl,q⟩
variable {w:World}
theorem yP {prog:Program} {A:Around} {E:Value->Shared->Prop} {s:Shared} {t:Addr} {items:Array Value} {Q:Value->Shared->Prop} (a1:s.heap.IsTuple t items) (fit:(items.size:Int) < 2 ^ 63)
  (q:Q (.ref s.heap.objs.size) { s with heap:=s.heap.push (pT t ((items.size:Int) - 1)),toks:=s.toks+2 }):wpAny (model prog w) A (call (.type "reversed") [.ref t]) Q E s:=by
 obtain ⟨⟨c2,d2,dt2,s2⟩,a1,hc,n,hd⟩:=a1;obtain rfl:c2=.type "tuple":=hc;obtain rfl:dt2=.seq items n:=hd;refine callType_new vW (by decide) (F.typeCall_reversed_1 _) (F.newCall_reversed_1 _) (λo=>F.args_object_init_2 o _) F.entry_reversed_new (BP t items n d2 s2) ⟨a1,fit,?_⟩;show _/\_;exact ⟨⟨_,NR rfl rfl,rfl⟩,q⟩
theorem sx {i n:Nat} (h:i < n):seqIndex? (i:Int) n=some i:=(r6 (by unfold X6;rw [Mc (by omega),Mc (by omega)];rfl)).1
noncomputable abbrev nt (h:Heap) (it t:Addr) (i:Int):Prop:=h.get? it=some (pT t i)
section
variable {prog:Program} {w:World} {A:Around} {E:Value->Shared->Prop} {s:Shared} {it t:Addr} {items:Array Value}
theorem wZ {i:Nat} {x:Value} {Q:Option Value->Shared->Prop} (a1:nt s.heap it t i) (a2:s.heap.IsTuple t items) (fit:(items.size:Int) < 2 ^ 63) (hx:items[i]?=some x)
  (q:∀ h' tk,nt h' it t ((i:Int) - 1)->Heap.SameBut it s.heap h'->Q (some x) { s with heap:=h',toks:=tk }):wpAny (model prog w) A (pyNext (.ref it)) Q E s:=by
 have ty:s.TypeIs (.ref it) "reversed":=⟨_,a1,rfl⟩
 have lt:i < items.size:=(Ol.mp hx).1;unfold pyNext;refine LU (Ph (NZ (name:=Str.ofString "__next__") ty QC (Oh QC ty j2 ?_ (kD _))));obtain ⟨⟨c2,d2,dt2,s2⟩,b2,hc,n,hd⟩:=id a2;obtain rfl:c2=.type "tuple":=hc;obtain rfl:dt2=.seq items n:=hd;obtain ⟨h0,g0,d0,t0,o0⟩:=s;unfold nt pT rawInt at a1
 wp_walk
 show wpAny _ _ (typeLookup (.type "tuple") "__getitem__") _ _ _;rw [nO];refine L8 ?_;rw [LZ (by decide)];refine LU (wpAny_mkInt (LU (Ph ?_)));show wpAny _ _ (getItem (.ref t) (.int (i:Int) _)) _ _ _;refine PyProof.Rows.getItem_tuple (j:=i) a2 (by omega) (by omega) (sx lt) hx ?_
 wp_walk
 exact ⟨x,rfl,L8 (q _ _ (OL _ a1 rfl) (Heap.SameBut.update ..))⟩
theorem wY {Q:Option Value->Shared->Prop} (hh:A.handled=none) (a1:nt s.heap it t (-1)) (q:∀ h',Heap.ExtBut it s.heap h'->Q none { s with heap:=h' }):wpAny (model prog w) A (pyNext (.ref it)) Q E s:=by
 have ty:s.TypeIs (.ref it) "reversed":=⟨_,a1,rfl⟩
 unfold pyNext;refine LU (Ph (NZ (name:=Str.ofString "__next__") ty QC (Oh QC ty j2 ?_ (kD _))));obtain ⟨h0,g0,d0,t0,o0⟩:=s;unfold nt pT rawInt at a1
 wp_walk
 refine wpAny_raiseNew_none hh ?_;refine LU (wpAny_isInstance (T:="StopIteration") (b:=true) ⟨_,Mu _ rfl,rfl⟩ isSubtype_stop (L8 (q _ λb o hb e=>?_)));exact LX _ (LX _ ((Oq _ _ _ _ hb).trans ((Oq _ _ _ _ hb).trans e)))
theorem vv {i:Int} {Q:Value->Shared->Prop} (a1:nt s.heap it t i) (h:Q (.ref it) s):wpAny (model prog w) A (pyIter (.ref it)) Q E s:=by
 have ty:s.TypeIs (.ref it) "reversed":=⟨_,a1,rfl⟩
 refine wpAny_pyIter_slot ty kM (Oh kM ty oR ?_ (qq _));show wpAny _ _ (ret (.ref it)) _ _ s;exact L8 ⟨_,rfl,"reversed",_,ty,QC.lookup,h⟩
end
noncomputable def Itw (K:W.Frag) (a:Addr) (xs:List V):It:=⟨λi H=>i < xs.length/\QE K H a xs,λi H x H'=>H'=H/\xs[xs.length - 1 - i]?=some x,λi _=>i=xs.length⟩
theorem zN {P:Program} {K:W.Frag} {tg:Expr} (a it:Addr) (xs:List V):mK P w K tg (Itw K a xs) [it] it (λi h=>nt h it a ((xs.length:Int) - 1 - (i:Int))) where
 mem:=by simp
 obj:=λi h st b hb=>by
  have e:b=it:=by simpa using hb
  subst e;exact ⟨_,st,λv z=>by cases z⟩
 keep:=λi h h' st k=>k it (by simp) _ st
 item:=by
  intro X hP hw hK hc i pins s σ H E I hf st hg;subst hP hw hK;obtain ⟨hi,hq⟩:=hg;obtain ⟨its,rv,p,hz⟩:=I.tuple hq;obtain ⟨f0,f1,f2,f3,f4,f5⟩:=hf it (by simp);have lr:=rv.length;have hx:xs[xs.length - 1 - i]?=some (xs[xs.length - 1 - i]'(by omega)):=LQ (by omega);obtain ⟨u,hu,ru⟩:=rv.get hx;have e1:(xs.length:Int) - 1 - (i:Int)=((xs.length - 1 - i:Nat):Int):=by omega
  rw [e1] at st;refine wZ st p (by rw [Me];rw [N3] at hz;omega) (x:=u) (by simpa using hu) λh' tk st' sb=>?_;have e2:((xs.length - 1 - i:Nat):Int) - 1=(xs.length:Int) - 1 - ((i+1:Nat):Int):=by omega
  rw [e2] at st';have I1:Inv X pins σ H { s with heap:=h',toks:=tk }:=I.turned (t':=tk) (λb o hb e=>(sb.2 b hb).trans e) f0 f1 f3 f4 f5;exact ⟨u,rfl,uC (s:={ s with heap:=h',toks:=tk }) st' rfl rfl (by decide) ⟨_,H,I1,ru,⟨rfl,hx⟩,st',λb hb=>(hf b hb).1⟩⟩
 done:=by
  intro X hP hw hK hc i pins s σ H E I hf st hg;subst hP hw hK;obtain ⟨f0,f1,f2,f3,f4,f5⟩:=hf it (by simp);have hg':i=xs.length:=hg;subst hg';have e1:(xs.length:Int) - 1 - (xs.length:Int)=-1:=by omega
  rw [e1] at st;exact wY (I.ok.hd hc) st λh' eb=>⟨rfl,I.turned (t':=s.toks) (λb o hb e=>eb b o hb e) f0 f1 f3 f4 f5⟩
 self:=λA i s Q E st q=>vv st q
section
variable {X:Cx} {tg:Expr}
noncomputable def FJ (K:W.Frag) (ta:TA):TI:=λσ H R=>ta σ H λvs H1=>∃ a xs,vs=[.ref a]/\QE K H1 a xs/\R (Itw K a xs) H1
theorem C8 {a:Expr} {ta:TA} {p pos:Pos} (hg:Gl X "reversed") (hm:X.mg "reversed"=none) (ha:PA X [a] ta) (hs:starEach [a] X.env=[(false,eval a X.env)]:=by rfl):PI X tg (.Call (.Name "reversed" p) [a] [] pos) (FJ X.K ta):=by
 intro pins s σ H R I h;refine Call_ (mW I hg hm um (NK (PB (ha pos pins s σ H _ I h) λus s1 ⟨vs,H1,I1,r1,q1⟩=>?_) hs rfl));obtain ⟨l,xs,e,hq,q⟩:=q1;subst e;obtain ⟨u,rfl,ru⟩:=jC r1;cases ru;obtain ⟨its,rv,pl,hz⟩:=I1.tuple hq;have lr:=rv.length;refine yP pl (by rw [Me];rw [N3] at hz;omega) ?_;have ez:((its.toArray.size:Nat):Int) - 1=(xs.length:Int) - 1 - ((0:Nat):Int):=by rw [Me,lr];omega
 rw [ez];have st:nt (s1.heap.push (pT l ((xs.length:Int) - 1 - ((0:Nat):Int)))) s1.heap.objs.size l ((xs.length:Int) - 1 - ((0:Nat):Int)):=Mu _ rfl;refine vv (s:={ s1 with heap:=s1.heap.push (pT l ((xs.length:Int) - 1 - ((0:Nat):Int))),toks:=s1.toks+2 }) st ?_;refine ⟨s1.heap.objs.size,[s1.heap.objs.size],_,_,H1,rfl,I1.kept (t':=s1.toks+2) λb o e=>LX _ e,zN l _ xs,st,λb hb=>?_,q⟩;have e:b=s1.heap.objs.size:=by simpa using hb
 subst e;exact I1.Xw (L7 _) (I1.hok.fresh (L7 _))
end
variable {σ:St}
theorem AB {K:PySem.W.Frag} {a:Addr} {xs:List V} {g:TG} {tb:TS} {D:Ends} {H:Hp} (Pv:Nat->St->Hp->Prop) (h0:Pv 0 σ H) (hl:∀ i σ H,i<=xs.length->Pv i σ H->QE K H a xs)
  (hs:∀ i x σ H,i < xs.length->xs[xs.length - 1 - i]?=some x->Pv i σ H->g x σ H λσ2 H2=>tb { D with nx:=Pv (i+1),ct:=Pv (i+1),bk:=D.nx } σ2 H2) (hd:∀ σ H,Pv xs.length σ H->D.nx σ H) :
  ∃ W:Nat->Nat->St->Hp->Prop,(∃ m,W 0 m σ H)/\∀ i m σ H,W i m σ H ->
   ((Itw K a xs).stop i H/\D.nx σ H)\/((Itw K a xs).go i H/\∃ N:St->Hp->Prop,(∀ σ' H',N σ' H'->∃ m',m' < m/\W (i+1) m' σ' H')/\∀ x H',(Itw K a xs).Vs i H x H'->g x σ H' λσ2 H2=>tb { D with nx:=N,ct:=N,bk:=D.nx } σ2 H2):=by
 refine ⟨λi m σ H=>m=xs.length - i/\i<=xs.length/\Pv i σ H,⟨xs.length,by simp,MK _,h0⟩,?_⟩;rintro i m σ H ⟨rfl,hi,p⟩;have q:=hl i σ H hi p;by_cases hlt:i < xs.length
 ·refine .inr ⟨⟨hlt,q⟩,Pv (i+1),λσ' H' p'=>⟨xs.length - (i+1),by omega,rfl,hlt,p'⟩,λx H' y=>?_⟩;obtain ⟨e,y⟩:=y;subst e;exact hs i x σ _ hlt y p
 ·have e:i=xs.length:=by omega
  subst e;exact .inl ⟨rfl,hd σ H p⟩
structure oI (X:Cx) (pins:List (Addr × Obj)) (σ:St) (H:Hp) (a:Addr) (cls:Value) (dx:Option Addr) (s:Shared):Prop where
 ok:X.Ok
 inv:Inv X pins σ H s
 ty:W.Looks (model X.prog X.w) s.heap (typeOf (.ref a)) cls
 na:H a=none
 again:∀ (A:Around) (Q:Unit->Shared->Prop) (E:Value->Shared->Prop),(∀ h',Inv X pins σ H { s with heap:=h' }->(∀ Dx,cls=.ref Dx->Inv X pins σ (upd H a (yJ a Dx dx)) { s with heap:=h' }/\Inv X pins σ (upd H a (Gj a Dx)) { s with heap:=h' })->Q () { s with heap:=h' })->wpAny (model X.prog X.w) A (setFlight (.ref a) none) Q E s
variable {X:Cx}
theorem DP {pins Rq:List (Addr × Obj)} {H1:Hp} {s1 s2:Shared} {E:XK} {e:Value} {xe E':Value->Shared->Prop} {R:Shared->Prop} (ok:X.Ok) (I1:Inv { X with pn:=X.pn++pins,xe:=xe } Rq σ H1 s1) (x1:UC X.prog X.w X.stack H1 s1 E e s2)
  (hR:∀ a cls dx H' s',e=.ref a->E cls dx H'->oI X pins σ H' a cls dx s'->R s') (hst:X.stack=X.env::X.outer:=by rfl) (hfr:X.env.frame=some X.env.locals:=by rfl) :
  wpAny (model X.prog X.w) X.A (noteFrame e X.env) (λ_ s₂=>wpAny (model X.prog X.w) X.A (setFlight e none) (λ_ s₃=>R s₃) E' s₂) E' s2:=by
 obtain ⟨a,T,cls,a0,dx,H',rfl,q,da,sa,na,J,fl,back⟩:=UC.behind I1 x1;have fr:X.A.frames=some (X.env::X.outer):=by rw [<- hst];exact ok.frames
 refine MX (iX (rF _ _) (wpAny_looks_onW (Q:=λ_ s4=>∃ h4,s4={ s2 with heap:=h4 }/\Heap.HeldW (W.hideAll s2.heap (a::T::frs X.stack)) (X.env::X.outer) a cls a0 X.env.locals h4/\s2.heap.UpToSlots h4) fr hfr (by rw [<- hst];exact fl) λh4 held up4=>⟨h4,rfl,held,up4⟩))
  (λ_ s4 ⟨⟨h4,e4,held,up4⟩,kp4⟩=>?_) λ_ _ z=>z
 subst e4
 refine MX (iX (km _ _) (wpAny_landsW (Q:=λ_ s5=>∃ h5,s5={ s2 with heap:=h5 }/\Heap.FlyingW (W.hideAll s2.heap (a::T::frs X.stack)) (X.env::X.outer) a cls a0 h5/\h4.UpToSlots h5) held λh5 fl5 up5=>⟨h5,rfl,fl5,up5⟩))
  (λ_ s5 ⟨⟨h5,e5,fl5,up5⟩,kp5⟩=>?_) λ_ _ z=>z
 subst e5;obtain ⟨T5,J5,t5,sT5,nT5,_⟩:=back h5 _ fl5 (up4.trans up5);have da5:DictAt h5 a dx:=(kp4.trans kp5).dictAt da t5
 have LT:W.Looks (model X.prog X.w) h5 (typeOf (.ref a)) cls:=by obtain ⟨oe,vs,oT,ts,he,⟨hc,_⟩,_⟩:=t5;rw [<- hc];exact (W.Looks.ld he).andThen .now
 refine hR a cls dx H' _ rfl q ⟨ok,J5.QN ok,LT,na,λA Q E2 hQ=>?_⟩
 refine MX (iX (km _ _) (lands_againW (Q:=λ_ s6=>∃ h6,s6={ s2 with heap:=h6 }/\Heap.FlyingW (W.hideAll s2.heap (a::T::frs X.stack)) (X.env::X.outer) a cls a0 h6/\h5.UpToSlots h6) fl5 λh6 fl6 up6=>⟨h6,rfl,fl6,up6⟩))
  (λ_ s6 ⟨⟨h6,e6,fl6,up6⟩,kp6⟩=>?_) λ_ _ z=>z
 subst e6;obtain ⟨T6,J6,t6,_,_,un6⟩:=back h6 _ fl6 ((up4.trans up5).trans up6);have da6:DictAt h6 a dx:=Kept.dictAt kp6 da5 t6;refine hQ h6 (J6.QN ok) λDx hD=>?_;subst hD;obtain ⟨oe,vs,oT,ts,he,⟨hc,_⟩,hdt,_⟩:=t6;obtain ⟨oe2,he2,hdx⟩:=da6;rw [he] at he2;cases he2;refine ⟨Inv.Xa (s:=s1) (H:=H1) (I1.QN ok) (J6.QN ok) un6 sa na ?_,Inv.Xa (s:=s1) (H:=H1) (I1.QN ok) (J6.QN ok) un6 sa na ?_⟩
 ·exact ⟨⟨oe,vs,he,hc,hdt,hdx⟩,⟨oe,he⟩,λh1 h2 ⟨o1,v1,e1,c1⟩ k=>⟨o1,v1,k o1 e1,c1⟩⟩
 ·exact ⟨⟨oe,he,hc⟩,⟨oe,he⟩,λh1 h2 ⟨o1,e1,c1⟩ k=>⟨o1,k o1 e1,c1⟩⟩
section
variable {X:Cx} {pins:List (Addr × Obj)} {σ:St} {H:Hp} {a:Addr} {cls C:Value} {dx:Option Addr} {s:Shared} {D:Ends} {x n:Str} {i:Nat} {np hpos:Pos} {b₀:Stmt} {suite:List Stmt} {rest:List ExceptHandler} {th:TS} {b:Bool}
theorem CJ (L:oI X pins σ H a cls dx s) (hg:Gl X x) (hm:X.mg x=some C) (hN:X.N.Nodup) (hi:X.N[i]?=some n) (hl:X.env.kindOf n=some .local) (hh:∀ e:Value,Wc (X.hand e) (b₀::suite) th) (hx:W.exmOne X.K cls C=some b)
  (h1:b=true->∃ Dx,cls=.ref Dx/\th (D.gone i) (σ.set i (some (.ref a))) (upd H a (yJ a Dx dx))) (h2:b=false->wpAny (model X.prog X.w) X.A (handleBy (.ref a) X.env rest) (SP X pins D) X.xe s) (hd:(x == ("__debug__":Str))=false:=by decide) :
  wpAny (model X.prog X.w) X.A (handleBy (.ref a) X.env (.ExceptHandler (some (.Name x np)) (some n) (b₀::suite) hpos::rest)) (SP X pins D) X.xe s:=by
 refine wpAny_handleBy_cons (codeAny_handlers_test (gZ (X:=X.hand (.ref a)) L.inv.hand hg hm ?_ hd)) (by intro q;cases q);refine (W.exm_one L.inv.Sb L.ty hx).here ?_
 cases b with
 | false=>exact h2 rfl
 | true =>
  obtain ⟨Dx,hD,q⟩:=h1 rfl;refine codeAny_handlers_suite_as (L.again _ _ _ λh6 J6 I6=>?_);refine jB (X:=X.hand (.ref a)) (v:=.ref a) ((I6 Dx hD).1.hand (e:=.ref a)) hN hi (.inl hl) rfl (λs7 I7=>?_) (.inr hl);refine MX (hh (.ref a) pins s7 _ _ (D.gone i) I7 q) (λf s3 hs=>?_) (λ_ _ z=>z.elim)
  cases f with
  | next=>obtain ⟨σ3,H3,I3,q3⟩:=hs;exact Inv.gone (I3.UG L.ok) hN hi hl λs' J'=>⟨_,H3,J',q3⟩
  | brk=>obtain ⟨σ3,H3,I3,q3⟩:=hs;exact Inv.gone (I3.UG L.ok) hN hi hl λs' J'=>⟨_,H3,J',q3⟩
  | cont=>obtain ⟨σ3,H3,I3,q3⟩:=hs;exact Inv.gone (I3.UG L.ok) hN hi hl λs' J'=>⟨_,H3,J',q3⟩
  | ret u=>obtain ⟨v,σ3,H3,I3,r3,q3⟩:=hs;exact Inv.gone (I3.UG L.ok) hN hi hl λs' J'=>⟨v,_,H3,J',r3,q3⟩
theorem xW (L:oI X pins σ H a cls dx s) (hg:Gl X x) (hm:X.mg x=some C) (hh:∀ e:Value,Wc (X.hand e) (b₀::suite) th) (hx:W.exmOne X.K cls C=some b)
  (h1:b=true->th D σ H) (h2:b=false->wpAny (model X.prog X.w) X.A (handleBy (.ref a) X.env rest) (SP X pins D) X.xe s) (hd:(x == ("__debug__":Str))=false:=by decide) :
  wpAny (model X.prog X.w) X.A (handleBy (.ref a) X.env (.ExceptHandler (some (.Name x np)) none (b₀::suite) hpos::rest)) (SP X pins D) X.xe s:=by
 refine wpAny_handleBy_cons (codeAny_handlers_test (gZ (X:=X.hand (.ref a)) L.inv.hand hg hm ?_ hd)) (by intro q;cases q);refine (W.exm_one L.inv.Sb L.ty hx).here ?_
 cases b with
 | false=>exact h2 rfl
 | true =>
  refine codeAny_handlers_suite (L.again _ _ _ λh6 J6 _=>?_);refine MX (hh (.ref a) pins _ σ H D J6.hand (h1 rfl)) (λf s3 hs=>?_) (λ_ _ z=>z.elim)
  cases f with
  | next=>obtain ⟨σ3,H3,I3,q3⟩:=hs;exact ⟨σ3,H3,I3.UG L.ok,q3⟩
  | brk=>obtain ⟨σ3,H3,I3,q3⟩:=hs;exact ⟨σ3,H3,I3.UG L.ok,q3⟩
  | cont=>obtain ⟨σ3,H3,I3,q3⟩:=hs;exact ⟨σ3,H3,I3.UG L.ok,q3⟩
  | ret u=>obtain ⟨v,σ3,H3,I3,r3,q3⟩:=hs;exact ⟨v,σ3,H3,I3.UG L.ok,r3,q3⟩
end
variable {body:List Stmt} {t:(St->XK)->TS} {pos:Pos}
theorem yq {hs:List ExceptHandler} {E:Ends->St->XK}
  (hb:∀ (pn:List (Addr × Obj)) (xe:Value->Shared->Prop) (E:St->XK),iJ (UC X.prog X.w) { X with pn:=pn,xe:=xe } E->Wc { X with pn:=pn,xe:=xe } body (t E))
  (hand:∀ (pins:List (Addr × Obj)) (D:Ends) (σ:St) (H:Hp) (a:Addr) (cls:Value) (dx:Option Addr) (s:Shared),oI X pins σ H a cls dx s->E D σ cls dx H->wpAny (model X.prog X.w) X.A (handleBy (.ref a) X.env hs) (SP X pins D) X.xe s)
  (hst:X.stack=X.env::X.outer:=by rfl) (hfr:X.env.frame=some X.env.locals:=by rfl) (hne:∃ h t,hs=h::t) :
  PS X (.Try body hs [] [] pos) (λD σ H=>t (E D) D σ H):=by
 intro pins s σ H D I h;obtain ⟨h0,t0,rfl⟩:=hne
 refine wpAny_Try_except (MX (hb (X.pn++pins) (λe s₁=>wpAny (model X.prog X.w) X.A (noteFrame e X.env) (λ_ s₂=>wpAny (model X.prog X.w) X.A (setFlight e none) (λ_ s₃ =>
  wpAny (model X.prog X.w) X.A (handleBy e X.env (h0::t0)) (SP X pins D) X.xe s₃) X.xe s₂) X.xe s₁) _ ?_ [] s σ H D I.Zk h) (λf s1 hf=>?_) λe s1 z=>z)
 ·intro Rq σ' H1 s1 e s2 I1 x1;refine DP I.ok I1 x1 (λa cls dx H' s' he q L=>?_) hst hfr;subst he;exact hand pins D σ' H' a cls dx s' L q
 ·cases f with
  | next=>obtain ⟨σ3,H3,I3,q3⟩:=hf;exact aU pins s1 σ3 H3 D (I3.QN I.ok) q3
  | brk=>obtain ⟨σ3,H3,I3,q3⟩:=hf;exact ⟨σ3,H3,I3.QN I.ok,q3⟩
  | cont=>obtain ⟨σ3,H3,I3,q3⟩:=hf;exact ⟨σ3,H3,I3.QN I.ok,q3⟩
  | ret u=>obtain ⟨v,σ3,H3,I3,r3,q3⟩:=hf;exact ⟨v,σ3,H3,I3.QN I.ok,r3,q3⟩
theorem Dd {th:TS} {x:Str} {C:Value} {np hpos:Pos} {b₀:Stmt} {suite:List Stmt}
  (hb:∀ (pn:List (Addr × Obj)) (xe:Value->Shared->Prop) (E:St->XK),iJ (UC X.prog X.w) { X with pn:=pn,xe:=xe } E->Wc { X with pn:=pn,xe:=xe } body (t E))
  (hg:Gl X x) (hm:X.mg x=some C) (hh:∀ e:Value,Wc (X.hand e) (b₀::suite) th)
  (hst:X.stack=X.env::X.outer:=by rfl) (hfr:X.env.frame=some X.env.locals:=by rfl) (hd:(x == ("__debug__":Str))=false:=by decide) :
  PS X (.Try body [.ExceptHandler (some (.Name x np)) none (b₀::suite) hpos] [] [] pos) (λD σ H=>t (λσ' cls _ H'=>W.exmOne X.K cls C=some true/\th D σ' H') D σ H) :=
 yq (E:=λD σ' cls _ H'=>W.exmOne X.K cls C=some true/\th D σ' H') hb (λ_ _ _ _ _ _ _ _ L q=>xW L hg hm hh q.1 (λ_=>q.2) (λz=>nomatch z) hd) hst hfr ⟨_,_,rfl⟩
theorem zo {CX:Xs} {k:Nat} {f C:Addr} {fd:FuncData} {ps:List Str} {sp:Sp} {Tu:List V} {ds:List Value} {E:St->XK} {m:Str} {apos:Pos} {o:Expr} {ta:TE} {pl:Sem Bool} (he:PE X o ta) (c:VQ X.K C) (hm:lE X.K C m f) (F:PD X.prog X.w X.K X.mg X.base CX k f fd ps sp) (hr:P8 k X.A) (hb:Binds X.K fd ps ds) (hd:Vals Tu ds) (hx:iJ CX X E)
  (ht:eval (.Call (.Attribute o m apos) [] [] pos) X.env=(do
   let ov <- eval o X.env
   standAt apos.atName
   let (f,first) <- holding [ov] (getMethod ov m pl)
   callWith pos f first (backTo pos (starEach [] X.env)) (backToKw pos (keywordEach [] X.env))):=by rfl) :
  PE X (.Call (.Attribute o m apos) [] [] pos) (λσ=>nN C m sp Tu (E σ) ta dH σ):=by
 intro pins s σ H Q I h;refine OR (pl:=pl) (PB (he pins s σ H _ I h) λu s1 ⟨x,H1,I1,rx,a,dx,fs,ex,ea,l,q⟩=>?_) ht;subst ex;obtain rfl:u=Value.ref a:=rx;refine jF I1 ea c hm l ?_;exact Pe (first:=[.ref a]) I1.Sb hm.kp (tN (us:=[.ref a]) (vs:=[.ref a]) F hr hb hd hx I1 (.cons rfl .nil) q)
end L2
namespace L2
open PySem PySem.Spec PyProof.Rows
section
variable {X:Cx}
end
section
variable {K:W.Frag} {σ:St} {H H':Hp} {d d':D} {ds es:List D} {t u ta tb te tl:TE} {tA:TA} {mk:St->St} {jj:Nat}
inductive Vd (K:W.Frag) (H:Hp):List (List D)->List V->Prop
 | nil:Vd K H [] []
 | cons {es:List D} {v:V} {Rc:List (List D)} {vs:List V}:LD K H es v->Vd K H Rc vs->Vd K H (es::Rc) (v::vs)
variable {Rc:List (List D)} {vs:List V}
theorem Vd.length (h:Vd K H Rc vs):Rc.length=vs.length:=by
 induction h with
 | nil=>rfl
 | cons _ _ ih=>simp [ih]
theorem Vd.map (h:Vd K H Rc vs) (f:∀ es v,LD K H es v->LD K H' es v):Vd K H' Rc vs:=by
 induction h with
 | nil=>exact .nil
 | cons h1 _ ih=>exact .cons (f _ _ h1) ih
theorem Pr.ZC (e:Pr H H') (h:Vd K H Rc vs):Vd K H' Rc vs:=h.map λ_ _ z=>e.ld z
theorem Vd.snoc {es:List D} {v:V} (h:Vd K H Rc vs) (h1:LD K H es v):Vd K H (Rc++[es]) (vs++[v]):=by
 induction h with
 | nil=>exact .cons h1 .nil
 | cons k _ ih=>exact .cons k ih
theorem Vd.get (h:Vd K H Rc vs):∀ {i:Nat} {es:List D},Rc[i]?=some es->∃ v,vs[i]?=some v/\LD K H es v:=by
 induction h with
 | nil=>intro i es e;cases e
 | cons k _ ih =>
  intro i es e
  cases i with
  | zero=>cases e;exact ⟨_,rfl,k⟩
  | succ i=>exact ih e
noncomputable def Ys (K:W.Frag) (t:TE) (σ:St) (H:Hp) (Rc:List (List D)):Prop:=∀ H1,Pr H H1->∀ Q:VK,(∀ l ys H',H1 l=none->Pr H1 H'->H' l=some (.lst ys)->Vd K H' Rc ys->Q (.ref l) H')->t σ H1 Q
theorem Ys.use {Q:VK} (h:Ys K t σ H Rc) (q:∀ l ys H',H l=none->Pr H H'->H' l=some (.lst ys)->Vd K H' Rc ys->Q (.ref l) H'):t σ H Q:=h H (Pr.refl H) Q q
noncomputable def Off (K:W.Frag) (H:Hp) (l:Addr) (vs:List V):Prop:=∀ v ∈ vs,v≠.ref l
theorem Vd.grown {l:Addr} {zs zs':List V} (h:Vd K H Rc vs) (off:Off K H l vs) (e:PX l H H') (h1:H l=some (.lst zs)) (h2:H' l=some (.lst zs')):Vd K H' Rc vs:=by
 have g:fA K H H':=e.grow h1 h2
 induction h with
 | nil=>exact .nil
 | cons k _ ih =>refine .cons ?_ (ih λv hv=>off v (Mt _ hv));obtain ⟨a,us,rfl,ha,hd⟩:=k;have na:a≠l:=λz=>off _ Mw (by rw [z]);refine ⟨a,us,rfl,?_,Pq.mono g _ hd⟩;exact ha.elim (λz=>.inl (e _ _ na z)) .inr
end
end L2
namespace L2
open PySem PySem.Spec PySem.Calls PyProof.Rows
section
variable {prog:Program} {w:World} {A:Around} {E:Value->Shared->Prop} {s:Shared} {z TI TO i1 i2 t1 t2:Addr} {k:Nat} {xs ys:Array Value}
end
variable {K:W.Frag} {σ:St} {H:Hp} {tl te:TE} {tt:TT} {mk:St->St} {jj:Nat} {cs:List D}
theorem Dh (h:RL K tl σ H cs) (hc:cs.length<=1000) (p:D->Bool) (h0:(mk σ).set jj none=mk σ)
  (turn:∀ H1 (i:Nat) c v,Pr H H1->cs[i]?=some c->Dat K H1 c v->RT tt ((mk σ).set jj (some v)) H1 (p c)/\RE K te ((mk σ).set jj (some v)) H1 c):RC K (gM (lS K tl) mk (bW jj) tt te) σ H (cs.filter p):=λH1 s Q q=>by
 refine (h.mono s).use λv4 H4 s4 q4=>?_;obtain ⟨l4,Tw,rfl,Sg,W9⟩:=q4;have ll:=W9.length;refine ⟨l4,rfl,⟨Tw,Sg.S7⟩,λl hl=>?_⟩;refine nv (J:=Yw K l4) (n:=Tw.length) (item:=λi=>Tw.getD i .Py) (λG=>PJ K G l4 Tw) (λi G o hi=>oX i G o hi) (λG o=>⟨Tw,o,L7 _⟩) h0 l (λi G=>Pr H4 G/\∃ zs,G l=some (.lst zs)/\Pq K G ((cs.take i).filter p) zs) ⟨aT hl _,[],aM,by rw [M5];exact Pq.nil⟩ (λi G _ w=>w.1.seq Sg.S7) (λi G hi w=>?_) (λG w=>?_)
 ·obtain ⟨sG,zs,hz,dz⟩:=w;have hic:i < cs.length:=by omega
  obtain ⟨vz,ez,hv⟩:=(sG.P0 W9).get (LQ hic);have e1:Tw.getD i .Py=vz:=by rw [Ml,ez];rfl
  simp only [e1];obtain ⟨t1,t2⟩:=turn G i cs[i] vz (s.trans (s4.trans sG)) (LQ hic) hv;have et:cs.take (i+1)=cs.take i++[cs[i]]:=by rw [MP,LQ hic];rfl
  have lz:zs.length<=1000:=by rw [<- dz.length];exact Mr (Ob _ _) (by rw [Mx];omega)
  have lz':zs.length < 1000:=by rw [<- dz.length];exact O8 (Ob _ _) (by rw [Mx];omega)
  refine t1.use λG2 s2=>?_
  cases hp:p cs[i] with
  | true =>
   refine jG ((t2.mono s2).use λv3 G3 s3 q3=>?_);have hz3:=(s2.trans s3) _ _ hz;have bl:PX l G3 (upd G3 l (.lst (zs++[v3]))):=PX.upd (Pr.refl G3).but;have g:fA K G3 (upd G3 l (.lst (zs++[v3]))):=bl.grow hz3 aM;refine ⟨zs,hz3,dJ (by omega),⟨_,rfl⟩,λx o hx=>?_,zs++[v3],aM,?_⟩
   ·rw [aX (bS hx hl)];exact (s2.trans s3) _ _ (sG _ _ hx)
   ·rw [et,OB];have e2:[cs[i]].filter p=[cs[i]]:=by rw [OI,Mc hp];rfl
    rw [e2];exact Pq.append (Pq.mono g _ ((s2.trans s3).P0 dz)) (Pq.cons (Dat.mono g _ q3) Pq.nil)
  | false =>
   refine ji ⟨⟨_,rfl⟩,sG.trans s2,zs,s2 _ _ hz,?_⟩;rw [et,OB];have e2:[cs[i]].filter p=[]:=by rw [OI,LZ (by rw [hp];exact L6)];rfl
   rw [e2,MI];exact s2.P0 dz
 ·obtain ⟨sG,zs,hz,dz⟩:=w;rw [<- ll,MY] at dz;exact q l zs G (s4.free hl) (s4.trans sG) hz dz
variable {X:Cx} {k n:Nat} {pos:Pos}
theorem C6 {es:List Expr} {t:YW} (hK:X.K=K) (hc:X.calm=true) (h:ZT X es t)
  (hn:(assignEach es X.env).length=n:=by rfl) (hst:(assignEach es X.env).findIdx? (·.1)=none:=by rfl):PG X (.Tuple es k pos) (rV K n t):=by
 subst hK;exact iP hc h hn hst
section
variable {elt t0 i0 t1 i1:Expr} {sc:Scope} {pos:Pos}
noncomputable abbrev XH (elt t0 i0 t1 i1:Expr) (sc:Scope) (pos:Pos):Expr:=.ListComp elt [⟨t0,i0,[],0⟩,⟨t1,i1,[],0⟩] sc pos
theorem Ca (it acc:Value) (env:Env):compTurn (XH elt t0 i0 t1 i1 sc pos) 0 it acc env=(standAt i0.pos >>= λ_=>pyNext it >>= λr=>match r with
  | none=>pure (.done .next)
  | some v=>letOwnedTupleGo t0 it v >>= λ_=>assign t0 env v >>= λ_=>eval i1 env >>= λx=>standAt i1.pos >>= λ_=>foldedSetIterable i1 env x >>= λy=>holding [y] (pyIter y) >>= λi =>
    runOwn (.compStart (XH elt t0 i0 t1 i1 sc pos) 1 i acc env) env >>= λ_=>again (.compLoop (XH elt t0 i0 t1 i1 sc pos) 0 it acc env)):=by rfl
theorem DF (it acc:Value) (env:Env):compTurn (XH elt t0 i0 t1 i1 sc pos) 1 it acc env=(standAt i1.pos >>= λ_=>pyNext it >>= λr=>match r with
  | none=>pure (.done .next)
  | some v=>letOwnedTupleGo t1 it v >>= λ_=>assign t1 env v >>= λ_=>(eval elt env >>= λx=>call (.builtin "list.append") [acc,x] >>= λ_=>pure ()) >>= λ_=>again (.compLoop (XH elt t0 i0 t1 i1 sc pos) 1 it acc env)):=by rfl
variable {prog:Program} {w:World} {A:Around} {R:Result->Shared->Prop} {s:Shared} {it acc:Value} {env:Env}
theorem CT (J:Nat->Shared->Prop)
  (turn:∀ n s,J n s->wpAny (model prog w) A (pyNext it) (λr s₁=>match r with
   | none=>R (.ok .next) s₁
   | some v=>wpAny (model prog w) A (letOwnedTupleGo t1 it v) (λ_ s₂=>wpAny (model prog w) A (assign t1 env v) (λ_ s₃ =>
     wpAny (model prog w) A (eval elt env) (λx s₅=>wpAny (model prog w) A (call (.builtin "list.append") [acc,x]) (λ_ s₆=>∃ m,m < n/\J m s₆) (λ_ _=>False) s₅) (λ_ _=>False) s₃) (λ_ _=>False) s₂) (λ_ _=>False) s₁) (λ_ _=>False) s)
  (n:Nat) (h:J n s):codeAny (model prog w) A (.compLoop (XH elt t0 i0 t1 i1 sc pos) 1 it acc env) R s:=by
 refine codeAny_loop rfl J (λn s hJ=>?_) n h;show wpAny (model prog w) A ((compTurn (XH elt t0 i0 t1 i1 sc pos) 1 it acc env).onRaise λx=>do noteFrame x env;theTreesLotGoes x) _ _ s;refine wpAny_noted (Pg ?_);rw [DF];refine LU (M4 (LU (PB (turn n s hJ) λr s₁ h₁=>?_)))
 cases r with
 | none=>exact L8 h₁
 | some v=>exact LU (PB h₁ λ_ s₂ h₂=>LU (PB h₂ λ_ s₃ h₃=>LU (LU (PB h₃ λx s₅ h₅=>LU (PB h₅ λ_ s₆ h₆=>L8 (L8 ⟨rfl,h₆⟩))))))
theorem AX (J:Nat->Shared->Prop)
  (turn:∀ n s,J n s->wpAny (model prog w) A (pyNext it) (λr s₁=>match r with
   | none=>R (.ok .next) s₁
   | some v=>wpAny (model prog w) A (letOwnedTupleGo t0 it v) (λ_ s₂=>wpAny (model prog w) A (assign t0 env v) (λ_ s₃ =>
     wpAny (model prog w) A (eval i1 env) (λx s₄=>wpAny (model prog w) A (pyIter x) (λi s₅=>codeAny (model prog w) A (.compStart (XH elt t0 i0 t1 i1 sc pos) 1 i acc env) (λr s₆=>r=.ok .next/\∃ m,m < n/\J m s₆) s₅) (λ_ _=>False) s₄) (λ_ _=>False) s₃) (λ_ _=>False) s₂) (λ_ _=>False) s₁) (λ_ _=>False) s)
  (n:Nat) (h:J n s) (hs:∀ x,foldedSetIterable i1 env x=pure x):codeAny (model prog w) A (.compLoop (XH elt t0 i0 t1 i1 sc pos) 0 it acc env) R s:=by
 refine codeAny_loop rfl J (λn s hJ=>?_) n h;show wpAny (model prog w) A ((compTurn (XH elt t0 i0 t1 i1 sc pos) 0 it acc env).onRaise λx=>do noteFrame x env;theTreesLotGoes x) _ _ s;refine wpAny_noted (Pg ?_);rw [Ca];refine LU (M4 (LU (PB (turn n s hJ) λr s₁ h₁=>?_)))
 cases r with
 | none=>exact L8 h₁
 | some v =>refine LU (PB h₁ λ_ s₂ h₂=>LU (PB h₂ λ_ s₃ h₃=>LU (PB h₃ λx s₄ h₄=>?_)));refine LU (M4 (LU (wpAny_of_eq (hs x) ?_)));refine LU (Nj (PB h₄ λi s₅ h₅=>LU (wpAny_runOwn (h:=none) (Nq h₅ λr s₆ h₆=>?_))));obtain ⟨rfl,h₆⟩:=h₆;exact L8 ⟨rfl,h₆⟩
theorem B1 (h0:codeAny (model prog w) A (.compLoop (XH elt t0 i0 t1 i1 sc pos) 1 it acc env) R s)
  (h:wpAny (model prog w) A (pyIter it) (λj s'=>codeAny (model prog w) A (.compLoop (XH elt t0 i0 t1 i1 sc pos) 1 j acc env) R s') (λ_ _=>False) s) :
  codeAny (model prog w) A (.compStart (XH elt t0 i0 t1 i1 sc pos) 1 it acc env) R s:=by
 refine codeAny_of_tree ?_;show wpAny _ _ ((compStart (XH elt t0 i0 t1 i1 sc pos) 1 it acc env).onRaise λx=>do noteFrame x env;standAt theWindowsPlace) _ _ s;refine wpAny_notedAt (Pg ?_);unfold compStart;show wpAny _ _ (ask >>= _) _ _ s;refine LU (wpAny_askSetting (wpAny_ite ?_));split
 ·exact L8 ⟨rfl,h0⟩
 ·exact LU (wpAny_rule (LU (M4 (LU (PB h λj s' h'=>L8 ⟨rfl,h'⟩)))))
end
section
variable {X:Cx} {sc:Scope} {cl:List (Str × Addr)} {C:Addr} {N':List Str} {s0:Shared} {H0:Hp} {YG:List Addr}
theorem za {elt t0 i0 t1 i1:Expr} {sc':Scope} {pos:Pos} {pins:List (Addr × Obj)} {σ:St} {H:Hp} {s:Shared} {fp:List Addr} {it:Addr} {J:It} {tn:Nat->Heap->Prop} {g1:TG} {te:TE} {D:Addr} {Nx:St->Hp->Prop}
  (I:Inv (X.Ry sc cl C N' s0 H0 YG) pins σ H s) (hc:X.calm=true) (T:mK X.prog X.w X.K t1 J fp it tn) (st:tn 0 s.heap) (f2:∀ b ∈ fp,jT (X.Ry sc cl C N' s0 H0 YG) pins H b) (hg:PG (X.Ry sc cl C N' s0 H0 YG) t1 g1) (he:PE (X.Ry sc cl C N' s0 H0 YG) elt te)
  (hw:∃ V:Nat->Nat->St->Hp->Prop,(∃ m,V 0 m σ H)/\∀ i m σ' H',V i m σ' H'->(J.stop i H'/\Nx σ' H')\/(J.go i H'/\∃ Ny:St->Hp->Prop,(∀ σ'' PN,Ny σ'' PN->∃ m',m' < m/\V (i+1) m' σ'' PN) /\
   ∀ x PN,J.Vs i H' x PN->g1 x σ' PN λσ2 H2=>te σ2 H2 λv H4=>∃ ys,H4 D=some (.lst ys)/\ys.length < sizeLine/\Ny σ2 (upd H4 D (.lst (ys++[v]))))) :
  codeAny (model X.prog X.w) X.A (.compStart (XH elt t0 i0 t1 i1 sc' pos) 1 (.ref it) (.ref D) (compEnvC sc cl C X.env)) (λr s'=>r=.ok .next/\∃ σ' H',Inv (X.Ry sc cl C N' s0 H0 YG) pins σ' H' s'/\Nx σ' H') s:=by
 obtain ⟨V,⟨m0,v0⟩,turn⟩:=hw;have Ue:∀ {H':Hp},(∀ b ∈ fp,H' b=none)->∀ b ∈ fp,jT (X.Ry sc cl C N' s0 H0 YG) pins H' b:=λhn b hb=>⟨hn b hb,(f2 b hb).2⟩
 have loop:codeAny (model X.prog X.w) X.A (.compLoop (XH elt t0 i0 t1 i1 sc' pos) 1 (.ref it) (.ref D) (compEnvC sc cl C X.env)) (λr s'=>r=.ok .next/\∃ σ' H',Inv (X.Ry sc cl C N' s0 H0 YG) pins σ' H' s'/\Nx σ' H') s:=by
  refine CT (λn s'=>∃ i σ' H',Inv (X.Ry sc cl C N' s0 H0 YG) pins σ' H' s'/\tn i s'.heap/\(∀ b ∈ fp,H' b=none)/\V i n σ' H') ?_ m0 ⟨0,σ,H,I,st,λb hb=>(f2 b hb).1,v0⟩;rintro n s3 ⟨i,σ3,H3,I3,st3,X4,w3⟩;rcases turn i n σ3 H3 w3 with ⟨stop,qn⟩ | ⟨go,Ny,hN,step⟩
  ·refine PB (T.done (X.Ry sc cl C N' s0 H0 YG) rfl rfl rfl hc i pins s3 σ3 H3 _ I3 (Ue X4) st3 stop) λr s4 ⟨hr,I4⟩=>?_;subst hr;exact ⟨rfl,σ3,H3,I4,qn⟩
  ·refine PB (T.item (X.Ry sc cl C N' s0 H0 YG) rfl rfl rfl hc i pins s3 σ3 H3 _ I3 (Ue X4) st3 go) λr s4 ⟨u,hr,h4⟩=>?_;subst hr;refine PB h4 λ_ s5 ⟨x,H5,I5,r5,y5,Xj,YZ⟩=>?_;have Y0:=I5.pinned (Ue YZ) (T.obj _ _ Xj);refine PB (hg _ s5 σ3 H5 x u _ Y0 r5 (step x H5 y5)) λ_ s6 ⟨σ6,H6,I6,q6⟩=>?_;refine PB (he _ s6 σ6 H6 _ I6 q6) λy s8 ⟨v,H8,I8,rv,ys,hD8,hz,nx⟩=>?_;refine PB (bU (X:=(X.Ry sc cl C N' s0 H0 YG)) _ s8 σ6 H8 (.ref D) [v] (.ref D) [y] (λ_ H9=>Ny σ6 H9) I8 rfl (.cons rv .nil) ⟨_,ys,v,rfl,rfl,hD8,hz,nx⟩) λ_ s9 ⟨_,H9,I9,_,n9⟩=>?_;obtain ⟨m',hm,w9⟩:=hN σ6 H9 n9;refine ⟨m',hm,i+1,σ6,H9,I9.Sd,T.keep _ _ _ Xj λb hb o e=>(I9.pin (b,o) (Ms _ (Ms _ (eL hb e)))).1,λb hb=>?_,w9⟩;obtain ⟨o,e,d⟩:=T.obj _ _ Xj b hb;exact (I9.pin (b,o) (Ms _ (Ms _ (eL hb e)))).2.1
 exact B1 loop (T.self _ 0 _ _ _ st loop)
end
noncomputable def B4 (wi:TI) (mk:St->St) (g:TG) (w1:TI) (g1:TG) (te:TE):TE:=λσ H Q=>wi σ H λJ H1=>∀ D,H1 D=none->∃ W:Nat->Nat->St->Hp->Prop,(∃ m,W 0 m (mk σ) (upd H1 D (.lst [])))/\∀ i m σ' H',W i m σ' H' ->
 (J.stop i H'/\Q (.ref D) H') \/
 (J.go i H'/\∃ Nx:St->Hp->Prop,(∀ σ'' PN,Nx σ'' PN->∃ m',m' < m/\W (i+1) m' σ'' PN)/\∀ x PN,J.Vs i H' x PN->g x σ' PN λσ2 H2=>w1 σ2 H2 λJ1 H3=>∃ V:Nat->Nat->St->Hp->Prop,(∃ m,V 0 m σ2 H3)/\∀ j m σ4 H4,V j m σ4 H4->(J1.stop j H4/\Nx σ4 H4) \/
     (J1.go j H4/\∃ Ny:St->Hp->Prop,(∀ σ5 H5,Ny σ5 H5->∃ m',m' < m/\V (j+1) m' σ5 H5)/\∀ y H5,J1.Vs j H4 y H5->g1 y σ4 H5 λσ6 H6=>te σ6 H6 λv H7=>∃ ys,H7 D=some (.lst ys)/\ys.length < sizeLine/\Ny σ6 (upd H7 D (.lst (ys++[v])))))
section
variable {X:Cx} {elt iter tg t1 i1:Expr} {sc:Scope} {pos:Pos} {wi w1:TI} {own:List Str} {fr:List Nat} {N':List Str} {g g1:TG} {te:TE}
theorem yS {pins:List (Addr × Obj)} {σ:St} {H:Hp} {s:Shared} {cl:List (Str × Addr)} {fp:List Addr} {it:Addr} {J:It} {tn:Nat->Heap->Prop} {E:Value->Shared->Prop} {Q:VK} {RR:Value->Addr->Result->Shared->Prop}
  (hs1:∀ (cl:List (Str × Addr)) (C:Addr) (x:Value),foldedSetIterable i1 (compEnvC sc cl C X.env) x=pure x) (I:Inv X pins σ H s) (B:Blk X.N X.env.kindOf sc.names own fr N') (hk:sc.kind=.function) (hc:X.calm=true)
  (sub:∀ x c,cl.lookup x=some c->X.env.cells.lookup x=some c) (has:∀ p ∈ sc.names,p.2=.free->cl.lookup p.1=X.env.cells.lookup p.1)
  (T:mK X.prog X.w X.K tg J fp it tn) (st:tn 0 s.heap) (f2:∀ b ∈ fp,jT X pins H b)
  (hg:∀ cl C s H fp,PG (X.Ry sc cl C N' s H fp) tg g) (hI1:∀ cl C s H fp,PI (X.Ry sc cl C N' s H fp) t1 i1 w1) (hg1:∀ cl C s H fp,PG (X.Ry sc cl C N' s H fp) t1 g1) (he:∀ cl C s H fp,PE (X.Ry sc cl C N' s H fp) elt te)
  (hw:∀ D,H D=none->∃ W:Nat->Nat->St->Hp->Prop,(∃ m,W 0 m (Xu own fr σ) (upd H D (.lst [])))/\∀ i m σ' H',W i m σ' H' ->
   (J.stop i H'/\Q (.ref D) H') \/
   (J.go i H'/\∃ Nx:St->Hp->Prop,(∀ σ'' PN,Nx σ'' PN->∃ m',m' < m/\W (i+1) m' σ'' PN)/\∀ x PN,J.Vs i H' x PN->g x σ' PN λσ2 H2=>w1 σ2 H2 λJ1 H3=>∃ V:Nat->Nat->St->Hp->Prop,(∃ m,V 0 m σ2 H3)/\∀ j m σ4 H4,V j m σ4 H4->(J1.stop j H4/\Nx σ4 H4) \/
     (J1.go j H4/\∃ Ny:St->Hp->Prop,(∀ σ5 H5,Ny σ5 H5->∃ m',m' < m/\V (j+1) m' σ5 H5)/\∀ y H5,J1.Vs j H4 y H5->g1 y σ4 H5 λσ6 H6=>te σ6 H6 λv H7=>∃ ys,H7 D=some (.lst ys)/\ys.length < sizeLine/\Ny σ6 (upd H7 D (.lst (ys++[v]))))))
  (hRR:∀ D C σ' H' s',D=s.heap.objs.size->s.heap.objs.size<=C->Inv (X.Ry sc cl C N' s H fp) [] σ' H' s'->Q (.ref D) H'->RR (.ref D) C (.ok .next) s') :
  wpAny (model X.prog X.w) X.A (newList []) (λacc s₃=>wpAny (model X.prog X.w) X.A (newFunctionEnv sc X.env.globals cl [] X.env.qual none .none (some X.env)) (λcenv s₄ =>
   codeAny (model X.prog X.w) X.A (.compStart (.ListComp elt [⟨tg,iter,[],0⟩,⟨t1,i1,[],0⟩] sc pos) 0 (.ref it) acc { cenv with scope:=relabel sc X.env }) (RR acc cenv.locals) s₄) E s₃) E s:=by
 have fo:∀ b ∈ fp,b < s.heap.objs.size:=λb hb=>by obtain ⟨o,e,_⟩:=T.obj _ _ st b hb;exact Mi e
 refine Nm (wpAny_newFunctionEnv B.cell (by intro y hy;simp at hy) (λh₁ hns₁ hsb₁=>?_) hk);dsimp only at hns₁ hsb₁ ⊢;generalize YB:s.heap.push { cls:=.type "list",dict:=none,data:=.seq ([]:List Value).toArray }=G at hns₁ hsb₁ ⊢;have hG:G.objs.size=s.heap.objs.size+1:=by rw [<- YB,MW]
 have hlt:s.heap.objs.size < G.objs.size:=by rw [hG];exact Nh _
 have old:∀ b o,s.heap.get? b=some o->h₁.get? b=some o:=λb o e =>
  hsb₁.extBut b o (Mq (Ni (Mi e) hlt)) (LX _ (YB ▸ LX _ e))
 have hacc:h₁.get? s.heap.objs.size=some { cls:=.type "list",data:=.seq ([]:List Value).toArray } :=
  hsb₁.extBut _ _ (Mq hlt) (LX _ (YB ▸ Mu _ rfl))
 obtain ⟨W,⟨m0,w0⟩,turn⟩:=hw s.heap.objs.size (I.hok.fresh (L7 _));have st₁:tn 0 h₁:=T.keep _ _ _ st λb _ o e=>old b o e
 have YC:h₁.Ns G.objs.size (λ_=>none):=by
  have e:(λx=>([]:List (Str × Value)).reverse.lookup x)=(λ_:Str=>(none:Option Value)):=by funext x;rfl
  first
   | exact hns₁
   | (rw [e] at hns₁;exact hns₁)
 have loop:∀ s₃:Shared,s₃={ s with heap:=h₁,toks:=s.toks+([]:List (Str × Value)).length } ->
   codeAny (model X.prog X.w) X.A (.compLoop (.ListComp elt [⟨tg,iter,[],0⟩,⟨t1,i1,[],0⟩] sc pos) 0 (.ref it) (.ref s.heap.objs.size) (compEnvC sc cl G.objs.size X.env)) (RR (.ref s.heap.objs.size) G.objs.size) s₃:=by
  rintro s₃ rfl;have I0:=qL (tk:=s.toks+([]:List (Str × Value)).length) I B hk sub has f2 fo rfl hlt YC old hacc
  have Ue:∀ {Rq:List (Addr × Obj)} {H':Hp},Rq=[]->(∀ b ∈ fp,H' b=none)->∀ b ∈ fp,jT (X.Ry sc cl G.objs.size N' s H fp) Rq H' b:=λep hn b hb=>by
   subst ep;refine ⟨hn b hb,Mq (Ni (fo b hb) hlt),λz=>?_,.inl hb,λx c e=>(f2 b hb).2.2.2.2.1 x c (sub x c e),λp hp=>absurd (show p ∈ ([]:List (Addr × Obj)) from hp) (by simp)⟩;rcases Mm.mp (I.Vb b z) with e | e
   ·exact (f2 b hb).2.1 e
   ·exact (f2 b hb).2.2.1 e
  have fr0:∀ b ∈ fp,upd H s.heap.objs.size (.lst []) b=none:=λb hb=>by rw [aX (Mq (fo b hb))];exact (f2 b hb).1
  refine AX (λn s'=>∃ i σ' H',Inv (X.Ry sc cl G.objs.size N' s H fp) [] σ' H' s'/\tn i s'.heap/\(∀ b ∈ fp,H' b=none)/\W i n σ' H') ?_ m0 ⟨0,_,_,I0,st₁,fr0,w0⟩ (hs1 _ _);rintro n s3 ⟨i,σ3,H3,I3,st3,X4,w3⟩;rcases turn i n σ3 H3 w3 with ⟨stop,qn⟩ | ⟨go,Nx,hN,step⟩
  ·refine PB (T.done (X.Ry sc cl G.objs.size N' s H fp) rfl rfl rfl hc i [] s3 σ3 H3 _ I3 (Ue rfl X4) st3 stop) λr s4 ⟨hr,I4⟩=>?_;subst hr;exact hRR _ _ _ _ _ rfl (Np hlt) I4 qn
  ·refine PB (T.item (X.Ry sc cl G.objs.size N' s H fp) rfl rfl rfl hc i [] s3 σ3 H3 _ I3 (Ue rfl X4) st3 go) λr s4 ⟨u,hr,h4⟩=>?_;subst hr;refine PB h4 λ_ s5 ⟨x,H5,I5,r5,y5,Xj,YZ⟩=>?_;have Y0:=I5.pinned (Ue rfl YZ) (T.obj _ _ Xj);refine PB (hg cl G.objs.size s H fp _ s5 σ3 H5 x u _ Y0 r5 (step x H5 y5)) λ_ s6 ⟨σ6,H6,I6,q6⟩=>?_
   have again:∀ {s8:Shared} {σ8:St} {H8:Hp},Inv (X.Ry sc cl G.objs.size N' s H fp) ([]++kY fp s5.heap) σ8 H8 s8->Nx σ8 H8 ->
     ∃ m,m < n/\∃ i σ' H',Inv (X.Ry sc cl G.objs.size N' s H fp) [] σ' H' s8/\tn i s8.heap/\(∀ b ∈ fp,H' b=none)/\W i m σ' H':=λ{s8 σ8 H8} I8 n8=>by
    obtain ⟨m',hm,w8⟩:=hN σ8 H8 n8;refine ⟨m',hm,i+1,σ8,H8,I8.Sd,T.keep _ _ _ Xj λb hb o e=>(I8.pin (b,o) (Ms _ (Ms _ (eL hb e)))).1,λb hb=>?_,w8⟩;obtain ⟨o,e,d⟩:=T.obj _ _ Xj b hb;exact (I8.pin (b,o) (Ms _ (Ms _ (eL hb e)))).2.1
   refine PB (hI1 cl G.objs.size s H fp _ s6 σ6 H6 _ I6 q6) λx6 s7 h7=>PB h7 λitv s8 h8=>?_;obtain ⟨it1,fp1,tn1,J1,H8,e8,I8,T1,st8,f8,body8⟩:=h8;subst e8;exact Nq (za I8 hc T1 st8 f8 (hg1 cl G.objs.size s H fp) (he cl G.objs.size s H fp) body8) λr s9 ⟨hr,σ9,H9,I9,n9⟩=>⟨hr,again I9 n9⟩
 exact OG (loop _ rfl) (T.self _ 0 _ _ _ st₁ (loop _ rfl))
theorem vc {i:Nat} {y:Str} {py spos:Pos} (hi:PI X tg iter wi) (hk:sc.kind=.function) (hb:dX X.N X.env.kindOf sc.names own fr N'=true) (hc:X.calm=true)
  (hg:∀ cl C s H fp,PG (X.Ry sc cl C N' s H fp) tg g) (hI1:∀ cl C s H fp,PI (X.Ry sc cl C N' s H fp) t1 i1 w1) (hg1:∀ cl C s H fp,PG (X.Ry sc cl C N' s H fp) t1 g1) (he:∀ cl C s H fp,PE (X.Ry sc cl C N' s H fp) elt te)
  (hN:X.N.Nodup) (hy:X.N[i]?=some y) (hx:X.env.scope.names.lookup y=some .local)
  (hsw:swapsWith (.ListComp elt [⟨tg,iter,[],0⟩,⟨t1,i1,[],0⟩] sc pos) (some (.Name y py)) spos.line X.env=pure true)
  (hs:∀ x,foldedSetIterable iter X.env x=pure x:=by intro _;rfl) (hs1:∀ (cl:List (Str × Addr)) (C:Addr) (x:Value),foldedSetIterable i1 (compEnvC sc cl C X.env) x=pure x:=by intro _ _ _;rfl):PS X (.Assign [.Name y py] (.ListComp elt [⟨tg,iter,[],0⟩,⟨t1,i1,[],0⟩] sc pos) spos) (lA (B4 wi (Xu own fr) g w1 g1 te) (bW i)):=by
 intro pins s σ H D I h;have B:=vU hb;obtain ⟨cl,hcl,sub,has⟩:=Ap sc X.env λp hp e=>I.ok.has p.1 (B.free p hp e);rw [OM _ _ _ _ hsw];refine LU (M4 (LU ?_));show wpAny _ _ (do let _ <- comprehension (.ListComp elt [⟨tg,iter,[],0⟩,⟨t1,i1,[],0⟩] sc pos) sc X.env _ (newList []) false (eval iter X.env) (some (assign (.Name y py) X.env))) _ _ s
 refine LU (MX (Nv (use:=some (assign (.Name y py) X.env)) (Q:=λ_ s'=>SP X pins D .next s') rfl hs hcl hk B.loc
  (PB (hi pins s σ H _ I h) λv s1 h1=>PB h1 λitv s2 h2=>?_)) (λ_ s' hq=>L8 (L8 hq)) λ_ _ e=>e)
 obtain ⟨it,fp,tn,J,H2,e,I2,T,st2,f2,body⟩:=h2;subst e;refine yS (Q:=λv H'=>D.nx (σ.set i (some v)) H') (RR:=λacc C=>compPost (model X.prog X.w) X.A X.xe (some (assign (.Name y py) X.env)) (λ_ s'=>SP X pins D .next s') acc C) hs1 I2 B hk hc sub has T st2 f2 hg hI1 hg1 he body ?_;intro D' C σ' H' s' eD hC J' q;have I3:=rM I2 f2 J';show wpAny _ _ (assign (.Name y py) X.env (.ref D')) _ _ s';refine OD (ku I3 hN hy (.inl hx) (v:=.ref D') rfl (λs4 I4 ⟨a,hsb,ha⟩=>?_) (.inr hx));obtain ⟨m,hn,_⟩:=J'.loc
 have hCa:C≠a:=by
  rcases ha with e | e
  ·rw [e];exact MR (Mp I2.lt hC)
  ·obtain ⟨v,z⟩:=I2.cell _ _ e;exact MR (Mp z.lt hC)
 refine ⟨m,hn.sameBut hsb hCa,λh' hs'=>⟨_,H',?_,q⟩⟩;exact Inv.young I2 I4 hC J'.free hs'
end
variable {body:List Stmt}
theorem Bt {t:(St->XK)->TS} {hs:List ExceptHandler} {E:Ends->St->XK}
  (hb:∀ (pn:List (Addr × Obj)) (xe:Value->Shared->Prop) (E:St->XK),iJ (UC X.prog X.w) { X with pn:=pn,xe:=xe } E->PassesOwn (model X.prog X.w) X.A X.env xe->Wc { X with pn:=pn,xe:=xe } body (t E))
  (hand:∀ (pins:List (Addr × Obj)) (D:Ends) (σ:St) (H:Hp) (a:Addr) (cls:Value) (dx:Option Addr) (s:Shared),oI X pins σ H a cls dx s->E D σ cls dx H->wpAny (model X.prog X.w) X.A (handleBy (.ref a) X.env hs) (SP X pins D) X.xe s)
  (hst:X.stack=X.env::X.outer:=by rfl) (hfr:X.env.frame=some X.env.locals:=by rfl) (hne:∃ h t,hs=h::t) :
  PS X (.Try body hs [] [] pos) (λD σ H=>t (E D) D σ H):=by
 intro pins s σ H D I h;obtain ⟨h0,t0,rfl⟩:=hne
 refine wpAny_Try_except (MX (hb (X.pn++pins) (λe s₁=>wpAny (model X.prog X.w) X.A (noteFrame e X.env) (λ_ s₂=>wpAny (model X.prog X.w) X.A (setFlight e none) (λ_ s₃ =>
  wpAny (model X.prog X.w) X.A (handleBy e X.env (h0::t0)) (SP X pins D) X.xe s₃) X.xe s₂) X.xe s₁) _ ?_ PassesOwn.looking [] s σ H D I.Zk h) (λf s1 hf=>?_) λe s1 z=>z)
 ·intro Rq σ' H1 s1 e s2 I1 x1;refine DP I.ok I1 x1 (λa cls dx H' s' he q L=>?_) hst hfr;subst he;exact hand pins D σ' H' a cls dx s' L q
 ·cases f with
  | next=>obtain ⟨σ3,H3,I3,q3⟩:=hf;exact aU pins s1 σ3 H3 D (I3.QN I.ok) q3
  | brk=>obtain ⟨σ3,H3,I3,q3⟩:=hf;exact ⟨σ3,H3,I3.QN I.ok,q3⟩
  | cont=>obtain ⟨σ3,H3,I3,q3⟩:=hf;exact ⟨σ3,H3,I3.QN I.ok,q3⟩
  | ret u=>obtain ⟨v,σ3,H3,I3,r3,q3⟩:=hf;exact ⟨v,σ3,H3,I3.QN I.ok,r3,q3⟩
theorem Br {t:(St->XK)->TS} {th:TS} {x:Str} {C:Value} {np hpos:Pos} {b₀:Stmt} {suite:List Stmt}
  (hb:∀ (pn:List (Addr × Obj)) (xe:Value->Shared->Prop) (E:St->XK),iJ (UC X.prog X.w) { X with pn:=pn,xe:=xe } E->PassesOwn (model X.prog X.w) X.A X.env xe->Wc { X with pn:=pn,xe:=xe } body (t E))
  (hg:Gl X x) (hm:X.mg x=some C) (hh:∀ e:Value,Wc (X.hand e) (b₀::suite) th)
  (hst:X.stack=X.env::X.outer:=by rfl) (hfr:X.env.frame=some X.env.locals:=by rfl) (hd:(x == ("__debug__":Str))=false:=by decide) :
  PS X (.Try body [.ExceptHandler (some (.Name x np)) none (b₀::suite) hpos] [] [] pos) (λD σ H=>t (λσ' cls _ H'=>W.exmOne X.K cls C=some true/\th D σ' H') D σ H) :=
 Bt (E:=λD σ' cls _ H'=>W.exmOne X.K cls C=some true/\th D σ' H') hb (λ_ _ _ _ _ _ _ _ L q=>xW L hg hm hh q.1 (λ_=>q.2) (λz=>nomatch z) hd) hst hfr ⟨_,_,rfl⟩
section
variable {K:W.Frag} {σ:St} {H H':Hp} {d d':D} {ds es:List D} {t u ta tb te tl:TE} {tA:TA} {mk:St->St} {jj:Nat} {o:Option (List D)} {os:List (Option (List D))} {vs:List V} {ar:List Ar}
theorem mx {En:Ends} {G:Hp} {j:Nat} {l:Addr} {xs:List V} (h:RC K te σ G es) (hl:G l=some (.lst xs)) (hx:xs.length+es.length<=1000)
  (q:∀ ys G',PX l G G'->G' l=some (.lst (xs++ys))->Pq K G' es ys->En.nx σ G') (hv:σ[j]?=some (some (.ref l)):=by rfl):nM (Zv K "list" yu (dW j) (bO te dH)) En σ G:=by
 refine ⟨_,hv,.inl ⟨rfl,_,PJ.of hl⟩,h.use λp vs H1 hp s1 hv1 q1=>?_⟩;have hl1:=s1 _ _ hl;have lv:=q1.length;refine ⟨l,p,xs,vs,rfl,rfl,hl1,hv1,jg (by omega),?_⟩;have b:PX l H1 (upd H1 l (.lst (xs++vs))):=PX.upd (Pr.refl _).but;exact q vs _ (s1.but.trans b) aM (Pq.mono (b.grow hl1 aM) _ q1)
end
section
variable {prog:Program} {w:World} {A:Around} {E:Value->Shared->Prop} {s:Shared}
variable {t sl:Addr} {items:Array Value}
theorem kS {x y z:Value} {Q:Value->Shared->Prop} (ht:IsTup s.heap t items) (hs:s.heap.IsSliceOf sl x y z)
  (h:wpAny (model prog w) A.in1 (Builtin.Slice.sliceApplied (.ref sl) (pure (items.size:Int))) (λr s1=>wpAny (model prog w) A.in1 (do
   if r.1 == 0 && r.2.1 == 1 && r.2.2 == items.size then
    if <- Builtin.Tuple.tupleIsExact (.ref t) then rule "tuple.getitem.whole";return <- ret (.ref t)
   return <- ret (<- Builtin.Tuple.tupleExact ((List.range r.2.2).filterMap λ(k:Nat)=>items[(r.1+(k:Int) * r.2.1).toNat]?).toArray)) (λfin s'=>∃ v,fin=.done (.ret v)/\Q v s') E s1) E s):wpAny (model prog w) A (getItem (.ref t) (.ref sl)) Q E s:=by
 obtain ⟨os,hos,hcs,hds⟩:=id hs;have hTs:s.TypeIs (.ref sl) "slice":=⟨os,hos,hcs⟩
 unfold getItem
 try with_reducible refine Nj ?_
 first | refine LU (L8 ?_) | skip
 refine LU (wpAny_sequenceKey ht.typeIs (by decide) (LU (NZ (name:=Str.ofString "__getitem__") ht.typeIs MU
  (Oh MU ht.typeIs entry_tuple_getitem ?_ (args_tuple_getitem _ _)))))
 show wpAny _ _ (Builtin.Tuple.tupleItemsOf (.ref t) >>= _) _ _ s;refine LU (tupleItemsOf_ ht (LU (wpAny_typeOf hTs ?_)));rw [Mc (by decide)];refine LU (MX h (λr s1 k=>?_) λ_ _ z=>z);obtain ⟨lo,step,n⟩:=r;refine MX k (λfin s2 ⟨v,e,q⟩=>⟨v,e,L8 q⟩) λ_ _ z=>z
theorem lR {vl vu:Value} {lo hi:Option Int} {Q:Value->Shared->Prop} (ht:IsTup s.heap t items) (hs:s.heap.IsSliceOf sl vl vu .none) (pl:IsPart vl lo) (pu:IsPart vu hi)
  (hw:HT.QF items.size 0 lo=0/\HT.QF items.size items.size hi=items.size) (h:Q (.ref t) s):wpAny (model prog w) A (getItem (.ref t) (.ref sl)) Q E s:=by
 refine kS ht hs (HT.Tz hs pl pu ?_);rw [hw.1,hw.2];dsimp only;rw [Mc (by simp)];unfold Builtin.Tuple.tupleIsExact;refine LU (LU (wpAny_typeOf ht.typeIs (L8 ?_)));rw [Mc (by decide)];refine LU (wpAny_rule ?_);exact LU (L8 (L8 ⟨_,rfl,h⟩))
end
noncomputable def E4 (K:W.Frag):V->Option Int->Option Int->Hp->VK->Prop:=λx lo hi H Q=>∃ a xs,x=.ref a/\QE K H a xs/\(HT.QF xs.length 0 lo=0/\HT.QF xs.length xs.length hi=xs.length->Q x H) /\
 (¬ (HT.QF xs.length 0 lo=0/\HT.QF xs.length xs.length hi=xs.length)->∀ p,H p=none->Q (.ref p) (upd H p (.tup (lM xs lo hi))))
theorem DB:Zf X (E4 X.K):=λpins s σ H x v vl vu lo hi sl Q I rx hs pl pu ⟨a,xs,ex,hx,h1,h2⟩=>by
 by_cases hw:HT.QF xs.length 0 lo=0/\HT.QF xs.length xs.length hi=xs.length
 ·subst ex;cases rx;obtain ⟨its,r,ht,hz⟩:=I.tuple hx;have hlen:its.toArray.size=xs.length:=by rw [Me];exact r.length.symm
  exact ⟨"tuple",_,MU.lookup,ht.typeIs,lR ht hs pl pu (by rw [hlen];exact hw) ⟨.ref a,H,I,rfl,h1 hw⟩⟩
 ·exact tQ pins s σ H x v vl vu lo hi sl Q I rx hs pl pu ⟨a,xs,ex,hx,hw,h2 hw⟩
noncomputable def DV (K:W.Frag):R2:=λx y H Q=>∃ a b ys,x=.ref a/\y=.ref b/\QE K H a []/\QE K H b ys/\Q (.ref b) H
theorem Y9:Se X (binaryOp .Add) (DV X.K):=λpins s σ H x y v u Q I rx ry ⟨a,b,ys,ex,ey,ha,hb,q⟩=>by subst ex ey;cases rx;cases ry;obtain ⟨i1,r1,p1,_⟩:=I.tuple ha;obtain ⟨i2,r2,p2,_⟩:=I.tuple hb;have e1:=r1.Wy.mpr rfl;subst e1;obtain ⟨⟨c1,d1,t1,l1⟩,o1,k1,n1,m1⟩:=id p1;obtain ⟨⟨c2,d2,t2,l2⟩,o2,k2,n2,m2⟩:=id p2;simp only at k1 m1 k2 m2;subst k1 m1 k2 m2;exact concat_meets ⟨_,o1,rfl⟩ ⟨_,o2,rfl⟩ noFill_tuple_add seq_tuple_add F.slot_tuple_add Pj (O7 _ _) (tuple_addW0 a b _ _ n1 n2 d1 d2 l1 l2 rfl) ⟨o1,o2,.ref b,H,I,rfl,q⟩
noncomputable def ve (K:W.Frag):R2:=λx y H Q=>DV K x y H Q\/DX K x y H Q
theorem sQ:Se X (binaryOp .Add) (ve X.K):=Y9.or C0
section
variable {K:W.Frag} {σ:St} {H H':Hp} {d:D} {ds es:List D} {t u ta tb te:TE} {n:Nat}
theorem Dk {tl th:TO} {lo hi:Option Int} (h:RE K t σ H (.tup ds)) (hl:∀ H1,Pr H H1->∀ Q:Option Int->Hp->Prop,(∀ H2,Pr H1 H2->Q lo H2)->tl σ H1 Q) (hh:∀ H1,Pr H H1->∀ Q:Option Int->Hp->Prop,(∀ H2,Pr H1 H2->Q hi H2)->th σ H1 Q)
  (ec:∀ {α:Type} (xs:List α),xs.length=ds.length->True) (es:List D) (cut:∀ H1 vs,Pq K H1 ds vs->Pq K H1 es (lM vs lo hi)) (whole:∀ H1 vs,Pq K H1 ds vs->HT.QF vs.length 0 lo=0/\HT.QF vs.length vs.length hi=vs.length->Pq K H1 es vs):RE K (Zs (E4 K) t tl th) σ H (.tup es):=λH1 s Q q =>
 h H1 s _ λv H2 s2 q2=>hl H2 (s.trans s2) _ λH3 s3=>hh H3 (s.trans (s2.trans s3)) _ λH4 s4=>by obtain ⟨a,vs,ev,hq,hd⟩:=((s3.trans s4).dat q2).P7;subst ev;refine ⟨a,vs,rfl,hq,λhw=>q _ _ (s2.trans (s3.trans s4)) (Dat.tupI hq (whole _ _ hd hw)),λ_ p hp=>?_⟩;exact q _ _ (s2.trans (s3.trans (s4.trans (aT hp _)))) (Dat.tupI (QE.of aM) ((aT hp _).P0 (cut _ _ hd)))
theorem DE (H:Hp):∀ H1,Pr H H1->∀ Q:Option Int->Hp->Prop,(∀ H2,Pr H1 H2->Q none H2)->oH σ H1 Q:=λH1 _ Q q=>q _ (Pr.refl _)
theorem Fx {i:Int} (h:RE K te σ H (.int i)):∀ H1,Pr H H1->∀ Q:Option Int->Hp->Prop,(∀ H2,Pr H1 H2->Q (some i) H2)->kN te σ H1 Q:=λH1 s Q q=>h H1 s _ λv H2 s2 q2=>⟨i,q2.Pz,q _ s2⟩
theorem Fg (h:RE K t σ H (.tup ds)) (h2:RE K tb σ H (.int n)):RE K (Zs (E4 K) t oH (kN tb)) σ H (.tup (ds.take n)) :=
 Dk h (DE H) (Fx h2) (λ_ _=>trivial) (ds.take n) (λH1 vs hd=>by rw [Ex];exact Pq.XA hd) λH1 vs hd hw=>by have hl:=hd.length;have k:=hw.2;rw [HT.U0] at k;rw [Nr (by omega)];exact hd
theorem An {x y:V} {Q:VK} (h1:Dat K H (.tup ds) x) (h2:Dat K H (.tup es) y) (hl:ds.length+es.length<=1000) (q:∀ v H',Pr H H'->Dat K H' (.tup (ds++es)) v->Q v H'):ve K x y H Q:=by
 obtain ⟨a,xs,ea,ha,da⟩:=h1.P7;obtain ⟨b,ys,eb,hb,db⟩:=h2.P7;have l1:=da.length;have l2:=db.length
 cases ds with
 | nil =>have e:=da.Vc;subst e;exact .inl ⟨a,b,ys,ea,eb,ha,hb,q _ _ (Pr.refl _) (Dat.tupI hb db)⟩
 | cons d ds =>
  refine .inr ⟨a,b,xs,ys,ea,eb,ha,hb,λz=>?_,jg (by omega),λz=>?_,λ_ p hp=>?_⟩
  ·rw [z] at l1;cases l1
  ·have e:es=[]:=List.length_eq_zero_iff.mp (by rw [l2,z];rfl);subst e;rw [MI] at q;exact q _ _ (Pr.refl _) (Dat.tupI ha da)
  ·exact q _ _ (aT hp _) (Dat.tupI (QE.of aM) ((aT hp _).P0 (Pq.append da db)))
theorem tD (h1:RE K ta σ H (.tup ds)) (h2:RE K tb σ H (.tup es)) (hl:ds.length+es.length<=1000):RE K (S8 (ve K) ta tb) σ H (.tup (ds++es)):=λH1 s Q q =>
 h1 H1 s _ λv H2 s2 q2=>h2 H2 (s.trans s2) _ λw H3 s3 q3=>An (s3.dat q2) q3 hl λv H' s' k=>q v H' (s2.trans (s3.trans s')) k
theorem pO (h:RE K t σ H (.tup es)):RC K (WB (λxs H Q=>∃ p ys,xs=[.ref p]/\(PJ K H p ys\/QE K H p ys)/\∀ l,H l=none->Q (.ref l) (upd H l (.lst ys))) (bO t dH)) σ H es:=λH1 s Q q =>
 je ((h.mono s).use λv H' s' hd=>by
  obtain ⟨a,vs,e,hq,hds⟩:=hd.P7;subst e;exact ⟨a,vs,rfl,.inr hq,λl hl=>q l vs _ (s'.free hl) (s'.trans (aT hl _)) aM ((aT hl _).P0 hds)⟩)
end
section
variable {K:W.Frag} {tl te:TE} {mk:St->St} {i j kk:Nat} {σ:St} {H:Hp} {cs es:List D} {wv:V}
theorem Fc (f:D->D->D) (h:RL K tl σ H cs) (hw:LD K H es wv) (hk:(mk σ)[kk]?=some (some wv)) (hki:kk≠i) (hkj:kk≠j) (hij:i≠j) (hl:cs.length * es.length<=1000) (h0:(mk σ).set i none=mk σ) (h1:(mk σ).set j none=mk σ)
  (turn:∀ G c v e w,Pr H G->c ∈ cs->e ∈ es->Dat K G c v->Dat K G e w->RE K te (((mk σ).set i (some v)).set j (some w)) G (f c e)) :
  RC K (B4 (lS K tl) mk (bW i) (lS K (dW kk)) (bW j) te) σ H (cs.flatMap λc=>es.map (f c)):=λH1 s Q q=>by
 obtain ⟨lw,yw,rfl,hyw,hdw⟩:=hw;have lenw:=hdw.length
 have S1:∀ z z' v,(((mk σ).set i z).set j z').set i v=((mk σ).set i v).set j z':=λz z' v=>by rw [List.set_comm _ _ hij.symm,Oa]
 have S2:∀ z z' v,(((mk σ).set i z).set j z').set j v=((mk σ).set i z).set j v:=λz z' v=>by rw [Oa]
 have S0:((mk σ).set i none).set j none=mk σ:=by rw [h0,h1]
 have SK:∀ z z',(((mk σ).set i z).set j z')[kk]?=some (some (.ref lw)):=λz z'=>by rw [NS hkj.symm,NS hki.symm];exact hk
 refine (h.mono s).use λv4 H4 s4 q4=>?_;have q4':=q4;obtain ⟨l4,Tw,rfl,Sg,W9⟩:=q4;have ZD:=W9.length;have sH:=s.trans s4;refine ⟨l4,rfl,⟨Tw,Sg.S7⟩,λD hD=>?_⟩
 refine ⟨λn m σ' H'=>m=Tw.length - n/\n<=Tw.length/\(∃ z z',σ'=((mk σ).set i z).set j z')/\Pr H4 H'/\∃ us,H' D=some (.lst us)/\Pq K H' ((cs.take n).flatMap λc=>es.map (f c)) us,
  ⟨_,rfl,MK _,⟨none,none,S0.symm⟩,aT hD _,[],aM,by rw [M5];exact Pq.nil⟩,?_⟩
 rintro n m σ' H' ⟨rfl,hn,⟨z,z',rfl⟩,sN,us,Zx,dus⟩;by_cases hlt:n < Tw.length
 ·have hlc:n < cs.length:=by omega
  obtain ⟨vz,ez,hz⟩:=W9.get (LQ hlc);refine .inr ⟨⟨Tw,vz,sN.seq Sg.S7,ez⟩,λσ'' PN=>(∃ z z',σ''=((mk σ).set i z).set j z')/\Pr H4 PN/\∃ us,PN D=some (.lst us)/\Pq K PN ((cs.take (n+1)).flatMap λc=>es.map (f c)) us,λσ'' PN ⟨a1,a2,a3⟩=>⟨Tw.length - (n+1),by omega,rfl,hlt,a1,a2,a3⟩,λx PN yx=>?_⟩;obtain ⟨e1,e2⟩:=yx;subst e1;have ex:=e2 Tw (sN.seq Sg.S7);rw [ez] at ex;cases ex;simp only [bW];rw [S1];refine ⟨_,SK _ _,lw,rfl,⟨yw,(sH.trans sN).seq hyw.S7⟩,?_⟩
  refine ⟨λk m σ4 G=>m=yw.length - k/\k<=yw.length/\(∃ z',σ4=((mk σ).set i (some vz)).set j z')/\Pr H4 G/\∃ us,G D=some (.lst us)/\Pq K G (((cs.take n).flatMap λc=>es.map (f c))++(es.take k).map (f cs[n])) us,
   ⟨_,rfl,MK _,⟨z',rfl⟩,sN,us,Zx,by rw [M5,List.map_nil,MI];exact dus⟩,?_⟩
  rintro k m σ4 G ⟨rfl,hkn,⟨y',rfl⟩,sG,ZZ,hus4,Za⟩;have sHG:=sH.trans sG;by_cases hlk:k < yw.length
  ·have hle:k < es.length:=by omega
   obtain ⟨wz,ew,hwz⟩:=(sHG.P0 hdw).get (LQ hle);refine .inr ⟨⟨yw,wz,sHG.seq hyw.S7,ew⟩,λσ'' PN=>(∃ z',σ''=((mk σ).set i (some vz)).set j z')/\Pr H4 PN/\∃ us,PN D=some (.lst us)/\Pq K PN (((cs.take n).flatMap λc=>es.map (f c))++(es.take (k+1)).map (f cs[n])) us,λσ'' PN ⟨a1,a2,a3⟩=>⟨yw.length - (k+1),by omega,rfl,hlk,a1,a2,a3⟩,λx G2 yx=>?_⟩;obtain ⟨e1,e2⟩:=yx;subst e1;have ex:=e2 yw (sHG.seq hyw.S7);rw [ew] at ex;cases ex;simp only [bW];rw [S2];refine (turn _ cs[n] vz es[k] wz sHG (OJ hlc) (OJ hle) (sG.dat hz) hwz).use λv5 G5 s5 q5=>?_;have hus5:=s5 _ _ hus4;have bb:PX D G5 (upd G5 D (.lst (ZZ++[v5]))):=PX.upd (Pr.refl _).but;have gr:fA K G5 (upd G5 D (.lst (ZZ++[v5]))):=bb.grow hus5 aM
   have lu:ZZ.length<=1000:=by
    rw [<- Za.length,Ma,LR,List.length_flatMap,Mx];refine Mr ?_ hl
    have e1:((cs.take n).map λc=>(es.map (f c)).length)=List.replicate n es.length:=by rw [show (λc=>(es.map (f c)).length)=λ_=>es.length from funext λc=>LR _,List.map_const',Mx];rw [Nat.min_eq_left (by omega)]
    rw [e1,List.sum_replicate_nat];have h2:n * es.length+es.length<=cs.length * es.length:=by rw [<- Pp];exact OU _ hlc
    omega
   refine ⟨ZZ,hus5,dJ lu,⟨some wz,rfl⟩,?_,ZZ++[v5],aM,?_⟩
   ·exact λa o ha=>bb a o (λz=>by rw [z,hD] at ha;cases ha) (s5 _ _ (sG _ _ ha))
   ·rw [List.take_succ,LQ hle,MM,<- NB];exact Pq.append (Pq.mono gr _ (s5.P0 Za)) (Pq.cons (Dat.mono gr _ q5) Pq.nil)
  ·have e:k=yw.length:=by omega
   subst e;refine .inl ⟨⟨yw,sHG.seq hyw.S7,L7 _⟩,⟨_,_,rfl⟩,sG,ZZ,hus4,?_⟩;rw [<- lenw,MY] at Za;rw [List.take_succ,LQ hlc,OZ];simp only [Option.toList,N7,List.flatMap_nil,MI];exact Za
 ·have e:n=Tw.length:=by omega
  subst e;refine .inl ⟨⟨Tw,sN.seq Sg.S7,L7 _⟩,q D us H' (s4.free hD) (s4.trans sN) Zx ?_⟩;rw [<- ZD,MY] at dus;exact dus
end
section
variable {K:W.Frag} {σ:St} {H:Hp} {d:D} {ds:List D} {t ta tb:TE}
noncomputable abbrev FP (K:W.Frag):R2:=λx y H Q=>Bu K x y H Q\/pN K x y H Q
variable {k:Nat}
theorem pR (h1:RE K ta σ H (.tup ds)) (h2:RE K tb σ H (.int k)) (e:ds[k]?=some d):RE K (S8 (FP K) ta tb) σ H d:=λH1 s Q q =>
 h1 H1 s _ λv H2 s2 q2=>h2 H2 (s.trans s2) _ λw H3 s3 q3=>by obtain ⟨a,vs,ev,hq,hd⟩:=(s3.dat q2).P7;obtain ⟨x,ex,hx⟩:=hd.get e;exact .inr ⟨a,vs,k,x,ev,q3.Pz,hq,ja ex,q _ _ (s2.trans s3) hx⟩
theorem mr (h1:RL K ta σ H ds) (h2:RE K tb σ H (.int k)) (e:ds[k]?=some d):RE K (S8 (FP K) ta tb) σ H d:=λH1 s Q q =>
 h1 H1 s _ λv H2 s2 q2=>h2 H2 (s.trans s2) _ λw H3 s3 q3=>by obtain ⟨a,vs,ev,hq,hd⟩:=s3.ld q2;obtain ⟨x,ex,hx⟩:=hd.get e;exact .inl ⟨a,vs,k,x,ev,q3.Pz,hq.S7,ja ex,q _ _ (s2.trans s3) hx⟩
noncomputable abbrev FR (K:W.Frag):V->Option Int->Option Int->Hp->VK->Prop:=λx lo hi H Q=>E1 K x lo hi H Q\/E3 K x lo hi H Q
variable {lo hi:Nat}
theorem yz (h:RE K t σ H (.tup ds)) (h1:RE K ta σ H (.int lo)) (h2:RE K tb σ H (.int hi)) (hl:1<=lo) (hd:0 < ds.length):RE K (Zs (FR K) t (kN ta) (kN tb)) σ H (.tup ((ds.drop lo).take (hi - lo))):=λH1 s Q q =>
 h H1 s _ λv H2 s2 q2=>h1 H2 (s.trans s2) _ λv3 H3 s3 q3=>⟨lo,q3.Pz,h2 H3 (s.trans (s2.trans s3)) _ λv4 H4 s4 q4=>⟨hi,q4.Pz,by
  obtain ⟨a,vs,ev,hq,hds⟩:=((s3.trans s4).dat q2).P7;have ll:=hds.length;refine .inr ⟨a,vs,ev,hq,λz=>?_,λp hp=>?_⟩
  ·rw [HT.U0] at z;omega
  ·rw [rP];exact q _ _ (s2.trans (s3.trans (s4.trans (aT hp _)))) (Dat.tupI (QE.of aM) ((aT hp _).P0 (Pq.XA (Pq.X8 hds))))⟩⟩
theorem yy (h:RL K t σ H ds) (h1:RE K ta σ H (.int lo)) (h2:RE K tb σ H (.int hi)):RC K (Zs (FR K) t (kN ta) (kN tb)) σ H ((ds.drop lo).take (hi - lo)):=λH1 s Q q =>
 h H1 s _ λv H2 s2 q2=>h1 H2 (s.trans s2) _ λv3 H3 s3 q3=>⟨lo,q3.Pz,h2 H3 (s.trans (s2.trans s3)) _ λv4 H4 s4 q4=>⟨hi,q4.Pz,by
  obtain ⟨a,vs,rfl,hq,hds⟩:=(s3.trans s4).ld q2;refine .inl ⟨a,vs,rfl,hq.S7,λp hp=>?_⟩;rw [rP];exact q p _ _ ((s2.trans (s3.trans s4)).free hp) (s2.trans (s3.trans (s4.trans (aT hp _)))) aM ((aT hp _).P0 (Pq.XA (Pq.X8 hds)))⟩⟩
end
variable {J:It} {item:Nat->V} {j:Nat} {σ0:St} {H1:Hp} {Q:VK}
theorem vk {K:PySem.W.Frag}
  (go:∀ i H',Pr H1 H'->i < n->J.go i H'/\∀ x PN,J.Vs i H' x PN->PN=H'/\x=item i) (stop:∀ H',Pr H1 H'->J.stop n H') (h0:σ0.set j none=σ0) (Rc:List (List D)) (hl:Rc.length=n) (hn:n<=1000)
  (turn:∀ i es G,Pr H1 G->Rc[i]?=some es->RC K te (σ0.set j (some (item i))) G es) (fin:∀ l ys H',H1 l=none->Pr H1 H'->H' l=some (.lst ys)->Vd K H' Rc ys->Q (.ref l) H') (l:Addr) (hD:H1 l=none) :
  ∃ W:Nat->Nat->St->Hp->Prop,(∃ m,W 0 m σ0 (upd H1 l (.lst [])))/\∀ i m σ' H',W i m σ' H' ->
   (J.stop i H'/\Q (.ref l) H') \/
   (J.go i H'/\∃ Nx:St->Hp->Prop,(∀ σ'' PN,Nx σ'' PN->∃ m',m' < m/\W (i+1) m' σ'' PN)/\∀ x PN,J.Vs i H' x PN->bW j x σ' PN λσ2 H2=>fP σ2 H2 λb H3 =>
    if b=true then te σ2 H3 λv H4=>∃ ys,H4 l=some (.lst ys)/\ys.length < sizeLine/\Nx σ2 (upd H4 l (.lst (ys++[v]))) else Nx σ2 H3):=by
 refine ⟨λi m σ' G=>m=n - i/\i<=n/\(∃ z,σ'=σ0.set j z)/\Pr H1 G/\∃ ys,G l=some (.lst ys)/\Vd K G (Rc.take i) ys/\Off K G l ys,⟨n,by omega,MK _,⟨none,h0.symm⟩,aT hD _,[],aM,by rw [M5];exact .nil,λv hv=>by cases hv⟩,?_⟩;rintro i m σ' G ⟨rfl,hle,⟨z,rfl⟩,sG,ys,hy,dy,off⟩;by_cases hlt:i < n
 ·obtain ⟨g,y⟩:=go i G sG hlt;refine .inr ⟨g,λσ'' G'=>(∃ z,σ''=σ0.set j z)/\Pr H1 G'/\∃ ys,G' l=some (.lst ys)/\Vd K G' (Rc.take (i+1)) ys/\Off K G' l ys,λσ'' G' w=>⟨n - (i+1),by omega,rfl,hlt,w.1,w.2⟩,λx G' yx=>?_⟩;obtain ⟨e1,e2⟩:=y x G' yx;subst e1 e2;have hne:i < Rc.length:=by omega
  simp only [bW,fP,N1,Oa];refine RC.use (turn i Rc[i] _ sG (LQ hne)) λr zs G4 hr s4 hz dz=>?_;have Sg:=s4 _ _ hy;have nrl:r≠l:=λz=>by rw [z,hy] at hr;cases hr
  have lys:ys.length=i:=by rw [<- dy.length,Mx];omega
  refine ⟨ys,Sg,dJ (by omega),⟨_,rfl⟩,λx o hx=>?_,ys++[.ref r],aM,?_,?_⟩
  ·rw [aX (bS hx hD)];exact s4 _ _ (sG _ _ hx)
  ·have bl:PX l G4 (upd G4 l (.lst (ys++[.ref r]))):=PX.upd (Pr.refl G4).but;have g:fA K G4 (upd G4 l (.lst (ys++[.ref r]))):=bl.grow Sg aM;rw [MP,LQ hne];exact Vd.snoc (Vd.grown (s4.ZC dy) off bl Sg aM) (LD.of (bl _ _ nrl hz) (Pq.mono g _ dz))
  ·intro v hv;rcases Na.mp hv with hv | hv
   ·exact off v hv
   ·rw [Mv.mp hv];exact λz=>nrl (by injection z)
 ·have e:i=n:=by omega
  subst e;refine .inl ⟨stop G sG,?_⟩;rw [Nr (by omega)] at dy;exact fin l ys G hD sG hy dy
section
variable {K:W.Frag} {σ:St} {H:Hp} {tA:TA} {tl te ta tb:TE} {tc:TT} {mk:St->St} {j n:Nat} {cs:List D}
theorem Dj (h:RA K tA σ H [.int n]) (hc:n<=1000) (Rc:List (List D)) (hl:Rc.length=n) (h0:(mk σ).set j none=mk σ)
  (turn:∀ G (i:Nat) es,Pr H G->Rc[i]?=some es->RC K te ((mk σ).set j (some (.int i))) G es):Ys K (gM (xX tA) mk (bW j) fP te) σ H Rc:=λH1 s Q q=>by
 refine h H1 s _ λvs H2 s2 q2=>?_;obtain ⟨u,e,hu⟩:=hX q2;have eu:=hu.Pz;subst eu e;refine ⟨n,rfl,by omega,by omega,?_⟩;rw [OE];exact vk (K:=K) (item:=λi=>.int i) (λi H' s hi=>wg i H' hi) (λH' s=>L7 _) h0 Rc hl hc (λi es G sG e=>turn G i es (s.trans (s2.trans sG)) e) (λl ys H' hl s'=>q l ys H' (s2.free hl) (s2.trans s'))
theorem kg (h:RL K tl σ H cs) (hc:cs.length<=1000) (Rc:List (List D)) (hl:Rc.length=cs.length) (h0:(mk σ).set j none=mk σ)
  (turn:∀ G (i:Nat) c v es,Pr H G->cs[i]?=some c->Rc[i]?=some es->Dat K G c v->RC K te ((mk σ).set j (some v)) G es):Ys K (gM (lS K tl) mk (bW j) fP te) σ H Rc:=λH1 s Q q=>by
 refine (h.mono s).use λv4 H4 s4 q4=>?_;obtain ⟨l4,Tw,rfl,Sg,W9⟩:=q4;have ll:=W9.length;refine ⟨l4,rfl,⟨Tw,Sg.S7⟩,?_⟩;refine vk (K:=K) (n:=Tw.length) (item:=λi=>Tw.getD i .Py) (λi H' s hi=>oX i H' (s.seq Sg.S7) hi) (λH' s=>⟨Tw,s.seq Sg.S7,L7 _⟩) h0 Rc (by omega) (by omega) (λi es G sG hi=>?_) (λl ys H5 Yk s5=>q l ys H5 (s4.free Yk) (s4.trans s5));have hi':i < Rc.length:=(Mg.mp hi).1;have hic:i < cs.length:=by omega
 obtain ⟨vz,ez,hz⟩:=W9.get (LQ hic);rw [Ml,ez];exact turn G i cs[i] vz es (s.trans (s4.trans sG)) (LQ hic) hi (sG.dat hz)
end
variable {tg l:Expr}
theorem Bl (hK:X.K=K) (hl:PE X l tl):PI X tg l (lS K tl):=by subst hK;exact cU hl
noncomputable def Cx.TH (X:Cx) (sc:Scope) (cl:List (Str × Addr)) (x0:Str) (c0:Addr) (C:Addr) (N:List Str) (s:Shared) (H:Hp) (fp:List Addr):Cx:={ X.Ry sc ((x0,c0)::cl) C N s H fp with fn:=λx=>x == x0 }
structure zO (x0:Str) (N:List Str) (ok:Str->Option NameKind) (names:List (Str × NameKind)) (own:List Str) (fr:List Nat) (N':List Str):Prop where
 eN:N'=own++fr.map λj=>N.getD j ""
 fr:∀ j ∈ fr,j < N.length/\names.lookup (N.getD j "")=some .free
 free:∀ p ∈ names,p.2=.free->ok p.1=some .cell\/ok p.1=some .free
 cell:∀ p ∈ names,p.2=.cell->p.1=x0
 loc:∀ p ∈ names,p.2=.local->names.lookup p.1=some .local
section
variable {X:Cx} {pins:List (Addr × Obj)} {σ:St} {H:Hp} {s:Shared} {sc:Scope} {cl:List (Str × Addr)} {own:List Str} {fr:List Nat} {N':List Str} {fp:List Addr} {x0:Str} {c0:Addr}
variable {C:Addr}
theorem vT (I:Inv X pins σ H s) (B:zO x0 X.N X.env.kindOf sc.names own fr N') (hk:sc.kind=.function)
  (sub:∀ x c,cl.lookup x=some c->X.env.cells.lookup x=some c) (has:∀ p ∈ sc.names,p.2=.free->cl.lookup p.1=X.env.cells.lookup p.1)
  (f2:∀ b ∈ fp,jT X pins H b) (fo:∀ b ∈ fp,b < s.heap.objs.size) {h1:Heap} {tk:Nat} {D:Addr} {n:Nat} (eD:D=s.heap.objs.size) (eC:s.heap.objs.size < C)
  (YH:sc.names.lookup x0=some .cell) (lc0:s.heap.objs.size < c0) (hc0:h1.IsCell c0 none) (hns:h1.Ns C (λ_=>none)) (old:∀ b o,s.heap.get? b=some o->h1.get? b=some o) (hD:h1.get? D=some { cls:=.type "list",data:=.seq ([]:List Value).toArray n }) :
  Inv (X.TH sc cl x0 c0 C N' s H fp) [] (Xu own fr σ) (upd H D (.lst [])) { s with heap:=h1,toks:=tk }:=by
 have WC:∀ x c,cl.lookup x=some c->c < s.heap.objs.size:=λx c e=>by obtain ⟨v,q⟩:=I.cell x c (sub x c e);exact q.lt
 have look:∀ x,x≠x0->List.lookup x ((x0,c0)::cl)=cl.lookup x:=λx hx=>by
  rw [MT];have:(x == x0)=false:=by simpa using hx
  rw [this]
 have Zl:List.lookup x0 ((x0,c0)::cl)=some c0:=by rw [MT];simp
 have cases':∀ x c,List.lookup x ((x0,c0)::cl)=some c->(x=x0/\c=c0)\/(x≠x0/\cl.lookup x=some c):=λx c e=>by
  by_cases hx:x=x0
  ·subst hx;rw [Zl] at e;exact .inl ⟨rfl,(ME e).symm⟩
  ·rw [look x hx] at e;exact .inr ⟨hx,e⟩
 have hDn:H D=none:=I.hok.fresh (NW eD.symm);have kind:∀ x,(X.TH sc cl x0 c0 C N' s H fp).env.kindOf x=(sc.names.lookup x).map (rk X.env x):=λx=>mw sc X.env x
 refine ⟨⟨I.ok.mod,hk,I.ok.glob,I.ok.blt,Np eC,λx y c e1 e2=>?_,λx hx=>?_,(λx c e1 e2=>?_),I.ok.hd,I.ok.frames,.inl rfl,λb hb=>⟨?_,λx c e=>?_⟩,I.bs,Mr I.ok.Yh I.sz,λb o e hb=>?_,λb hb=>?_,I.stack,I.Vr⟩,
  rfl,I.bare,Un.laid old (NW eD.symm) hDn,⟨_,hns,λi x v e1 e2 e3=>?_⟩,λx c e=>?_,?_,λx c e=>?_,λp hp=>?_,I.hok.laid old (NW eD.symm) ⟨MK _,[],n,.nil,hD⟩,?_⟩
 ·rcases cases' x c e1 with ⟨a1,a2⟩ | ⟨a1,a2⟩ <;> rcases cases' y c e2 with ⟨b1,b2⟩ | ⟨b1,b2⟩
  ·rw [a1,b1]
  ·exact absurd (Ni (WC y c b2) (by rw [a2];exact lc0)) (M1 _)
  ·exact absurd (Ni (WC x c a2) (by rw [b2];exact lc0)) (M1 _)
  ·exact I.ok.inj x y c (sub x c a2) (sub y c b2)
 ·have hx':(sc.names.lookup x).map (rk X.env x)=some .cell\/(sc.names.lookup x).map (rk X.env x)=some .free:=by
   rw [<- kind x];exact hx
  cases q:sc.names.lookup x with
  | none=>rw [q] at hx';simp at hx'
  | some k =>
   have hm:=M0 q;by_cases hf:k=.free
   ·subst hf;show ∃ c,List.lookup x ((x0,c0)::cl)=some c;rw [look x (λz=>by rw [z,YH] at q;cases q),has _ hm rfl];have z:=B.free _ hm rfl;exact I.ok.has x z
   ·rw [q] at hx';simp only [Nu,BQ hf] at hx';rcases hx' with z | z
    ·have:=B.cell _ hm (ME z);exact ⟨c0,by rw [show x=x0 from this];exact Zl⟩
    ·exact absurd (ME z) hf
 ·rcases cases' x c e2 with ⟨a1,a2⟩ | ⟨a1,a2⟩
  ·rw [a2];show s.heap.objs.size<=c0;omega
  ·have e1:(x == x0)=true:=e1;exact absurd (by simpa using e1) a1
 ·exact Mq (Ni (fo b hb) eC)
 ·rcases cases' x c e with ⟨a1,a2⟩ | ⟨a1,a2⟩
  ·rw [a2];exact MR (Ni (fo b hb) lc0)
  ·exact (f2 b hb).2.2.2.2.1 x c (sub x c a2)
 ·rcases (f2 b hb).2.2.2.1 with z | z
  ·exact I.ok.Xv b o e z
  ·exact absurd (Mp (Mi e) (Mr I.ok.Yh z)) (M1 _)
 ·intro z;rcases Mm.mp (I.Vb b z) with e | e
  ·exact (f2 b hb).2.1 e
  ·exact (f2 b hb).2.2.1 e
 ·
  have W8:N'[i]?=some x:=e1
  have hi:¬ i < own.length:=λz=>by unfold Xu at e2;rw [Ot (by simpa using z),LV,LQ z] at e2;cases e2
  unfold Xu at e2;rw [Nd (by simpa using hi),LR,LV] at e2;rw [B.eN,Nd (by simpa using hi),LV] at W8
  cases q:fr[i - own.length]? with
  | none=>rw [q] at e2;cases e2
  | some j =>
   rw [q] at e2 W8;simp only [Nu,Option.some.injEq] at e2 W8;obtain ⟨hj,hfr⟩:=B.fr j (Mj q)
   have ej:X.N[j]?=some x:=by rw [<- W8,Ml,LQ hj];rfl
   have eσ:σ[j]?=some (some v):=by
    cases z:σ[j]? with
    | none=>rw [z] at e2;cases e2
    | some o=>rw [z] at e2;simp only [Option.getD_some] at e2;rw [e2]
   rw [W8] at hfr;have hm:=M0 hfr;have hok:=B.free _ hm rfl;obtain ⟨m0,hn0,Zh⟩:=I.loc
   have hv:ZS X.env.scope x:=by
    rcases hok with z | z
    ·exact .inr (.inl z)
    ·exact .inr (.inr z)
   obtain ⟨u,r,l⟩:=Zh j x v ej eσ hv;refine ⟨u,r,?_⟩;rcases l with ⟨z,_⟩ | ⟨_,c,hc,o,ho,hd⟩
   ·have Xl:X.env.kindOf x=some .cell\/X.env.kindOf x=some .free:=hok;rw [z] at Xl;rcases Xl with y | y <;> cases y
   ·refine .inr ⟨?_,c,?_,o,old c o ho,hd⟩
    ·rw [kind x,hfr];rcases yC (env:=X.env) (x:=x) with y | y
     ·exact .inl (by rw [Nu,y])
     ·exact .inr (by rw [Nu,y])
    ·show List.lookup x ((x0,c0)::cl)=some c;rw [look x (λz=>by rw [z,YH] at hfr;cases hfr)];have z:=has _ hm rfl;exact z.trans hc
 ·rcases cases' x c e with ⟨a1,a2⟩ | ⟨a1,a2⟩
  ·rw [a2];exact ⟨none,hc0⟩
  ·obtain ⟨v,o,ho,hd⟩:=I.cell x c (sub x c a2);exact ⟨v,o,old c o ho,hd⟩
 ·show upd H D _ C=none;rw [aX (by rw [eD];exact MR eC)];exact I.hok.fresh (Np eC)
 ·show upd H D _ c=none;rcases cases' x c e with ⟨a1,a2⟩ | ⟨a1,a2⟩
  ·rw [a2,aX (by rw [eD];exact MR (by omega))];exact I.hok.fresh (by omega)
  ·rw [aX (by rw [eD];exact Mq (WC x c a2))];exact I.RY x c (sub x c a2)
 ·exact absurd (show p ∈ ([]:List (Addr × Obj)) from hp) (by simp)
 ·show (Xu own fr σ).length=N'.length;rw [B.eN];simp [Xu]
theorem uk {σ':St} {H':Hp} {s':Shared} (I:Inv X pins σ H s) (f2:∀ b ∈ fp,jT X pins H b) (J:Inv (X.TH sc cl x0 c0 C N' s H fp) [] σ' H' s'):Inv X pins σ H' s' :=
 I.Wb (ch:=fp) J.os J.base J.hok J.bare λb hb=>⟨(f2 b hb).2.2.2.1,(f2 b hb).2.1,(f2 b hb).2.2.2.2.1,(f2 b hb).2.2.2.2.2⟩
end
variable {A:Around} {s:Shared} {x0:Str}
theorem uJ {M:Model} {E:Value->Shared->Prop} {scope:Scope} {globals:Addr} {closure:List (Str × Addr)} {qual:Str} {env:Env} {Q:Env->Shared->Prop} (hcf:∀ n acc,cellsFrom n scope.names acc=(x0,n)::acc) (YI:∀ h,pushCells h scope.names=h.push { cls:=.type "cell",data:=.cell none }) (hk:scope.kind=.function)
  (hQ:Q { scope,locals:=s.heap.objs.size,globals,cells:=(x0,s.heap.objs.size+1)::closure,qual,func:=none,code:=env.code,frame:=env.frame,builtins:=env.builtins } { s with heap:=(s.heap.push { cls:=.type "dict",data:=.dict #[] }).push { cls:=.type "cell",data:=.cell none } }) :
  wpAny M A (newFunctionEnv scope globals closure [] qual none .none (some env)) Q E s:=by
 simp only [newFunctionEnv,Option.isSome_some,N1];refine LU (wpAny_alloc ?_);refine LU (wpAny_layCells _ (λname kind cells=>by cases hkc:kind == NameKind.cell <;> simp [hkc]) _ _ _ _ ?_);rw [hcf,YI];rw [show ({ s with heap:=s.heap.push { cls:=.type "dict",data:=.dict #[] } }:Shared).heap.objs.size=s.heap.objs.size+1 from MW ..];exact LU (L8 (L8 hQ))
section
variable {X:Cx} {elt iter tg:Expr} {ifs:List Expr} {sc:Scope} {pos:Pos} {wi:TI} {own:List Str} {fr:List Nat} {N':List Str} {g:TG} {tt:TT} {te:TE} {x0:Str}
theorem qN {pins:List (Addr × Obj)} {σ:St} {H:Hp} {s:Shared} {cl:List (Str × Addr)} {fp:List Addr} {it:Addr} {J:It} {tn:Nat->Heap->Prop} {E:Value->Shared->Prop} {Q:VK} {RR:Value->Addr->Result->Shared->Prop}
  (I:Inv X pins σ H s) (B:zO x0 X.N X.env.kindOf sc.names own fr N') (hk:sc.kind=.function) (hc:X.calm=true) (YH:sc.names.lookup x0=some .cell) (hcf:∀ n acc,cellsFrom n sc.names acc=(x0,n)::acc) (YI:∀ h,pushCells h sc.names=h.push { cls:=.type "cell",data:=.cell none })
  (sub:∀ x c,cl.lookup x=some c->X.env.cells.lookup x=some c) (has:∀ p ∈ sc.names,p.2=.free->cl.lookup p.1=X.env.cells.lookup p.1)
  (T:mK X.prog X.w X.K tg J fp it tn) (st:tn 0 s.heap) (f2:∀ b ∈ fp,jT X pins H b)
  (hg:∀ cl c0 C s H fp,PG (X.TH sc cl x0 c0 C N' s H fp) tg g) (ht:∀ cl c0 C s H fp,ud (X.TH sc cl x0 c0 C N' s H fp) ifs tt) (he:∀ cl c0 C s H fp,PE (X.TH sc cl x0 c0 C N' s H fp) elt te)
  (hw:∀ D,H D=none->∃ W:Nat->Nat->St->Hp->Prop,(∃ m,W 0 m (Xu own fr σ) (upd H D (.lst [])))/\∀ i m σ' H',W i m σ' H' ->
   (J.stop i H'/\Q (.ref D) H') \/
   (J.go i H'/\∃ Nx:St->Hp->Prop,(∀ σ'' PN,Nx σ'' PN->∃ m',m' < m/\W (i+1) m' σ'' PN)/\∀ x PN,J.Vs i H' x PN->g x σ' PN λσ2 H2=>tt σ2 H2 λb H3 =>
    if b=true then te σ2 H3 λv H4=>∃ ys,H4 D=some (.lst ys)/\ys.length < sizeLine/\Nx σ2 (upd H4 D (.lst (ys++[v]))) else Nx σ2 H3))
  (hRR:∀ D c0 C σ' H' s',D=s.heap.objs.size->s.heap.objs.size<=C->Inv (X.TH sc cl x0 c0 C N' s H fp) [] σ' H' s'->Q (.ref D) H'->RR (.ref D) C (.ok .next) s') :
  wpAny (model X.prog X.w) X.A (newList []) (λacc s₃=>wpAny (model X.prog X.w) X.A (newFunctionEnv sc X.env.globals cl [] X.env.qual none .none (some X.env)) (λcenv s₄ =>
   codeAny (model X.prog X.w) X.A (.compStart (.ListComp elt [⟨tg,iter,ifs,0⟩] sc pos) 0 (.ref it) acc { cenv with scope:=relabel sc X.env }) (RR acc cenv.locals) s₄) E s₃) E s:=by
 have fo:∀ b ∈ fp,b < s.heap.objs.size:=λb hb=>by obtain ⟨o,e,_⟩:=T.obj _ _ st b hb;exact Mi e
 refine Nm (uJ hcf YI hk ?_);dsimp only;generalize YB:s.heap.push { cls:=.type "list",dict:=none,data:=.seq ([]:List Value).toArray }=G;have hG:G.objs.size=s.heap.objs.size+1:=by rw [<- YB,MW]
 have hlt:s.heap.objs.size < G.objs.size:=by rw [hG];exact Nh _
 generalize hh:(G.push { cls:=.type "dict",data:=.dict #[] }).push { cls:=.type "cell",data:=.cell none }=h₁;have oG:∀ b o,G.get? b=some o->h₁.get? b=some o:=λb o e=>by rw [<- hh];exact LX _ (LX _ e)
 have old:∀ b o,s.heap.get? b=some o->h₁.get? b=some o:=λb o e=>oG b o (YB ▸ LX _ e);have hacc:h₁.get? s.heap.objs.size=some { cls:=.type "list",data:=.seq ([]:List Value).toArray }:=oG _ _ (YB ▸ Mu _ rfl)
 have hcl:h₁.IsCell (G.objs.size+1) none:=⟨{ cls:=.type "cell",data:=.cell none },by
  rw [<- hh,show G.objs.size+1=(G.push { cls:=.type "dict",data:=.dict #[] }).objs.size from (MW ..).symm];exact Mu _ rfl,rfl⟩
 have YC:h₁.Ns G.objs.size (λ_=>none):=by rw [<- hh];exact (Heap.Ns.new G (.type "dict")).keeps λb o e=>LX _ e
 obtain ⟨W,⟨m0,w0⟩,turn⟩:=hw s.heap.objs.size (I.hok.fresh (L7 _));have st₁:tn 0 h₁:=T.keep _ _ _ st λb _ o e=>old b o e
 have loop:∀ s₃:Shared,s₃={ s with heap:=h₁,toks:=s.toks } ->
   codeAny (model X.prog X.w) X.A (.compLoop (.ListComp elt [⟨tg,iter,ifs,0⟩] sc pos) 0 (.ref it) (.ref s.heap.objs.size) (compEnvC sc ((x0,G.objs.size+1)::cl) G.objs.size X.env)) (RR (.ref s.heap.objs.size) G.objs.size) s₃:=by
  rintro s₃ rfl;have I0:=vT (tk:=s.toks) I B hk sub has f2 fo rfl hlt YH (N5 hlt) hcl YC old hacc
  have Ue:∀ {Rq:List (Addr × Obj)} {H':Hp},Rq=[]->(∀ b ∈ fp,H' b=none)->∀ b ∈ fp,jT (X.TH sc cl x0 (G.objs.size+1) G.objs.size N' s H fp) Rq H' b:=λep hn b hb=>by
   subst ep;refine ⟨hn b hb,Mq (Ni (fo b hb) hlt),λz=>?_,.inl hb,λx c e=>?_,λp hp=>absurd (show p ∈ ([]:List (Addr × Obj)) from hp) (by simp)⟩
   ·rcases Mm.mp (I.Vb b z) with e | e
    ·exact (f2 b hb).2.1 e
    ·exact (f2 b hb).2.2.1 e
   ·have e:List.lookup x ((x0,G.objs.size+1)::cl)=some c:=e;rw [MT] at e;split at e
    ·rw [<- ME e];exact MR (N5 (Ni (fo b hb) hlt))
    ·exact (f2 b hb).2.2.2.2.1 x c (sub x c e)
  have fr0:∀ b ∈ fp,upd H s.heap.objs.size (.lst []) b=none:=λb hb=>by rw [aX (Mq (fo b hb))];exact (f2 b hb).1
  refine lL (λn s'=>∃ i σ' H',Inv (X.TH sc cl x0 (G.objs.size+1) G.objs.size N' s H fp) [] σ' H' s'/\tn i s'.heap/\(∀ b ∈ fp,H' b=none)/\W i n σ' H') ?_ m0 ⟨0,_,_,I0,st₁,fr0,w0⟩;rintro n s3 ⟨i,σ3,H3,I3,st3,X4,w3⟩;rcases turn i n σ3 H3 w3 with ⟨stop,qn⟩ | ⟨go,Nx,hN,step⟩
  ·refine PB (T.done (X.TH sc cl x0 (G.objs.size+1) G.objs.size N' s H fp) rfl rfl rfl hc i [] s3 σ3 H3 _ I3 (Ue rfl X4) st3 stop) λr s4 ⟨hr,I4⟩=>?_;subst hr;exact hRR _ _ _ _ _ _ rfl (Np hlt) I4 qn
  ·refine PB (T.item (X.TH sc cl x0 (G.objs.size+1) G.objs.size N' s H fp) rfl rfl rfl hc i [] s3 σ3 H3 _ I3 (Ue rfl X4) st3 go) λr s4 ⟨u,hr,h4⟩=>?_;subst hr;refine PB h4 λ_ s5 ⟨x,H5,I5,r5,y5,Xj,YZ⟩=>?_;have Y0:=I5.pinned (Ue rfl YZ) (T.obj _ _ Xj);refine PB (hg cl (G.objs.size+1) G.objs.size s H fp _ s5 σ3 H5 x u _ Y0 r5 (step x H5 y5)) λ_ s6 ⟨σ6,H6,I6,q6⟩=>?_;refine PB (ht cl (G.objs.size+1) G.objs.size s H fp _ s6 σ6 H6 _ I6 q6) λok s7 ⟨H7,I7,q7⟩=>?_
   have again:∀ {s8:Shared} {H8:Hp},Inv (X.TH sc cl x0 (G.objs.size+1) G.objs.size N' s H fp) ([]++kY fp s5.heap) σ6 H8 s8->Nx σ6 H8 ->
     ∃ m,m < n/\∃ i σ' H',Inv (X.TH sc cl x0 (G.objs.size+1) G.objs.size N' s H fp) [] σ' H' s8/\tn i s8.heap/\(∀ b ∈ fp,H' b=none)/\W i m σ' H':=λ{s8 H8} I8 n8=>by
    obtain ⟨m',hm,w8⟩:=hN σ6 H8 n8;refine ⟨m',hm,i+1,σ6,H8,I8.Sd,T.keep _ _ _ Xj λb hb o e=>(I8.pin (b,o) (Ms _ (Ms _ (eL hb e)))).1,λb hb=>?_,w8⟩;obtain ⟨o,e,d⟩:=T.obj _ _ Xj b hb;exact (I8.pin (b,o) (Ms _ (Ms _ (eL hb e)))).2.1
   cases ok with
   | false =>rw [LZ L6] at q7 ⊢;exact again I7 q7
   | true =>rw [Mc rfl] at q7 ⊢;refine PB (he cl (G.objs.size+1) G.objs.size s H fp _ s7 σ6 H7 _ I7 q7) λy s8 ⟨v,H8,I8,rv,ys,hD8,hz,nx⟩=>?_;refine PB (bU (X:=X.TH sc cl x0 (G.objs.size+1) G.objs.size N' s H fp) _ s8 σ6 H8 (.ref s.heap.objs.size) [v] (.ref s.heap.objs.size) [y] (λ_ H9=>Nx σ6 H9) I8 rfl (.cons rv .nil) ⟨_,ys,v,rfl,rfl,hD8,hz,nx⟩) λ_ s9 ⟨_,H9,I9,_,n9⟩=>?_;exact again I9 n9
 exact OG (loop _ rfl) (T.self _ 0 _ _ _ st₁ (loop _ rfl))
theorem Bf (hi:PI X tg iter wi) (hk:sc.kind=.function) (hb:zO x0 X.N X.env.kindOf sc.names own fr N') (YH:sc.names.lookup x0=some .cell) (hcf:∀ n acc,cellsFrom n sc.names acc=(x0,n)::acc) (YI:∀ h,pushCells h sc.names=h.push { cls:=.type "cell",data:=.cell none }) (hc:X.calm=true)
  (hg:∀ cl c0 C s H fp,PG (X.TH sc cl x0 c0 C N' s H fp) tg g) (ht:∀ cl c0 C s H fp,ud (X.TH sc cl x0 c0 C N' s H fp) ifs tt) (he:∀ cl c0 C s H fp,PE (X.TH sc cl x0 c0 C N' s H fp) elt te)
  (hs:∀ x,foldedSetIterable iter X.env x=pure x:=by intro _;rfl):PE X (.ListComp elt [⟨tg,iter,ifs,0⟩] sc pos) (gM wi (Xu own fr) g tt te):=by
 intro pins s σ H Q I h;have B:=hb;obtain ⟨cl,hcl,sub,has⟩:=Ap sc X.env λp hp e=>I.ok.has p.1 (B.free p hp e);rw [eval_ListComp];refine Nv (use:=none) rfl hs hcl hk B.loc (PB (hi pins s σ H _ I h) λv s1 h1=>PB h1 λitv s2 h2=>?_);obtain ⟨it,fp,tn,J,H2,e,I2,T,st2,f2,body⟩:=h2;subst e;refine qN (RR:=λacc C=>compPost (model X.prog X.w) X.A X.xe none (EP X pins σ Q) acc C) I2 B hk hc YH hcf YI sub has T st2 f2 hg ht he body ?_;intro D c0 C σ' H' s' eD hC J' q;obtain ⟨m,hn,_⟩:=J'.loc;refine ⟨m,hn,λh' hs'=>⟨.ref D,H',?_,rfl,q⟩⟩;exact Inv.young I2 (uk I2 f2 J') hC J'.free hs'
end
noncomputable def oq (x0:Str) (N:List Str) (ok:Str->Option NameKind) (names:List (Str × NameKind)) (own:List Str) (fr:List Nat) (N':List Str):Bool :=
 decide (N'=own++fr.map λj=>N.getD j "") && (fr.all λj=>decide (j < N.length) && ED (names.lookup (N.getD j ""))) &&
  names.all λp=>match p.2 with
   | .free=>EC (ok p.1)
   | .cell=>decide (p.1=x0)
   | .local=>EE (names.lookup p.1)
   | _=>true
theorem xF {N:List Str} {ok:Str->Option NameKind} {names:List (Str × NameKind)} {own:List Str} {fr:List Nat} {N':List Str} (h:oq x0 N ok names own fr N'=true):zO x0 N ok names own fr N':=by
 unfold oq at h;rw [LW,LW] at h;obtain ⟨⟨h1,h2⟩,h3⟩:=h;have h3':=MF.mp h3;refine ⟨LS h1,λj hj=>?_,λp hp e=>?_,λp hp e=>?_,λp hp e=>?_⟩
 ·have q:=MF.mp h2 j hj;rw [LW] at q;exact ⟨LS q.1,yf q.2⟩
 ·have q:=h3' p hp;rw [e] at q;exact yd q
 ·have q:=h3' p hp;rw [e] at q;exact LS q
 ·have q:=h3' p hp;rw [e] at q;exact yh q
theorem vj (h:RE K tl σ H (.tup cs)) (hc:cs.length<=1000) (p:D->Bool) (h0:(mk σ).set jj none=mk σ)
  (turn:∀ H1 (i:Nat) c v,Pr H H1->cs[i]?=some c->Dat K H1 c v->RT tt ((mk σ).set jj (some v)) H1 (p c)/\RE K te ((mk σ).set jj (some v)) H1 c):RC K (gM (y9 K tl) mk (bW jj) tt te) σ H (cs.filter p):=λH1 s Q q=>by
 refine (h.mono s).use λv4 H4 s4 q4=>?_;obtain ⟨l4,Tw,rfl,Sg,W9⟩:=q4.P7;have ll:=W9.length;refine ⟨l4,rfl,⟨Tw,Sg⟩,λl hl=>?_⟩;refine nv (J:=Yx K l4) (n:=Tw.length) (item:=λi=>Tw.getD i .Py) (λG=>QE K G l4 Tw) (λi G o hi=>AG i G o hi) (λG o=>⟨Tw,o,L7 _⟩) h0 l (λi G=>Pr H4 G/\∃ zs,G l=some (.lst zs)/\Pq K G ((cs.take i).filter p) zs) ⟨aT hl _,[],aM,by rw [M5];exact Pq.nil⟩ (λi G _ w=>w.1.YM Sg) (λi G hi w=>?_) (λG w=>?_)
 ·obtain ⟨sG,zs,hz,dz⟩:=w;have hic:i < cs.length:=by omega
  obtain ⟨vz,ez,hv⟩:=(sG.P0 W9).get (LQ hic);have e1:Tw.getD i .Py=vz:=by rw [Ml,ez];rfl
  simp only [e1];obtain ⟨t1,t2⟩:=turn G i cs[i] vz (s.trans (s4.trans sG)) (LQ hic) hv;have et:cs.take (i+1)=cs.take i++[cs[i]]:=by rw [MP,LQ hic];rfl
  have lz:zs.length<=1000:=by rw [<- dz.length];exact Mr (Ob _ _) (by rw [Mx];omega)
  have lz':zs.length < 1000:=by rw [<- dz.length];exact O8 (Ob _ _) (by rw [Mx];omega)
  refine t1.use λG2 s2=>?_
  cases hp:p cs[i] with
  | true =>
   refine jG ((t2.mono s2).use λv3 G3 s3 q3=>?_);have hz3:=(s2.trans s3) _ _ hz;have bl:PX l G3 (upd G3 l (.lst (zs++[v3]))):=PX.upd (Pr.refl G3).but;have g:fA K G3 (upd G3 l (.lst (zs++[v3]))):=bl.grow hz3 aM;refine ⟨zs,hz3,dJ (by omega),⟨_,rfl⟩,λx o hx=>?_,zs++[v3],aM,?_⟩
   ·rw [aX (bS hx hl)];exact (s2.trans s3) _ _ (sG _ _ hx)
   ·rw [et,OB];have e2:[cs[i]].filter p=[cs[i]]:=by rw [OI,Mc hp];rfl
    rw [e2];exact Pq.append (Pq.mono g _ ((s2.trans s3).P0 dz)) (Pq.cons (Dat.mono g _ q3) Pq.nil)
  | false =>
   refine ji ⟨⟨_,rfl⟩,sG.trans s2,zs,s2 _ _ hz,?_⟩;rw [et,OB];have e2:[cs[i]].filter p=[]:=by rw [OI,LZ (by rw [hp];exact L6)];rfl
   rw [e2,MI];exact s2.P0 dz
 ·obtain ⟨sG,zs,hz,dz⟩:=w;rw [<- ll,MY] at dz;exact q l zs G (s4.free hl) (s4.trans sG) hz dz
theorem ym (hK:X.K=K) (hl:PE X l tl):PI X tg l (y9 K tl):=by subst hK;exact m4 hl
noncomputable abbrev nB (t:Addr):Obj:={ cls:=.type "list_iterator",data:=.fields #[.ref t,.int 0 0] }
theorem yU (t:Addr) (items:Array Value) (n:Nat) (d2:Option Addr) (s2:Array (Option Value)) :
  Meets (Builtin.«enumerate.__new__» ⟨[.type "enumerate",.ref t],[]⟩) (λ_ R s=>s.heap.get? t=some { cls:=.type "list",dict:=d2,data:=.seq items n,slots:=s2 } /\
   R (.ok (.ret (.ref (s.heap.push (nB t)).objs.size))) { s with heap:=(s.heap.push (nB t)).push (qO s.heap.objs.size) }) :=
 .of_wp λ_ _ _ _ s q=>by
  obtain ⟨h0,g0,d0,t0,o0⟩:=s;obtain ⟨a1,q⟩:=q;have isL:Heap.IsList (Shared.heap ⟨h0,g0,d0,t0,o0⟩) t items:=⟨_,a1,rfl,n,rfl⟩
  have YE:=sub_enumerate
  wp_walk
  refine wpAny_stack_any λrows=>?_;refine L8 ?_;split
  ·rename_i cl _ _ _ _ _;cases (cl == Value.type "enumerate") <;> (wp_walk using N4 isL;exact ⟨_,rfl,q⟩)
  ·wp_walk using N4 isL
   exact ⟨_,rfl,q⟩
variable {w:World}
theorem vV {prog:Program} {E:Value->Shared->Prop} {t:Addr} {items:Array Value} {Q:Value->Shared->Prop} (a1:s.heap.IsList t items)
  (q:Q (.ref (s.heap.objs.size+1)) { s with heap:=(s.heap.push (nB t)).push (qO s.heap.objs.size) }):wpAny (model prog w) A (call (.type "enumerate") [.ref t]) Q E s:=by
 obtain ⟨⟨c2,d2,dt2,s2⟩,a1,hc,n,hd⟩:=a1;obtain rfl:c2=.type "list":=hc;obtain rfl:dt2=.seq items n:=hd;have sz:(s.heap.push (nB t)).objs.size=s.heap.objs.size+1:=MW _ _;refine callType_new F.called_enumerate (by decide) (F.typeCall_enumerate_1 _) (F.newCall_enumerate_1 _) (λo=>F.args_object_init_2 o _) F.entry_enumerate_new (yU t items n d2 s2) ⟨a1,?_⟩;show _/\_;rw [sz];refine ⟨⟨qO s.heap.objs.size,?_,rfl⟩,q⟩;exact NR sz.symm rfl
noncomputable def FB (K:W.Frag) (a:Addr) (xs:List V):It:=⟨λi H=>i < xs.length/\PJ K H a xs,λi H x H'=>∃ p y,H p=none/\x=.ref p/\xs[i]?=some y/\H'=upd H p (.tup [.int i,y]),λi H=>i=xs.length/\PJ K H a xs⟩
variable {elts:List Expr} {ps:Pos}
theorem xp {P:Program} {c1} (a e it:Addr) (xs:List V) (ne:e≠it):mK P w K (.Tuple elts c1 ps) (FB K a xs) [e,it] e (λi h=>a≠it/\a≠e/\∃ old,IsEnum h e it i old/\h.IsListIter it a i) where
 mem:=by simp
 obj:=λi h st b hb=>by
  obtain ⟨_,_,old,q1,q2⟩:=st;rcases Mm.mp hb with z | z
  ·subst z;exact ⟨_,q1,λv z=>by cases z⟩
  ·have z:b=it:=by simpa using z
   subst z;obtain ⟨o,e,c,d⟩:=q2;exact ⟨o,e,λv z=>by rw [d] at z;cases z⟩
 keep:=λi h h' ⟨n1,n2,old,q1,q2⟩ k=>⟨n1,n2,old,k e (by simp) _ q1,q2.at λo z=>k it (by simp) o z⟩
 item:=by
  intro X hP hw hK hc i pins s σ H E I hf st hg;subst hP hw hK;obtain ⟨hi,hq⟩:=hg;obtain ⟨nai,nae,old,q1,q2⟩:=st;obtain ⟨its,rv,p,hz⟩:=I.list hq;have hx:xs[i]?=some xs[i]:=LQ hi;obtain ⟨u,hu,ru⟩:=rv.get hx;have ZY:s.heap.IsList a its.toArray:=p.isList;have lr:=rv.length;refine wpAny_pyNext_enum_itemD (Draws.list (A:=X.A.in1) (I.ok.hd hc) it a nai its.toArray) q1 ⟨q2,ZY⟩ (by rw [Me];omega) ne (by simp [ne,MQ nae]) λy h' tk hy out st' tup sz kk=>⟨_,rfl,?_⟩
  have ey:y=u:=by
   have h1:its[i]?=some y:=by simpa using hy
   rw [hu] at h1;exact (ME h1).symm
  subst ey;refine wpAny_letOwnedTupleGo_enum (s:={ s with heap:=h',toks:=tk+1 }) out λh2 e2 same=>?_;have le:e < s.heap.objs.size:=Mi q1;have li:it < s.heap.objs.size:=let ⟨_,z,_⟩:=q2;Mi z;have tup2:h2.get? s.heap.objs.size=some { cls:=.type "tuple",data:=.seq #[.int i tk,y] }:=(same.2 _ (MR le)).trans tup
  have I1:Inv X pins σ (upd H s.heap.objs.size (.tup [.int i,xs[i]])) { s with heap:=s.heap.push { cls:=.type "tuple",data:=.seq #[.int i tk,y] },toks:=s.toks } :=
   I.laid (o:=.tup [.int i,xs[i]]) (λb ob q=>LX _ q) (L7 _) ⟨by rw [N3];simp,[.int i tk,y],.cons ⟨_,rfl⟩ (.cons ru .nil),IsTup.new _ _⟩
  have frees:∀ b,b < s.heap.objs.size->upd H s.heap.objs.size (.tup [.int i,xs[i]]) b=H b:=λb hb=>aX (Mq hb)
  have I2:Inv X pins σ (upd H s.heap.objs.size (.tup [.int i,xs[i]])) { s with heap:=h2,toks:=tk+1 }:=by
   refine Inv.Y8 (s:={ s with heap:=s.heap.push { cls:=.type "tuple",data:=.seq #[.int i tk,y] },toks:=s.toks }) (h':=h2) (its:=[e,it]) (t':=tk+1) I1 (λb o hb q=>?_) (λb hb=>?_)
   ·have h1:b≠e:=λz=>hb (by simp [z]);have h3:b≠it:=λz=>hb (by simp [z]);by_cases hbs:b=s.heap.objs.size
    ·subst hbs;have q':(s.heap.push { cls:=.type "tuple",data:=.seq #[.int i tk,y] }).get? s.heap.objs.size=some o:=q;rw [NR rfl rfl] at q';cases q';exact tup2
    ·have q':s.heap.get? b=some o:=by
      have lt:b < s.heap.objs.size:=by have l1:b < (s.heap.push { cls:=.type "tuple",data:=.seq #[.int i tk,y] }).objs.size:=Mi q;rw [MW] at l1;exact Nat.lt_of_le_of_ne (Nat.le_of_lt_succ l1) hbs
      exact (Heap.get?_push_ne _ _ _ hbs).symm.trans q
     exact (same.2 b h1).trans (kk b o h1 h3 q')
   ·have lb:b < s.heap.objs.size:=by
     rcases Mm.mp hb with z | z
     ·rw [z];exact le
     ·rw [show b=it by simpa using z];exact li
    obtain ⟨f0,f1,f2,f3,f4,f5⟩:=hf b hb;exact ⟨by rw [frees b lb];exact f0,f1,f3,f4,f5⟩
  refine ⟨.ref s.heap.objs.size,_,I2,rfl,⟨_,_,I.hok.fresh (L7 _),rfl,hx,rfl⟩,⟨nai,nae,y,?_,?_⟩,λb hb=>?_⟩
  ·have ec:((i+1:Nat):Int)=(i:Int)+1:=by omega
   rw [ec];exact e2
  ·exact st'.1.at λo z=>(same.2 it (MQ ne)).trans z
  ·have lb:b < s.heap.objs.size:=by
    rcases Mm.mp hb with z | z
    ·rw [z];exact le
    ·rw [show b=it by simpa using z];exact li
   rw [frees b lb];exact (hf b hb).1
 done:=by
  intro X hP hw hK hc i pins s σ H E I hf st hg;subst hP hw hK;obtain ⟨hi,hq⟩:=hg;obtain ⟨nai,nae,old,q1,q2⟩:=st;obtain ⟨its,rv,p,hz⟩:=I.list hq;have lr:=rv.length;have ZY:s.heap.IsList a its.toArray:=p.isList;obtain ⟨f0,f1,f2,f3,f4,f5⟩:=hf it (by simp);refine wpAny_pyNext_enum_endD (Draws.list (A:=X.A.in1) (I.ok.hd hc) it a nai its.toArray) q1 (by rw [Me,<- lr,<- hi];exact ⟨q2,ZY⟩) λh' eb=>⟨rfl,?_⟩
  exact I.turned (t':=s.toks) (λb o hb q=>eb b o hb q) f0 f1 f3 f4 f5
 self:=λA i s Q E ⟨_,_,_,q1,_⟩ q=>wpAny_pyIter_enum q1 q
noncomputable def AN (K:W.Frag) (ta:TA):TI:=λσ H R=>ta σ H λvs H1=>∃ a xs,vs=[.ref a]/\PJ K H1 a xs/\R (FB K a xs) H1
theorem Bk {a:Expr} {ta:TA} {p:Pos} {c1} (hg:Gl X "enumerate") (hm:X.mg "enumerate"=none) (ha:PA X [a] ta) (hs:starEach [a] X.env=[(false,eval a X.env)]:=by rfl):PI X (.Tuple elts c1 ps) (.Call (.Name "enumerate" p) [a] [] pos) (AN X.K ta):=by
 intro pins s σ H R I h;refine Call_ (mW I hg hm rN (NK (PB (ha pos pins s σ H _ I h) λus s1 ⟨vs,H1,I1,r1,q1⟩=>?_) hs rfl));obtain ⟨t,xs,ev,hq,q⟩:=q1;subst ev;obtain ⟨u,rfl,ru⟩:=jC r1;cases ru;obtain ⟨its,rv,pt,hz⟩:=I1.list hq;have lt:t < s1.heap.objs.size:=let ⟨_,z,_⟩:=pt.isList;Mi z;refine vV pt.isList ?_;have sz:(s1.heap.push (nB t)).objs.size=s1.heap.objs.size+1:=MW _ _;have q1:IsEnum ((s1.heap.push (nB t)).push (qO s1.heap.objs.size)) (s1.heap.objs.size+1) s1.heap.objs.size ((0:Nat):Int) .none:=NR sz.symm rfl;have q2:((s1.heap.push (nB t)).push (qO s1.heap.objs.size)).IsListIter s1.heap.objs.size t 0:=⟨_,LX _ (NR rfl rfl),rfl,rfl⟩
 refine wpAny_pyIter_enum (s:={ s1 with heap:=(s1.heap.push (nB t)).push (qO s1.heap.objs.size) }) q1 ?_;refine ⟨s1.heap.objs.size+1,[s1.heap.objs.size+1,s1.heap.objs.size],_,_,H1,rfl,I1.kept (t':=s1.toks) (λb o e=>LX _ (LX _ e)),xp t _ _ xs (MR (Nh _)),⟨Mq lt,Mq (N5 lt),.none,q1,q2⟩,λb hb=>?_,q⟩;rcases Mm.mp hb with z | z
 ·subst z;exact I1.Xw (O2 _) (I1.hok.fresh (O2 _))
 ·have z:b=s1.heap.objs.size:=by simpa using z
  subst z;exact I1.Xw (L7 _) (I1.hok.fresh (L7 _))
theorem BG {i:Nat} (h:RL K tl σ H cs) (hc:cs.length<=1000) (es:List D) (hn:es.length=cs.length) (ne:i≠j)
  (h0:((mk σ).set i none).set j none=mk σ)
  (turn:∀ H1 (k:Nat) c e w,Pr H H1->cs[k]?=some c->es[k]?=some e->Dat K H1 c w->RE K te (((mk σ).set i (some (.int k))).set j (some w)) H1 e) :
  RC K (gM (AN K (bO tl dH)) mk (rV K 2 (iG (bW i) (iG (bW j) wc))) fP te) σ H es:=λH1 s Q q=>by
 refine h H1 s _ λvs H2 s2 q2=>?_;obtain ⟨a,us,e1,ha,da⟩:=q2;subst e1;have lu:=da.length;refine ⟨a,us,rfl,ha.S7,λl hl2=>?_⟩;have s02:Pr H H2:=s.trans s2;refine ⟨λn m σ' G=>m=us.length - n/\n<=us.length/\(∃ z1 z2,σ'=((mk σ).set i z1).set j z2)/\Pr H2 G/\∃ ys,G l=some (.lst ys)/\Pq K G (es.take n) ys,⟨us.length,by omega,MK _,⟨none,none,h0.symm⟩,aT hl2 _,[],aM,by rw [M5];exact Pq.nil⟩,?_⟩;rintro n m σ' G ⟨rfl,hle,⟨z1,z2,rfl⟩,sG,ys,hy,dy⟩;by_cases hlt:n < us.length
 ·refine .inr ⟨⟨hlt,(sG.VU ha).S7⟩,λσ'' G'=>(∃ z1 z2,σ''=((mk σ).set i z1).set j z2)/\Pr H2 G'/\∃ ys,G' l=some (.lst ys)/\Pq K G' (es.take (n+1)) ys,λσ'' G' w=>⟨us.length - (n+1),by omega,rfl,hlt,w.1,w.2⟩,λx G' y=>?_⟩;obtain ⟨p,w,hp,rfl,hw,rfl⟩:=y;have sn:Pr G (upd G p (.tup [.int n,w])):=aT hp _;have s2n:=sG.trans sn;obtain ⟨c,ec,hcv⟩:=da.WD hw;have hne:n < es.length:=by omega
  refine ⟨p,[.int n,w],rfl,QE.of aM,rfl,.int n,_,rfl,w,_,rfl,rfl,?_⟩;simp only [fP,N1];rw [Dz _ ne];refine RE.use (turn _ n c es[n] w (s02.trans s2n) ec (LQ hne) (s2n.dat hcv)) λv G4 s4 q4=>?_;have Sg:=s4 _ _ (sn _ _ hy);have lys:ys.length=n:=by rw [<- dy.length,Mx];omega
  refine ⟨ys,Sg,dJ (by omega),⟨_,_,rfl⟩,λx o hx=>?_,ys++[v],aM,?_⟩
  ·rw [aX (bS hx hl2)];exact s4 _ _ (s2n _ _ hx)
  ·have g:fA K G4 (upd G4 l (.lst (ys++[v]))):=PX.grow (t:=l) (PX.upd (Pr.refl G4).but) Sg aM;rw [MP,LQ hne];exact Pq.append (Pq.mono g _ (s4.P0 (sn.P0 dy))) (Pq.cons (Dat.mono g _ q4) Pq.nil)
 ·have e:n=us.length:=by omega
  subst e;refine .inl ⟨⟨rfl,(sG.VU ha).S7⟩,?_⟩;rw [Nr (by omega)] at dy;exact q l ys G (s2.free hl2) (s2.trans sG) hy dy
noncomputable def RN (K:W.Frag) (H0:Hp) (t:TE) (σ:St) (G:Hp) (es:List D):Prop:=∀ Q:VK,(∀ r zs G',(H0 r≠none\/G r=none)->Pr G G'->G' r=some (.lst zs)->Pq K G' es zs->Q (.ref r) G')->t σ G Q
variable {H0:Hp} {t:TE} {G:Hp} {es:List D}
theorem RN.mono (h:RN K H0 t σ G es) (s:Pr H0 H1):RN K H1 t σ G es:=λQ q=>h Q λr zs G' hr=>q r zs G' (hr.imp (λn z=>n (s.free z)) id)
theorem RN.of (h:RC K t σ G es):RN K H0 t σ G es:=λQ q=>h.use λl ys G' n s hy d=>q l ys G' (.inr n) s hy d
theorem BV {r:Addr} {zs:List V} (n:H0 r≠none) (h:G r=some (.lst zs)) (d:Pq K G es zs) (e:σ[k]?=some (some (.ref r)):=by rfl):RN K H0 (dW k) σ G es:=λQ q=>⟨_,e,q r zs G (.inl n) (Pr.refl _) h d⟩
theorem FW {tc:TT} {ta tb:TE} {b:Bool} (h:RT tc σ G b) (h1:b=true->∀ G',Pr G G'->RN K H0 ta σ G' es) (h2:b=false->∀ G',Pr G G'->RN K H0 tb σ G' es):RN K H0 (tIf tc ta tb) σ G es:=λQ q=>h G (Pr.refl _) _ λG' s=>by
 have w:∀ r zs G2,(H0 r≠none\/G' r=none)->Pr G' G2->G2 r=some (.lst zs)->Pq K G2 es zs->Q (.ref r) G2:=λr zs G2 hr s2=>q r zs G2 (hr.imp id λz=>s.free z) (s.trans s2)
 cases b with
 | true=>exact h1 rfl G' s Q w
 | false=>exact h2 rfl G' s Q w
theorem qX {K:PySem.W.Frag}
  (go:∀ i H',Pr H1 H'->i < n->J.go i H'/\∀ x PN,J.Vs i H' x PN->PN=H'/\x=item i) (stop:∀ H',Pr H1 H'->J.stop n H') (h0:σ0.set j none=σ0) (Rc:List (List D)) (hl:Rc.length=n) (hn:n<=1000)
  (turn:∀ i es G,Pr H1 G->Rc[i]?=some es->RN K H1 te (σ0.set j (some (item i))) G es) (fin:∀ l ys H',H1 l=none->Pr H1 H'->H' l=some (.lst ys)->Vd K H' Rc ys->Q (.ref l) H') (l:Addr) (hD:H1 l=none) :
  ∃ W:Nat->Nat->St->Hp->Prop,(∃ m,W 0 m σ0 (upd H1 l (.lst [])))/\∀ i m σ' H',W i m σ' H' ->
   (J.stop i H'/\Q (.ref l) H') \/
   (J.go i H'/\∃ Nx:St->Hp->Prop,(∀ σ'' PN,Nx σ'' PN->∃ m',m' < m/\W (i+1) m' σ'' PN)/\∀ x PN,J.Vs i H' x PN->bW j x σ' PN λσ2 H2=>fP σ2 H2 λb H3 =>
    if b=true then te σ2 H3 λv H4=>∃ ys,H4 l=some (.lst ys)/\ys.length < sizeLine/\Nx σ2 (upd H4 l (.lst (ys++[v]))) else Nx σ2 H3):=by
 refine ⟨λi m σ' G=>m=n - i/\i<=n/\(∃ z,σ'=σ0.set j z)/\Pr H1 G/\∃ ys,G l=some (.lst ys)/\Vd K G (Rc.take i) ys/\Off K G l ys,⟨n,by omega,MK _,⟨none,h0.symm⟩,aT hD _,[],aM,by rw [M5];exact .nil,λv hv=>by cases hv⟩,?_⟩;rintro i m σ' G ⟨rfl,hle,⟨z,rfl⟩,sG,ys,hy,dy,off⟩;by_cases hlt:i < n
 ·obtain ⟨g,y⟩:=go i G sG hlt;refine .inr ⟨g,λσ'' G'=>(∃ z,σ''=σ0.set j z)/\Pr H1 G'/\∃ ys,G' l=some (.lst ys)/\Vd K G' (Rc.take (i+1)) ys/\Off K G' l ys,λσ'' G' w=>⟨n - (i+1),by omega,rfl,hlt,w.1,w.2⟩,λx G' yx=>?_⟩;obtain ⟨e1,e2⟩:=y x G' yx;subst e1 e2;have hne:i < Rc.length:=by omega
  simp only [bW,fP,N1,Oa];refine turn i Rc[i] _ sG (LQ hne) _ λr zs G4 hr s4 hz dz=>?_;have Sg:=s4 _ _ hy
  have nrl:r≠l:=λz=>by
   rcases hr with hr | hr
   ·exact hr (by rw [z];exact hD)
   ·rw [z,hy] at hr;cases hr
  have lys:ys.length=i:=by rw [<- dy.length,Mx];omega
  refine ⟨ys,Sg,dJ (by omega),⟨_,rfl⟩,λx o hx=>?_,ys++[.ref r],aM,?_,?_⟩
  ·rw [aX (bS hx hD)];exact s4 _ _ (sG _ _ hx)
  ·have bl:PX l G4 (upd G4 l (.lst (ys++[.ref r]))):=PX.upd (Pr.refl G4).but;have g:fA K G4 (upd G4 l (.lst (ys++[.ref r]))):=bl.grow Sg aM;rw [MP,LQ hne];exact Vd.snoc (Vd.grown (s4.ZC dy) off bl Sg aM) (LD.of (bl _ _ nrl hz) (Pq.mono g _ dz))
  ·intro v hv;rcases Na.mp hv with hv | hv
   ·exact off v hv
   ·rw [Mv.mp hv];exact λz=>nrl (by injection z)
 ·have e:i=n:=by omega
  subst e;refine .inl ⟨stop G sG,?_⟩;rw [Nr (by omega)] at dy;exact fin l ys G hD sG hy dy
section
variable {K:W.Frag} {σ:St} {H:Hp} {tA:TA} {tl te ta tb:TE} {tc:TT} {mk:St->St} {j n:Nat} {cs:List D}
theorem BJ (h:RA K tA σ H [.int n]) (hc:n<=1000) (Rc:List (List D)) (hl:Rc.length=n) (h0:(mk σ).set j none=mk σ)
  (turn:∀ G (i:Nat) es,Pr H G->Rc[i]?=some es->RN K H te ((mk σ).set j (some (.int i))) G es):Ys K (gM (xX tA) mk (bW j) fP te) σ H Rc:=λH1 s Q q=>by
 refine h H1 s _ λvs H2 s2 q2=>?_;obtain ⟨u,e,hu⟩:=hX q2;have eu:=hu.Pz;subst eu e;refine ⟨n,rfl,by omega,by omega,?_⟩;rw [OE];exact qX (K:=K) (item:=λi=>.int i) (λi H' s hi=>wg i H' hi) (λH' s=>L7 _) h0 Rc hl hc (λi es G sG e=>(turn G i es (s.trans (s2.trans sG)) e).mono (s.trans s2)) (λl ys H' hl s'=>q l ys H' (s2.free hl) (s2.trans s'))
theorem zu (h:RL K tl σ H cs) (hc:cs.length<=1000) (Rc:List (List D)) (hl:Rc.length=cs.length) (h0:(mk σ).set j none=mk σ)
  (turn:∀ G (i:Nat) c v es,Pr H G->cs[i]?=some c->Rc[i]?=some es->Dat K G c v->RN K H te ((mk σ).set j (some v)) G es):Ys K (gM (lS K tl) mk (bW j) fP te) σ H Rc:=λH1 s Q q=>by
 refine (h.mono s).use λv4 H4 s4 q4=>?_;obtain ⟨l4,Tw,rfl,Sg,W9⟩:=q4;have ll:=W9.length;refine ⟨l4,rfl,⟨Tw,Sg.S7⟩,?_⟩;refine qX (K:=K) (n:=Tw.length) (item:=λi=>Tw.getD i .Py) (λi H' s hi=>oX i H' (s.seq Sg.S7) hi) (λH' s=>⟨Tw,s.seq Sg.S7,L7 _⟩) h0 Rc (by omega) (by omega) (λi es G sG hi=>?_) (λl ys H5 Yk s5=>q l ys H5 (s4.free Yk) (s4.trans s5));have hi':i < Rc.length:=(Mg.mp hi).1;have hic:i < cs.length:=by omega
 obtain ⟨vz,ez,hz⟩:=W9.get (LQ hic);rw [Ml,ez];exact (turn G i cs[i] vz es (s.trans (s4.trans sG)) (LQ hic) hi (sG.dat hz)).mono (s.trans s4)
end
noncomputable def Bw (K:W.Frag):R2:=λx y H Q=>∃ b ys,x=.Py/\y=.ref b/\PJ K H b ys/\Q (.bl true) H
theorem C2 (hr:P8 k X.A):Se X (compareOp .NotEq) (Bw X.K):=by
 intro pins s σ H x y v u Q I rx ry h;obtain ⟨b,ys,ex,ey,q1,q⟩:=h;subst ex ey;cases rx;cases ry;obtain ⟨us,v1,p1,_⟩:=I.list q1;have hu:X.A.units < cLine:=by have:=hr.un;omega
 exact SeqAt.RcNeAt.none_list p1.isList hu _ _ _ _ ⟨.bl _,H,I,rfl,q⟩
section
variable {X:Cx} {elt iter tg:Expr} {ifs:List Expr} {sc:Scope} {pos:Pos} {wi:TI} {own:List Str} {fr:List Nat} {N':List Str} {g:TG} {tt:TT} {te:TE} {x0:Str}
theorem vd {i:Nat} {y:Str} {py spos:Pos} (hi:PI X tg iter wi) (hk:sc.kind=.function) (hb:zO x0 X.N X.env.kindOf sc.names own fr N') (YH:sc.names.lookup x0=some .cell) (hcf:∀ n acc,cellsFrom n sc.names acc=(x0,n)::acc) (YI:∀ h,pushCells h sc.names=h.push { cls:=.type "cell",data:=.cell none }) (hc:X.calm=true)
  (hg:∀ cl c0 C s H fp,PG (X.TH sc cl x0 c0 C N' s H fp) tg g) (ht:∀ cl c0 C s H fp,ud (X.TH sc cl x0 c0 C N' s H fp) ifs tt) (he:∀ cl c0 C s H fp,PE (X.TH sc cl x0 c0 C N' s H fp) elt te)
  (hN:X.N.Nodup) (hy:X.N[i]?=some y) (hx:X.env.scope.names.lookup y=some .local)
  (hsw:swapsWith (.ListComp elt [⟨tg,iter,ifs,0⟩] sc pos) (some (.Name y py)) spos.line X.env=pure true)
  (hs:∀ x,foldedSetIterable iter X.env x=pure x:=by intro _;rfl):PS X (.Assign [.Name y py] (.ListComp elt [⟨tg,iter,ifs,0⟩] sc pos) spos) (lA (gM wi (Xu own fr) g tt te) (bW i)):=by
 intro pins s σ H D I h;have B:=hb;obtain ⟨cl,hcl,sub,has⟩:=Ap sc X.env λp hp e=>I.ok.has p.1 (B.free p hp e);rw [OM _ _ _ _ hsw];refine LU (M4 (LU ?_));show wpAny _ _ (do let _ <- comprehension (.ListComp elt [⟨tg,iter,ifs,0⟩] sc pos) sc X.env _ (newList []) false (eval iter X.env) (some (assign (.Name y py) X.env))) _ _ s
 refine LU (MX (Nv (use:=some (assign (.Name y py) X.env)) (Q:=λ_ s'=>SP X pins D .next s') rfl hs hcl hk B.loc
  (PB (hi pins s σ H _ I h) λv s1 h1=>PB h1 λitv s2 h2=>?_)) (λ_ s' hq=>L8 (L8 hq)) λ_ _ e=>e)
 obtain ⟨it,fp,tn,J,H2,e,I2,T,st2,f2,body⟩:=h2;subst e;refine qN (Q:=λv H'=>D.nx (σ.set i (some v)) H') (RR:=λacc C=>compPost (model X.prog X.w) X.A X.xe (some (assign (.Name y py) X.env)) (λ_ s'=>SP X pins D .next s') acc C) I2 B hk hc YH hcf YI sub has T st2 f2 hg ht he body ?_;intro D' c0 C σ' H' s' eD hC J' q;have I3:=uk I2 f2 J';show wpAny _ _ (assign (.Name y py) X.env (.ref D')) _ _ s';refine OD (ku I3 hN hy (.inl hx) (v:=.ref D') rfl (λs4 I4 ⟨a,hsb,ha⟩=>?_) (.inr hx));obtain ⟨m,hn,_⟩:=J'.loc
 have hCa:C≠a:=by
  rcases ha with e | e
  ·rw [e];exact MR (Mp I2.lt hC)
  ·obtain ⟨v,z⟩:=I2.cell _ _ e;exact MR (Mp z.lt hC)
 refine ⟨m,hn.sameBut hsb hCa,λh' hs'=>⟨_,H',?_,q⟩⟩;exact Inv.young I2 I4 hC J'.free hs'
end
section
variable {prog:Program} {w:World} {A:Around} {E:Value->Shared->Prop} {s:Shared} {z TI TO i1 i2 i3 l1 l2 l3:Addr} {k:Nat} {xs ys zs:Array Value}
end
end L2
namespace L2
open PySem PySem.Spec PyProof.Rows
section
variable {X:Cx}
noncomputable def EZ (K:W.Frag) (neg:Bool):R2:=λx y H Q=>∃ l xs ds d,y=.ref l/\PJ K H l xs/\Pq K H ds xs/\Dat K H d x/\PY ds=true/\Rp d=true/\PC ds<=20/\Q (.bl (if neg then !(ds.any λe=>Qe e d) else ds.any λe=>Qe e d)) H
variable {k:Nat}
theorem AQ (hr:P8 k X.A) {pins:List (Addr × Obj)} {σ:St} {H:Hp} {s:Shared} {x:V} {u:Value} {l:Addr} {xs:List V} {ds:List D} {d:D} (I:Inv X pins σ H s) (ru:RelV x u) (hq:PJ X.K H l xs) (hds:Pq X.K H ds xs) (hd:Dat X.K H d x) (n1:PY ds=true) (n2:Rp d=true) (dp:PC ds<=20) :
  ∃ (its:List Value) (eq:Value->Bool),s.heap.IsList l its.toArray/\(∀ w ∈ its.toArray,SeqAt.EqAt X.A.in1 s w u (eq w))/\its.toArray.any eq=ds.any λe=>Qe e d:=by
 obtain ⟨its,r,pl,hz⟩:=I.list hq;have hl:=r.length;have ll:=hds.length
 have item:∀ (m:Nat) (w:Value),its[m]?=some w->∃ g,ds[m]?=some g/\∃ xv,RelV xv w/\Dat X.K H g xv:=λm w hw=>by have hm:m < its.length:=(Mg.mp hw).1;obtain ⟨g,hg,dg⟩:=hds.WD (i:=m) (v:=xs[m]'(by omega)) (LQ (by omega));obtain ⟨w',ZE,rr⟩:=r.get (i:=m) (x:=xs[m]'(by omega)) (LQ (by omega));rw [hw] at ZE;cases ZE;exact ⟨g,hg,_,rr,dg⟩
 have ZF:∀ {x1 x2:V} {w:Value},RelV x1 w->RelV x2 w->x1=x2:=λ{x1 x2 w} h1 h2=>RelV.inj h1 h2
 classical
 let eq:Value->Bool:=λw=>if hw:∃ m:Nat,its[m]?=some w then (match ds[Classical.choose hw]? with | some g=>Qe g d | none=>false) else false
 have eqAt:∀ (m:Nat) (w:Value) (g:D),its[m]?=some w->ds[m]?=some g->eq w=Qe g d:=λm w g hw hg=>by
  have ZE:∃ m:Nat,its[m]?=some w:=⟨m,hw⟩
  show (if hw:∃ m:Nat,its[m]?=some w then _ else false)=_;rw [dif_pos ZE];have hc:=Classical.choose_spec ZE;obtain ⟨g',hg',xv',r1,d1⟩:=item _ w hc;obtain ⟨g2,hg2,xv,r2,d2⟩:=item m w hw;rw [hg] at hg2;cases hg2;rw [hg'];have ex:=ZF r1 r2;subst ex;have:=rQ I g' g (jw n1 hg') d1 d2 (jw n1 hg);rw [this]
 have hu:X.A.in1.units+20+1 < cLine:=by have:=hr.un;show X.A.units+1+20+1 < cLine;omega
 refine ⟨its,eq,pl.isList,λw hw=>?_,?_⟩
 ·obtain ⟨m,hm,rfl⟩:=Array.getElem_of_mem hw;have hm':m < its.length:=by simpa using hm
  have hw2:its[m]?=some (its[m]'hm'):=LQ hm';obtain ⟨g,hg,xv,r1,d1⟩:=item m _ hw2;have z1:its.toArray[m]=its[m]'hm':=by simp
  rw [z1,eqAt m _ g hw2 hg];exact vZ I 20 X.A.in1 g d xv x _ u hu (Mr (kR hg) dp) (jw n1 hg) n2 d1 hd r1 ru
 ·rw [show its.toArray.any eq=its.any eq by simp]
  have em:its.map eq=ds.map λe=>Qe e d:=by
   apply Pk;intro m;rw [LV,LV]
   cases hw:its[m]? with
   | none =>have:its.length<=m:=NU.mp hw;rw [Ng (by omega)];rfl
   | some w =>obtain ⟨g,hg,_⟩:=item m w hw;rw [hg];show some (eq w)=some (Qe g d);rw [eqAt m w g hw hg]
  have e1:∀ {α:Type} (f:α->Bool) (l:List α),l.any f=(l.map f).any id:=λf l=>by rw [List.any_map];rfl
  rw [e1 eq its,em,<- e1]
theorem ER (hr:P8 k X.A):Se X (compareOp .In) (EZ X.K false):=by intro pins s σ H x y v u Q I rx ry h;obtain ⟨l,xs,ds,d,rfl,hq,hds,hd,n1,n2,dp,q⟩:=h;cases ry;obtain ⟨its,eq,pl,ea,ee⟩:=AQ hr I rx hq hds hd n1 n2 dp;exact SeqAt.in_listAt eq pl ea ⟨.bl _,H,I,rfl,by rw [ee];exact q⟩
end
section
variable {K:W.Frag} {σ:St} {H:Hp} {t ta tb:TE} {d:D} {ds:List D}
theorem Fd {neg:Bool} (h1:RE K ta σ H d) (h2:RL K tb σ H ds) (n1:PY ds=true) (n2:Rp d=true) (dp:PC ds<=20):RE K (S8 (EZ K neg) ta tb) σ H (.bl (if neg then !(ds.any λe=>Qe e d) else ds.any λe=>Qe e d)):=λH1 s Q q =>
 h1 H1 s _ λv H2 s2 q2=>h2 H2 (s.trans s2) _ λw H3 s3 q3=>by obtain ⟨a,xs,rfl,ha,da⟩:=q3;exact ⟨a,xs,ds,d,rfl,ha.S7,da,s3.dat q2,n1,n2,dp,q _ _ (s2.trans s3) (Dat.UA _)⟩
end
end L2
namespace L2
open PySem PySem.Spec PySem.Calls PyProof.Rows
variable {X:Cx} {pos:Pos}
theorem Bi {CX:Xs} {k:Nat} {f C:Addr} {fd:FuncData} {ps:List Str} {sp:Sp} {Tu:List V} {ds:List Value} {E:St->XK} {m:Str} {apos:Pos} {o e:Expr} {es:List Expr} {ta:TE} {t:TA} {pl:Sem Bool} (he:PE X o ta) (c:VQ X.K C) (hm:lE X.K C m f) (F:PD X.prog X.w X.K X.mg X.base CX k f fd ps sp) (hr:P8 k X.A) (hb:Binds X.K fd ps ds) (hd:Vals Tu ds) (hx:iJ CX X E) (ha:PA X (e::es) t)
  (hst:starEach (e::es) X.env=(false,eval e X.env)::starEach es X.env:=by rfl) (hpl:(backTo pos (starEach es X.env)).any (·.1)=false:=by rfl)
  (ht:eval (.Call (.Attribute o m apos) (e::es) [] pos) X.env=(do
   let ov <- eval o X.env
   standAt apos.atName
   let (f,first) <- holding [ov] (getMethod ov m pl)
   callWith pos f first (backTo pos (starEach (e::es) X.env)) (backToKw pos (keywordEach [] X.env))):=by rfl) :
  PE X (.Call (.Attribute o m apos) (e::es) [] pos) (λσ=>nN C m sp Tu (E σ) ta t σ):=by
 intro pins s σ H Q I h;refine OR (pl:=pl) (PB (he pins s σ H _ I h) λu s1 ⟨x,H1,I1,rx,a,dx,fs,ex,ea,l,q⟩=>?_) ht;subst ex;obtain rfl:u=Value.ref a:=rx;refine jF I1 ea c hm l ?_;refine Oz (first:=[.ref a]) (h₀:=X.base) I.ok.mod.YT hm.kp (PB (ha pos pins s1 σ H1 _ I1 q) λus s2 ⟨vs,H2,I2,r,q2⟩=>⟨I2.Sb,?_⟩) hst hpl;exact tN (us:=.ref a::us) (vs:=.ref a::vs) F hr hb hd hx I2 (.cons rfl r) q2
theorem Bs {body:List Stmt} {t:(St->XK)->TS} {th:TS} {x n:Str} {i:Nat} {C:Value} {np hpos:Pos} {b₀:Stmt} {suite:List Stmt} {rest:List ExceptHandler}
  (hb:∀ (pn:List (Addr × Obj)) (xe:Value->Shared->Prop) (E:St->XK),iJ (UC X.prog X.w) { X with pn:=pn,xe:=xe } E->Wc { X with pn:=pn,xe:=xe } body (t E))
  (hg:Gl X x) (hm:X.mg x=some C) (hN:X.N.Nodup) (hi:X.N[i]?=some n) (hl:X.env.kindOf n=some .local) (hh:∀ e:Value,Wc (X.hand e) (b₀::suite) th)
  (hst:X.stack=X.env::X.outer:=by rfl) (hfr:X.env.frame=some X.env.locals:=by rfl) (hd:(x == ("__debug__":Str))=false:=by decide) :
  PS X (.Try body (.ExceptHandler (some (.Name x np)) (some n) (b₀::suite) hpos::rest) [] [] pos)
   (λD σ H=>t (λσ' cls dx H'=>W.exmOne X.K cls C=some true/\∃ Dx,cls=.ref Dx/\∀ a,H' a=none->th (D.gone i) (σ'.set i (some (.ref a))) (upd H' a (yJ a Dx dx))) D σ H) :=
 yq (E:=λD σ' cls dx H'=>W.exmOne X.K cls C=some true/\∃ Dx,cls=.ref Dx/\∀ a,H' a=none->th (D.gone i) (σ'.set i (some (.ref a))) (upd H' a (yJ a Dx dx))) hb (λ_ _ _ _ a _ _ _ L q=>CJ L hg hm hN hi hl hh q.1 (λ_=>q.2.elim λDx h=>⟨Dx,h.1,h.2 a L.na⟩) (λz=>nomatch z) hd) hst hfr ⟨_,_,rfl⟩
end L2
namespace My
open PySem L2 PyProof.Rows
noncomputable abbrev TL:List (Str × KTD.Dat):=[("num",.flat (.int 9999)),("arg",.flat (.int 3))]
noncomputable abbrev TB:List (Str × KTD.Dat):=[("add",.flat (.int 2)),("sub",.flat (.int 2)),("mul",.flat (.int 2)),("less",.flat (.int 2)),("pick",.flat (.int 3))]
noncomputable abbrev TM:List (Str × KTD.Dat):=[("hole",.flat (.int 2)),("gap",.flat (.int 3)),("slot",.flat (.int 2))]
noncomputable abbrev TF:List (Str × KTD.Dat):=[("low",.flat (.str "gap")),("high",.flat (.str "gap")),("arg",.flat (.str "slot"))]
noncomputable abbrev Zb:List (Str × KTD.Dat):=[("load",.flat (.int 3)),("skip",.flat (.int 9)),("zero",.flat (.int 9))]
noncomputable abbrev BAS:List D:=[.tup [.str "one",.tup [.str "gap",.int 0,.int 99],.tup [.int 1,.tup [.str "low",.int 0]]],.tup [.str "two",.tup [.str "gap",.int 0,.int 9999],.tup [.int 2,.tup [.str "low",.int 0],.tup [.str "high",.int 0]]],.tup [.str "slot",.tup [.str "slot",.int 0],.tup [.int 3,.tup [.str "arg",.int 0]]],.tup [.str "add",.tup [.str "add",.tup [.str "hole",.int 0],.tup [.str "hole",.int 1]],.tup [.int 4]],.tup [.str "sub",.tup [.str "sub",.tup [.str "hole",.int 0],.tup [.str "hole",.int 1]],.tup [.int 5]],.tup [.str "mul",.tup [.str "mul",.tup [.str "hole",.int 0],.tup [.str "hole",.int 1]],.tup [.int 6]],.tup [.str "less",.tup [.str "less",.tup [.str "hole",.int 0],.tup [.str "hole",.int 1]],.tup [.int 7]],.tup [.str "more",.tup [.str "add",.tup [.str "hole",.int 0],.tup [.str "gap",.int 0,.int 99]],.tup [.int 12,.tup [.str "low",.int 0]]]]
noncomputable abbrev Zm:List D:=[.tup [.str "end",.int 0],.tup [.str "put",.int 1],.tup [.str "far",.int 2],.tup [.str "load",.int 1],.tup [.str "add",.int 0],.tup [.str "sub",.int 0],.tup [.str "mul",.int 0],.tup [.str "less",.int 0],.tup [.str "skip",.int 1],.tup [.str "jump",.int 2],.tup [.str "zero",.int 1],.tup [.str "none",.int 2],.tup [.str "more",.int 1],.tup [.str "twice",.int 0],.tup [.str "about",.int 0],.tup [.str "call",.int 2],.tup [.str "back",.int 0]]
noncomputable abbrev STR:List D:=[.str "put",.str "far",.str "load",.str "add",.str "sub",.str "mul",.str "less",.str "more",.str "twice",.str "about"]
noncomputable abbrev TRN:List D:=[.int 0,.int 1,.int 2,.int 99,.int 100,.int 9999]
noncomputable abbrev WAY:List D:=[.str "skip",.str "jump",.str "zero",.str "none",.str "call",.str "back"]
noncomputable def j1 (s:Stmt) (j:Nat):Stmt:=match s with
 | .ClassDef _ _ _ b _ _ _ _ _ _ _=>b.getD j (.Pass ⟨0,0,0,0⟩)
 | _=>.Pass ⟨0,0,0,0⟩
noncomputable abbrev p7:Stmt:=top 21
theorem Wd:Pw ["thing","low","high"] ["thing","low","high"] (aK p7):=.Ra
noncomputable abbrev nL:Stmt:=top 22
theorem Vu:Pw ["thing"] ["thing"] (aK nL):=.Ra
noncomputable abbrev rE:Stmt:=top 31
theorem WE:Pw ["thing","kind"] ["thing"] (aK rE):=.Ra
noncomputable abbrev kl:Stmt:=top 32
theorem Ui:Pw ["tree"] ["tree"] (aK kl):=.Ra
noncomputable abbrev eV:Stmt:=top 24
theorem Vv:Pw ["size","most"] ["size","most"] (aK eV):=.Ra
noncomputable abbrev jS:Stmt:=top 35
theorem TJ:Pw ["kind","first","second","size"] ["kind","first","second","size"] (aK jS):=.Ra
noncomputable abbrev qf:Stmt:=top 36
theorem We:Pw ["tree","args","size","kind","first"] ["tree","args","size"] (aK qf):=.Ra
noncomputable abbrev m9:Stmt:=top 23
theorem WG:Pw ["thing"] ["thing"] (aK m9):=.Ra
noncomputable abbrev jz:Stmt:=top 49
theorem Qm:Pw ["cells","place","name","many","behind"] ["cells","place"] (aK jz):=.Ra
noncomputable abbrev kL:Stmt:=top 50
theorem UH:Pw ["behind","number","cell"] ["behind"] (aK kL):=.Ra
noncomputable abbrev bV:Stmt:=j1 (top 51) 0
theorem RZ:Pw ["self","cells","given","size","pile"] ["self","cells","given","size","pile"] (aK bV):=.Ra
noncomputable abbrev dE:Stmt:=j1 (top 51) 1
theorem Uj:Pw ["self"] ["self"] (aK dE):=.Ra
noncomputable abbrev dC:Stmt:=j1 (top 51) 2
theorem Uk:Pw ["self","number"] ["self","number"] (aK dC):=.Ra
noncomputable abbrev dO:Stmt:=j1 (top 51) 4
theorem UI:Pw ["self","name","number","onward"] ["self","name","number","onward"] (aK dO):=.Ra
noncomputable abbrev cN:Stmt:=j1 (top 51) 5
theorem S9:Pw ["self"] ["self"] (aK cN):=.Ra
noncomputable abbrev cM:Stmt:=j1 (top 51) 6
theorem Tc:Pw ["self","name","number","upper","lower"] ["self","name","number"] (aK cM):=.Ra
noncomputable abbrev dD:Stmt:=j1 (top 51) 3
theorem Ul:Pw ["self","name","behind","number","onward"] ["self"] (aK dD):=.Ra
noncomputable abbrev rD:Stmt:=top 67
theorem WH:Pw ["thing"] ["thing"] (aK rD):=.Ra
noncomputable abbrev gH:Stmt:=top 68
theorem Sh:Pw ["thing","deep"] ["thing","deep"] (aK gH):=.Ra
noncomputable abbrev qb:Stmt:=top 69
theorem Wf:Pw ["pattern","kind","marks","within"] ["pattern","kind"] (aK qb):=.Ra
noncomputable abbrev jm:Stmt:=top 70
theorem UJ:Pw ["pattern","kind","numbers"] ["pattern","kind"] (aK jm):=.Ra
noncomputable abbrev jN:Stmt:=top 71
theorem U5:Pw ["thing"] ["thing"] (aK jN):=.Ra
noncomputable abbrev mC:Stmt:=top 72
theorem U6:Pw ["thing","pattern"] ["thing","pattern"] (aK mC):=.Ra
noncomputable abbrev rC:Stmt:=top 73
theorem WI:Pw ["thing","pattern"] ["thing","pattern"] (aK rC):=.Ra
noncomputable abbrev fU:Stmt:=top 74
theorem R0:Pw ["cells","pattern","place","name","behind"] ["cells","pattern"] (aK fU):=.Ra
noncomputable abbrev pZ:Stmt:=top 75
theorem Wg:Pw ["thing","name","pattern","cells"] ["thing"] (aK pZ):=.Ra
noncomputable abbrev mE:Stmt:=top 76
theorem U7:Pw ["piece"] ["piece"] (aK mE):=.Ra
noncomputable abbrev kK:Stmt:=top 82
theorem UK:Pw ["cell","nums","ks"] ["cell","nums","ks"] (aK kK):=.Ra
noncomputable abbrev jy:Stmt:=top 83
theorem Td:Pw ["pattern","trial","kind","holes","nums","ks","args"] ["pattern","trial"] (aK jy):=.Ra
noncomputable abbrev tO:Stmt:=top 84
theorem XC:Pw ["piece","trial","size","name","pattern","cells","holes","nums","ks","args","laid_cells","machine"] ["piece","trial","size"] (aK tO):=.Ra
noncomputable abbrev ni:Stmt:=top 85
theorem WJ:Pw ["choices","rows","some"] ["choices"] (aK ni):=.Ra
noncomputable abbrev lq:Stmt:=top 86
theorem Wh:Pw ["ks","size"] ["ks","size"] (aK lq):=.Ra
noncomputable abbrev gX:Stmt:=top 87
theorem WK:Pw ["piece","size","pattern","all_holes","all_nums","all_ks","holes","nums","ks","args","trial"] ["piece","size"] (aK gX):=.Ra
noncomputable abbrev nI:Stmt:=top 112
theorem Vw:Pw ["_law_script","_law_town","_law_many","_law_one","_law_at","_law_mixed"] ["_law_script","_law_town","_law_many"] (aK nI):=.Ra
noncomputable abbrev nK:Stmt:=top 113
theorem Vx:Pw ["_law_script","_law_town","_law_some"] ["_law_script","_law_town","_law_some"] (aK nK):=.Ra
noncomputable abbrev pY:Stmt:=top 114
theorem Wi:Pw ["_law_name","_law_one","_law_other","_law_base"] ["_law_name","_law_one","_law_other","_law_base"] (aK pY):=.Ra
noncomputable abbrev mz:Stmt:=top 116
theorem U8:Pw ["_law_first"] [] (aK mz):=.Ra
noncomputable abbrev kI:Stmt:=top 117
theorem UL:Pw ["_law_number"] ["_law_number"] (aK kI):=.Ra
noncomputable abbrev nG:Stmt:=top 119
theorem Vy:Pw ["_law_name","_law_number","_law_pile","_law_args","_law_base","_law_other","_law_one"] ["_law_name","_law_number","_law_pile","_law_args","_law_base"] (aK nG):=.Ra
noncomputable abbrev kJ:Stmt:=top 122
theorem UM:Pw ["_law_hole","_law_other","_law_gap","_law_made"] [] (aK kJ):=.Ra
noncomputable abbrev nJ:Stmt:=top 128
theorem Vz:Pw ["_law_cells","_law_nums","_law_ks","_law_made","_law_cell"] ["_law_cells","_law_nums","_law_ks"] (aK nJ):=.Ra
noncomputable abbrev kj:Stmt:=top 130
theorem VA:Pw ["_law_choices","_law_made","_law_some","_law_longer","_law_row"] ["_law_choices"] (aK kj):=.Ra
noncomputable abbrev my:Stmt:=top 131
theorem U9:Pw ["_law_pattern","_law_head"] ["_law_pattern","_law_head"] (aK my):=.Ra
noncomputable abbrev mB:Stmt:=top 132
theorem Va:Pw ["_law_pattern","_law_trial","_law_base","_law_holes","_law_nums","_law_ks","_law_args"] ["_law_pattern","_law_trial","_law_base"] (aK mB):=.Ra
noncomputable abbrev jl:Stmt:=top 133
theorem UN:Pw ["_law_cells","_law_pile","_law_args","_law_base","_law_at","_law_many","_law_behind_here","_law_number"] ["_law_cells","_law_pile","_law_args","_law_base"] (aK jl):=.Ra
noncomputable abbrev cI:Stmt:=top 134
theorem Rf:Pw ["_law_piece","_law_base","_law_gaps","_law_every","_law_holes","_law_nums","_law_ks","_law_cells","_law_args","_law_trial","_law_left"] ["_law_piece","_law_base"] (aK cI):=.Ra
noncomputable abbrev iS:Stmt:=top 135
theorem R1:Pw ["_law_script","_law_town","_law_hole","_law_gap","_law_patterns","_law_pattern","_law_cells","_law_k","_law_number"] ["_law_script","_law_town"] (aK iS):=.Ra
noncomputable abbrev mD:Stmt:=top 77
theorem Xb:Pw ["thing"] ["thing"] (aK mD):=.Ra
noncomputable abbrev qc:Stmt:=top 78
theorem Wj:Pw ["some"] ["some"] (aK qc):=.Ra
noncomputable abbrev dF:Stmt:=j1 (top 110) 0
theorem TN:Pw ["self","some"] ["self","some"] (aK dF):=.Ra
noncomputable abbrev bY:Stmt:=j1 (top 110) 1
theorem Te:Pw ["self","name"] ["self","name"] (aK bY):=.Ra
noncomputable abbrev eX:Stmt:=j1 (top 110) 3
theorem Wk:Pw ["self","piece","trial"] ["self","piece"] (aK eX):=.Ra
noncomputable abbrev dP:Stmt:=j1 (top 110) 5
theorem UO:Pw ["self"] ["self"] (aK dP):=.Ra
noncomputable abbrev pX:Stmt:=top 137
theorem Wl:Pw ["_law_shop","_law_what","_law_one","_law_other","_law_e"] ["_law_shop","_law_what","_law_one","_law_other"] (aK pX):=.Ra
noncomputable abbrev BW:Stmt:=top 138
theorem YJ:Pw ["_law_script","_law_town","_law_shop","_law_piece","_law_due","_law_good","_law_wrong"] ["_law_script"] (aK BW):=.Ra
noncomputable def Aq (s:Stmt):Stmt:=match s with
 | .ClassDef _ _ _ (d::_) _ _ _ _ _ _ _=>d
 | _=>.Pass ⟨0,0,0,0⟩
noncomputable abbrev dN:Stmt:=Aq (top 15)
theorem UP:Pw ["self","place"] ["self","place"] (aK dN):=.Ra
noncomputable abbrev dB:Stmt:=Aq (top 16)
theorem Um:Pw ["self","trial"] ["self","trial"] (aK dB):=.Ra
structure Df (K:W.Frag) (mg:Str->Option Value) (n:Str) (st:Stmt) (ps:List Str) where
 a:Addr
 d:FuncData
 f:W4 K n n st a d
 m:mg n=some (.ref a)
 b:Binds K d ps []
noncomputable abbrev Ok (P:Program) (w:World) (base:Heap) (k:Nat) {K:W.Frag} {mg:Str->Option Value} {n:Str} {st:Stmt} {ps:List Str} (D:Df K mg n st ps) (sp:Sp):Prop:=PD P w K mg base U1 k D.a D.d ps sp
theorem pc {X:Cx} {k:Nat} {n:Str} {st:Stmt} {ps:List Str} {sp:Sp} {e:Expr} {es:List Expr} {t:TA} {p pos:Pos} {D:Df X.K X.mg n st ps} (F:PD X.prog X.w X.K X.mg X.base U1 k D.a D.d ps sp) (hr:P8 k X.A) (ha:PA X (e::es) t) (hg:Gl X n:=by rfl) (hdb:(n == ("__debug__":Str))=false:=by decide) (he:starEach (e::es) X.env=(false,eval e X.env)::starEach es X.env:=by rfl) (hpl:(backTo pos (starEach es X.env)).any (·.1)=false:=by rfl):PE X (.Call (.Name n p) (e::es) [] pos) (gJ sp [] E0 t):=oz F hr hg D.m D.f.kp D.b .nil ka ha hdb he hpl
set_option genInjectivity false in
set_option genSizeOfSpec false in
structure Dfs (K:W.Frag) (mg:Str->Option Value) where
 GK:Df K mg "is_whole" p7 ["thing","low","high"]
 HH:Df K mg "is_tagged" nL ["thing"]
 Kk:Df K mg "is_node" rE ["thing"]
 HG:Df K mg "trees_within" kl ["tree"]
 Hk:Df K mg "worth_of_both" jS ["kind","first","second","size"]
 HL:Df K mg "reckoned" qf ["tree","args","size"]
 Ju:Df K mg "is_name" m9 ["thing"]
 GB:Df K mg "instruction_at" jz ["cells","place"]
 IX:Df K mg "number_told" kL ["behind"]
 Kj:Df K mg "is_mark" rD ["thing"]
 GN:Df K mg "is_pattern_part" gH ["thing","deep"]
 GS:Df K mg "marks_in" qb ["pattern","kind"]
 IW:Df K mg "is_numbered" jm ["pattern","kind"]
 Js:Df K mg "is_pattern" jN ["thing"]
 Jr:Df K mg "is_filling" mC ["thing","pattern"]
 Ki:Df K mg "is_cell" rC ["thing","pattern"]
 HK:Df K mg "are_instructions" fU ["cells","pattern"]
 IS:Df K mg "is_piece" pZ ["thing"]
 Il:Df K mg "need_piece" mE ["piece"]
 IV:Df K mg "filled_cell" kK ["cell","nums","ks"]
 GL:Df K mg "filled_pattern" jy ["pattern","trial"]
 KO:Df K mg "keeps" tO ["piece","trial","size"]
 IC:Df K mg "rows_of" ni ["choices"]
 J7:Df K mg "args_for" lq ["ks","size"]
 Ie:Df K mg "_law_draw" nI ["_law_script","_law_town","_law_many"]
 Hb:Df K mg "_law_pick" nK ["_law_script","_law_town","_law_some"]
 IR:Df K mg "_law_two" pY ["_law_name","_law_one","_law_other","_law_base"]
 Ik:Df K mg "_law_names" mz []
 IT:Df K mg "_law_behind" kI ["_law_number"]
 JP:Df K mg "_law_does" nG ["_law_name","_law_number","_law_pile","_law_args","_law_base"]
 HR:Df K mg "_law_pieces" kJ []
 JQ:Df K mg "_law_fill" nJ ["_law_cells","_law_nums","_law_ks"]
 Ig:Df K mg "_law_rows" kj ["_law_choices"]
 GE:Df K mg "_law_marks" my ["_law_pattern","_law_head"]
 Ho:Df K mg "_law_value" mB ["_law_pattern","_law_trial","_law_base"]
 IU:Df K mg "_law_leaves" jl ["_law_cells","_law_pile","_law_args","_law_base"]
 Hn:Df K mg "_law_first_failing" cI ["_law_piece","_law_base"]
 HJ:Df K mg "_law_drawn_piece" iS ["_law_script","_law_town"]
 Kz:Df K mg "is_set" mD ["thing"]
 J8:Df K mg "need_set" qc ["some"]
 IQ:Df K mg "_law_ask" pX ["_law_shop","_law_what","_law_one","_law_other"]
 Lk:Df K mg "law" BW ["_law_script"]
set_option genInjectivity false in
set_option genSizeOfSpec false in
structure Txt (P:Program) (w:World) (K:W.Frag) (mg:Str->Option Value) extends Dfs K mg where
 Ja:Addr
 Jc:FuncData
 Kf:Addr
 KM:Tok
 Jd:Y7 K "need_size" "need_size" eV Ja Jc Kf [.int 10000 KM]
 KJ:mg "need_size"=some (.ref Ja)
 JV:Addr
 JW:FuncData
 Kh:W4 K "failing" "failing" gX JV JW
 K4:mg "failing"=some (.ref JV)
 Gz:Addr
 Jt:mg "Machine"=some (.ref Gz)
 Pu:VQ K Gz
 Hd:Addr
 He:FuncData
 Iw:W4 K "__init__" "Machine.__init__" bV Hd He
 WL:Mk K Gz Hd
 Hx:Addr
 HC:FuncData
 JF:W4 K "take" "Machine.take" dE Hx HC
 Qi:lE K Gz "take" Hx
 HV:Addr
 HX:FuncData
 JD:W4 K "push" "Machine.push" dC HV HX
 PF:lE K Gz "push" HV
 Io:Addr
 Iq:FuncData
 JS:W4 K "way" "Machine.way" dO Io Iq
 UQ:lE K Gz "way" Io
 Hw:Addr
 HB:FuncData
 IK:W4 K "finish" "Machine.finish" cN Hw HB
 Tf:lE K Gz "finish" Hw
 Hv:Addr
 HA:FuncData
 IJ:W4 K "change" "Machine.change" cM Hv HA
 Tg:lE K Gz "change" Hv
 HW:Addr
 HY:FuncData
 JE:W4 K "step" "Machine.step" dD HW HY
 Uo:lE K Gz "step" HW
 Si:PU K Gz "cells"
 Sj:PU K Gz "given"
 Th:PU K Gz "size"
 Qu:PU K Gz "pile"
 PR:PU K Gz "place"
 QO:PU K Gz "kept"
 Sk:PU K Gz "ended"
 GP:Addr
 KG:mg "Shop"=some (.ref GP)
 Qg:VQ K GP
 HN:Addr
 HP:FuncData
 Jm:Addr
 Iv:Y7 K "__init__" "Shop.__init__" dF HN HP Jm [.none]
 Yb:Mk K GP HN
 Hy:Addr
 HD:FuncData
 IL:W4 K "has_piece" "Shop.has_piece" bY Hy HD
 Ti:lE K GP "has_piece" Hy
 Jx:Addr
 JB:FuncData
 Kt:W4 K "put" "Shop.put" eX Jx JB
 Wm:lE K GP "put" Jx
 Ip:Addr
 Ir:FuncData
 JT:W4 K "pieces" "Shop.pieces" dP Ip Ir
 Sl:lE K GP "pieces" Ip
 QD:PU K GP "ready"
 R3:PU K GP "orders"
 Ic:Tok
 HE:mg "LONGEST_NAME"=some (.int 8 Ic)
 Jg:Tok
 Ib:mg "MOST_CELL"=some (.int 99 Jg)
 GZ:Tok
 GO:mg "MOST_PATTERN_DEEP"=some (.int 3 GZ)
 JJ:Tok
 IM:mg "MOST_GAP"=some (.int 9999 JJ)
 Hi:Tok
 GR:mg "MOST_PIECE_CELLS"=some (.int 12 Hi)
 Jj:Tok
 Je:mg "MOST_SIZE"=some (.int 10000 Jj)
 Ji:Tok
 Iz:mg "MOST_PILE"=some (.int 64 Ji)
 Jh:Tok
 Iy:mg "MOST_KEPT"=some (.int 16 Jh)
 Jf:Tok
 Ia:mg "MANY_ARGS"=some (.int 4 Jf)
 Hm:Tok
 GW:mg "MOST_TRIED_SIZE"=some (.int 5 Hm)
 HQ:Tok
 GY:mg "BENEATH_HOLES"=some (.int 1 HQ)
 Iu:Tok
 Hr:mg "MOST_PIECES"=some (.int 16 Iu)
 IH:Tok
 Ij:mg "TRIED_SIZE"=some (.int 3 IH)
 HU:Addr
 Hg:mg "MOST_IN_LEAF"=some (.ref HU)
 Hh:jX K HU TL
 GV:Addr
 GH:mg "TREES_IN_BRANCH"=some (.ref GV)
 GI:jX K GV TB
 Hu:Addr
 Hf:mg "MARK_LENGTHS"=some (.ref Hu)
 HF:jX K Hu TM
 Im:Addr
 Hq:mg "FILLED_FROM"=some (.ref Im)
 Hs:jX K Im TF
 JN:Addr
 IA:mg "MOST_TOLD"=some (.ref JN)
 IB:jX K JN Zb
 Hc:Addr
 GM:mg "INSTRUCTIONS"=some (.ref Hc)
 GF:gK K (.tup Zm) (.ref Hc)=true
 J0:Addr
 IP:mg "STRAIGHT"=some (.ref J0)
 KR:gK K (.tup STR) (.ref J0)=true
 K9:Addr
 KH:mg "WAYS"=some (.ref K9)
 Ly:gK K (.tup WAY) (.ref K9)=true
 Jo:Addr
 Ii:mg "TRIED_NUMS"=some (.ref Jo)
 Kx:gK K (.tup TRN) (.ref Jo)=true
 Kw:Addr
 J4:mg "BASIC"=some (.ref Kw)
 La:o6 K BAS Kw=true
 Ke:zQ P w K Hu ["hole","gap","slot"]
 GC:Addr
 Hl:mg "Fault"=some (.ref GC)
 Ht:Addr
 JG:mg "Broken"=some (.ref Ht)
 IG:Addr
 HZ:FuncData
 KS:W4 K "__init__" "Fault.__init__" dN IG HZ
 IE:uc K GC IG
 Lj:vO K GC "place"
 Kd:Addr
 JX:FuncData
 KF:W4 K "__init__" "Broken.__init__" dB Kd JX
 Li:uc K Ht Kd
 KI:vO K Ht "trial"
 Ky:yK K GC
 JY:yK K Ht
 Ha:W.exmOne K (.ref GC) (.ref GC)=some true
 Hj:W.exmOne K (.ref Ht) (.ref Ht)=some true
 GQ:mg "len"=none
 GJ:mg "isinstance"=none
 LA:mg "int"=none
 Lz:mg "bool"=none
 LB:mg "str"=none
 Jq:mg "tuple"=none
 Jl:mg "list"=none
 Jp:mg "range"=none
 K5:mg "all"=none
 KU:mg "reversed"=none
 KL:mg "enumerate"=none
 LO:mg "sum"=none
 LN:mg "set"=none
section
variable {P:Program} {w:World} {K:W.Frag} {mg:Str->Option Value} {base:Heap} {k:Nat}
theorem AW {α:Type} {us:List α} (h:us.length=1):∃ a0,us=[a0]:=match us,h with | [a0],_=>⟨a0,rfl⟩
theorem EJ {α:Type} {us:List α} (h:us.length=2):∃ a0 a1,us=[a0,a1]:=match us,h with | [a0,a1],_=>⟨a0,a1,rfl⟩
theorem Gu {α:Type} {us:List α} (h:us.length=3):∃ a0 a1 a2,us=[a0,a1,a2]:=match us,h with | [a0,a1,a2],_=>⟨a0,a1,a2,rfl⟩
theorem ZD {α:Type} {us:List α} (h:us.length=4):∃ a0 a1 a2 a3,us=[a0,a1,a2,a3]:=match us,h with | [a0,a1,a2,a3],_=>⟨a0,a1,a2,a3,rfl⟩
theorem Gv {α:Type} {us:List α} (h:us.length=5):∃ a0 a1 a2 a3 a4,us=[a0,a1,a2,a3,a4]:=match us,h with | [a0,a1,a2,a3,a4],_=>⟨a0,a1,a2,a3,a4,rfl⟩
theorem fO (T:Txt P w K mg):Binds K T.HZ ["self","place"] []:=T.KS.binds λ_ _ _ _ _ _ us hl=>match us,hl with | [_,_],_=>rfl
theorem pf (T:Txt P w K mg):PD P w K mg base U1 (k+1) T.IG T.HZ ["self","place"] (fH T.GC "place"):=by refine T.KS.ok UP (λvs H Q E ⟨e,a0,v,h,_⟩=>by rw [h];rfl) (λcdv A outer s H vs Q E hr ⟨e,a0,v,h,h2,q⟩=>?_);have nd:=UP.nd;refine ⟨_,(aH (pJ T.Lj (pv 0) (pv 1))),?_⟩;subst h;exact ⟨_,rfl,_,rfl,e,a0,rfl,h2,q⟩
theorem yN (T:Txt P w K mg):Binds K T.JX ["self","trial"] []:=T.KF.binds λ_ _ _ _ _ _ us hl=>match us,hl with | [_,_],_=>rfl
theorem nV (T:Txt P w K mg):PD P w K mg base U1 (k+1) T.Kd T.JX ["self","trial"] (fH T.Ht "trial"):=by refine T.KF.ok Um (λvs H Q E ⟨e,a0,v,h,_⟩=>by rw [h];rfl) (λcdv A outer s H vs Q E hr ⟨e,a0,v,h,h2,q⟩=>?_);have nd:=Um.nd;refine ⟨_,(aH (pJ T.KI (pv 0) (pv 1))),?_⟩;subst h;exact ⟨_,rfl,_,rfl,e,a0,rfl,h2,q⟩
theorem kP (T:Txt P w K mg):Binds K T.He ["self","cells","given","size","pile"] []:=T.Iw.binds λ_ _ _ _ _ _ us hl=>by obtain ⟨_,_,_,_,_,rfl⟩:=Gv hl;rfl
theorem fY (T:Txt P w K mg):Binds K T.HC ["self"] []:=T.JF.binds λ_ _ _ _ _ _ us hl=>by obtain ⟨_,rfl⟩:=AW hl;rfl
theorem dQ (T:Txt P w K mg):Binds K T.HX ["self","number"] []:=T.JD.binds λ_ _ _ _ _ _ us hl=>by obtain ⟨_,_,rfl⟩:=EJ hl;rfl
theorem qr (T:Txt P w K mg):Binds K T.Iq ["self","name","number","onward"] []:=T.JS.binds λ_ _ _ _ _ _ us hl=>by obtain ⟨_,_,_,_,rfl⟩:=ZD hl;rfl
theorem mM (T:Txt P w K mg):Binds K T.HB ["self"] []:=T.IK.binds λ_ _ _ _ _ _ us hl=>by obtain ⟨_,rfl⟩:=AW hl;rfl
theorem mL (T:Txt P w K mg):Binds K T.HA ["self","name","number"] []:=T.IJ.binds λ_ _ _ _ _ _ us hl=>by obtain ⟨_,_,_,rfl⟩:=Gu hl;rfl
theorem oM (T:Txt P w K mg):Binds K T.HY ["self"] []:=T.JE.binds λ_ _ _ _ _ _ us hl=>by obtain ⟨_,rfl⟩:=AW hl;rfl
noncomputable def mR {α:Type}:List α->List α->List α
 | [x0],[y0]=>[x0,y0]
 | _,_=>[]
theorem yM (T:Txt P w K mg):vI K T.JW ["piece","size"] ["size"] mR mR:=by
 obtain ⟨oc,od,kV,doc,pm,an,cdv,ct,osl,e,lk,hcd⟩:=T.Kh.ex;refine ⟨λs us ws hK hl=>?_,λ{vs us zs ws} h1 h2=>?_⟩
 ·unfold mR at hl ⊢;split at hl
  ·rw [e];exact .of_eq rfl
  ·cases hl
 ·cases h1 with
  | nil=>exact .nil
  | cons r1 t1 =>
   cases t1 with
   | cons _ _=>exact .nil
   | nil =>
    cases h2 with
    | nil=>exact .nil
    | cons p1 z1 =>
     cases z1 with
     | cons _ _=>exact .nil
     | nil=>exact (.cons r1 (.cons p1 .nil))
theorem nQ (T:Txt P w K mg):Binds K T.HP ["self","some"] [.none]:=by obtain ⟨oc,od,kV,doc,pm,an,cdv,ct,osl,e,lk,hcd⟩:=T.Iv.ex;obtain ⟨o,n,l,h⟩:=T.Iv.df;intro s us hK hl;obtain ⟨a0,rfl⟩:=AW (show us.length=1 by simpa using hl);rw [e];exact .of_defaults (T:=T.Jm) rfl (hK _ _ l) h rfl rfl
theorem oi (T:Txt P w K mg):Vals [V.Py] [Value.none]:=.cons rfl .nil
theorem mO (T:Txt P w K mg):Binds K T.HD ["self","name"] []:=T.IL.binds λ_ _ _ _ _ _ us hl=>by obtain ⟨_,_,rfl⟩:=EJ hl;rfl
theorem vS (T:Txt P w K mg):Binds K T.JB ["self","piece"] []:=T.Kt.binds λ_ _ _ _ _ _ us hl=>by obtain ⟨_,_,rfl⟩:=EJ hl;rfl
theorem kE (T:Txt P w K mg):Binds K T.Ir ["self"] []:=T.JT.binds λ_ _ _ _ _ _ us hl=>by obtain ⟨_,rfl⟩:=AW hl;rfl
noncomputable def dM (d:D) (lo hi:Int):Bool:=match d with
 | .int i=>decide (lo<=i) && decide (i<=hi)
 | _=>false
noncomputable def gO (ds:List D) (d:D):Prop:=∃ x lo hi,ds=[x,.int lo,.int hi]/\d=.bl (dM x lo hi)
noncomputable def eZ:D->Bool
 | .tup (.str _::_)=>true
 | _=>false
noncomputable def om (ds:List D) (d:D):Prop:=∃ x,ds=[x]/\d=.bl (eZ x)
noncomputable def qG (k:Str) (T:List (Str × KTD.Dat)):Int:=match KTD.datumAt k T with
 | some (.flat (.int i))=>i
 | _=>0
noncomputable def fV:D->Bool
 | .tup (.str k::r)=>if KTD.inKeys k TL=true then decide ((r.length:Int)+1=2) && dM (r.getD 0 .Py) 0 (qG k TL) else KTD.inKeys k TB && decide ((r.length:Int)+1=1+qG k TB)
 | _=>false
noncomputable def DK (ds:List D) (d:D):Prop:=∃ x,ds=[x]/\d=.bl (fV x)
noncomputable def dG:D->List D
 | .tup (.str k::r)=>if KTD.inKeys k TB=true then r else []
 | _=>[]
noncomputable def lG (ds:List D) (d:D):Prop:=∃ k r,ds=[.tup (.str k::r)]/\d=.tup (dG (.tup (.str k::r)))
theorem Gf {T:List (Str × KTD.Dat)} {k:Str} (hT:∀ p ∈ T,∃ i,p.2=.flat (.int i)) (h:KTD.inKeys k T=true):KTD.datumAt k T=some (.flat (.int (qG k T))):=by
 unfold qG
 cases e:KTD.datumAt k T with
 | none=>exact absurd e (KTD.at_of_mem h)
 | some d =>
  have all:∀ (T:List (Str × KTD.Dat)),(∀ p ∈ T,∃ i,p.2=.flat (.int i))->KTD.datumAt k T=some d->∃ i,d=.flat (.int i):=by
   intro T
   induction T with
   | nil=>intro _ e;simp [KTD.datumAt] at e
   | cons p r ih =>
    intro hp e;obtain ⟨x,y⟩:=p;have e':(if decide (k=x)=true then some y else KTD.datumAt k r)=some d:=e;by_cases hx:k=x
    ·rw [Mc (Mh hx)] at e';cases e';exact hp _ Mw
    ·rw [LZ (by simp [hx])] at e';exact ih (λp hp'=>hp p (Mt _ hp')) e'
  obtain ⟨i,rfl⟩:=all T hT e;rfl
theorem El:∀ p ∈ TL,∃ i,p.2=.flat (.int i):=by intro p hp;simp only [TL,Mm,Nc,Oi] at hp;rcases hp with rfl | rfl <;> exact ⟨_,rfl⟩
theorem Ej:∀ p ∈ TB,∃ i,p.2=.flat (.int i):=by intro p hp;simp only [TB,Mm,Nc,Oi] at hp;rcases hp with rfl | rfl | rfl | rfl | rfl <;> exact ⟨_,rfl⟩
theorem uR (T:Txt P w K mg)  : Ok P w base (k+1) T.GK (Qh K gO):=by
 refine T.GK.f.ok Wd (λvs H Q E h=>?_) (λcdv A outer s H vs Q E hr h=>?_)
 ·obtain ⟨ds,d,hd,⟨x,lo,hi,rfl,rfl⟩,_⟩:=h;exact hd.length.symm
 have nd:=Wd.nd;obtain ⟨ds,d,hd,⟨x,lo,hi,rfl,rfl⟩,post⟩:=h;obtain ⟨v0,v1,v2,rfl,h0,h1,h2⟩:=nA hd;have g1:=h1.Pz;have g2:=h2.Pz;subst g1 g2;refine ⟨_,(aH (aQ (kW (a9 (fB AJ) rfl T.GJ cR (dA (pv 0) (dA (f9 (v:=.ty "int") rfl T.LA Ag rfl) aC))) (kW (ET (a9 (fB CK) rfl T.GJ cR (dA (pv 0) (dA (f9 (v:=.ty "bool") rfl T.Lz Cz rfl) aC)))) (kX (uY kG kG (pv 1) (pv 0) (pv 2))))))),?_⟩;refine bC (K:=K) (d:=.bl (dM x lo hi)) ?_ post
 cases x with
 | int i=>exact RE.as (eR (cJ (aB h0)) λ_=>eR (BO (cJ (aB h0))) λ_=>mq (aB h1) (aB h0) λ_=>aB h2) rfl
 | bl y=>exact RE.as (eR (c:=false) (cJ (aB h0)) λ_=>RE.as (eR (c:=true) (BO (cJ (aB h0))) λz=>nomatch z) rfl) rfl
 | Py=>exact RE.as (eR (c:=true) (cJ (aB h0)) λz=>nomatch z) rfl
 | str y=>exact RE.as (eR (c:=true) (cJ (aB h0)) λz=>nomatch z) rfl
 | tup y=>exact RE.as (eR (c:=true) (cJ (aB h0)) λz=>nomatch z) rfl
 | lst=>exact RE.as (eR (c:=true) (cJ (aB h0)) λz=>nomatch z) rfl
theorem sL (T:Txt P w K mg)  : Ok P w base (k+1) T.HH (Qh K om):=by
 refine T.HH.f.ok Vu (λvs H Q E h=>?_) (λcdv A outer s H vs Q E hr h=>?_)
 ·obtain ⟨ds,d,hd,⟨x,rfl,rfl⟩,_⟩:=h;exact hd.length.symm
 have nd:=Vu.nd;obtain ⟨ds,d,hd,⟨x,rfl,rfl⟩,post⟩:=h;obtain ⟨v0,rfl,h0⟩:=hX hd;refine ⟨_,(aH (aQ (kW (a9 (fB j5) rfl T.GJ cR (dA (pv 0) (dA (f9 (v:=.ty "tuple") rfl T.Jq hV rfl) aC))) (kW (hE pE (a9 aZ rfl T.GQ cC (aD (pv 0) aC)) aG (aV _)) (kX (a9 (fB AK) rfl T.GJ cR (dA (bB aW (pv 0) aG) (dA (f9 (v:=.ty "str") rfl T.LB Ah rfl) aC)))))))),?_⟩;refine bC (K:=K) (d:=.bl (eZ x)) ?_ post
 cases x with
 | tup ds =>
  cases ds with
  | nil=>exact RE.as (eR (c:=false) (cJ (aB h0)) λ_=>RE.as (eR (c:=true) (cO (cY (aB h0)) aE) λz=>nomatch z) rfl) rfl
  | cons y r =>have l:decide ((0:Int) < (((y::r).length:Nat):Int))=true:=Mh (by rw [L5];omega);refine RE.as (eR (cJ (aB h0)) λ_=>eR (RE.as (cO (cY (aB h0)) aE) (MH D.bl l)) λ_=>cJ (a7 (k:=0) (aB h0) aE (show (y::r)[0]?=some y from rfl))) ?_;cases y <;> rfl
 | int i=>exact RE.as (eR (c:=true) (cJ (aB h0)) λz=>nomatch z) rfl
 | bl y=>exact RE.as (eR (c:=true) (cJ (aB h0)) λz=>nomatch z) rfl
 | Py=>exact RE.as (eR (c:=true) (cJ (aB h0)) λz=>nomatch z) rfl
 | str y=>exact RE.as (eR (c:=true) (cJ (aB h0)) λz=>nomatch z) rfl
 | lst=>exact RE.as (eR (c:=true) (cJ (aB h0)) λz=>nomatch z) rfl
theorem wI (T:Txt P w K mg) (IZ:Ok P w base k T.HH (Qh K om)) (GX:Ok P w base k T.GK (Qh K gO)):Ok P w base (k+1) T.Kk (Qh K DK):=by
 refine T.Kk.f.ok WE (λvs H Q E h=>?_) (λcdv A outer s H vs Q E hr h=>?_)
 ·obtain ⟨ds,d,hd,⟨x,rfl,rfl⟩,_⟩:=h;exact hd.length.symm
 have nd:=WE.nd;obtain ⟨ds,d,hd,⟨x,rfl,rfl⟩,post⟩:=h;obtain ⟨v0,rfl,h0⟩:=hX hd;refine ⟨_,(aF (bD (dS (bT (pc (D:=T.HH) IZ hr (aD (pv 0) aC)) (λ_=>rfl))) (aH (aQ eM)) aU)
 (aF (bM (i:=1) nd rfl (Or.inl rfl) (bB aW (pv 0) aG))
 (aF (bD (aO pF (pv 1) (bQ (v:=.ref T.HU) rfl T.Hg rfl) (by with_unfolding_all rfl)) (aH (aQ (kW (hE cH (a9 aZ rfl T.GQ cC (aD (pv 0) aC)) aG (aV _)) (kX (pc (D:=T.GK) GX hr (aD (bB aW (pv 0) aG) (aD aG (aD (bB AU (bQ (v:=.ref T.HU) rfl T.Hg rfl) (pv 1)) aC)))))))) aU)
 (aH (aQ (kW (hE pF (pv 1) (bQ (v:=.ref T.GV) rfl T.GH rfl) (by with_unfolding_all rfl)) (kX (hE cH (a9 aZ rfl T.GQ cC (aD (pv 0) aC)) (bI dY aG (bB AU (bQ (v:=.ref T.GV) rfl T.GH rfl) (pv 1))) (aV _))))))))),?_⟩
 refine aP (K:=K) (b:=!eZ x) (bX (bH (bE (aA (aB h0) aI) ⟨x,rfl,rfl⟩))) (λc H1 s1=>?_) (λc H1 s1=>?_)
 ·refine bC (K:=K) (d:=.bl (fV x)) ?_ λv H' s q=>post v H' (s1.trans s) q
  have e:fV x=false:=by
   unfold fV;split
   ·unfold eZ at c;simp at c
   ·rfl
  rw [e];exact gL
 ·have h0':=s1.dat h0;have c':eZ x=true:=by simpa using c
  unfold eZ at c';split at c'
  ·rename_i kd r;refine cF (K:=K) (d:=.str kd) (a7 (k:=0) (aB h0') aE rfl) λv1 H2 s2 q2=>?_;have h2:=s2.dat h0';have ev:=q2.P9;subst ev;refine aP (K:=K) (b:=KTD.inKeys kd TL) (aJ (pQ (aB q2) T.Hh)) (λcL H3 s3=>?_) (λcL H3 s3=>?_)
   ·have h3:=s3.dat h2
    have e:fV (.tup (.str kd::r))=(decide ((r.length:Int)+1=2) && dM (r.getD 0 .Py) 0 (qG kd TL)):=by show (if KTD.inKeys kd TL=true then _ else _)=_;rw [Mc cL]
    refine bC (K:=K) (d:=.bl (fV (.tup (.str kd::r)))) ?_ λv H' s q=>post v H' (s1.trans (s2.trans (s3.trans s))) q;rw [e];have el:((((D.str kd)::r).length:Nat):Int)=(r.length:Int)+1:=by rw [L5];omega
    have b1:=eS (K:=K) (cY (aB (σ:=(gI ["thing","kind"] [v0]).set 1 (some (.str kd))) (k:=0) h3)) (aE (i:=2));rw [el] at b1;refine eR b1 λhl=>?_;have hl':(r.length:Int)+1=2:=LS hl
    obtain ⟨y,er⟩:∃ y,r=[y]:=by
     match r,hl' with
     | [],h=>simp at h
     | [y],_=>exact ⟨y,rfl⟩
     | _::_::_,h=>simp at h;omega
    subst er;refine bE (E:=E0) (R:=gO) (aA (a7 (k:=1) (aB h3) aE rfl) (aA aE (aA (vp (aB (s3.dat q2)) T.Hh (by rfl) (Gf El cL)) aI))) ⟨y,0,qG kd TL,rfl,rfl⟩
   ·have h3:=s3.dat h2
    have e:fV (.tup (.str kd::r))=(KTD.inKeys kd TB && decide ((r.length:Int)+1=1+qG kd TB)):=by show (if KTD.inKeys kd TL=true then _ else _)=_;rw [LZ (by rw [cL];exact L6)]
    refine bC (K:=K) (d:=.bl (fV (.tup (.str kd::r)))) ?_ λv H' s q=>post v H' (s1.trans (s2.trans (s3.trans s))) q;rw [e];have el:((((D.str kd)::r).length:Nat):Int)=(r.length:Int)+1:=by rw [L5];omega
    refine eR (pQ (aB (s3.dat q2)) T.GI) λcB=>?_;have b1:=eS (K:=K) (cY (aB (σ:=(gI ["thing","kind"] [v0]).set 1 (some (.str kd))) (k:=0) h3)) (dU (aE (i:=1)) (vp (aB (σ:=(gI ["thing","kind"] [v0]).set 1 (some (.str kd))) (k:=1) (s3.dat q2)) T.GI (by rfl) (Gf Ej cB)));rw [el] at b1;exact b1
  ·cases c'
theorem nZ (T:Txt P w K mg)  : Ok P w base (k+1) T.HG (Qh K lG):=by
 refine T.HG.f.ok Ui (λvs H Q E h=>?_) (λcdv A outer s H vs Q E hr h=>?_)
 ·obtain ⟨ds,d,hd,⟨kd,r,rfl,rfl⟩,_⟩:=h;exact hd.length.symm
 have nd:=Ui.nd;obtain ⟨ds,d,hd,⟨kd,r,rfl,rfl⟩,post⟩:=h;obtain ⟨v0,rfl,h0⟩:=hX hd;refine ⟨_,(aF (bD (aO pF (bB aW (pv 0) aG) (bQ (v:=.ref T.GV) rfl T.GH rfl) (by with_unfolding_all rfl)) (aH (aQ (kb tQ (pv 0) (jc aG) yn))) aU)
 (aH (aQ (aS aC)))),?_⟩
 refine aP (K:=K) (b:=KTD.inKeys kd TB) (aJ (pQ (a7 (k:=0) (aB h0) aE rfl) T.GI)) (λc H1 s1=>?_) (λc H1 s1=>?_)
 ·refine bC (K:=K) (d:=.tup r) (zC (aB (s1.dat h0))) λv H' s q=>post v H' (s1.trans s) ?_;show Dat K H' (.tup (if KTD.inKeys kd TB=true then r else [])) v;rw [Mc c];exact q
 ·refine bC (K:=K) (σ:=gI ["tree"] [v0]) (d:=.tup []) (aR aI) λv H' s q=>post v H' (s1.trans s) ?_;show Dat K H' (.tup (if KTD.inKeys kd TB=true then r else [])) v;rw [LZ (by rw [c];exact L6)];exact q
theorem Bm {ns:List Int} {k:Int} (h0:0<=k) (h1:k < (ns.length:Int)):∃ z,Yj (ns.map V.int) k=some (.int z):=by
 have hk:k.toNat < ns.length:=by omega
 refine ⟨ns[k.toNat],?_⟩;have e:k=((k.toNat:Nat):Int):=by omega
 have q:Yj (ns.map V.int) ((k.toNat:Nat):Int)=some (.int ns[k.toNat]):=ja (by rw [LV,LQ hk] <;> rfl);rw [<- e] at q;exact q
theorem sC (T:Txt P w K mg)  : Ok P w base (k+1) T.Ie (tS K):=by
 refine T.Ie.f.ok Vw (λvs H Q E h=>?_) (λcdv A outer s H vs Q E hr h=>?_)
 ·obtain ⟨a,t,ns,m,p,q,rest,rfl,_⟩:=h;rfl
 have nd:=Vw.nd;obtain ⟨a,t,ns,m,p,q,rest,rfl,hS,hT,hp,hm,hm2,post⟩:=h;refine ⟨_,(aF (bD (aO pE (bB PZ (pv 1) aG) aG (aV _)) (aF (bM (i:=3) nd rfl (Or.inl rfl) (bI eE (bB PZ (pv 1) aG) (pv 2)))
 (aF (iE (bI oy (bB PZ (pv 1) aG) (pv 2)) (Bj (pv 1) aG qk))
 (aH (aQ (pv 3))))) aU)
 (aF (bM (i:=4) nd rfl (Or.inl rfl) (bB PZ (pv 1) aG))
 (aF (Dc (pv 1) aG AE aG wj qk)
 (aF (bD (aO (sR hr) (pv 0) (b0 aC) (aV _)) (aH (aQ (bI eE (pv 4) (pv 2)))) aU)
 (aF (bD (PW.pt (sZ (aO l9 (pv 4) (a9 aZ rfl T.GQ cC (aD (pv 0) aC)) (aV _)) (oB (aO uV (bB PZ (pv 0) (pv 4)) (bI sV aG aG) (aV _))))) (aF (iE (bI eE (bI oy (bB PZ (pv 0) (pv 4)) (pv 2)) (bI C1 (bI sV aG aG) (bI sV aG aG))) (Bj (pv 1) aG qk))
 (aH (aQ (bI eE (bB PZ (pv 0) (pv 4)) (pv 2))))) aU)
 (aF (bM (i:=5) nd rfl (Or.inl rfl) (bI eE (bI dY (bI dY (bI mZ (bB PZ (pv 0) (bI eE (pv 4) (a9 aZ rfl T.GQ cC (aD (pv 0) aC)))) aG) (bI mZ aG (pv 4))) aG) aG))
 (aH (aQ (bI eE (bI eE (bI eE (bI sV (pv 5) aG) aG) aG) (pv 2)))))))))),?_⟩
 refine ⟨_,rfl,t,_,1,_,rfl,rfl,PJ.of hT,at1,q,0,rfl,rfl,_,rfl,?_⟩;refine CN (λc=>?_) (λc=>?_)
 ·refine ⟨_,rfl,t,_,1,_,rfl,rfl,PJ.of hT,at1,_,rfl,q,m,rfl,rfl,hm,?_⟩;refine ⟨_,rfl,t,_,1,_,rfl,rfl,PJ.of hT,at1,_,rfl,q,m,rfl,rfl,⟨hm,by omega⟩,?_⟩;refine ⟨_,rfl,t,_,1,1,rfl,rfl,hT,ix1,?_⟩;refine ⟨_,rfl,?_⟩;exact post (q % m) _ p (q / m) (PX.upd (Pr.refl H).but) aM hp (MN _ (by omega)) (ML _ hm)
 refine ⟨_,rfl,t,_,0,_,rfl,rfl,PJ.of hT,at0,?_⟩;refine ⟨_,rfl,t,_,0,_,rfl,rfl,Int.le_refl 0,PJ.of hT,rfl,p,1,rfl,rfl,t,_,0,0,rfl,rfl,hT,ix0,?_⟩;refine ⟨_,rfl,(by show 0<=sizeLine;decide),λl hl=>?_⟩;have bt1:PX t H (upd H t (.lst ((V.int p::.int q::rest).set 0 (.int (p+1))))):=PX.upd (Pr.refl H).but;have hlt:l≠t:=λz=>by rw [z,aM] at hl;cases hl
 have Z0:=bt1.trans (aT hl (.lst [])).but
 have ht3:upd (upd H t (.lst ((V.int p::.int q::rest).set 0 (.int (p+1))))) l (.lst []) t=some (.lst (.int (p+1)::.int q::rest)):=by rw [aX (MQ hlt)];exact aM
 have XR:=(hS.but Z0 hT).S7;have hlen:((ns.map V.int).length:Int)=(ns.length:Int):=by rw [LR]
 refine ⟨a,l,_,[],ns.map D.int,[],rfl,rfl,XR,PJ.of aM,eP ns,Pq.nil,fE ns,(by unfold PY;rfl),(by rw [cW];decide),_,rfl,?_⟩;show (if QM (ns.map D.int) []=true then _ else _);rw [lP];refine CN (λc0=>?_) (λc0=>?_)
 ·refine ⟨_,rfl,_,rfl,p,m,rfl,rfl,hm,?_⟩;exact post _ _ (p+1) q Z0 ht3 (by omega) (MN _ (by omega)) (ML _ hm)
 have Zh:(0:Int) < ((ns.map V.int).length:Int):=by
  rw [hlen]
  cases ns with
  | nil=>exact absurd rfl c0
  | cons n ns=>rw [L5];omega
 refine ⟨_,rfl,_,rfl,a,_,rfl,.inl XR,p,_,rfl,rfl,_,rfl,?_⟩;refine CN (λc1=>?_) (λc1=>?_)
 ·have c1':p < ((ns.map V.int).length:Int):=LS c1;obtain ⟨z,hz⟩:=Bm (ns:=ns) hp (by rw [<- hlen];exact c1');refine ⟨_,rfl,_,rfl,a,_,p,_,rfl,rfl,XR,hz,10,18,rfl,rfl,⟨by decide,by decide,by decide⟩,z,_,rfl,rfl,_,rfl,?_⟩;refine CN (λc2=>?_) (λc2=>?_)
  ·refine ⟨_,rfl,_,rfl,a,_,p,_,rfl,rfl,XR,hz,_,rfl,z,m,rfl,rfl,⟨hm,by omega⟩,10,60,rfl,rfl,⟨by decide,by decide,by decide⟩,10,60,rfl,rfl,⟨by decide,by decide,by decide⟩,_,_,rfl,rfl,IntMulOk.of_bits (by decide +kernel) (by decide +kernel),_,_,rfl,rfl,(by show (0:Int) < 10 ^ (60:Int).toNat * 10 ^ (60:Int).toNat;decide +kernel),?_⟩;refine ⟨_,rfl,t,_,1,1,rfl,rfl,ht3,ix1,?_⟩;refine ⟨_,rfl,_,rfl,a,_,p,_,rfl,rfl,(hS.but Z0.upd hT).S7,hz,_,rfl,z,m,rfl,rfl,hm,?_⟩;exact post _ _ (p+1) _ Z0.upd aM (by omega) (MN _ (by omega)) (ML _ hm)
  ·refine ⟨_,rfl,_,rfl,_,rfl,a,_,rfl,.inl XR,p,_,rfl,rfl,Zh,?_⟩;obtain ⟨z2,hz2⟩:=Bm (ns:=ns) (MN p (by omega:((ns.map V.int).length:Int)≠0)) (by rw [<- hlen];exact ML p Zh);refine ⟨a,_,_,_,rfl,rfl,XR,hz2,z2,1103515245,rfl,rfl,.inr ⟨by decide,by decide⟩,_,rfl,7919,p,rfl,rfl,.inl ⟨by decide,by decide⟩,_,_,rfl,rfl,_,_,rfl,rfl,_,_,rfl,rfl,(by show (0:Int) < 2147483647;decide),?_⟩;have m1:=MN (z2 * 1103515245+7919 * p+12345) (by decide:(2147483647:Int)≠0);have m2:=ML (z2 * 1103515245+7919 * p+12345) (by decide:(0:Int) < 2147483647);refine ⟨_,rfl,_,5,rfl,rfl,⟨by decide,by decide,by omega⟩,_,_,rfl,rfl,(by show (0:Int) < 2147483647;decide),_,_,rfl,rfl,(by show (0:Int) < 999983;decide),_,rfl,_,m,rfl,rfl,hm,?_⟩;exact post _ _ (p+1) q Z0 ht3 (by omega) (MN _ (by omega)) (ML _ hm)
 ·refine ⟨_,rfl,_,rfl,_,rfl,a,_,rfl,.inl XR,p,_,rfl,rfl,Zh,?_⟩;obtain ⟨z2,hz2⟩:=Bm (ns:=ns) (MN p (by omega:((ns.map V.int).length:Int)≠0)) (by rw [<- hlen];exact ML p Zh);refine ⟨a,_,_,_,rfl,rfl,XR,hz2,z2,1103515245,rfl,rfl,.inr ⟨by decide,by decide⟩,_,rfl,7919,p,rfl,rfl,.inl ⟨by decide,by decide⟩,_,_,rfl,rfl,_,_,rfl,rfl,_,_,rfl,rfl,(by show (0:Int) < 2147483647;decide),?_⟩;have m1:=MN (z2 * 1103515245+7919 * p+12345) (by decide:(2147483647:Int)≠0);have m2:=ML (z2 * 1103515245+7919 * p+12345) (by decide:(0:Int) < 2147483647);refine ⟨_,rfl,_,5,rfl,rfl,⟨by decide,by decide,by omega⟩,_,_,rfl,rfl,(by show (0:Int) < 2147483647;decide),_,_,rfl,rfl,(by show (0:Int) < 999983;decide),_,rfl,_,m,rfl,rfl,hm,?_⟩;exact post _ _ (p+1) q Z0 ht3 (by omega) (MN _ (by omega)) (ML _ hm)
noncomputable def tT (K:W.Frag):Sp:=λvs H Q _=>∃ (a t l:Addr) (ns:List Int) (xs:List V) (p q:Int) (rest:List V),vs=[.ref a,.ref t,.ref l]/\XG K H a ns/\PJ K H l xs/\l≠t/\0 < xs.length/\xs.length<=1000000 /\
 H t=some (.lst (.int p::.int q::rest))/\0<=p/\∀ (i:Nat) (x:V) (H':Hp) (p' q':Int),PX t H H'->H' t=some (.lst (.int p'::.int q'::rest))->0<=p'->xs[i]?=some x->Q x H'
theorem sI (T:Txt P w K mg) (JL:Ok P w base k T.Ie (tS K)):Ok P w base (k+1) T.Hb (tT K):=by
 refine T.Hb.f.ok Vx (λvs H Q E h=>?_) (λcdv A outer s H vs Q E hr h=>?_)
 ·obtain ⟨a,t,l,ns,xs,p,q,rest,rfl,_⟩:=h;rfl
 have nd:=Vx.nd;obtain ⟨a,t,l,ns,xs,p,q,rest,rfl,hS,hL,hlt,YH,hx1,hT,hp,post⟩:=h;refine ⟨_,(aH (aQ (bB PZ (pv 2) (pc (D:=T.Ie) JL hr (aD (pv 0) (aD (pv 1) (aD (a9 aZ rfl T.GQ cC (aD (pv 2) aC)) aC))))))),?_⟩;refine ⟨_,rfl,_,rfl,_,rfl,_,rfl,l,xs,rfl,.inl hL,a,t,ns,(xs.length:Int),p,q,rest,rfl,hS,hT,hp,by omega,by omega,λr H1 p1 q1 b1 t1 g1 r0 r1=>?_⟩;have hr':r.toNat < xs.length:=by omega
 have er:r=((r.toNat:Nat):Int):=by omega
 have z:Yj xs ((r.toNat:Nat):Int)=some xs[r.toNat]:=ja (LQ hr');rw [<- er] at z;exact ⟨l,xs,r,xs[r.toNat],rfl,rfl,b1.S7 hlt hL,z,post r.toNat _ H1 p1 q1 b1 t1 g1 (LQ hr')⟩
end
inductive Tr where
 | num (n:Int)
 | arg (k:Int)
 | two (o:Str) (a b:Tr)
 | pick (a b c:Tr)
noncomputable def toD:Tr->D
 | .num n=>.tup [.str "num",.int n]
 | .arg k=>.tup [.str "arg",.int k]
 | .two o a b=>.tup [.str o,toD a,toD b]
 | .pick a b c=>.tup [.str "pick",toD a,toD b,toD c]
noncomputable def Yl:Tr->Prop
 | .num n=>0<=n/\n<=9999
 | .arg k=>0<=k/\k<=3
 | .two o a b=>(o="add"\/o="sub"\/o="mul"\/o="less")/\Yl a/\Yl b
 | .pick a b c=>Yl a/\Yl b/\Yl c
noncomputable def fC:Tr->Nat
 | .num _=>1
 | .arg _=>1
 | .two _ a b=>max (fC a) (fC b)+1
 | .pick a b c=>max (fC a) (max (fC b) (fC c))+1
theorem yT (t:Tr):1<=fC t:=by cases t <;> simp [fC]
variable {k:Str} {r:List D}
theorem A4 (h:KTD.inKeys k TL=false):fV (.tup (.str k::r))=(KTD.inKeys k TB && decide ((r.length:Int)+1=1+qG k TB)):=by unfold fV;dsimp only;rw [LZ (by rw [h];exact L6)]
theorem js (h:KTD.inKeys k TB=false):dG (.tup (.str k::r))=[]:=by unfold dG;dsimp only;rw [LZ (by rw [h];exact L6)]
section
variable {P:Program} {w:World} {K:W.Frag} {mg:Str->Option Value} {base:Heap} {k:Nat}
theorem DG (k:Str):qG k TB<=3:=by
 unfold qG;split
 ·rename_i i e;simp only [TB,KTD.datumAt] at e
  repeat' split at e
  all_goals first
   | (cases e;decide)
   | cases e
 ·decide
variable {d:D}
theorem uD (h:fV d=true):(dG d).length<=3:=by
 unfold fV at h;split at h
 ·rename_i k r;unfold dG;dsimp only;split
  ·rename_i hb;split at h
   ·rw [LW] at h;have z:=LS h.1;omega
   ·rw [LW] at h;have z:=LS h.2;have z2:=DG k;omega
  ·exact MK _
 ·cases h
theorem uK (h:fV d=true):∃ k r,d=.tup (.str k::r):=by
 unfold fV at h;split at h
 ·exact ⟨_,_,rfl⟩
 ·cases h
theorem jZ {b:Bool} (h:(!b)=true):b=false:=by cases b with | true=>cases h | false=>rfl
theorem iL {b:Bool} (h:(!b)=false):b=true:=by cases b with | true=>rfl | false=>cases h
noncomputable def sgn (c:Nat):Bool:=(!decide (([c]:List Nat) < ("a":Str).cps.toList)) && !decide (("z":Str).cps.toList < ([c]:List Nat))
noncomputable def iB:D->Bool
 | .str x=>(decide (1<=(x.length:Int)) && decide ((x.length:Int)<=8)) && (x.cps.toList.map sgn).all id
 | _=>false
noncomputable def DS:D->Prop
 | .str x=>x.length<=sizeLine
 | _=>True
noncomputable def uf (ds:List D) (d:D):Prop:=∃ x,ds=[x]/\DS x/\d=.bl (iB x)
variable {x:D}
theorem wm (h:∀ y,x≠.str y):nU x "str"=false:=by
 cases x with
 | str y=>exact absurd rfl (h y)
 | _=>rfl
theorem A0 (h:∀ y,x≠.str y):iB x=false:=by
 cases x with
 | str y=>exact absurd rfl (h y)
 | _=>rfl
theorem wH (T:Txt P w K mg)  : Ok P w base (k+1) T.Ju (Qh K uf):=by
 refine T.Ju.f.ok WG (λvs H Q E h=>?_) (λcdv A outer s H vs Q E hr h=>?_)
 ·obtain ⟨ds,d,hd,⟨x,rfl,_⟩,_⟩:=h;exact hd.length.symm
 have nd:=WG.nd;obtain ⟨ds,d,hd,⟨x,rfl,hx,rfl⟩,post⟩:=h;obtain ⟨v0,rfl,h0⟩:=hX hd;refine ⟨_,(aF (bD (PW.pt (iC (dS (bT (a9 (fB AK) rfl T.GJ cR (dA (pv 0) (dA (f9 (v:=.ty "str") rfl T.LB Ah rfl) aC))) (λ_=>rfl))) (fT (dS (pM kG kG aG (a9 rO rfl T.GQ cC (aD (pv 0) aC)) (bQ (v:=.int 8) rfl T.HE ⟨_,rfl⟩)))))) (aH (aQ eM)) aU)
 (aH (aQ (a9 (j0 rfl) rfl T.K5 oO (aD (dZ (own:=["sign"]) (fr:=[]) (N':=["sign"]) (EV (pv 0)) rfl (by show dX ["thing"] (λx=>(aK m9).names.lookup x) _ _ _ _=true;decide +kernel) rfl (λ_ _ _ _ _=>(aY (i:=0) (by show List.Nodup [("sign":Str)];decide +kernel) rfl (Or.inl rfl))) (λ_ _ _ _ _=>cX) (λ_ _ _ _ _=>(uY Bb Bb aN (pv 0) aN))) aC))))),?_⟩
 by_cases hs:∃ y,x=.str y
 ·obtain ⟨y,rfl⟩:=hs;have hx:y.length<=sizeLine:=hx;refine aP (K:=K) (b:=!(decide (1<=(y.length:Int)) && decide ((y.length:Int)<=8))) ?_ (λc H1 s1=>?_) (λc H1 s1=>?_)
  ·exact RT.as (eI (bX (bH (cJ (aB h0)))) λ_=>bX (aJ (mq (p:=λi j=>decide (i<=j)) (r:=λi j=>decide (i<=j)) aE (Do (aB h0) hx) λ_=>aE))) rfl
  ·refine bC (K:=K) (d:=.bl (iB (.str y))) ?_ λv H' s q=>post v H' (s1.trans s) q
   have e:iB (.str y)=false:=by show (_ && _)=false;have c':=jZ c;rw [c',NV]
   rw [e];exact gL
  ·have c':=iL c
   have hy:y.cps.size<=8:=by rw [LW] at c';have:=LS c'.2;have e:y.length=y.cps.size:=rfl;omega
   refine bC (K:=K) (d:=.bl (iB (.str y))) ?_ λv H' s q=>post v H' (s1.trans s) q
   have e:iB (.str y)=(y.cps.toList.map sgn).all id:=by show (_ && _)=_;rw [c',Nk]
   rw [e];refine mm (bs:=y.cps.toList.map sgn) (E9 (aB (s1.dat h0)) (by omega) _ (by simp) rfl (λH2 i c d s2 hc hd2=>?_));rw [LV,LV] at hd2;have hc':y.cps.toList[i]?=some c:=by simpa using hc
   rw [hc'] at hd2;cases hd2;refine RE.as (zy (p:=λi j=>!decide (j.cps.toList < i.cps.toList)) (q':=λi j=>!decide (j.cps.toList < i.cps.toList)) aL (aB (Dat.Rb _)) λ_=>aL) rfl
 ·have hs':∀ y,x≠.str y:=λy e=>hs ⟨y,e⟩;refine aP (K:=K) (b:=true) ?_ (λc H1 s1=>?_) (λc=>nomatch c)
  ·exact RT.as (eI (b:=true) (c:=true) (RT.as (bX (bH (cJ (aB h0)))) (by rw [wm hs'];rfl)) λc=>nomatch c) rfl
  ·refine bC (K:=K) (d:=.bl (iB x)) ?_ λv H' s q=>post v H' (s1.trans s) q;rw [A0 hs'];exact gL
theorem Em:∀ p ∈ TM,∃ i,p.2=.flat (.int i):=by intro p hp;simp only [TM,Mm,Nc,Oi] at hp;rcases hp with rfl | rfl | rfl <;> exact ⟨_,rfl⟩
noncomputable def fK:D->Bool
 | .tup (.str k::r)=>decide ((r.length:Int)+1=kB k TM 0) && (dM (r.getD 0 .Py) 0 1 && (!decide (k="gap") || dM (r.getD 1 .Py) 0 9999))
 | _=>false
theorem j6 (k:Str) (r:List D):fK (.tup (.str k::r))=(decide ((r.length:Int)+1=kB k TM 0) && (dM (r.getD 0 .Py) 0 1 && (!decide (k="gap") || dM (r.getD 1 .Py) 0 9999))):=rfl
noncomputable def DJ (ds:List D) (d:D):Prop:=∃ x,ds=[x]/\d=.bl (fK x)
theorem uG (k:Str):kB k TM 0=0\/kB k TM 0=2\/(k="gap"/\kB k TM 0=3):=by
 unfold kB;by_cases h1:k="hole"
 ·subst h1;exact .inr (.inl rfl)
 by_cases h2:k="gap"
 ·subst h2;exact .inr (.inr ⟨rfl,rfl⟩)
 by_cases h3:k="slot"
 ·subst h3;exact .inr (.inl rfl)
 have e:KTD.datumAt k TM=none:=by simp [TM,KTD.datumAt,h1,h2,h3]
 rw [e];exact .inl rfl
theorem Fw (h:eZ x=false):fK x=false:=by
 unfold eZ at h;unfold fK;split at h
 ·cases h
 ·rename_i hn
  first
   | rfl
   | (split
      ·rename_i k r;exact absurd rfl (hn k r)
      ·rfl)
theorem wG (T:Txt P w K mg) (IZ:Ok P w base k T.HH (Qh K om)) (GX:Ok P w base k T.GK (Qh K gO)):Ok P w base (k+1) T.Kj (Qh K DJ):=by
 refine T.Kj.f.ok WH (λvs H Q E h=>?_) (λcdv A outer s H vs Q E hr h=>?_)
 ·obtain ⟨ds,d,hd,⟨x,rfl,rfl⟩,_⟩:=h;exact hd.length.symm
 have nd:=WH.nd;obtain ⟨ds,d,hd,⟨x,rfl,rfl⟩,post⟩:=h;obtain ⟨v0,rfl,h0⟩:=hX hd;refine ⟨_,(aF (bD (PW.pt (iC (dS (bT (pc (D:=T.HH) IZ hr (aD (pv 0) aC)) (λ_=>rfl))) (fT (aO qU (a9 aZ rfl T.GQ cC (aD (pv 0) aC)) (qW (bQ (v:=.ref T.Hu) rfl T.Hf rfl) (bB aW (pv 0) aG) aG ⟨rfl,rfl,rfl,rfl⟩) (aV _))))) (aH (aQ eM)) aU)
 (aF (bD (dS (bT (pc (D:=T.GK) GX hr (aD (bB aW (pv 0) aG) (aD aG (aD aG aC)))) (λ_=>rfl))) (aH (aQ eM)) aU)
 (aH (aQ (DT (hE qU (bB aW (pv 0) aG) aN (aV _)) (kX (pc (D:=T.GK) GX hr (aD (bB aW (pv 0) aG) (aD aG (aD (bQ (v:=.int 9999) rfl T.IM ⟨_,rfl⟩) aC)))))))))),?_⟩
 cases ht:eZ x with
 | false =>
  refine aP (K:=K) (b:=true) ?_ (λc H1 s1=>?_) (λc=>nomatch c)
  ·exact RT.as (eI (b:=true) (c:=true) (RT.as (bX (bH (bE (aA (aB h0) aI) ⟨x,rfl,rfl⟩))) (by rw [ht];rfl)) λc=>nomatch c) rfl
  ·refine bC (K:=K) (d:=.bl (fK x)) ?_ λv H' s q=>post v H' (s1.trans s) q;rw [Fw ht];exact gL
 | true =>
  have ht':=ht;unfold eZ at ht';split at ht'
  ·rename_i kd r;have el:((((D.str kd)::r).length:Nat):Int)=(r.length:Int)+1:=by rw [L5];omega
   refine aP (K:=K) (b:=!decide ((r.length:Int)+1=kB kd TM 0)) ?_ (λc H1 s1=>?_) (λc H1 s1=>?_)
   ·have b1:=pS (K:=K) (cY (aB (σ:=gI ["thing"] [v0]) (k:=0) h0)) (rb (i:=0) T.HF (a7 (k:=0) (aB (σ:=gI ["thing"] [v0]) (k:=0) h0) aE rfl) aE Em);rw [el] at b1;exact RT.as (eI (b:=false) (RT.as (bX (bH (bE (aA (aB h0) aI) ⟨_,rfl,rfl⟩))) (by rw [ht];rfl)) λ_=>aJ b1) (NF _)
   ·refine bC (K:=K) (d:=.bl (fK (.tup (.str kd::r)))) ?_ λv H' s q=>post v H' (s1.trans s) q
    have e:fK (.tup (.str kd::r))=false:=by rw [j6];rw [show decide ((r.length:Int)+1=kB kd TM 0)=false from jZ c,NV]
    rw [e];exact gL
   ·have c':decide ((r.length:Int)+1=kB kd TM 0)=true:=iL c;have hl:=LS c';have h1:=s1.dat h0
    obtain ⟨y,r',er⟩:∃ y r',r=y::r':=by
     cases r with
     | nil=>rcases uG kd with h | h | ⟨_,h⟩ <;> (rw [h] at hl;simp at hl)
     | cons y r'=>exact ⟨y,r',rfl⟩
    subst er;refine aP (K:=K) (b:=!dM y 0 1) (bX (bH (bE (R:=gO) (aA (a7 (k:=1) (aB h1) aE rfl) (aA aE (aA aE aI))) ⟨y,0,1,rfl,rfl⟩))) (λc2 H2 s2=>?_) (λc2 H2 s2=>?_)
    ·refine bC (K:=K) (d:=.bl (fK (.tup (.str kd::y::r')))) ?_ λv H' s q=>post v H' (s1.trans (s2.trans s)) q
     have e:fK (.tup (.str kd::y::r'))=false:=by rw [j6,c',Nk];show (dM y 0 1 && _)=false;rw [show dM y 0 1=false from jZ c2,NV]
     rw [e];exact gL
    ·refine bC (K:=K) (d:=.bl (fK (.tup (.str kd::y::r')))) ?_ λv H' s q=>post v H' (s1.trans (s2.trans s)) q;have h2:=s2.dat h1
     have e:fK (.tup (.str kd::y::r'))=(!decide (kd="gap") || dM (r'.getD 0 .Py) 0 9999):=by rw [j6,c',Nk];show (dM y 0 1 && (!decide (kd="gap") || dM (r'.getD 0 .Py) 0 9999))=_;rw [show dM y 0 1=true from iL c2,Nk]
     rw [e];refine DZ (BN (a7 (k:=0) (aB h2) aE rfl) aL) λc3=>?_;have hk:kd="gap":=by simpa using c3
     obtain ⟨z,er⟩:∃ z,r'=[z]:=by
      rcases uG kd with h | h | ⟨_,h⟩
      ·rw [h] at hl;simp at hl;omega
      ·rw [hk] at h;exact absurd h (by decide +kernel)
      ·rw [h] at hl
       match r',hl with
       | [z],_=>exact ⟨z,rfl⟩
       | [],h=>simp at h
       | _::_::_,h=>simp at h;omega
     subst er;exact bE (E:=E0) (R:=gO) (aA (a7 (k:=2) (aB h2) aE rfl) (aA aE (aA aE aI))) ⟨z,0,9999,rfl,rfl⟩
  ·cases ht'
noncomputable def lI:D->Bool
 | .tup (.str k::_)=>decide (k ∈ (["arg","pick"]:List Str))
 | _=>false
noncomputable def Wq:Nat->D->Bool
 | 0,_=>false
 | n+1,d=>fK d || (fV d && (!lI d && ((dG d).map (Wq n)).all id))
noncomputable def ZG (n:Nat) (ds:List D) (d:D):Prop:=∃ x,ds=[x,.int (4 - (n:Int))]/\d=.bl (Wq n x)
noncomputable def DL:Nat->List D->D->Prop
 | 0=>λ_ _=>False
 | n+1=>ZG n
variable {n:Nat}
theorem iN (T:Txt P w K mg) (Lv:Ok P w base k T.Kj (Qh K DJ)) (Lw:Ok P w base k T.Kk (Qh K DK)) (Jw:Ok P w base k T.HG (Qh K lG)) (ID:Ok P w base k T.GN (Qh K (DL n))):Ok P w base (k+1) T.GN (Qh K (ZG n)):=by
 refine T.GN.f.ok Sh (λvs H Q E h=>?_) (λcdv A outer s H vs Q E hr h=>?_)
 ·obtain ⟨ds,d,hd,⟨x,rfl,rfl⟩,_⟩:=h;exact hd.length.symm
 have nd:=Sh.nd;obtain ⟨ds,d,hd,⟨x,rfl,rfl⟩,post⟩:=h;obtain ⟨v0,v1,rfl,h0,h1⟩:=jb hd;refine ⟨_,(aF (bD (aO pE (pv 1) (bQ (v:=.int 3) rfl T.GO ⟨_,rfl⟩) (aV _)) (aH (aQ eM)) aU)
 (aF (bD (bT (pc (D:=T.Kj) Lv hr (aD (pv 0) aC)) (λ_=>rfl)) (aH (aQ eM)) aU)
 (aF (bD (PW.pt (iC (dS (bT (pc (D:=T.Kk) Lw hr (aD (pv 0) aC)) (λ_=>rfl))) (fT (aO eA (bB aW (pv 0) aG) (aS (aD aN (aD aN aC))) (by with_unfolding_all rfl))))) (aH (aQ eM)) aU)
 (aH (aQ (a9 (j0 rfl) rfl T.K5 oO (aD (dZ (own:=["within"]) (fr:=[1]) (N':=["within","deep"]) (m4 (pc (D:=T.HG) Jw hr (aD (pv 0) aC))) rfl (by show dX ["thing","deep"] (λx=>(aK gH).names.lookup x) _ _ _ _=true;decide +kernel) rfl (λ_ _ _ _ _=>(aY (i:=0) (by show List.Nodup [("within":Str),("deep":Str)];decide +kernel) rfl (Or.inl rfl))) (λ_ _ _ _ _=>cX) (λ_ _ _ _ _=>(pc (D:=T.GN) ID hr (aD (pv 0) (aD (bI dY (pv 1) aG) aC))))) aC))))))),?_⟩
 cases n with
 | zero =>refine aP (K:=K) (b:=true) (RT.as (aJ (cO (p:=λi j=>decide (j < i)) (aB h1) aE)) rfl) (λc H1 s1=>?_) (λc=>nomatch c);exact bC (K:=K) (d:=.bl false) gL λv H' s q=>post v H' (s1.trans s) q
 | succ n =>
  refine aP (K:=K) (b:=false) (RT.as (aJ (cO (p:=λi j=>decide (j < i)) (aB h1) aE)) (LY (by omega))) (λc=>nomatch c) (λc H1 s1=>?_);have h0:=s1.dat h0;have h1:=s1.dat h1;refine aP (K:=K) (b:=fK x) (bH (bE (aA (aB h0) aI) ⟨x,rfl,rfl⟩)) (λc H2 s2=>?_) (λc H2 s2=>?_)
  ·refine bC (K:=K) (d:=.bl true) gL λv H' s q=>post v H' (s1.trans (s2.trans s)) ?_;have e:Wq (n+1) x=true:=by unfold Wq;rw [c];rfl
   rw [e];exact q
  have h0:=s2.dat h0;have h1:=s2.dat h1
  have e1:Wq (n+1) x=(fV x && (!lI x && ((dG x).map (Wq n)).all id)):=by show (fK x || _)=_;rw [c,NF]
  cases hn:fV x with
  | false =>refine aP (K:=K) (b:=true) (RT.as (eI (b:=true) (c:=true) (RT.as (bX (bH (bE (aA (aB h0) aI) ⟨x,rfl,rfl⟩))) (by rw [hn];rfl)) λc=>nomatch c) rfl) (λc H3 s3=>?_) (λc=>nomatch c);refine bC (K:=K) (d:=.bl false) gL λv H' s q=>post v H' (s1.trans (s2.trans (s3.trans s))) ?_;rw [e1,hn];exact q
  | true =>
   obtain ⟨kd,r,ek⟩:=uK hn;have few:=uD hn;have h0':Dat K H2 (.tup (.str kd::r)) v0:=by rw [<- ek];exact h0
   refine aP (K:=K) (b:=lI x) (RT.as (eI (b:=false) (RT.as (bX (bH (bE (aA (aB h0) aI) ⟨x,rfl,rfl⟩))) (by rw [hn];rfl)) λ_=>aJ (iR (ys:=["arg","pick"]) (a7 (k:=0) (aB h0') aE rfl) (aR (aA aL (aA aL aI))))) (by rw [ek];exact NF _)) (λc3 H3 s3=>?_) (λc3 H3 s3=>?_)
   ·refine bC (K:=K) (d:=.bl false) gL λv H' s q=>post v H' (s1.trans (s2.trans (s3.trans s))) ?_;rw [e1,hn,c3];exact q
   ·have h1:=s3.dat h1;refine bC (K:=K) (d:=.bl (((dG x).map (Wq n)).all id)) (mm (wQ (cs:=dG x) (bE (R:=lG) (aA (aB (s3.dat h0)) aI) ⟨kd,r,by rw [ek],by rw [ek]⟩) (by omega) _ (by simp) rfl (λH4 i z vz d s4 hz hi hvz=>?_))) λv H' s q=>post v H' (s1.trans (s2.trans (s3.trans s))) ?_
    ·rw [LV,LV,hz] at hi;cases hi;exact bE (E:=E0) (R:=ZG n) (aA (aB hvz) (aA (RE.as (dU (aB (s4.dat h1)) aE) (MH D.int (by omega:(4:Int) - ((n+1:Nat):Int)+1=4 - (n:Int)))) aI)) ⟨z,rfl,rfl⟩
    ·rw [e1,hn,c3];exact q
noncomputable def mS (k:Str):D->Bool
 | .tup (.str h::_)=>decide (h=k)
 | _=>false
noncomputable def cG:Nat->Str->D->List D
 | 0,_,_=>[]
 | n+1,k,d=>if mS k d=true then [d] else (dG d).flatMap (cG n k)
noncomputable def iD (n:Nat) (ds es:List D):Prop:=∃ x k,ds=[x,.str k]/\n<=3/\Wq n x=true/\es=cG n k x
theorem uH (h:fK d=true):∃ k r,d=.tup (.str k::r):=by
 unfold fK at h;split at h
 ·exact ⟨_,_,rfl⟩
 ·cases h
theorem AZ {k:Str} {r:List D} (h:fK (.tup (.str k::r))=true):k="hole"\/k="gap"\/k="slot":=by
 rw [j6,LW] at h;have hl:=LS h.1;unfold kB at hl;by_cases h1:k="hole"
 ·exact .inl h1
 by_cases h2:k="gap"
 ·exact .inr (.inl h2)
 by_cases h3:k="slot"
 ·exact .inr (.inr h3)
 have e:KTD.datumAt k TM=none:=by simp [TM,KTD.datumAt,h1,h2,h3]
 rw [e] at hl;dsimp only at hl;omega
theorem qo {k:Str} (h:k="hole"\/k="gap"\/k="slot"):KTD.inKeys k TB=false/\KTD.inKeys k TL=false:=by rcases h with rfl | rfl | rfl <;> decide +kernel
theorem zf (h:fK d=true):dG d=[]:=by obtain ⟨k,r,rfl⟩:=uH h;exact js (qo (AZ h)).1
theorem wN (h:Wq n d=true):∃ k r,d=.tup (.str k::r):=by
 cases n with
 | zero=>cases h
 | succ n =>
  have h':(fK d || (fV d && (!lI d && ((dG d).map (Wq n)).all id)))=true:=h;rw [Ov] at h';rcases h' with h' | h'
  ·exact uH h'
  ·rw [LW] at h';exact uK h'.1
theorem sY (h:Wq (n+1) d=true):(dG d).length<=3/\∀ c ∈ dG d,Wq n c=true:=by
 have h':(fK d || (fV d && (!lI d && ((dG d).map (Wq n)).all id)))=true:=h;rw [Ov] at h';rcases h' with h' | h'
 ·rw [zf h'];exact ⟨by simp,λc hc=>absurd hc (by simp)⟩
 ·rw [LW,LW] at h';refine ⟨uD h'.1,λc hc=>?_⟩;have z:=MF.mp h'.2.2 (Wq n c) (M9.mpr ⟨c,hc,rfl⟩);exact z
theorem xQ {α β:Type} (f:α->List β) (m:Nat):∀ l:List α,(∀ x ∈ l,(f x).length<=m)->(l.flatMap f).length<=l.length * m
 | [],_=>by simp
 | x::l,h=>by have h1:=h x (by simp);have h2:=xQ f m l λy hy=>h y (by simp [hy]);rw [N7,Ma,L5,Pp];omega
theorem jv (k:Str):∀ (n:Nat) (d:D),Wq n d=true->(cG n k d).length<=3 ^ n
 | 0,d,h=>by cases h
 | n+1,d,h=>by
  unfold cG;split
  ·have:1<=3 ^ (n+1):=Nat.one_le_iff_ne_zero.mpr (by simp);simpa using this
  ·obtain ⟨h1,h2⟩:=sY h;have z:=xQ (cG n k) (3 ^ n) (dG d) λc hc=>jv k n c (h2 c hc);have z2:(dG d).length * 3 ^ n<=3 * 3 ^ n:=OU _ h1;rw [Nat.pow_succ,Nat.mul_comm (3 ^ n) 3];omega
theorem p3 (h:n<=3):3 ^ n<=27:=by
 match n,h with
 | 0,_=>decide
 | 1,_=>decide
 | 2,_=>decide
 | 3,_=>decide
theorem uS (T:Txt P w K mg) (Jw:Ok P w base k T.HG (Qh K lG)) (HI:Ok P w base k T.GS (iU K (iD n))):Ok P w base (k+1) T.GS (iU K (iD (n+1))):=by
 refine T.GS.f.ok Wf (λvs H Q E h=>?_) (λcdv A outer s H vs Q E hr h=>?_)
 ·obtain ⟨ds,es,hd,⟨x,kk,rfl,_⟩,_⟩:=h;exact hd.length.symm
 have nd:=Wf.nd;obtain ⟨ds,es,hd,⟨x,kk,rfl,hn3,hp,rfl⟩,post⟩:=h;obtain ⟨v0,v1,rfl,h0,h1⟩:=jb hd;refine ⟨_,(aF (bD (aO cH (bB aW (pv 0) aG) (pv 1) (aV _)) (aH (aQ (b0 (aD (pv 0) aC)))) aU)
 (aF (bM (i:=2) nd rfl (Or.inl rfl) (b0 aC))
 (aF (fS MJ rfl (m4 (pc (D:=T.HG) Jw hr (aD (pv 0) aC))) (aY (i:=3) nd rfl (Or.inl rfl)) (aH (bK (eU Mn Nt NO gR (pv 2) (aD (pc (D:=T.GS) HI hr (aD (pv 3) (aD (pv 1) aC))) aC)))))
 (aH (aQ (pv 2)))))),?_⟩
 obtain ⟨kd,r,ek⟩:=wN hp;have h0':Dat K H (.tup (.str kd::r)) v0:=by rw [<- ek];exact h0
 have eh:mS kk x=decide (kd=kk):=by rw [ek];rfl
 obtain ⟨few,kok⟩:=sY hp;have cap:=jv kk (n+1) x hp;have cap3:=p3 hn3;refine aP (K:=K) (b:=mS kk x) (RT.as (aJ (bF (a7 (k:=0) (aB h0') aE rfl) (aB h1))) eh.symm) (λc H1 s1=>?_) (λc H1 s1=>?_)
 ·refine jx ((cE (K:=K) (es:=[x]) (aA (aB (s1.dat h0)) aI)).use λl ys H2 hl s2 hy hd2=>?_);refine post l ys H2 (s1.trans s2) hy (s1.free hl) ?_;unfold cG;rw [Mc c];exact hd2
 have em:cG (n+1) kk x=(dG x).flatMap (cG n kk):=by show (if mS kk x=true then _ else _)=_;rw [LZ (by rw [c];exact L6)]
 rw [em] at cap post;have h0:=s1.dat h0;have h1:=s1.dat h1;have hk1:=h1.P9;refine gE (K:=K) (es:=[]) (cE aI) λwl ys0 H2 hw s2 hy0 hd0=>?_;have hw0:H wl=none:=s1.free hw;refine cZ (RE.use (bE (R:=lG) (d:=.tup (dG x)) (aA (aB (K:=K) (k:=0) (s2.dat h0)) aI) ⟨kd,r,by rw [ek],by rw [ek]⟩) λv4 H4 s4 q4=>?_);obtain ⟨a,vs,ea,hq,hds⟩:=q4.P7;subst ea;have hl:=hds.length;refine ⟨a,rfl,⟨vs,hq⟩,xS (xs:=vs) (λi σ G=>∃ (z:Option V) (ys:List V),σ=[some v0,some v1,some (.ref wl),z]/\Pr H G/\QE K G a vs/\Pq K G (dG x) vs/\G wl=some (.lst ys)/\Pq K G (((dG x).take i).flatMap (cG n kk)) ys) ?_ (λi σ G _ ⟨z,ys,_,_,p,_⟩=>p) ?_ ?_⟩
 ·exact ⟨none,ys0,rfl,s1.trans (s2.trans s4),hq,hds,s4 _ _ hy0,s4.P0 hd0⟩
 ·rintro i vx σ G hi ⟨z,ys,rfl,sG,hqG,hdG,hwG,hyG⟩;obtain ⟨dx,ex,hx⟩:=hdG.WD hi;have hpx:=kok dx (Mj ex);subst hk1;refine ⟨_,rfl,.inl ⟨rfl,_,PJ.of hwG⟩,_,rfl,_,rfl,[dx,.str kk],_,(Pq.cons hx (Pq.cons (Dat.Rb _) Pq.nil):Pq K G [dx,.str kk] [vx,.str kk]),⟨dx,kk,rfl,by omega,hpx,rfl⟩,λr us H5 s5 ZH _ hd5=>?_⟩;have hw5:=s5 _ _ hwG;have b6:PX wl H5 (upd H5 wl (.lst (ys++us))):=PX.upd (Pr.refl H5).but;have g6:fA K H5 (upd H5 wl (.lst (ys++us))):=b6.grow hw5 aM
  have et:((dG x).take (i+1)).flatMap (cG n kk)=((dG x).take i).flatMap (cG n kk)++cG n kk dx:=by rw [MP,ex];simp
  have lt:(((dG x).take (i+1)).flatMap (cG n kk)).length<=27:=by
   have e2:((dG x).take (i+1)).flatMap (cG n kk)++((dG x).drop (i+1)).flatMap (cG n kk)=(dG x).flatMap (cG n kk):=by rw [<- OZ,N9]
   have:=MH List.length e2;rw [Ma] at this;omega
  have ly:=hyG.length;have lu:=hd5.length;rw [et,Ma] at lt;refine ⟨wl,r,ys,us,rfl,rfl,hw5,ZH,jg (by omega),some vx,ys++us,rfl,λb o hb=>b6 b o (bS hb hw0) (s5 _ _ (sG _ _ hb)),g6.tup _ _ (s5.YM hqG),Pq.mono g6 _ (s5.P0 hdG),aM,?_⟩;rw [et];exact Pq.append (Pq.mono g6 _ (s5.P0 hyG)) (Pq.mono g6 _ hd5)
 ·rintro σ G ⟨z,ys,rfl,sG,hqG,hdG,hwG,hyG⟩;refine ⟨_,rfl,post wl ys G sG hwG hw0 ?_⟩;rw [<- hl,MY] at hyG;exact hyG
noncomputable def Fn:D->D
 | .tup (_::y::_)=>y
 | _=>.Py
theorem wu {k:Str} {r:List D} (h:fK (.tup (.str k::r))=true):∃ i r',r=.int i::r':=by
 rw [j6,LW,LW] at h;have hw:=h.2.1
 cases r with
 | nil=>cases hw
 | cons y r' =>
  have ZE:dM y 0 1=true:=hw
  cases y with
  | int i=>exact ⟨i,r',rfl⟩
  | _=>cases ZE
theorem j7 {k:Str} (hk:k="hole"\/k="gap"\/k="slot"):∀ (n:Nat) (x m:D),Wq n x=true->m ∈ cG n k x->∃ i r,m=.tup (.str k::.int i::r)
 | 0,x,m,h,_=>by cases h
 | n+1,x,m,h,hm=>by
  unfold cG at hm;split at hm
  ·rename_i hh;have e:m=x:=by simpa using hm
   subst e;obtain ⟨k',r,rfl⟩:=wN h;have ek:k'=k:=LS hh;subst ek;have h':(fK (.tup (.str k'::r)) || (fV (.tup (.str k'::r)) && _))=true:=h;rw [Ov] at h';rcases h' with h' | h'
   ·obtain ⟨i,r',rfl⟩:=wu h';exact ⟨i,r',rfl⟩
   ·rw [LW] at h';have z:=h'.1;rw [A4 (qo hk).2,(qo hk).1,NV] at z;cases z
  ·obtain ⟨c,hc,hm'⟩:=List.mem_flatMap.mp hm;exact j7 hk n c m ((sY h).2 c hc) hm'
noncomputable def CV (k:Str) (x:D):Bool:=QM ((cG 3 k x).map Fn) ((List.range (cG 3 k x).length).map λi:Nat=>D.int i)
noncomputable def Eg (ds:List D) (d:D):Prop:=∃ x k,ds=[x,.str k]/\Wq 3 x=true/\(k="hole"\/k="gap"\/k="slot")/\d=.bl (CV k x)
variable {σ:L2.St} {H:Hp} {l:Addr} {ys:List V}
theorem Dp {K:W.Frag} {k:Nat} (hl:H l=some (.lst ys)) (e:σ[k]?=some (some (.ref l)):=by rfl):RE K (WB (λxs H Q=>∃ p ys,xs=[.ref p]/\(PJ K H p ys\/QE K H p ys)/\Q (.int ys.length) H) (bO (dW k) dH)) σ H (.int ys.length):=λH1 s Q q =>
 ⟨.ref l,e,l,ys,rfl,.inl (PJ.of (s _ _ hl)),q _ _ (Pr.refl _) (Dat.Px _)⟩
theorem pb {l:List D} (h:∀ d ∈ l,∃ i,d=.int i):PY l=true/\PC l=0:=by
 induction l with
 | nil=>exact ⟨by unfold PY;rfl,by unfold PC;rfl⟩
 | cons d l ih =>
  obtain ⟨i,rfl⟩:=h d (by simp);obtain ⟨h1,h2⟩:=ih λd hd=>h d (by simp [hd]);refine ⟨?_,?_⟩
  ·unfold PY;rw [h1];unfold Rp;rfl
  ·unfold PC;rw [h2];unfold fJ;rfl
theorem pC (T:Txt P w K mg) (HI:Ok P w base k T.GS (iU K (iD 3))):Ok P w base (k+1) T.IW (Qh K Eg):=by
 refine T.IW.f.ok UJ (λvs H Q E h=>?_) (λcdv A outer s H vs Q E hr h=>?_)
 ·obtain ⟨ds,d,hd,⟨x,kk,rfl,_⟩,_⟩:=h;exact hd.length.symm
 have nd:=UJ.nd;obtain ⟨ds,d,hd,⟨x,kk,rfl,hp,hk,rfl⟩,post⟩:=h;obtain ⟨v0,v1,rfl,h0,h1⟩:=jb hd;refine ⟨_,(aF (pK (i:=2) (own:=["mark"]) (fr:=[]) (N':=["mark"]) (cU (pc (D:=T.GS) HI hr (aD (pv 0) (aD (pv 1) aC)))) rfl (by show dX ["pattern","kind","numbers"] (λx=>(aK jm).names.lookup x) _ _ _ _=true;decide +kernel) rfl (λ_ _ _ _ _=>(aY (i:=0) (by show List.Nodup [("mark":Str)];decide +kernel) rfl (Or.inl rfl))) (λ_ _ _ _ _=>cX) (λ_ _ _ _ _=>(bB (r:=pN K) aW (pv 0) aG)) nd rfl rfl rfl)
 (aH (aQ (hE (sR hr) (pv 2) (cQ (gY rfl) rfl T.Jl fZ (aD (cQ lK rfl T.Jp lJ (aD (a9 aZ rfl T.GQ cC (aD (pv 2) aC)) aC)) aC)) (aV _))))),?_⟩
 have cap:=jv kk 3 x hp;refine gE (K:=K) (es:=(cG 3 kk x).map Fn) (Di (cs:=cG 3 kk x) (fG (R:=iD 3) (aA (aB h0) (aA (aB h1) aI)) ⟨x,kk,rfl,by decide,hp,rfl⟩) (Mr cap (by decide)) _ (by simp) rfl (λH1 i c v d s1 hc hi hv=>?_)) λl ys H2 hl s2 hy hd2=>?_
 ·rw [LV,hc] at hi;cases hi;obtain ⟨j,r,rfl⟩:=j7 hk 3 x c hp (Mj hc);exact a7 (k:=1) (aB hv) aE rfl
 have ll:=hd2.length;rw [LR] at ll;refine ⟨_,rfl,(jL (K:=K) (n:=ys.length) (Dp (k:=2) hy) (by rw [<- ll];exact Mr cap (by decide))).use λl2 ys2 H3 hl2 s3 hy3 hd3=>?_⟩
 have i1:∀ d ∈ (cG 3 kk x).map Fn,∃ i,d=.int i:=λd hdm=>by obtain ⟨m,hm,rfl⟩:=M9.mp hdm;obtain ⟨j,r,rfl⟩:=j7 hk 3 x m hp hm;exact ⟨j,rfl⟩
 have i2:∀ d ∈ (List.range ys.length).map (λi:Nat=>D.int i),∃ i,d=.int i:=λd hdm=>by obtain ⟨m,hm,rfl⟩:=M9.mp hdm;exact ⟨_,rfl⟩
 refine ⟨l,l2,ys,ys2,_,_,rfl,rfl,PJ.of (s3 _ _ hy),PJ.of hy3,s3.P0 hd2,hd3,(pb i1).1,(pb i2).1,by rw [(pb i1).2];decide,?_⟩;refine post _ _ (s2.trans s3) ?_;unfold CV;rw [ll];exact Dat.UA _
noncomputable def og (x:D):Bool:=Wq 3 x && (!mS "hole" x && ((["hole","gap","slot"]:List Str).map λk=>CV k x).all id)
noncomputable def Eh (ds:List D) (d:D):Prop:=∃ x,ds=[x]/\d=.bl (og x)
theorem qy (T:Txt P w K mg) (ID:Ok P w base k T.GN (Qh K (ZG 3))) (K2:Ok P w base k T.IW (Qh K Eg)):Ok P w base (k+1) T.Js (Qh K Eh):=by
 refine T.Js.f.ok U5 (λvs H Q E h=>?_) (λcdv A outer s H vs Q E hr h=>?_)
 ·obtain ⟨ds,d,hd,⟨x,rfl,rfl⟩,_⟩:=h;exact hd.length.symm
 have nd:=U5.nd;obtain ⟨ds,d,hd,⟨x,rfl,rfl⟩,post⟩:=h;obtain ⟨v0,rfl,h0⟩:=hX hd;refine ⟨_,(aF (bD (PW.pt (iC (dS (bT (pc (D:=T.GN) ID hr (aD (pv 0) (aD aG aC))) (λ_=>rfl))) (fT (aO cH (bB aW (pv 0) aG) aN (aV _))))) (aH (aQ eM)) aU)
 (aH (aQ (a9 (j0 rfl) rfl T.K5 oO (aD (dZ (own:=["kind"]) (fr:=[0]) (N':=["kind","thing"]) (EW (bQ (v:=.ref T.Hu) rfl T.Hf rfl)) rfl (by show dX ["thing"] (λx=>(aK jN).names.lookup x) _ _ _ _=true;decide +kernel) rfl (λ_ _ _ _ _=>(aY (i:=0) (by show List.Nodup [("kind":Str),("thing":Str)];decide +kernel) rfl (Or.inl rfl))) (λ_ _ _ _ _=>cX) (λ_ _ _ _ _=>(pc (D:=T.IW) K2 hr (aD (pv 1) (aD (pv 0) aC))))) aC))))),?_⟩
 cases hp:Wq 3 x with
 | false =>refine aP (K:=K) (b:=true) (RT.as (eI (b:=true) (c:=true) (RT.as (bX (bH (bE (R:=ZG 3) (aA (aB h0) (aA aE aI)) ⟨x,rfl,rfl⟩))) (by rw [hp];rfl)) λc=>nomatch c) rfl) (λc H3 s3=>?_) (λc=>nomatch c);refine bC (K:=K) (d:=.bl false) gL λv H' s q=>post v H' (s3.trans s) ?_;unfold og;rw [hp];exact q
 | true =>
  obtain ⟨kd,r,ek⟩:=wN hp;have h0':Dat K H (.tup (.str kd::r)) v0:=by rw [<- ek];exact h0
  refine aP (K:=K) (b:=mS "hole" x) (RT.as (eI (b:=false) (RT.as (bX (bH (bE (R:=ZG 3) (aA (aB h0) (aA aE aI)) ⟨x,rfl,rfl⟩))) (by rw [hp];rfl)) λ_=>aJ (bF (a7 (k:=0) (aB h0') aE rfl) aL)) (by rw [ek];exact NF _)) (λc H1 s1=>?_) (λc H1 s1=>?_)
  ·refine bC (K:=K) (d:=.bl false) gL λv H' s q=>post v H' (s1.trans s) ?_;unfold og;rw [hp,c];exact q
  ·refine bC (K:=K) (d:=.bl (((["hole","gap","slot"]:List Str).map λk=>CV k x).all id)) (mm (Fb T.Ke (by decide) _ rfl rfl (λH2 i kk d s2 hk hi=>?_))) λv H' s q=>post v H' (s1.trans s) ?_
   ·rw [LV,LV,hk] at hi;cases hi;refine bE (E:=E0) (R:=Eg) (aA (aB (s2.dat (s1.dat h0))) (aA (aB (Dat.Rb kk)) aI)) ⟨x,kk,rfl,hp,?_,rfl⟩;have:=Mj hk;simpa using this
   ·unfold og;rw [hp,c];exact q
noncomputable def rG (k:Str) (T:List (Str × KTD.Dat)):Str:=match KTD.datumAt k T with | some (.flat (.str z))=>z | _=>""
theorem Ek {k:Str} (h:KTD.inKeys k TF=true):KTD.datumAt k TF=some (.flat (.str (rG k TF))):=by
 unfold rG;by_cases h1:k="low"
 ·subst h1;rfl
 by_cases h2:k="high"
 ·subst h2;rfl
 by_cases h3:k="arg"
 ·subst h3;rfl
 have e:KTD.inKeys k TF=false:=by simp [TF,KTD.inKeys,h1,h2,h3]
 rw [e] at h;cases h
noncomputable def oU (p:D):D->Bool
 | .tup (.str k::r)=>decide ((r.length:Int)+1=2) && (KTD.inKeys k TF && dM (r.getD 0 .Py) 0 (((cG 3 (rG k TF) p).length:Int) - 1))
 | _=>false
theorem uy (p:D) (k:Str) (r:List D):oU p (.tup (.str k::r))=(decide ((r.length:Int)+1=2) && (KTD.inKeys k TF && dM (r.getD 0 .Py) 0 (((cG 3 (rG k TF) p).length:Int) - 1))):=rfl
noncomputable def zS (ds:List D) (d:D):Prop:=∃ x p,ds=[x,p]/\Wq 3 p=true/\d=.bl (oU p x)
theorem CD {p:D} (h:eZ x=false):oU p x=false:=by
 unfold eZ at h;unfold oU;split at h
 ·cases h
 ·rename_i hn
  first
   | rfl
   | (split
      ·rename_i k r;exact absurd rfl (hn k r)
      ·rfl)
theorem qx (T:Txt P w K mg) (IZ:Ok P w base k T.HH (Qh K om)) (HI:Ok P w base k T.GS (iU K (iD 3))) (GX:Ok P w base k T.GK (Qh K gO)):Ok P w base (k+1) T.Jr (Qh K zS):=by
 refine T.Jr.f.ok U6 (λvs H Q E h=>?_) (λcdv A outer s H vs Q E hr h=>?_)
 ·obtain ⟨ds,d,hd,⟨x,p,rfl,_⟩,_⟩:=h;exact hd.length.symm
 have nd:=U6.nd;obtain ⟨ds,d,hd,⟨x,p,rfl,hp,rfl⟩,post⟩:=h;obtain ⟨v0,v1,rfl,h0,h1⟩:=jb hd;refine ⟨_,(aF (bD (PW.pt (iC (dS (bT (pc (D:=T.HH) IZ hr (aD (pv 0) aC)) (λ_=>rfl))) (iC (aO qU (a9 aZ rfl T.GQ cC (aD (pv 0) aC)) aG (aV _)) (fT (aO uW (bB aW (pv 0) aG) (bQ (v:=.ref T.Im) rfl T.Hq rfl) (by with_unfolding_all rfl)))))) (aH (aQ eM)) aU)
 (aH (aQ (pc (D:=T.GK) GX hr (aD (bB aW (pv 0) aG) (aD aG (aD (bI wL (a9 aZ rfl T.GQ cC (aD (pc (D:=T.GS) HI hr (aD (pv 1) (aD (bB CO (bQ (v:=.ref T.Im) rfl T.Hq rfl) (bB aW (pv 0) aG)) aC))) aC)) aG) aC))))))),?_⟩
 cases ht:eZ x with
 | false =>
  refine aP (K:=K) (b:=true) ?_ (λc H1 s1=>?_) (λc=>nomatch c)
  ·exact RT.as (eI (b:=true) (c:=true) (RT.as (bX (bH (bE (aA (aB h0) aI) ⟨x,rfl,rfl⟩))) (by rw [ht];rfl)) λc=>nomatch c) rfl
  ·refine bC (K:=K) (d:=.bl (oU p x)) ?_ λv H' s q=>post v H' (s1.trans s) q;rw [CD ht];exact gL
 | true =>
  have ht':=ht;unfold eZ at ht';split at ht'
  ·rename_i kd r;have el:((((D.str kd)::r).length:Nat):Int)=(r.length:Int)+1:=by rw [L5];omega
   have b1:=pS (K:=K) (cY (aB (σ:=gI ["thing","pattern"] [v0,v1]) (k:=0) h0)) (aE (i:=2));rw [el] at b1;refine aP (K:=K) (b:=!decide ((r.length:Int)+1=2) || !KTD.inKeys kd TF) (RT.as (eI (b:=false) (RT.as (bX (bH (bE (aA (aB h0) aI) ⟨_,rfl,rfl⟩))) (by rw [ht];rfl)) λ_=>eI (aJ b1) λ_=>aJ (vq (a7 (k:=0) (aB h0) aE rfl) T.Hs)) (NF _)) (λc H1 s1=>?_) (λc H1 s1=>?_)
   ·refine bC (K:=K) (d:=.bl false) gL λv H' s q=>post v H' (s1.trans s) ?_
    have e:oU p (.tup (.str kd::r))=false:=by
     rw [uy]
     cases h2:decide ((r.length:Int)+1=2) with
     | false=>rfl
     | true =>rw [h2] at c;have h3:KTD.inKeys kd TF=false:=jZ c;rw [h3];rfl
    rw [e];exact q
   ·rw [Nz] at c;have c1:=iL c.1;have c2:=iL c.2
    obtain ⟨y,er⟩:∃ y,r=[y]:=by
     match r,LS c1 with
     | [],h=>simp at h
     | [y],_=>exact ⟨y,rfl⟩
     | _::_::_,h=>simp at h;omega
    subst er;have h0:=s1.dat h0;have h1:=s1.dat h1;refine bC (K:=K) (d:=.bl (dM y 0 (((cG 3 (rG kd TF) p).length:Int) - 1))) (bE (R:=gO) (aA (a7 (k:=1) (aB h0) aE rfl) (aA aE (aA (wW (Dn (fG (R:=iD 3) (aA (aB h1) (aA (zz (a7 (k:=0) (aB h0) aE rfl) T.Hs (by rfl) (Ek c2)) aI)) ⟨p,rG kd TF,rfl,by decide,hp,rfl⟩)) aE) aI))) ⟨y,0,_,rfl,rfl⟩) λv H' s q=>post v H' (s1.trans s) ?_;rw [uy,c1,c2];exact q
  ·cases ht'
noncomputable def oP (p x:D):Bool:=dM x 0 99 || oU p x
noncomputable def zR (ds:List D) (d:D):Prop:=∃ x p,ds=[x,p]/\Wq 3 p=true/\d=.bl (oP p x)
theorem wF (T:Txt P w K mg) (GX:Ok P w base k T.GK (Qh K gO)) (K7:Ok P w base k T.Jr (Qh K zS)):Ok P w base (k+1) T.Ki (Qh K zR):=by
 refine T.Ki.f.ok WI (λvs H Q E h=>?_) (λcdv A outer s H vs Q E hr h=>?_)
 ·obtain ⟨ds,d,hd,⟨x,p,rfl,_⟩,_⟩:=h;exact hd.length.symm
 have nd:=WI.nd;obtain ⟨ds,d,hd,⟨x,p,rfl,hp,rfl⟩,post⟩:=h;obtain ⟨v0,v1,rfl,h0,h1⟩:=jb hd;refine ⟨_,(aH (aQ (DT (pc (D:=T.GK) GX hr (aD (pv 0) (aD aG (aD (bQ (v:=.int 99) rfl T.Ib ⟨_,rfl⟩) aC)))) (kX (pc (D:=T.Jr) K7 hr (aD (pv 0) (aD (pv 1) aC))))))),?_⟩;exact bC (K:=K) (d:=.bl (oP p x)) (DZ (bE (R:=gO) (aA (aB h0) (aA aE (aA aE aI))) ⟨x,0,99,rfl,rfl⟩) λ_=>bE (R:=zS) (aA (aB h0) (aA (aB h1) aI)) ⟨x,p,rfl,hp,rfl⟩) post
noncomputable abbrev NM:List Str:=["end","put","far","load","add","sub","mul","less","skip","jump","zero","none","more","twice","about","call","back"]
noncomputable def cV (i:Int):Nat:=if i ∈ ([2,9,11,15]:List Int) then 2 else if i ∈ ([1,3,8,10,12]:List Int) then 1 else 0
structure Z1 (cs:List Int):Prop where
 l0:1<=cs.length
 l1:cs.length<=900
 c:∀ (i:Nat) (c:Int),cs[i]?=some c->0<=c/\c<=99
noncomputable abbrev cD (cs:List Int):List D:=cs.map D.int
noncomputable def kQ (cs:List Int) (p m:Nat):List D:=((cD cs).drop (p+1)).take m
noncomputable def VB (c:Int):Str:=NM.getD c.toNat ""
noncomputable def jY (cs:List Int) (p:Nat) (c:Int):Bool:=decide (16 < c) || decide (cs.length<=p+cV c)
theorem xZ:∀ i:Nat,i < 17->Zm[i]?=some (.tup [.str (NM.getD i ""),.int ((cV i:Nat):Int)]):=by
 intro i hi
 match i,hi with
 | 0,_=>rfl
 | 1,_=>rfl
 | 2,_=>rfl
 | 3,_=>rfl
 | 4,_=>rfl
 | 5,_=>rfl
 | 6,_=>rfl
 | 7,_=>rfl
 | 8,_=>rfl
 | 9,_=>rfl
 | 10,_=>rfl
 | 11,_=>rfl
 | 12,_=>rfl
 | 13,_=>rfl
 | 14,_=>rfl
 | 15,_=>rfl
 | 16,_=>rfl
 | n+17,h=>omega
theorem EB:∀ i:Nat,i < 17->NM[i]?=some (NM.getD i ""):=by
 intro i hi
 match i,hi with
 | 0,_=>rfl
 | 1,_=>rfl
 | 2,_=>rfl
 | 3,_=>rfl
 | 4,_=>rfl
 | 5,_=>rfl
 | 6,_=>rfl
 | 7,_=>rfl
 | 8,_=>rfl
 | 9,_=>rfl
 | 10,_=>rfl
 | 11,_=>rfl
 | 12,_=>rfl
 | 13,_=>rfl
 | 14,_=>rfl
 | 15,_=>rfl
 | 16,_=>rfl
 | n+17,h=>omega
theorem Cv (c:Int):cV c<=2:=by
 unfold cV;split
 ·exact L7 _
 ·split <;> omega
variable {cs:List Int} {p:Nat} {c:Int}
theorem Al (h:cs[p]?=some c):(cD cs)[p]?=some (.int c):=by rw [LV,h];rfl
theorem oN {m:Nat}:(kQ cs p m).length=min m (cs.length - (p+1)):=by unfold kQ;rw [Mx,NH,LR]
theorem Ab (h:jY cs p c=false):c<=16/\p+cV c < cs.length:=by unfold jY at h;rw [Nz] at h;have h1:=Mf h.1;have h2:=Mf h.2;omega
theorem FF (h:jY cs p c=true):16 < c\/(c<=16/\cs.length<=p+cV c):=by
 unfold jY at h;rw [Ov] at h;by_cases ZI:16 < c
 ·exact .inl ZI
 ·rcases h with h | h
  ·exact absurd (LS h) ZI
  ·exact .inr ⟨by omega,LS h⟩
noncomputable def xA (as:List Ar) (d:D):Prop:=∃ (cs:List Int) (p:Nat) (c:Int),as=[.l (cD cs),.d (.int p)]/\Z1 cs/\cs[p]?=some c/\jY cs p c=false/\d=.tup [.str (VB c),.tup (kQ cs p (cV c))]
noncomputable def uj (cs:List Int) (p:Nat):Bool:=match cs[p]? with
 | none=>true
 | some c=>jY cs p c
noncomputable def xx (N:Addr) (as:List Ar) (C:Addr) (i:Int):Prop:=∃ (cs:List Int) (p:Nat),as=[.l (cD cs),.d (.int p)]/\Z1 cs/\uj cs p=true/\C=N/\i=p
theorem lY (T:Txt P w K mg) (GD:PD P w K mg base U1 k T.IG T.HZ ["self","place"] (fH T.GC "place")):PD P w K mg base (UC P w) (k+1+1) T.GB.a T.GB.d ["cells","place"] (xj K "place" xA (xx T.GC)):=by
 refine T.GB.f.YF Qm (λvs H Q E h=>?_) (λcdv A outer s H vs Q E hr h=>?_)
 ·obtain ⟨as,hd,h⟩:=h;rcases h with ⟨d,⟨cs,p,c,rfl,_⟩,_⟩ | ⟨C,i,⟨cs,p,rfl,_⟩,_⟩ <;> exact hd.length.symm
 have nd:=Qm.nd;obtain ⟨as,hd,h⟩:=h;refine ⟨_,(aF (bD (PW.pt (iC (aO uV (pv 1) (a9 aZ rfl T.GQ cC (aD (pv 0) aC)) (aV _)) (fT (aO uV (bB (PZ.or aW) (pv 0) (pv 1)) (a9 aZ rfl T.GQ cC (aD (bQ (v:=.ref T.Hc) rfl T.GM rfl) aC)) (aV _))))) (aH (eB T.IE GD (fO T) hr iW rfl T.Hl (aD (pv 1) aC))) aU)
 (aF (iE (bB aW (bQ (v:=.ref T.Hc) rfl T.GM rfl) (bB (PZ.or aW) (pv 0) (pv 1))) (iP rfl (bN (aY (i:=2) nd rfl (Or.inl rfl)) (bN (aY (i:=3) nd rfl (Or.inl rfl)) gC))))
 (aF (bM (i:=4) nd rfl (Or.inl rfl) (cQ jh rfl T.Jq hV (aD (kb (Xk.or tQ) (pv 0) (jc (bI dY (pv 1) aG)) (jc (bI dY (bI dY (pv 1) aG) (pv 3)))) aC)))
 (aF (bD (aO l9 (a9 aZ rfl T.GQ cC (aD (pv 4) aC)) (pv 3) (aV _)) (aH (eB T.IE GD (fO T) hr iW rfl T.Hl (aD (pv 1) aC))) aU)
 (aH (aQ (aS (aD (pv 2) (aD (pv 4) aC))))))))),?_⟩
 rcases h with ⟨d,⟨cs,p,c,rfl,ok,hc,hb,rfl⟩,post⟩ | ⟨C,i,⟨cs,p,rfl,ok,ZJ,rfl,rfl⟩,post⟩
 ·obtain ⟨v0,v1,rfl,h0,h1⟩:=zZ hd;have h0:LD K H (cD cs) v0:=h0;have h1:Dat K H (.int (p:Int)) v1:=h1;obtain rfl:=h1.Pz;have hp:p < cs.length:=(Mg.mp hc).1;obtain ⟨c0,c99⟩:=ok.c p c hc;have ec:c=((c.toNat:Nat):Int):=by omega
  have hc':=Al hc;obtain ⟨ZI,hlt⟩:=Ab hb;have lb:(kQ cs p (cV c)).length=cV c:=by rw [oN];omega
  refine aP (K:=K) (b:=false) (RT.as (eI (b:=false) (c:=false) (RT.as (aJ (cO (p:=λi j=>decide (j<=i)) (aB h1) (eO (cK h0)))) (LY (by rw [LR];omega))) λ_=>RT.as (aJ (cO (p:=λi j=>decide (j<=i)) (mr (k:=p) (cK h0) (aB h1) hc') (cY (gT T.GF)))) (LY (by show ¬ (17:Int)<=c;omega))) rfl) (λc=>nomatch c) (λ_ H1 s1=>?_);have h0:=s1.ld h0;have h1:=s1.dat h1;have hi:=xZ c.toNat (by omega);rw [<- ec] at hi;refine kr (K:=K) (d:=.str (VB c)) (e:=.int (cV c)) (a7 (k:=c.toNat) (gT T.GF) (RE.as (mr (k:=p) (cK h0) (aB h1) hc') (MH D.int ec)) hi) λv2 v3 H2 s2 h2 h3=>?_;have h0:=s2.ld h0;have h1:=s2.dat h1;have el:(p:Int)+1=((p+1:Nat):Int):=by omega
  have eh:(p:Int)+1+(cV c:Int)=((p+1+cV c:Nat):Int):=by omega
  refine cF (K:=K) (d:=.tup (kQ cs p (cV c))) (RE.as (rg (yy (lo:=p+1) (hi:=p+1+cV c) (cK h0) (RE.as (dU (aB h1) aE) (MH D.int el)) (RE.as (dU (dU (aB h1) aE) (aB h3)) (MH D.int eh)))) (by unfold kQ;rw [show p+1+cV c - (p+1)=cV c by omega])) λv4 H3 s3 h4=>?_;refine aP (K:=K) (b:=false) (RT.as (aJ (cO (p:=λi j=>decide (i < j)) (cY (aB h4)) (aB (s3.dat h3)))) (LY (by rw [lb];omega))) (λc=>nomatch c) (λ_ H4 s4=>?_);exact bC (K:=K) (d:=.tup [.str (VB c),.tup (kQ cs p (cV c))]) (aR (aA (aB (s4.dat (s3.dat h2))) (aA (aB (s4.dat h4)) aI))) λv H' s q=>post v H' (s1.trans (s2.trans (s3.trans (s4.trans s)))) q
 ·unfold uj at ZJ;split at ZJ
  ·rename_i hn;obtain ⟨v0,v1,rfl,h0,h1⟩:=zZ hd;have h0:LD K H (cD cs) v0:=h0;have h1:Dat K H (.int (p:Int)) v1:=h1;obtain rfl:=h1.Pz;have hp:cs.length<=p:=NU.mp hn;refine aP (K:=K) (b:=true) (RT.as (eI (b:=true) (c:=true) (RT.as (aJ (cO (p:=λi j=>decide (j<=i)) (aB h1) (eO (cK h0)))) (Mh (by rw [LR];omega))) λz=>nomatch z) rfl) (λ_ H1 s1=>?_) (λc=>nomatch c);exact ⟨_,rfl,_,rfl,λdx n=>post _ dx (s1.trans (aT n _)) aM⟩
  rename_i c hc;have hb:=ZJ;obtain ⟨v0,v1,rfl,h0,h1⟩:=zZ hd;have h0:LD K H (cD cs) v0:=h0;have h1:Dat K H (.int (p:Int)) v1:=h1;obtain rfl:=h1.Pz;have hp:p < cs.length:=(Mg.mp hc).1;obtain ⟨c0,c99⟩:=ok.c p c hc;have ec:c=((c.toNat:Nat):Int):=by omega
  have hc':=Al hc;rcases FF hb with ZI | ⟨ZI,hlt⟩
  ·refine aP (K:=K) (b:=true) (RT.as (eI (b:=false) (c:=true) (RT.as (aJ (cO (p:=λi j=>decide (j<=i)) (aB h1) (eO (cK h0)))) (LY (by rw [LR];omega))) λ_=>RT.as (aJ (cO (p:=λi j=>decide (j<=i)) (mr (k:=p) (cK h0) (aB h1) hc') (cY (gT T.GF)))) (Mh (by show (17:Int)<=c;omega))) rfl) (λ_ H1 s1=>?_) (λc=>nomatch c);exact ⟨_,rfl,_,rfl,λdx n=>post _ dx (s1.trans (aT n _)) aM⟩
  ·have lb:(kQ cs p (cV c)).length < cV c:=by rw [oN];omega
   refine aP (K:=K) (b:=false) (RT.as (eI (b:=false) (c:=false) (RT.as (aJ (cO (p:=λi j=>decide (j<=i)) (aB h1) (eO (cK h0)))) (LY (by rw [LR];omega))) λ_=>RT.as (aJ (cO (p:=λi j=>decide (j<=i)) (mr (k:=p) (cK h0) (aB h1) hc') (cY (gT T.GF)))) (LY (by show ¬ (17:Int)<=c;omega))) rfl) (λc=>nomatch c) (λ_ H1 s1=>?_);have h0:=s1.ld h0;have h1:=s1.dat h1;have hi:=xZ c.toNat (by omega);rw [<- ec] at hi;refine kr (K:=K) (d:=.str (VB c)) (e:=.int (cV c)) (a7 (k:=c.toNat) (gT T.GF) (RE.as (mr (k:=p) (cK h0) (aB h1) hc') (MH D.int ec)) hi) λv2 v3 H2 s2 h2 h3=>?_;have h0:=s2.ld h0;have h1:=s2.dat h1;have el:(p:Int)+1=((p+1:Nat):Int):=by omega
   have eh:(p:Int)+1+(cV c:Int)=((p+1+cV c:Nat):Int):=by omega
   refine cF (K:=K) (d:=.tup (kQ cs p (cV c))) (RE.as (rg (yy (lo:=p+1) (hi:=p+1+cV c) (cK h0) (RE.as (dU (aB h1) aE) (MH D.int el)) (RE.as (dU (dU (aB h1) aE) (aB h3)) (MH D.int eh)))) (by unfold kQ;rw [show p+1+cV c - (p+1)=cV c by omega])) λv4 H3 s3 h4=>?_;refine aP (K:=K) (b:=true) (RT.as (aJ (cO (p:=λi j=>decide (i < j)) (cY (aB h4)) (aB (s3.dat h3)))) (Mh (by omega))) (λ_ H4 s4=>?_) (λc=>nomatch c);exact ⟨_,rfl,_,rfl,λdx n=>post _ dx (s1.trans (s2.trans (s3.trans (s4.trans (aT n _))))) aM⟩
noncomputable def uL (ns:List Int):Int:=ns.foldr (λc acc=>acc * 100+c) 0
noncomputable def zU (ds:List D) (d:D):Prop:=∃ ns:List Int,ds=[.tup (ns.map D.int)]/\ns.length<=2/\(∀ n ∈ ns,0<=n/\n<=99)/\d=.int (uL ns)
variable {ns:List Int}
theorem A7:ns.length<=2->(∀ n ∈ ns,0<=n/\n<=99)->0<=uL ns/\uL ns<=9999:=by
 intro h2 h
 match ns,h2 with
 | [],_=>exact ⟨Int.le_refl _,by decide⟩
 | [a],_ =>have ha:=h a (by simp);show 0<=(0:Int) * 100+a/\(0:Int) * 100+a<=9999;omega
 | [a,b],_ =>have ha:=h a (by simp);have hb:=h b (by simp);show 0<=((0:Int) * 100+b) * 100+a/\((0:Int) * 100+b) * 100+a<=9999;omega
theorem pD (T:Txt P w K mg)  : Ok P w base (k+1) T.IX (Qh K zU):=by
 refine T.IX.f.ok UH (λvs H Q E h=>?_) (λcdv A outer s H vs Q E hr h=>?_)
 ·obtain ⟨ds,d,hd,⟨ns,rfl,_⟩,_⟩:=h;exact hd.length.symm
 have nd:=UH.nd;obtain ⟨ds,d,hd,⟨ns,rfl,l2,hb,rfl⟩,post⟩:=h;obtain ⟨v0,rfl,h0⟩:=hX hd;refine ⟨_,(aF (bM (i:=1) nd rfl (Or.inl rfl) aG)
 (aF (fS MJ rfl (C8 rfl T.KU (aD (pv 0) aC)) (aY (i:=2) nd rfl (Or.inl rfl)) (aH (bM (i:=1) nd rfl (Or.inl rfl) (bI dY (bI mZ (pv 1) aG) (pv 2)))))
 (aH (aQ (pv 1))))),?_⟩
 refine cF (K:=K) (d:=.int 0) aE λv1 H1 s1 q1=>?_;obtain rfl:=q1.Pz;obtain ⟨a,vs,rfl,hq,hds⟩:=(s1.dat h0).P7;have ev:=lO hds;have ll:=hds.length;rw [LR] at ll;refine cZ ⟨_,rfl,a,vs,rfl,hq,AB (K:=K) (a:=a) (xs:=vs) (λi σ G=>∃ z:Option V,σ=[some (.ref a),some (.int (uL (ns.drop (ns.length - i)))),z]/\Pr H1 G) ?_ ?_ ?_ ?_⟩
 ·refine ⟨none,?_,Pr.refl _⟩;rw [Nat.sub_zero,List.drop_length];rfl
 ·rintro i σ G hi ⟨z,rfl,sG⟩;exact sG.YM hq
 ·rintro i x σ G hi hx ⟨z,rfl,sG⟩;refine eY ?_;dsimp only;rw [ev,LV,LR] at hx;obtain ⟨c,hc,rfl⟩:=Mb.mp hx;have hcb:=hb c (Mj hc);have nb:=A7 (ns:=ns.drop (ns.length - i)) (by rw [NH];omega) (λn hn=>hb n (OV hn))
  have e:ns.drop (ns.length - (i+1))=c::ns.drop (ns.length - i):=by
   have h1:ns.length - (i+1) < ns.length:=by omega
   rw [List.drop_eq_getElem_cons h1];have h2:ns.length - (i+1)+1=ns.length - i:=by omega
   rw [h2];congr 1;have h3:ns.length - 1 - i=ns.length - (i+1):=by omega
   rw [h3,LQ h1] at hc;exact ME hc
  refine Fi (K:=K) (d:=.int (uL (ns.drop (ns.length - i)) * 100+c)) (dU (tE (aB (k:=1) (Dat.Px _)) aE (.inr ⟨by omega,by omega⟩)) (aB (k:=2) (Dat.Px c))) λv H' s d=>⟨some (.int c),?_,sG.trans s⟩
  rw [e,d.Pz];rfl
 ·rintro σ G ⟨z,rfl,sG⟩;have e:ns.drop (ns.length - vs.length)=ns:=by rw [<- ll,Nat.sub_self];rfl
  rw [e];exact ⟨_,rfl,post _ _ (s1.trans sG) (Dat.Px _)⟩
noncomputable def jQ (c:Int):Option (Str × Nat):=match Zm[c.toNat]? with
 | some (.tup [.str nm,.int m])=>some (nm,m.toNat)
 | _=>none
variable {nm:Str}
theorem AR {m:Nat} (h:jQ c=some (nm,m)):Zm[c.toNat]?=some (.tup [.str nm,.int (m:Int)])/\c.toNat < 17:=by
 unfold jQ at h
 have hlt:c.toNat < 17:=by
  by_cases hc:c.toNat < 17
  ·exact hc
  ·rw [Ng (by show (17:Nat)<=c.toNat;omega)] at h;cases h
 refine ⟨?_,hlt⟩
 have all:∀ i:Nat,i < 17->∀ nm m,(match Zm[i]? with | some (.tup [.str nm,.int m])=>some (nm,m.toNat) | _=>none)=some (nm,m)->Zm[i]?=some (.tup [.str nm,.int (m:Int)]):=by
  intro i hi nm m e
  match i,hi with
  | 0,_=>cases e;rfl
  | 1,_=>cases e;rfl
  | 2,_=>cases e;rfl
  | 3,_=>cases e;rfl
  | 4,_=>cases e;rfl
  | 5,_=>cases e;rfl
  | 6,_=>cases e;rfl
  | 7,_=>cases e;rfl
  | 8,_=>cases e;rfl
  | 9,_=>cases e;rfl
  | 10,_=>cases e;rfl
  | 11,_=>cases e;rfl
  | 12,_=>cases e;rfl
  | 13,_=>cases e;rfl
  | 14,_=>cases e;rfl
  | 15,_=>cases e;rfl
  | 16,_=>cases e;rfl
  | n+17,h=>omega
 exact all c.toNat hlt nm m h
noncomputable def hU (cells:List D) (p m:Nat):List D:=(cells.drop (p+1)).take m
noncomputable def yL (ds:List Ar) (d:D):Prop:=∃ (cells:List D) (p:Nat) (c:Int) (nm:Str) (m:Nat),ds=[.d (.tup cells),.d (.int p)]/\cells[p]?=some (.int c)/\0<=c/\jQ c=some (nm,m)/\(hU cells p m).length=m/\d=.tup [.str nm,.tup (hU cells p m)]
theorem CM:∀ i:Nat,i < 17->∃ nm m,Zm[i]?=some (.tup [.str nm,.int m]):=by
 intro i hi
 match i,hi with
 | 0,_=>exact ⟨_,_,rfl⟩
 | 1,_=>exact ⟨_,_,rfl⟩
 | 2,_=>exact ⟨_,_,rfl⟩
 | 3,_=>exact ⟨_,_,rfl⟩
 | 4,_=>exact ⟨_,_,rfl⟩
 | 5,_=>exact ⟨_,_,rfl⟩
 | 6,_=>exact ⟨_,_,rfl⟩
 | 7,_=>exact ⟨_,_,rfl⟩
 | 8,_=>exact ⟨_,_,rfl⟩
 | 9,_=>exact ⟨_,_,rfl⟩
 | 10,_=>exact ⟨_,_,rfl⟩
 | 11,_=>exact ⟨_,_,rfl⟩
 | 12,_=>exact ⟨_,_,rfl⟩
 | 13,_=>exact ⟨_,_,rfl⟩
 | 14,_=>exact ⟨_,_,rfl⟩
 | 15,_=>exact ⟨_,_,rfl⟩
 | 16,_=>exact ⟨_,_,rfl⟩
 | n+17,h=>omega
theorem AS (c0:0<=c) (h:jQ c=none):17<=c:=by
 by_cases hc:c.toNat < 17
 ·obtain ⟨nm,m,e⟩:=CM c.toNat hc;unfold jQ at h;rw [e] at h;cases h
 ·omega
noncomputable def yI (N:Addr) (ds:List Ar) (C:Addr) (i:Int):Prop:=∃ (cells:List D) (p:Nat) (c:Int),ds=[.d (.tup cells),.d (.int p)]/\cells[p]?=some (.int c)/\0<=c/\(jQ c=none\/∃ nm m,jQ c=some (nm,m)/\¬ (hU cells p m).length=m)/\C=N/\i=p
variable {cells:List D}
theorem Cw {m:Nat}:(hU cells p m).length<=m:=by unfold hU;rw [Mx];omega
theorem kU (T:Txt P w K mg) (GD:PD P w K mg base U1 k T.IG T.HZ ["self","place"] (fH T.GC "place")):PD P w K mg base (UC P w) (k+1+1) T.GB.a T.GB.d ["cells","place"] (xj K "place" yL (yI T.GC)):=by
 refine T.GB.f.YF Qm (λvs H Q E h=>?_) (λcdv A outer s H vs Q E hr h=>?_)
 ·obtain ⟨ds,hd,h⟩:=h;rcases h with ⟨d,⟨cells,p,c,nm,m,rfl,_⟩,_⟩ | ⟨C,ci,⟨cells,p,c,rfl,_⟩,_⟩ <;> exact hd.length.symm
 have nd:=Qm.nd;obtain ⟨ds,hd,h⟩:=h;refine ⟨_,(aF (bD (PW.pt (iC (aO uV (pv 1) (a9 aZ rfl T.GQ cC (aD (pv 0) aC)) (aV _)) (fT (aO uV (bB (PZ.or aW) (pv 0) (pv 1)) (a9 aZ rfl T.GQ cC (aD (bQ (v:=.ref T.Hc) rfl T.GM rfl) aC)) (aV _))))) (aH (eB T.IE GD (fO T) hr iW rfl T.Hl (aD (pv 1) aC))) aU)
 (aF (iE (bB aW (bQ (v:=.ref T.Hc) rfl T.GM rfl) (bB (PZ.or aW) (pv 0) (pv 1))) (iP rfl (bN (aY (i:=2) nd rfl (Or.inl rfl)) (bN (aY (i:=3) nd rfl (Or.inl rfl)) gC))))
 (aF (bM (i:=4) nd rfl (Or.inl rfl) (cQ jh rfl T.Jq hV (aD (kb (Xk.or tQ) (pv 0) (jc (bI dY (pv 1) aG)) (jc (bI dY (bI dY (pv 1) aG) (pv 3)))) aC)))
 (aF (bD (aO l9 (a9 aZ rfl T.GQ cC (aD (pv 4) aC)) (pv 3) (aV _)) (aH (eB T.IE GD (fO T) hr iW rfl T.Hl (aD (pv 1) aC))) aU)
 (aH (aQ (aS (aD (pv 2) (aD (pv 4) aC))))))))),?_⟩
 rcases h with ⟨d,⟨cells,p,c,nm,m,rfl,hc,c0,hi,hb,rfl⟩,post⟩ | ⟨C,ci,⟨cells,p,c,rfl,hc,c0,hi,rfl,rfl⟩,post⟩
 ·obtain ⟨v0,v1,rfl,h0,h1⟩:=zZ hd;have h0:Dat K H (.tup cells) v0:=h0;have h1:Dat K H (.int (p:Int)) v1:=h1;obtain rfl:=h1.Pz;obtain ⟨hi,h17⟩:=AR hi;have hp:p < cells.length:=(Mg.mp hc).1;have ec:c=((c.toNat:Nat):Int):=by omega
  refine aP (K:=K) (b:=false) (RT.as (eI (b:=false) (c:=false) (RT.as (aJ (cO (p:=λi j=>decide (j<=i)) (aB h1) (cY (aB h0)))) (LY (by omega))) λ_=>RT.as (aJ (cO (p:=λi j=>decide (j<=i)) (pR (k:=p) (aB h0) (aB h1) hc) (cY (gT T.GF)))) (LY (by show ¬ (17:Int)<=c;omega))) rfl) (λc=>nomatch c) (λ_ H1 s1=>?_);have h0:=s1.dat h0;have h1:=s1.dat h1;refine kr (K:=K) (d:=.str nm) (e:=.int m) (a7 (k:=c.toNat) (gT T.GF) (RE.as (pR (k:=p) (aB h0) (aB h1) hc) (MH D.int ec)) hi) λv2 v3 H2 s2 h2 h3=>?_;have h0:=s2.dat h0;have h1:=s2.dat h1;have el:(p:Int)+1=((p+1:Nat):Int):=by omega
  have eh:(p:Int)+1+(m:Int)=((p+1+m:Nat):Int):=by omega
  refine cF (K:=K) (d:=.tup (hU cells p m)) (RE.as (rj (yz (lo:=p+1) (hi:=p+1+m) (aB h0) (RE.as (dU (aB h1) aE) (MH D.int el)) (RE.as (dU (dU (aB h1) aE) (aB h3)) (MH D.int eh)) (by omega) (by omega))) (by unfold hU;rw [show p+1+m - (p+1)=m by omega])) λv4 H3 s3 h4=>?_;refine aP (K:=K) (b:=false) (RT.as (aJ (cO (p:=λi j=>decide (i < j)) (cY (aB h4)) (aB (s3.dat h3)))) (LY (by rw [hb];omega))) (λc=>nomatch c) (λ_ H4 s4=>?_);exact bC (K:=K) (d:=.tup [.str nm,.tup (hU cells p m)]) (aR (aA (aB (s4.dat (s3.dat h2))) (aA (aB (s4.dat h4)) aI))) λv H' s q=>post v H' (s1.trans (s2.trans (s3.trans (s4.trans s)))) q
 ·obtain ⟨v0,v1,rfl,h0,h1⟩:=zZ hd;have h0:Dat K H (.tup cells) v0:=h0;have h1:Dat K H (.int (p:Int)) v1:=h1;obtain rfl:=h1.Pz;have hp:p < cells.length:=(Mg.mp hc).1;have ec:c=((c.toNat:Nat):Int):=by omega
  rcases hi with hi | ⟨nm,m,hi,hb⟩
  ·have h17:=AS c0 hi;refine aP (K:=K) (b:=true) (RT.as (eI (b:=false) (c:=true) (RT.as (aJ (cO (p:=λi j=>decide (j<=i)) (aB h1) (cY (aB h0)))) (LY (by omega))) λ_=>RT.as (aJ (cO (p:=λi j=>decide (j<=i)) (pR (k:=p) (aB h0) (aB h1) hc) (cY (gT T.GF)))) (Mh (by show (17:Int)<=c;omega))) rfl) (λ_ H1 s1=>?_) (λc=>nomatch c);exact ⟨_,rfl,_,rfl,λdx n=>post _ dx (s1.trans (aT n _)) aM⟩
  ·obtain ⟨hi,h17⟩:=AR hi;refine aP (K:=K) (b:=false) (RT.as (eI (b:=false) (c:=false) (RT.as (aJ (cO (p:=λi j=>decide (j<=i)) (aB h1) (cY (aB h0)))) (LY (by omega))) λ_=>RT.as (aJ (cO (p:=λi j=>decide (j<=i)) (pR (k:=p) (aB h0) (aB h1) hc) (cY (gT T.GF)))) (LY (by show ¬ (17:Int)<=c;omega))) rfl) (λc=>nomatch c) (λ_ H1 s1=>?_);have h0:=s1.dat h0;have h1:=s1.dat h1;refine kr (K:=K) (d:=.str nm) (e:=.int m) (a7 (k:=c.toNat) (gT T.GF) (RE.as (pR (k:=p) (aB h0) (aB h1) hc) (MH D.int ec)) hi) λv2 v3 H2 s2 h2 h3=>?_;have h0:=s2.dat h0;have h1:=s2.dat h1;have el:(p:Int)+1=((p+1:Nat):Int):=by omega
   have eh:(p:Int)+1+(m:Int)=((p+1+m:Nat):Int):=by omega
   refine cF (K:=K) (d:=.tup (hU cells p m)) (RE.as (rj (yz (lo:=p+1) (hi:=p+1+m) (aB h0) (RE.as (dU (aB h1) aE) (MH D.int el)) (RE.as (dU (dU (aB h1) aE) (aB h3)) (MH D.int eh)) (by omega) (by omega))) (by unfold hU;rw [show p+1+m - (p+1)=m by omega])) λv4 H3 s3 h4=>?_;have bm:=Cw (cells:=cells) (p:=p) (m:=m);refine aP (K:=K) (b:=true) (RT.as (aJ (cO (p:=λi j=>decide (i < j)) (cY (aB h4)) (aB (s3.dat h3)))) (Mh (by omega))) (λ_ H4 s4=>?_) (λc=>nomatch c);exact ⟨_,rfl,_,rfl,λdx n=>post _ dx ((s1.trans (s2.trans (s3.trans s4))).trans (aT n _)) aM⟩
noncomputable abbrev SS:List Str:=["put","far","load","add","sub","mul","less","more","twice","about"]
noncomputable def EA (rec:Nat->Option Bool) (pat:D) (cells:List D) (p:Nat):D->Option Bool
 | .int c=>(match jQ c with
  | some (nm,m)=>if (hU cells p m).length=m then (if (!decide (nm ∈ SS) || !((hU cells p m).map (oP pat)).all id)=true then some false else rec (p+1+m)) else none
  | none=>none)
 | _=>none
noncomputable def kO:Nat->D->List D->Nat->Option Bool
 | 0,_,_,_=>none
 | n+1,pat,cells,p=>match cells[p]? with
  | none=>some true
  | some x=>if dM x 0 99=false then some false else EA (kO n pat cells) pat cells p x
noncomputable def Ee (ds:List D) (d:D):Prop:=∃ (cells:List D) (pat:D) (b:Bool),ds=[.tup cells,pat]/\Wq 3 pat=true/\cells.length<=100/\(kO (cells.length+1) pat cells 0).getD false=b/\d=.bl b
noncomputable def Gw (σ:L2.St) (_:Hp):Nat:=match σ[2]? with
 | some (some (V.int p))=>(200 - p).toNat
 | _=>0
theorem Er {m:Nat}:(hU cells p m).length<=cells.length:=by unfold hU;rw [Mx,NH];omega
theorem Cu {m:Nat} (h:(hU cells p m).length=m) (hp:p < cells.length):p+1+m<=cells.length:=by unfold hU at h;rw [Mx,NH] at h;omega
theorem C7 {X:Cx} {K:W.Frag} {es:List Expr} {k:Nat} {t:YW} {pos:Pos} (hK:X.K=K) (hc:X.calm=true) (h:ZT X es t)
  (hn:(assignEach es X.env).length=n:=by rfl) (hst:(assignEach es X.env).findIdx? (·.1)=none:=by rfl):PG X (.Tuple es k pos) (rV K n t):=by
 subst hK;exact iP hc h hn hst
variable {te:TE} {En:Ends} {i j:Nat} {e:D}
theorem Dv {K:W.Frag} (h:RE K te σ H (.tup [d,e])) (q:∀ v w H',Pr H H'->Dat K H' d v->Dat K H' e w->En.nx ((σ.set i (some v)).set j (some w)) H') :
  lA te (rV K 2 (iG (bW i) (iG (bW j) wc))) En σ H :=
 kr (us:=kn) h q
theorem kA (T:Txt P w K mg) (GX:Ok P w base k T.GK (Qh K gO)) (II:PD P w K mg base (UC P w) k T.GB.a T.GB.d ["cells","place"] (xj K "place" yL (yI T.GC))) (Lu:Ok P w base k T.Ki (Qh K zR)):Ok P w base (k+1) T.HK (Qh K Ee):=by
 refine T.HK.f.ok R0 (λvs H Q E h=>?_) (λcdv A outer s H vs Q E hr h=>?_)
 ·obtain ⟨ds,d,hd,⟨cells,pat,bb,rfl,_⟩,_⟩:=h;exact hd.length.symm
 have nd:=R0.nd;obtain ⟨ds,d,hd,⟨cells,pat,bb,rfl,hp,hl,hr2,rfl⟩,post⟩:=h;obtain ⟨v0,v1,rfl,h0,h1⟩:=jb hd;refine ⟨_,(aF (bM (i:=2) nd rfl (Or.inl rfl) aG)
 (aF (pL MJ (aO l9 (pv 2) (a9 aZ rfl T.GQ cC (aD (pv 0) aC)) (aV _)) (aF (bD (dS (bT (pc (D:=T.GK) GX hr (aD (bB aW (pv 0) (pv 2)) (aD aG (aD (bQ (v:=.int 99) rfl T.Ib ⟨_,rfl⟩) aC)))) (λ_=>rfl))) (aH (aQ eM)) aU)
 (aF (Dd (t:=λE=>lA (λσ=>gJ (xj K "place" yL (yI T.GC)) [] (E σ) (bO (dW 0) (bO (dW 2) dH)) σ) (rV K 2 (iG (bW 3) (iG (bW 4) wc)))) (λpn xe E hx=>(by refine' aH ?_;refine' iE (Be II hr rfl T.GB.m T.GB.f.kp T.GB.b .nil hx (aD (pv 0) (aD (pv 2) aC))) ?_;exact (C7 (K:=K) (n:=2) rfl rfl (bN (aY (i:=3) nd rfl (Or.inl rfl)) (bN (aY (i:=4) nd rfl (Or.inl rfl)) gC))))) rfl T.Hl (λe=>(aH (aQ eM))))
 (aF (bD (PW.pt (iC (aO sS (pv 3) (bQ (v:=.ref T.J0) rfl T.IP rfl) (by with_unfolding_all rfl)) (fT (dS (bT (a9 (j0 rfl) rfl T.K5 oO (aD (dZ (own:=["cell"]) (fr:=[1]) (N':=["cell","pattern"]) (m4 (pv 4)) rfl (by show dX ["cells","pattern","place","name","behind"] (λx=>(aK fU).names.lookup x) _ _ _ _=true;decide +kernel) rfl (λ_ _ _ _ _=>(aY (i:=0) (by show List.Nodup [("cell":Str),("pattern":Str)];decide +kernel) rfl (Or.inl rfl))) (λ_ _ _ _ _=>cX) (λ_ _ _ _ _=>(pc (D:=T.Ki) Lu hr (aD (pv 0) (aD (pv 1) aC))))) aC)) (λ_=>rfl)))))) (aH (aQ eM)) aU)
 (aH (Bq (i:=2) nd rfl (Or.inl rfl) (bI dY aG (a9 aZ rfl T.GQ cC (aD (pv 4) aC))) wj))))))
 (aH (aQ eM)))),?_⟩
 refine gW (FX (cZ (Cm (λσ G=>∃ (p n:Nat) (z3 z4:Option V),σ=[some v0,some v1,some (.int p),z3,z4]/\Pr H G/\(kO n pat cells p).getD false=bb/\p<=cells.length/\cells.length+1<=n+p) Gw ?_ ?_ ?_)))
 ·exact ⟨0,_,none,none,rfl,Pr.refl _,hr2,MK _,L7 _⟩
 ·rintro σ G ⟨p,n,z3,z4,rfl,sG,ha,hpl,hfu⟩;have g0:=sG.dat h0;have g1:=sG.dat h1;refine RT.use (b:=decide ((p:Int) < (cells.length:Int))) (aJ (cO (p:=λi j=>decide (i < j)) (aB (K:=K) (Dat.Px (p:Int))) (cY (aB g0)))) λG1 s1=>?_;obtain ⟨n,rfl⟩:∃ m,n=m+1:=⟨n - 1,by omega⟩
  by_cases hlt:p < cells.length
  ·rw [Mh (by omega:(p:Int) < (cells.length:Int))];refine jG ?_;have hx:cells[p]?=some cells[p]:=LQ hlt;generalize cells[p]=x at hx
   have ha':(if dM x 0 99=false then some false else EA (kO n pat cells) pat cells p x).getD false=bb:=by have e:(kO (n+1) pat cells p).getD false=bb:=ha;unfold kO at e;rw [hx] at e;exact e
   have g0:=s1.dat g0;have g1:=s1.dat g1;refine aP (K:=K) (b:=!dM x 0 99) (bX (bH (bE (R:=gO) (aA (a7 (k:=p) (aB g0) (aB (Dat.Px (p:Int))) hx) (aA aE (aA aE aI))) ⟨x,0,99,rfl,rfl⟩))) (λcB G2 s2=>?_) (λcB G2 s2=>?_)
   ·rw [Mc (jZ cB)] at ha';cases ha';exact post _ _ (sG.trans (s1.trans s2)) (Dat.UA _)
   ·have cw:=iL cB;rw [LZ (by rw [cw];exact λz=>nomatch z)] at ha';have g0:=s2.dat g0;have g1:=s2.dat g1
    cases x with
    | int c =>
     have ha':(match jQ c with
      | some (nm,m)=>if (hU cells p m).length=m then (if (!decide (nm ∈ SS) || !((hU cells p m).map (oP pat)).all id)=true then some false else kO n pat cells (p+1+m)) else none
      | none=>none).getD false=bb:=ha'
     have c0:0<=c:=by have z:(decide (0<=c) && decide (c<=99))=true:=cw;rw [LW] at z;exact LS z.1
     have rA:RB K (bO (dW 0) (bO (dW 2) dH)) [some v0,some v1,some (.int (p:Int)),z3,z4] G2 [.d (.tup cells),.d (.int p)]:=E7 (aB (k:=0) g0) (E7 (aB (k:=2) (Dat.Px (p:Int))) tq)
     cases hin:jQ c with
     | none =>rw [hin] at ha';have eb:bb=false:=ha'.symm;subst eb;refine cZ (m8 (R:=yL) (B:=yI T.GC) rA ⟨cells,p,c,rfl,hx,c0,.inl hin,rfl,rfl⟩ λG3 dx s3 hdx=>⟨T.Ha,?_⟩);exact post _ _ (sG.trans (s1.trans (s2.trans s3))) (Dat.UA _)
     | some nm =>
      obtain ⟨nm,m⟩:=nm;rw [hin] at ha';dsimp only at ha';by_cases hb:(hU cells p m).length=m
      ·rw [Mc hb] at ha';refine cZ (Dv (K:=K) (d:=.str nm) (e:=.tup (hU cells p m)) (qY (R:=yL) (B:=yI T.GC) rA ⟨cells,p,c,nm,m,rfl,hx,c0,hin,hb,rfl⟩) λv3 v4 G3 s3 g3 g4=>?_);have g1:=s3.dat g1;have lb:=Er (cells:=cells) (p:=p) (m:=m);refine aP (K:=K) (b:=!decide (nm ∈ SS) || !((hU cells p m).map (oP pat)).all id) (eI (aJ (zB (ys:=SS) (aB g3) (gT T.KR))) λ_=>bX (bH (mm (wQ (aB g4) (by omega) _ (by simp) rfl (λG4 i z vz d s4 hz hi hvz=>?_))))) (λc2 G4 s4=>?_) (λc2 G4 s4=>?_)
       ·rw [LV,LV,hz] at hi;cases hi;exact bE (E:=E0) (R:=zR) (aA (aB hvz) (aA (aB (s4.dat g1)) aI)) ⟨z,pat,rfl,hp,rfl⟩
       ·rw [Mc c2] at ha';cases ha';exact post _ _ (sG.trans (s1.trans (s2.trans (s3.trans s4)))) (Dat.UA _)
       ·rw [LZ (by rw [c2];exact L6)] at ha';refine ⟨_,rfl,RE.use (dU (K:=K) aE (cY (aB (s4.dat g4)))) λv5 G5 s5 q5=>?_⟩;refine ⟨p,1+((hU cells p m).length:Int),rfl,q5.Pz,?_⟩;have ep:(p:Int)+(1+((hU cells p m).length:Int))=((p+1+m:Nat):Int):=by rw [hb];omega
        have he:=Cu hb hlt;refine ⟨⟨p+1+m,n,some v3,some v4,by rw [<- ep];rfl,sG.trans (s1.trans (s2.trans (s3.trans (s4.trans s5)))),ha',he,by omega⟩,?_⟩;show (200 - ((p:Int)+(1+((hU cells p m).length:Int)))).toNat < (200 - (p:Int)).toNat;omega
      ·rw [LZ hb] at ha';have eb:bb=false:=ha'.symm;subst eb;refine cZ (m8 (R:=yL) (B:=yI T.GC) rA ⟨cells,p,c,rfl,hx,c0,.inr ⟨nm,m,hin,hb⟩,rfl,rfl⟩ λG3 dx s3 hdx=>⟨T.Ha,?_⟩);exact post _ _ (sG.trans (s1.trans (s2.trans s3))) (Dat.UA _)
    | _=>cases cw
  ·rw [LY (by omega:¬ (p:Int) < (cells.length:Int))];refine ji ?_
   have e:kO (n+1) pat cells p=some true:=by unfold kO;rw [Ng (by omega)]
   rw [e] at ha;cases ha;exact post _ _ (sG.trans s1) (Dat.UA _)
 ·intro σ G Q1 Q2 hQ hc;obtain ⟨v,e,v',e',p,ys,e2,hq,i,j,e3,e4,b,e5,q⟩:=hc;exact ⟨v,e,v',e',p,ys,e2,hq,i,j,e3,e4,b,e5,hQ _ _ q⟩
noncomputable def mU:D->Bool
 | .str x=>decide (x="pick")
 | _=>false
noncomputable def csD (pat:D):D->Option Bool
 | .tup l=>if (decide (1<=(l.length:Int)) && decide ((l.length:Int)<=12))=false then some false else kO (l.length+1) pat l 0
 | _=>some false
noncomputable def jk:D->Option Bool
 | .tup [nm,pat,cs]=>if (!iB nm || (mU nm || !og pat))=true then some false else csD pat cs
 | _=>some false
noncomputable def CY:D->Prop
 | .tup (nm::_)=>DS nm
 | _=>True
noncomputable def oJ (ds:List D) (d:D):Prop:=∃ (x:D) (b:Bool),ds=[x]/\CY x/\(jk x).getD false=b/\d=.bl b
variable {us:TS} {f:D}
theorem tL {K:W.Frag} {l:Nat} (h:RE K te σ H (.tup [d,e,f])) (q:∀ v w x H',Pr H H'->Dat K H' d v->Dat K H' e w->Dat K H' f x->us En (((σ.set i (some v)).set j (some w)).set l (some x)) H') :
  lC (lA te (rV K 3 (iG (bW i) (iG (bW j) (iG (bW l) wc))))) us En σ H :=
 h.use λx H1 s1 q1=>by obtain ⟨a,vs,e1,hq,hd⟩:=q1.P7;obtain ⟨v,w,x,e2,hv,hw,hx⟩:=nA hd;subst e1 e2;exact ⟨a,_,rfl,hq,rfl,v,_,rfl,w,_,rfl,x,_,rfl,rfl,q v w x H1 s1 hv hw hx⟩
theorem o3 (h:∀ y,x≠.tup y):nU x "tuple"=false:=by
 cases x with
 | tup y=>exact absurd rfl (h y)
 | _=>rfl
theorem Bo (h:∀ a b c,x≠.tup [a,b,c]):jk x=some false:=by
 unfold jk;split
 ·rename_i a b c;exact absurd rfl (h a b c)
 ·rfl
theorem ES (h:og x=true):Wq 3 x=true:=by unfold og at h;rw [LW] at h;exact h.1
theorem A1 (h:iB x=true):∃ y,x=.str y:=by
 cases x with
 | str y=>exact ⟨y,rfl⟩
 | _=>cases h
theorem uQ (T:Txt P w K mg) (KD:Ok P w base k T.Ju (Qh K uf)) (K8:Ok P w base k T.Js (Qh K Eh)) (Kq:Ok P w base k T.HK (Qh K Ee)):Ok P w base (k+1) T.IS (Qh K oJ):=by
 refine T.IS.f.ok Wg (λvs H Q E h=>?_) (λcdv A outer s H vs Q E hr h=>?_)
 ·obtain ⟨ds,d,hd,⟨x,bb,rfl,_⟩,_⟩:=h;exact hd.length.symm
 have nd:=Wg.nd;obtain ⟨ds,d,hd,⟨x,bb,rfl,hok,YI,rfl⟩,post⟩:=h;obtain ⟨v0,rfl,h0⟩:=hX hd;refine ⟨_,(aF (bD (PW.pt (iC (dS (bT (a9 (fB j5) rfl T.GJ cR (dA (pv 0) (dA (f9 (v:=.ty "tuple") rfl T.Jq hV rfl) aC))) (λ_=>rfl))) (fT (aO qU (a9 aZ rfl T.GQ cC (aD (pv 0) aC)) aG (aV _))))) (aH (aQ eM)) aU)
 (aF (iE (pv 0) (iP rfl (bN (aY (i:=1) nd rfl (Or.inl rfl)) (bN (aY (i:=2) nd rfl (Or.inl rfl)) (bN (aY (i:=3) nd rfl (Or.inl rfl)) gC)))))
 (aF (bD (PW.pt (iC (dS (bT (pc (D:=T.Ju) KD hr (aD (pv 1) aC)) (λ_=>rfl))) (iC (aO cH (pv 1) aN (aV _)) (fT (dS (bT (pc (D:=T.Js) K8 hr (aD (pv 2) aC)) (λ_=>rfl))))))) (aH (aQ eM)) aU)
 (aF (bD (PW.pt (iC (dS (bT (a9 (fB j5) rfl T.GJ cR (dA (pv 3) (dA (f9 (v:=.ty "tuple") rfl T.Jq hV rfl) aC))) (λ_=>rfl))) (fT (dS (pM kG kG aG (a9 aZ rfl T.GQ cC (aD (pv 3) aC)) (bQ (v:=.int 12) rfl T.GR ⟨_,rfl⟩)))))) (aH (aQ eM)) aU)
 (aH (aQ (pc (D:=T.HK) Kq hr (aD (pv 3) (aD (pv 2) aC))))))))),?_⟩
 by_cases h3:∃ a b c,x=.tup [a,b,c]
 ·obtain ⟨nm,pat,cs,rfl⟩:=h3;refine aP (K:=K) (b:=false) (RT.as (eI (b:=false) (c:=false) (RT.as (bX (bH (cJ (aB h0)))) rfl) λ_=>RT.as (aJ (pS (cY (aB h0)) aE)) rfl) rfl) (λc=>nomatch c) (λ_ H1 s1=>?_);refine tL (K:=K) (d:=nm) (e:=pat) (f:=cs) (aB (s1.dat h0)) λv1 v2 v3 H2 s2 h1 h2 h3=>?_;have W6:(if (!iB nm || (mU nm || !og pat))=true then some false else csD pat cs).getD false=bb:=YI;refine aP (K:=K) (b:=!iB nm || (mU nm || !og pat)) (eI (bX (bH (bE (R:=uf) (aA (aB h1) aI) ⟨nm,rfl,hok,rfl⟩))) λc=>eI ?_ λ_=>bX (bH (bE (R:=Eh) (aA (aB h2) aI) ⟨pat,rfl,rfl⟩))) (λc H3 s3=>?_) (λc H3 s3=>?_)
  ·obtain ⟨y,rfl⟩:=A1 (iL c);exact aJ (bF (aB h1) aL)
  ·rw [Mc c] at W6;cases W6;exact bC (K:=K) (d:=.bl false) gL λv H' s q=>post v H' (s1.trans (s2.trans (s3.trans s))) q
  ·rw [LZ (by rw [c];exact L6)] at W6;rw [Nz,Nz] at c;have hp:=ES (iL c.2.2);have h2:=s3.dat h2;have h3:=s3.dat h3;have Rz:=s1.trans (s2.trans s3);by_cases hc:∃ l,cs=.tup l
   ·obtain ⟨l,rfl⟩:=hc;have W6:(if (decide (1<=(l.length:Int)) && decide ((l.length:Int)<=12))=false then some false else kO (l.length+1) pat l 0).getD false=bb:=W6;refine aP (K:=K) (b:=!(decide (1<=(l.length:Int)) && decide ((l.length:Int)<=12))) (RT.as (eI (b:=false) (RT.as (bX (bH (cJ (aB h3)))) rfl) λ_=>bX (aJ (mq (p:=λi j=>decide (i<=j)) (r:=λi j=>decide (i<=j)) aE (cY (aB h3)) λ_=>aE))) (NF _)) (λc4 H4 s4=>?_) (λc4 H4 s4=>?_)
    ·rw [Mc (jZ c4)] at W6;cases W6;exact bC (K:=K) (d:=.bl false) gL λv H' s q=>post v H' (Rz.trans (s4.trans s)) q
    ·have c5:=iL c4;rw [LZ (by rw [c5];exact λz=>nomatch z)] at W6;rw [LW] at c5;have l12:=LS c5.2;exact bC (K:=K) (d:=.bl bb) (bE (R:=Ee) (aA (aB (s4.dat h3)) (aA (aB (s4.dat h2)) aI)) ⟨l,pat,bb,rfl,hp,by omega,W6,rfl⟩) λv H' s q=>post v H' (Rz.trans (s4.trans s)) q
   ·have hc':∀ y,cs≠.tup y:=λy e=>hc ⟨y,e⟩
    have e:bb=false:=by
     cases cs with
     | tup y=>exact absurd rfl (hc' y)
     | _=>cases W6;rfl
    refine aP (K:=K) (b:=true) (RT.as (eI (b:=true) (c:=true) (RT.as (bX (bH (cJ (aB h3)))) (by rw [o3 hc'];rfl)) λc=>nomatch c) rfl) (λc4 H4 s4=>?_) (λc=>nomatch c);rw [e] at post;exact bC (K:=K) (d:=.bl false) gL λv H' s q=>post v H' (Rz.trans (s4.trans s)) q
 ·have h3':∀ a b c,x≠.tup [a,b,c]:=λa b c e=>h3 ⟨a,b,c,e⟩;rw [Bo h3'] at YI;cases YI;refine aP (K:=K) (b:=true) ?_ (λc H1 s1=>?_) (λc=>nomatch c)
  ·by_cases ht:∃ l,x=.tup l
   ·obtain ⟨l,rfl⟩:=ht;refine RT.as (eI (b:=false) (c:=true) (RT.as (bX (bH (cJ (aB h0)))) rfl) λ_=>RT.as (aJ (pS (cY (aB h0)) aE)) ?_) rfl
    have:¬ (l.length:Int)=3:=λe=>by
     match l,e with
     | [a,b,c],_=>exact h3' a b c rfl
     | [],h=>simp at h
     | [_],h=>simp at h
     | [_,_],h=>simp at h
     | _::_::_::_::_,h=>simp at h;omega
    rw [LY this];rfl
   ·have ht':∀ y,x≠.tup y:=λy e=>ht ⟨y,e⟩;exact RT.as (eI (b:=true) (c:=true) (RT.as (bX (bH (cJ (aB h0)))) (by rw [o3 ht'];rfl)) λc=>nomatch c) rfl
  ·exact bC (K:=K) (d:=.bl false) gL λv H' s q=>post v H' (s1.trans s) q
noncomputable abbrev lF (ds:List D) (d:D):Prop:=∃ x,ds=[x]/\CY x/\jk x=some true/\d=.Py
theorem qz (T:Txt P w K mg) (Kr:Ok P w base k T.IS (Qh K oJ)):Ok P w base (k+1) T.Il (Qh K lF):=by
 refine T.Il.f.ok U7 (λvs H Q E h=>?_) (λcdv A outer s H vs Q E hr h=>?_)
 ·obtain ⟨ds,d,hd,⟨x,rfl,_⟩,_⟩:=h;exact hd.length.symm
 have nd:=U7.nd;obtain ⟨ds,d,hd,⟨x,rfl,hok,hx,rfl⟩,post⟩:=h;obtain ⟨v0,rfl,h0⟩:=hX hd;refine ⟨_,(aH (bD (dS (bT (pc (D:=T.IS) Kr hr (aD (pv 0) aC)) (λ_=>rfl))) (aH kf) aU)),?_⟩;refine fL (b:=!true) (bX (bH (bE (R:=oJ) (aA (aB h0) aI) ⟨x,true,rfl,hok,by rw [hx];rfl,rfl⟩))) (λc H1 s1=>nomatch c) (λc H1 s1=>?_);exact post _ _ s1 Dat.W5
noncomputable def two (o:Str) (x y b:Int):Int:=if o="less" then (if x < y then 1 else 0) else if o="add" then (x+y) % b else if o="sub" then (x - y) % b else x * y % b
noncomputable def cP (as:List Int) (b:Int):Tr->Int
 | .num n=>n % b
 | .arg k=>as.getD k.toNat 0
 | .two o x y=>two o (cP as b x) (cP as b y) b
 | .pick x y z=>if cP as b x=0 then cP as b z else cP as b y
noncomputable def argsOk (as:List Int) (b:Int):Prop:=as.length=4/\(∀ x ∈ as,0<=x/\x < b)/\2<=b/\b<=10000
noncomputable def Z2 (o:Str):Prop:=o="add"\/o="sub"\/o="mul"\/o="less"
theorem EM {o:Str} (h:Z2 o):¬ o="num"/\¬ o="arg"/\¬ o="pick":=by rcases h with rfl | rfl | rfl | rfl <;> decide +kernel
variable {b:Int}
theorem Cc {o:Str} {x y:Int} (hb:2<=b):0<=two o x y b/\two o x y b < b:=by
 unfold two;split
 ·split <;> omega
 ·split
  ·exact ⟨MN _ (by omega),ML _ (by omega)⟩
  ·split
   ·exact ⟨MN _ (by omega),ML _ (by omega)⟩
   ·exact ⟨MN _ (by omega),ML _ (by omega)⟩
theorem zY {as:List Int} {k:Int} (h:argsOk as b) (h0:0<=k) (h1:k<=3):as[k.toNat]?=some (as.getD k.toNat 0):=by
 have hl:=h.1;have hk:k.toNat < as.length:=by omega
 rw [Ml,LQ hk];rfl
theorem jD {as:List Int} (h:argsOk as b):∀ t:Tr,Yl t->0<=cP as b t/\cP as b t < b
 | .num n,_=>⟨MN _ (by have:=h.2.2.1;omega),ML _ (by have:=h.2.2.1;omega)⟩
 | .arg k,ht=>h.2.1 _ (Mj (zY h ht.1 ht.2))
 | .two o x y,_=>Cc h.2.2.1
 | .pick x y z,ht=>by
  unfold cP;split
  ·exact jD h z ht.2.2
  ·exact jD h y ht.2.1
noncomputable def zV (ds:List D) (d:D):Prop:=∃ s m,ds=[.int s,.int m]/\2<=s/\s<=m/\d=.Py
noncomputable def xy (ds:List D) (d:D):Prop:=∃ o x y b,ds=[.str o,.int x,.int y,.int b]/\2<=b/\b<=10000/\0<=x/\x < b/\0<=y/\y < b/\d=.int (two o x y b)
noncomputable def kC (n:Nat) (ds:List D) (d:D):Prop:=∃ t as b,ds=[toD t,.tup (as.map D.int),.int b]/\Yl t/\fC t<=n/\argsOk as b/\d=.int (cP as b t)
theorem As {K:W.Frag} {a b c:D} {vs:List V} (h:Pq K H [a,b,c,e] vs):∃ u v w x,vs=[u,v,w,x]/\Dat K H a u/\Dat K H b v/\Dat K H c w/\Dat K H e x:=by obtain ⟨u,r,e,h1,h⟩:=h.QB;obtain ⟨v,w,x,q,h2⟩:=nA h;subst q e;exact ⟨u,v,w,x,rfl,h1,h2⟩
variable {y:Str}
theorem B7 {x:Str} (h:x=y):decide (x=y)=true:=Mh h
theorem qP {x:Str} (h:¬ x=y):decide (x=y)=false:=LY h
theorem sO (T:Txt P w K mg) (GX:Ok P w base k T.GK (Qh K gO)):PD P w K mg base U1 (k+1) T.Ja T.Jc ["size","most"] (Qh K zV):=by
 refine T.Jd.ok Vv (λvs H Q E h=>?_) (λcdv A outer s H vs Q E hr h=>?_)
 ·obtain ⟨ds,d,hd,⟨s,m,rfl,_⟩,_⟩:=h;exact hd.length.symm
 have nd:=Vv.nd;obtain ⟨ds,d,hd,⟨s,m,rfl,h1,h2,rfl⟩,post⟩:=h;obtain ⟨v0,v1,rfl,q0,q1⟩:=jb hd;refine ⟨_,(aH (bD (dS (bT (pc (D:=T.GK) GX hr (aD (pv 0) (aD aG (aD (pv 1) aC)))) (λ_=>rfl))) (aH kf) aU)),?_⟩;refine fL (b:=!dM (.int s) 2 m) (bX (bH (bE (aA (aB q0) (aA aE (aA (aB q1) aI))) ⟨_,_,_,rfl,rfl⟩))) (λc H1 s1=>?_) (λc H1 s1=>?_)
 ·simp [dM,h1,h2] at c
 ·exact post _ _ s1 Dat.W5
theorem mY (T:Txt P w K mg)  : Ok P w base (k+1) T.Hk (Qh K xy):=by
 refine T.Hk.f.ok TJ (λvs H Q E h=>?_) (λcdv A outer s H vs Q E hr h=>?_)
 ·obtain ⟨ds,d,hd,⟨o,x,y,b,rfl,_⟩,_⟩:=h;exact hd.length.symm
 have nd:=TJ.nd;obtain ⟨ds,d,hd,⟨o,x,y,b,rfl,hb,hb2,hx,hx2,hy,hy2,rfl⟩,post⟩:=h;obtain ⟨v0,v1,v2,v3,rfl,q0,q1,q2,q3⟩:=As hd;refine ⟨_,(aF (bD (aO cH (pv 0) aN (aV _)) (aH (aQ (dR (aO l9 (pv 1) (pv 2) (aV _)) aG aG))) aU)
 (aF (bD (aO cH (pv 0) aN (aV _)) (aH (aQ (bI eE (bI dY (pv 1) (pv 2)) (pv 3)))) aU)
 (aF (bD (aO cH (pv 0) aN (aV _)) (aH (aQ (bI eE (bI wL (pv 1) (pv 2)) (pv 3)))) aU)
 (aH (aQ (bI eE (bI mZ (pv 1) (pv 2)) (pv 3))))))),?_⟩
 refine aP (K:=K) (b:=decide (o="less")) (aJ (bF (aB q0) aL)) (λc H1 s1=>?_) (λc H1 s1=>?_)
 ·refine bC (K:=K) (d:=.int (two o x y b)) ?_ λv H' s q=>post v H' (s1.trans s) q;have e:two o x y b=if x < y then 1 else 0:=by unfold two;rw [Mc (LS c)]
  rw [e];refine jR (b:=decide (x < y)) (aJ (cO (p:=λi j=>decide (i < j)) (aB (s1.dat q1)) (aB (s1.dat q2)))) (λc2=>?_) (λc2=>?_)
  ·rw [Mc (LS c2)];exact aE
  ·rw [LZ (Mf c2)];exact aE
 have q0:=s1.dat q0;have q1:=s1.dat q1;have q2:=s1.dat q2;have q3:=s1.dat q3;have n1:=Mf c;refine aP (K:=K) (b:=decide (o="add")) (aJ (bF (aB q0) aL)) (λc H2 s2=>?_) (λc H2 s2=>?_)
 ·refine bC (K:=K) (d:=.int (two o x y b)) ?_ λv H' s q=>post v H' (s1.trans (s2.trans s)) q;have e:two o x y b=(x+y) % b:=by unfold two;rw [LZ n1,Mc (LS c)]
  rw [e];exact gU (dU (aB (s2.dat q1)) (aB (s2.dat q2))) (aB (s2.dat q3)) (by omega)
 have q0:=s2.dat q0;have q1:=s2.dat q1;have q2:=s2.dat q2;have q3:=s2.dat q3;have n2:=Mf c;refine aP (K:=K) (b:=decide (o="sub")) (aJ (bF (aB q0) aL)) (λc H3 s3=>?_) (λc H3 s3=>?_)
 ·refine bC (K:=K) (d:=.int (two o x y b)) ?_ λv H' s q=>post v H' (s1.trans (s2.trans (s3.trans s))) q;have e:two o x y b=(x - y) % b:=by unfold two;rw [LZ n1,LZ n2,Mc (LS c)]
  rw [e];exact gU (wW (aB (s3.dat q1)) (aB (s3.dat q2))) (aB (s3.dat q3)) (by omega)
 have n3:=Mf c;refine bC (K:=K) (d:=.int (two o x y b)) ?_ λv H' s q=>post v H' (s1.trans (s2.trans (s3.trans s))) q;have e:two o x y b=x * y % b:=by unfold two;rw [LZ n1,LZ n2,LZ n3]
 rw [e];exact gU (tE (aB (s3.dat q1)) (aB (s3.dat q2)) (.inr ⟨by omega,by omega⟩)) (aB (s3.dat q3)) (by omega)
theorem uU (T:Txt P w K mg) (Jk:Ok P w base k T.Hk (Qh K xy)) (Jv:Ok P w base k T.HL (Qh K (kC n))):Ok P w base (k+1) T.HL (Qh K (kC (n+1))):=by
 refine T.HL.f.ok We (λvs H Q E h=>?_) (λcdv A outer s H vs Q E hr h=>?_)
 ·obtain ⟨ds,d,hd,⟨t,as,b,rfl,_⟩,_⟩:=h;exact hd.length.symm
 have nd:=We.nd;obtain ⟨ds,d,hd,⟨t,as,b,rfl,ht,hn,ha,rfl⟩,post⟩:=h;obtain ⟨v0,v1,v2,rfl,q0,q1,q2⟩:=nA hd;refine ⟨_,(aF (bM (i:=3) nd rfl (Or.inl rfl) (bB aW (pv 0) aG))
 (aF (bD (aO cH (pv 3) aN (aV _)) (aH (aQ (bI eE (bB aW (pv 0) aG) (pv 2)))) aU)
 (aF (bD (aO cH (pv 3) aN (aV _)) (aH (aQ (bB aW (pv 1) (bB aW (pv 0) aG)))) aU)
 (aF (bM (i:=4) nd rfl (Or.inl rfl) (pc (D:=T.HL) Jv hr (aD (bB aW (pv 0) aG) (aD (pv 1) (aD (pv 2) aC)))))
 (aF (bD (aO cH (pv 3) aN (aV _)) (aH (aQ (pc (D:=T.HL) Jv hr (aD (dR (aO cH (pv 4) aG (aV _)) (bB aW (pv 0) aG) (bB aW (pv 0) aG)) (aD (pv 1) (aD (pv 2) aC)))))) aU)
 (aH (aQ (pc (D:=T.Hk) Jk hr (aD (pv 3) (aD (pv 4) (aD (pc (D:=T.HL) Jv hr (aD (bB aW (pv 0) aG) (aD (pv 1) (aD (pv 2) aC)))) (aD (pv 2) aC)))))))))))),?_⟩
 have hb0:0 < b:=by have:=ha.2.2.1;omega
 cases t with
 | num m =>have q0:Dat K H (.tup [.str "num",.int m]) v0:=q0;refine cF (K:=K) (d:=.str "num") (a7 (k:=0) (aB q0) aE rfl) λv3 H1 s1 q3=>?_;refine aP (K:=K) (b:=true) (RT.as (aJ (bF (aB q3) aL)) (B7 rfl)) (λc H2 s2=>?_) (λc=>nomatch c);have s12:=s1.trans s2;exact bC (K:=K) (d:=.int (m % b)) (gU (a7 (k:=1) (aB (s12.dat q0)) aE rfl) (aB (s12.dat q2)) hb0) λv H' s q=>post v H' (s12.trans s) q
 | arg m =>
  have q0:Dat K H (.tup [.str "arg",.int m]) v0:=q0;refine cF (K:=K) (d:=.str "arg") (a7 (k:=0) (aB q0) aE rfl) λv3 H1 s1 q3=>?_;refine aP (K:=K) (b:=false) (RT.as (aJ (bF (aB q3) aL)) (qP (by decide +kernel))) (λc=>nomatch c) (λc H2 s2=>?_);refine aP (K:=K) (b:=true) (RT.as (aJ (bF (aB (s2.dat q3)) aL)) (B7 rfl)) (λc H3 s3=>?_) (λc=>nomatch c);have Rz:=s1.trans (s2.trans s3);have em:m=((m.toNat:Nat):Int):=by have:=ht.1;omega
  refine bC (K:=K) (d:=.int (as.getD m.toNat 0)) (a7 (k:=m.toNat) (ds:=as.map D.int) (aB (Rz.dat q1)) (RE.as (a7 (k:=1) (aB (Rz.dat q0)) aE rfl) (MH D.int em)) ?_) λv H' s q=>post v H' (Rz.trans s) q;rw [LV,zY ha ht.1 ht.2];rfl
 | two o x y =>
  have q0:Dat K H (.tup [.str o,toD x,toD y]) v0:=q0;obtain ⟨n1,n2,n3⟩:=EM ht.1;have dx:fC x<=n:=by simp only [fC] at hn;omega
  have dy:fC y<=n:=by simp only [fC] at hn;omega
  refine cF (K:=K) (d:=.str o) (a7 (k:=0) (aB q0) aE rfl) λv3 H1 s1 q3=>?_;refine aP (K:=K) (b:=false) (RT.as (aJ (bF (aB q3) aL)) (qP n1)) (λc=>nomatch c) (λc H2 s2=>?_);refine aP (K:=K) (b:=false) (RT.as (aJ (bF (aB (s2.dat q3)) aL)) (qP n2)) (λc=>nomatch c) (λc H3 s3=>?_);have Rz:=s1.trans (s2.trans s3);have q0:=Rz.dat q0;have q1:=Rz.dat q1;have q2:=Rz.dat q2;have q3:=(s2.trans s3).dat q3;refine cF (K:=K) (d:=.int (cP as b x)) (bE (R:=kC n) (aA (a7 (k:=1) (aB q0) aE rfl) (aA (aB q1) (aA (aB q2) aI))) ⟨x,as,b,rfl,ht.2.1,dx,ha,rfl⟩) λv4 H4 s4 q4=>?_;refine aP (K:=K) (b:=false) (RT.as (aJ (bF (aB (s4.dat q3)) aL)) (qP n3)) (λc=>nomatch c) (λc H5 s5=>?_);have W2:=s4.trans s5;have wx:=jD ha x ht.2.1;have wy:=jD ha y ht.2.2;refine bC (K:=K) (d:=.int (two o (cP as b x) (cP as b y) b)) (bE (R:=xy) (aA (aB (W2.dat q3)) (aA (aB (s5.dat q4)) (aA (bE (R:=kC n) (d:=.int (cP as b y)) (aA (a7 (k:=2) (aB (W2.dat q0)) aE rfl) (aA (aB (W2.dat q1)) (aA (aB (W2.dat q2)) aI))) ⟨y,as,b,rfl,ht.2.2,dy,ha,rfl⟩) (aA (aB (W2.dat q2)) aI)))) ⟨o,_,_,b,rfl,ha.2.2.1,ha.2.2.2,wx.1,wx.2,wy.1,wy.2,rfl⟩) λv H' s q=>post v H' (Rz.trans (W2.trans s)) q
 | pick x y z =>
  have q0:Dat K H (.tup [.str "pick",toD x,toD y,toD z]) v0:=q0;have dx:fC x<=n:=by simp only [fC] at hn;omega
  have dy:fC y<=n:=by simp only [fC] at hn;omega
  have dz:fC z<=n:=by simp only [fC] at hn;omega
  refine cF (K:=K) (d:=.str "pick") (a7 (k:=0) (aB q0) aE rfl) λv3 H1 s1 q3=>?_;refine aP (K:=K) (b:=false) (RT.as (aJ (bF (aB q3) aL)) (qP (by decide +kernel))) (λc=>nomatch c) (λc H2 s2=>?_);refine aP (K:=K) (b:=false) (RT.as (aJ (bF (aB (s2.dat q3)) aL)) (qP (by decide +kernel))) (λc=>nomatch c) (λc H3 s3=>?_);have Rz:=s1.trans (s2.trans s3);have q0:=Rz.dat q0;have q1:=Rz.dat q1;have q2:=Rz.dat q2;have q3:=(s2.trans s3).dat q3;refine cF (K:=K) (d:=.int (cP as b x)) (bE (R:=kC n) (aA (a7 (k:=1) (aB q0) aE rfl) (aA (aB q1) (aA (aB q2) aI))) ⟨x,as,b,rfl,ht.1,dx,ha,rfl⟩) λv4 H4 s4 q4=>?_;refine aP (K:=K) (b:=true) (RT.as (aJ (bF (aB (s4.dat q3)) aL)) (B7 rfl)) (λc H5 s5=>?_) (λc=>nomatch c);have W2:=s4.trans s5;refine bC (K:=K) (d:=.int (if cP as b x=0 then cP as b z else cP as b y)) (bE (R:=kC n) (ds:=[toD (if cP as b x=0 then z else y),.tup (as.map D.int),.int b]) (aA (jR (b:=decide (cP as b x=0)) (aJ (eS (aB (s5.dat q4)) aE)) (λc=>?_) (λc=>?_)) (aA (aB (W2.dat q1)) (aA (aB (W2.dat q2)) aI))) ?_) λv H' s q=>post v H' (Rz.trans (W2.trans s)) q
  ·rw [Mc (LS c)];exact a7 (k:=3) (aB (W2.dat q0)) aE rfl
  ·rw [LZ (Mf c)];exact a7 (k:=2) (aB (W2.dat q0)) aE rfl
  ·by_cases hz:cP as b x=0
   ·rw [Mc hz,Mc hz];exact ⟨z,as,b,rfl,ht.2.2,dz,ha,rfl⟩
   ·rw [LZ hz,LZ hz];exact ⟨y,as,b,rfl,ht.2.1,dy,ha,rfl⟩
structure MS where
 pile:List Int
 place:Nat
 kept:List Nat
 ended:Bool
structure MC where
 cs:List Int
 as:List Int
 b:Int
structure wB (mc:MC):Prop where
 cs:Z1 mc.cs
 as:mc.as.length=4
 ai:∀ x ∈ mc.as,0<=x/\x < mc.b
 b2:2<=mc.b
 b9:mc.b<=10000
structure iZ (mc:MC) (st:MS):Prop where
 p:∀ x ∈ st.pile,0<=x/\x < mc.b
 l:st.pile.length<=64
 k:st.kept.length<=16
noncomputable def eJ (st:MS):Option (Int × MS):=match st.pile with
 | []=>none
 | x::r=>some (x,{ st with pile:=r })
noncomputable def bZ (mc:MC) (n:Int) (st:MS):Option MS:=if st.pile.length=64 then none else some { st with pile:=(n % mc.b)::st.pile }
noncomputable def oj (nm:Str) (num on:Nat) (st:MS):Option (Nat × MS) :=
 if nm ∈ (["skip","jump"]:List Str) then some (on+num,st)
 else if nm ∈ (["zero","none"]:List Str) then (eJ st).map λp=>(if p.1=0 then on+num else on,p.2)
 else if nm="call" then (if st.kept.length=16 then none else some (num,{ st with kept:=on::st.kept }))
 else match st.kept with
  | []=>none
  | k::r=>some (k,{ st with kept:=r })
noncomputable def ko (st:MS):Option MS:=if st.pile.length=1 then some { st with ended:=true } else none
noncomputable def eW (mc:MC) (nm:Str) (num:Nat) (st:MS):Option MS :=
 if nm ∈ (["put","far"]:List Str) then bZ mc num st
 else if nm="load" then bZ mc (mc.as.getD num 0) st
 else (eJ st).bind λu =>
  if nm="more" then bZ mc (u.1+num) u.2
  else if nm="twice" then (bZ mc u.1 u.2).bind λs=>bZ mc u.1 s
  else if nm="about" then (eJ u.2).bind λl=>(bZ mc u.1 l.2).bind λs=>bZ mc l.1 s
  else (eJ u.2).bind λl=>bZ mc (two nm l.1 u.1 mc.b) l.2
structure MA where
 m:Addr
 dx:Addr
 lp:Addr
 lk:Addr
 lc:Addr
 vg:V
noncomputable def mF (A:MA) (mc:MC) (st:MS):List (Str × V):=[("cells",.ref A.lc),("given",A.vg),("size",.int mc.b),("pile",.ref A.lp),("place",.int st.place),("kept",.ref A.lk),("ended",.bl st.ended)]
noncomputable def pV (l:List Int):List V:=l.reverse.map V.int
noncomputable def XS (l:List Nat):List V:=l.reverse.map λ(n:Nat)=>V.int n
theorem fQ (x:Int) (l:List Int):pV (x::l)=pV l++[.int x]:=by unfold pV;rw [List.reverse_cons,MM];rfl
theorem uE (x:Nat) (l:List Nat):XS (x::l)=XS l++[.int x]:=by unfold XS;rw [List.reverse_cons,MM];rfl
theorem sW (l:List Int):(pV l).length=l.length:=by unfold pV;rw [LR,MO]
theorem CP (l:List Nat):(XS l).length=l.length:=by unfold XS;rw [LR,MO]
structure PM (K:W.Frag) (C:Addr) (A:MA) (mc:MC) (st:MS) (H:Hp):Prop where
 ins:H A.m=some (.ins C A.dx (mF A mc st))
 cells:H A.lc=some (.lst (mc.cs.map V.int))
 given:Dat K H (.tup (mc.as.map D.int)) A.vg
 pile:H A.lp=some (.lst (pV st.pile))
 kept:H A.lk=some (.lst (XS st.kept))
 ne:A.lp≠A.lk
 c1:A.lc≠A.lp
 c2:A.lc≠A.lk
noncomputable def RD (A:MA) (H H':Hp):Prop:=∀ x o,x≠A.m->x≠A.lp->x≠A.lk->H x=some o->H' x=some o
variable {A:MA}
theorem RD.trans {H1 H2:Hp} (a:RD A H H1) (b:RD A H1 H2):RD A H H2:=λx o n1 n2 n3 e=>b x o n1 n2 n3 (a x o n1 n2 n3 e)
variable {H':Hp}
theorem fN (s:Pr H H'):RD A H H':=λx o _ _ _ e=>s x o e
theorem RD.lp {o:HO}:RD A H (upd H A.lp o):=λx u _ n _ e=>by rw [aX n];exact e
theorem RD.lk {o:HO}:RD A H (upd H A.lk o):=λx u _ _ n e=>by rw [aX n];exact e
theorem RD.m {o:HO}:RD A H (upd H A.m o):=λx u n _ _ e=>by rw [aX n];exact e
section
variable {C:Addr} {A:MA} {mc:MC} {st:MS} {H H':Hp}
theorem PM.same (M:PM K C A mc st H) (s:Pr H H'):PM K C A mc st H':=⟨s _ _ M.ins,s _ _ M.cells,s.dat M.given,s _ _ M.pile,s _ _ M.kept,M.ne,M.c1,M.c2⟩
theorem PM.np (M:PM K C A mc st H):A.m≠A.lp:=λz=>by have:=M.ins;rw [z,M.pile] at this;cases this
theorem PM.nk (M:PM K C A mc st H):A.m≠A.lk:=λz=>by have:=M.ins;rw [z,M.kept] at this;cases this
theorem j4 {b:Addr} {o o':HO} (h:H b=some o) (ho:(∃ xs,o=.lst xs)\/∃ C dx fs,o=.ins C dx fs) (hl:∀ xs,o=.lst xs->∃ ys,o'=.lst ys):fA K H (upd H b o'):=by
 refine ⟨λa xs q=>?_,λa xs q=>?_⟩
 ·rcases q with (q | ⟨u,q⟩) | q
  ·refine .inl (.inl ?_);rw [aX (λz=>?_)]
   ·exact q
   ·rw [z,h] at q;rcases ho with ⟨_,rfl⟩ | ⟨_,_,_,rfl⟩ <;> cases q
  ·refine .inl (.inr ⟨u,?_⟩);rw [aX (λz=>?_)]
   ·exact q
   ·rw [z,h] at q;rcases ho with ⟨_,rfl⟩ | ⟨_,_,_,rfl⟩ <;> cases q
  ·exact .inr q
 ·by_cases hab:a=b
  ·subst hab;rcases q with (q | ⟨u,q⟩) | q
   ·rw [h] at q;cases q;obtain ⟨ys,rfl⟩:=hl _ rfl;exact ⟨ys,PJ.of aM⟩
   ·rw [h] at q;rcases ho with ⟨_,rfl⟩ | ⟨_,_,_,rfl⟩ <;> cases q
   ·exact ⟨xs,.inr q⟩
  ·rcases q with (q | ⟨u,q⟩) | q
   ·exact ⟨xs,.inl (.inl (by rw [aX hab];exact q))⟩
   ·exact ⟨xs,.inl (.inr ⟨u,by rw [aX hab];exact q⟩)⟩
   ·exact ⟨xs,.inr q⟩
theorem PM.Yc (M:PM K C A mc st H) (r:List Int):PM K C A mc { st with pile:=r } (upd H A.lp (.lst (pV r))) :=
 ⟨by rw [aX M.np];exact M.ins,by rw [aX M.c1];exact M.cells,Dat.mono (j4 M.pile (.inl ⟨_,rfl⟩) λ_ _=>⟨_,rfl⟩) _ M.given,aM,by rw [aX (MQ M.ne)];exact M.kept,M.ne,M.c1,M.c2⟩
theorem PM.Yd (M:PM K C A mc st H) (r:List Nat):PM K C A mc { st with kept:=r } (upd H A.lk (.lst (XS r))) :=
 ⟨by rw [aX M.nk];exact M.ins,by rw [aX M.c2];exact M.cells,Dat.mono (j4 M.kept (.inl ⟨_,rfl⟩) λ_ _=>⟨_,rfl⟩) _ M.given,by rw [aX M.ne];exact M.pile,aM,M.ne,M.c1,M.c2⟩
theorem PM.nc (M:PM K C A mc st H):A.m≠A.lc:=λz=>by have:=M.ins;rw [z,M.cells] at this;cases this
theorem PM.setM (M:PM K C A mc st H) {st':MS} {fs:List (Str × V)} (e:fs=mF A mc st') (hp:st'.pile=st.pile) (hk:st'.kept=st.kept):PM K C A mc st' (upd H A.m (.ins C A.dx fs)):=by subst e;exact ⟨aM,by rw [aX (MQ M.nc)];exact M.cells,Dat.mono (j4 M.ins (.inr ⟨_,_,_,rfl⟩) λ_ z=>by cases z) _ M.given,by rw [aX (MQ M.np),hp];exact M.pile,by rw [aX (MQ M.nk),hk];exact M.kept,M.ne,M.c1,M.c2⟩
theorem m7 (p:Nat):iF "place" (.int p) (mF A mc st)=mF A mc { st with place:=p }:=by kernel_rfl
theorem zr (b:Bool):iF "ended" (.bl b) (mF A mc st)=mF A mc { st with ended:=b }:=by kernel_rfl
variable {i:Nat} {f:Str} {σ:L2.St}
theorem iM {v:V} {Q:VK} (M:PM K C A mc st H) (c:VQ K C) (n:PU K C f) (q:Q v H) (l:(mF A mc st).lookup f=some v:=by kernel_rfl) (e:σ[i]?=some (some (.ref A.m)):=by rfl):lB K (dW i) f σ H Q :=
 ⟨_,e,A.m,C,A.dx,_,v,rfl,M.ins,c,n,l,q⟩
theorem oC {z:Int} (M:PM K C A mc st H) (c:VQ K C) (n:PU K C f) (l:(mF A mc st).lookup f=some (.int z):=by kernel_rfl) (e:σ[i]?=some (some (.ref A.m)):=by rfl):RE K (lB K (dW i) f) σ H (.int z) :=
 λ_ s _ q=>iM (M.same s) c n (q _ _ (Pr.refl _) (Dat.Px z)) l e
theorem tG (M:PM K C A mc st H) (c:VQ K C) (n:PU K C "pile") (e:σ[i]?=some (some (.ref A.m)):=by rfl):RL K (lB K (dW i) "pile") σ H (st.pile.reverse.map D.int) :=
 λ_ s _ q=>iM (M.same s) c n (q _ _ (Pr.refl _) (LD.of (M.same s).pile (eP _))) (by kernel_rfl) e
theorem Dt (M:PM K C A mc st H) (c:VQ K C) (n:PU K C "cells") (e:σ[i]?=some (some (.ref A.m)):=by rfl):RL K (lB K (dW i) "cells") σ H (cD mc.cs) :=
 λ_ s _ q=>iM (M.same s) c n (q _ _ (Pr.refl _) (LD.of (M.same s).cells (eP _))) (by kernel_rfl) e
theorem CQ (l:List Nat):XS l=(l.reverse.map λ(n:Nat)=>(n:Int)).map V.int:=by unfold XS;rw [Oc];rfl
theorem Du (M:PM K C A mc st H) (c:VQ K C) (n:PU K C "kept") (e:σ[i]?=some (some (.ref A.m)):=by rfl):RL K (lB K (dW i) "kept") σ H ((st.kept.reverse.map λ(n:Nat)=>(n:Int)).map D.int) :=
 λ_ s _ q=>iM (M.same s) c n (q _ _ (Pr.refl _) (LD.of ((M.same s).kept.trans (by rw [CQ])) (eP _))) (by kernel_rfl) e
theorem Dm (M:PM K C A mc st H) (c:VQ K C) (n:PU K C "given") (e:σ[i]?=some (some (.ref A.m)):=by rfl):RE K (lB K (dW i) "given") σ H (.tup (mc.as.map D.int)) :=
 λ_ s _ q=>iM (M.same s) c n (q _ _ (Pr.refl _) (M.same s).given) (by kernel_rfl) e
theorem oF {l:Addr} {xs:List V} (M:PM K C A mc st H) (c:VQ K C) (n:PU K C f) (hl:H l=some (.lst xs)) (lk:(mF A mc st).lookup f=some (.ref l):=by kernel_rfl) (e:σ[i]?=some (some (.ref A.m)):=by rfl):RT (λσ H Q=>lB K (dW i) f σ H λx H'=>∃ k,vP K x H' k/\Q k H') σ H (!xs.isEmpty) :=
 λH1 s Q q=>iM (v:=.ref l) (Q:=λx H'=>∃ k,vP K x H' k/\Q k H') (M.same s) c n ⟨_,.inl ⟨_,PJ.of (s _ _ hl),rfl⟩,q _ (Pr.refl _)⟩ lk e
theorem mQ {N:Addr} {E:XK} (M:PM K C A mc st H) (c:VQ K C) (n:PU K C "place") (q:∀ dx,H dx=none->E (.ref N) (some dx) (upd H dx (.xd [("place",.int st.place)]))) (e:σ[i]?=some (some (.ref A.m)):=by rfl) :
  bO (lB K (dW i) "place") dH σ H (λvs H1=>∃ v,vs=[v]/\∀ dx,H1 dx=none->E (.ref N) (some dx) (upd H1 dx (.xd [("place",v)]))) :=
 iM (Q:=λv H1=>dH σ H1 λvs H2=>∃ w,v::vs=[w]/\∀ dx,H2 dx=none->E (.ref N) (some dx) (upd H2 dx (.xd [("place",w)]))) M c n ⟨_,rfl,q⟩ (by kernel_rfl) e
noncomputable def Qa (K:W.Frag) (N C:Addr) (A:MA) (mc:MC) (st:MS) (H:Hp) (Q:VK) (E:XK) (o:Option (V × MS)):Prop :=
 (∀ v st',o=some (v,st')->∀ H',RD A H H'->PM K C A mc st' H'->Q v H')/\(o=none->∀ H' dx,RD A H H'->H' dx=some (.xd [("place",.int st.place)])->E (.ref N) (some dx) H')
end
noncomputable def tU (K:W.Frag) (N C:Addr):Sp:=λvs H Q E=>∃ A mc st,vs=[.ref A.m]/\PM K C A mc st H/\Qa K N C A mc st H Q E ((eJ st).map λp=>(.int p.1,p.2))
noncomputable def xk (K:W.Frag) (N C:Addr):Sp:=λvs H Q E=>∃ A mc st n,vs=[.ref A.m,.int n]/\PM K C A mc st H/\2<=mc.b/\st.pile.length<=64/\Qa K N C A mc st H Q E ((bZ mc n st).map λs=>(.Py,s))
noncomputable def D2 (K:W.Frag) (N C:Addr):Sp:=λvs H Q E=>∃ A mc st,vs=[.ref A.m]/\PM K C A mc st H/\Qa K N C A mc st H Q E ((ko st).map λs=>(.Py,s))
noncomputable def D7 (K:W.Frag) (N C:Addr):Sp:=λvs H Q E=>∃ A mc st nm num on,vs=[.ref A.m,.str nm,.int (num:Nat),.int (on:Nat)]/\PM K C A mc st H/\st.kept.length<=16/\Qa K N C A mc st H Q E ((oj nm num on st).map λp=>(.int p.1,p.2))
theorem nY (T:Txt P w K mg) (GD:PD P w K mg base U1 k T.IG T.HZ ["self","place"] (fH T.GC "place")):PD P w K mg base (UC P w) (k+1+1) T.Hx T.HC ["self"] (tU K T.GC T.Gz):=by
 refine T.JF.YF Uj (λvs H Q E h=>?_) (λcdv A outer s H vs Q E hr h=>?_)
 ·obtain ⟨A,mc,st,rfl,_⟩:=h;rfl
 have nd:=Uj.nd;obtain ⟨A,mc,st,rfl,M,ok,bad⟩:=h;refine ⟨_,(aF (bD (dS (bT (dI (pv 0) rfl) (λ_=>rfl))) (aH (eB T.IE GD (fO T) hr iW rfl T.Hl (aD (dI (pv 0) rfl) aC))) aU)
 (aH (aQ (pH Mn N2 Ow o9 (dI (pv 0) rfl))))),?_⟩
 obtain ⟨pile,place,kept,ended⟩:=st
 cases pile with
 | nil =>refine aP (K:=K) (b:=true) (bX (oF M T.Pu T.Qu M.pile)) (λ_ H1 s1=>?_) (λc=>nomatch c);exact mQ (M.same s1) T.Pu T.PR λdx n=>bad rfl _ dx (fN (s1.trans (aT n _))) aM
 | cons x r =>
  have e:pV (x::r)=pV r++[.int x]:=fQ x r;refine aP (K:=K) (b:=false) (RT.as (bX (oF M T.Pu T.Qu M.pile)) ?_) (λc=>nomatch c) (λ_ H1 s1=>?_)
  ·show (!!(pV (x::r)).isEmpty)=false;rw [e];cases pV r <;> rfl
  ·have M:=M.same s1;have hp:H1 A.lp=some (.lst (pV r++[.int x])):=by rw [<- e];exact M.pile
   refine iM (v:=.ref A.lp) (Q:=λx H1=>ZV K "list" x H1/\Bx x [] H1 Q) M T.Pu T.Qu ⟨.inl ⟨rfl,_,PJ.of hp⟩,A.lp,_,.int x,rfl,rfl,hp,by simp,?_⟩;rw [OW];exact ok (.int x) _ rfl _ ((fN s1).trans RD.lp) (M.Yc r)
section
variable {N C:Addr} {A:MA} {mc:MC} {st st1:MS} {H H1:Hp} {Q:VK} {E:XK} {o:Option (V × MS)}
theorem Qa.on (h:Qa K N C A mc st H Q E o) (b:RD A H H1) (hp:st1.place=st.place):Qa K N C A mc st1 H1 Q E o :=
 ⟨λv st' e H' b' M'=>h.1 v st' e H' (b.trans b') M',λe H' dx b' hd=>h.2 e H' dx (b.trans b') (by rw [<- hp];exact hd)⟩
variable {i:Nat} {σ:L2.St}
theorem tj (M:PM K C A mc st H) (h:Qa K N C A mc st H Q E ((eJ st).map λp=>(.int p.1,p.2))) (e:σ[i]?=some (some (.ref A.m)):=by rfl):nN C "take" (tU K N C) [] E (dW i) dH σ H Q :=
 ⟨_,e,A.m,A.dx,_,rfl,M.ins,by kernel_rfl,A,mc,st,rfl,M,h⟩
variable {te:TE} {n:Int}
theorem kZ (hn:RE K te σ H (.int n)) (M:PM K C A mc st H) (b2:2<=mc.b) (l:st.pile.length<=64) (h:Qa K N C A mc st H Q E ((bZ mc n st).map λs=>(.Py,s))) (e:σ[i]?=some (some (.ref A.m)):=by rfl) :
  nN C "push" (xk K N C) [] E (dW i) (bO te dH) σ H Q :=
 ⟨_,e,A.m,A.dx,_,rfl,M.ins,by kernel_rfl,hn.use λv H1 s q=>⟨A,mc,st,n,by rw [q.Pz];rfl,M.same s,b2,l,h.on (fN s) rfl⟩⟩
variable {f:Str} {l:Addr} {xs:List V}
theorem xB {z:Int} (M:PM K C A mc st H) (c:VQ K C) (n:PU K C f) (hl:H l=some (.lst xs)) (hx:xs.length<=900) (h:RE K te σ H (.int z)) (q:∀ H',Pr H H'->Q .Py (upd H' l (.lst (xs++[.int z]))))
  (lk:(mF A mc st).lookup f=some (.ref l):=by kernel_rfl) (e:σ[i]?=some (some (.ref A.m)):=by rfl):Zv K "list" jJ (lB K (dW i) f) (bO te dH) σ H Q :=
 iM (v:=.ref l) (Q:=λx H1=>ZV K "list" x H1/\bO te dH σ H1 λxs H2=>jJ x xs H2 Q) M c n ⟨.inl ⟨rfl,_,PJ.of hl⟩,h.use λv H1 s q1=>⟨l,xs,_,rfl,rfl,s _ _ hl,dJ (by omega),by rw [q1.Pz];exact q H1 s⟩⟩ lk e
theorem Da {z:V} (M:PM K C A mc st H) (c:VQ K C) (n:PU K C f) (hl:H l=some (.lst (xs++[z]))) (q:Q z (upd H l (.lst xs)))
  (lk:(mF A mc st).lookup f=some (.ref l):=by kernel_rfl) (e:σ[i]?=some (some (.ref A.m)):=by rfl):Fo K "list" Bx (lB K (dW i) f) σ H Q :=
 iM (v:=.ref l) (Q:=λx H1=>ZV K "list" x H1/\Bx x [] H1 Q) M c n ⟨.inl ⟨rfl,_,PJ.of hl⟩,l,_,z,rfl,rfl,hl,by simp,by rw [OW];exact q⟩ lk e
theorem kv {p:Int × MS} (h:eJ st=some p):p.2.place=st.place/\p.2.kept=st.kept/\st.pile=p.1::p.2.pile/\p.2.ended=st.ended:=by
 unfold eJ at h;split at h
 ·cases h
 ·rename_i x r e;cases h;exact ⟨rfl,rfl,e,rfl⟩
theorem oA {s:MS} (h:bZ mc n st=some s):s.place=st.place/\s.kept=st.kept/\s.pile=n % mc.b::st.pile/\st.pile.length≠64/\s.ended=st.ended:=by
 unfold bZ at h;split at h
 ·cases h
 ·rename_i hl;cases h;exact ⟨rfl,rfl,rfl,hl,rfl⟩
end
theorem lN {p q:Prop} [Decidable p] [Decidable q] (h:p↔q):decide p=decide q:=decide_eq_decide.mpr h
theorem nW (T:Txt P w K mg) (GD:PD P w K mg base U1 k T.IG T.HZ ["self","place"] (fH T.GC "place")):PD P w K mg base (UC P w) (k+1+1) T.HV T.HX ["self","number"] (xk K T.GC T.Gz):=by
 refine T.JD.YF Uk (λvs H Q E h=>?_) (λcdv A outer s H vs Q E hr h=>?_)
 ·obtain ⟨A,mc,st,n,rfl,_⟩:=h;rfl
 have nd:=Uk.nd;obtain ⟨A,mc,st,n,rfl,M,b2,hl,ok,bad⟩:=h;refine ⟨_,(aF (bD (aO cH (a9 aZ rfl T.GQ cC (aD (dI (pv 0) rfl) aC)) (bQ (v:=.int 64) rfl T.Iz ⟨_,rfl⟩) (aV _)) (aH (eB T.IE GD (fO T) hr iW rfl T.Hl (aD (dI (pv 0) rfl) aC))) aU)
 (aH (bK (eU Mn Mz MD bU (dI (pv 0) rfl) (aD (bI eE (pv 1) (dI (pv 0) rfl)) aC))))),?_⟩
 have ed:decide ((((st.pile.reverse.map D.int).length:Nat):Int)=64)=decide (st.pile.length=64):=lN (by rw [LR,MO];omega);refine aP (K:=K) (b:=decide (st.pile.length=64)) (RT.as (aJ (eS (eO (tG M T.Pu T.Qu)) aE)) ed) (λc H1 s1=>?_) (λc H1 s1=>?_)
 ·exact mQ (M.same s1) T.Pu T.PR λdx n=>bad (by unfold bZ;rw [Mc (LS c)];rfl) _ dx (fN (s1.trans (aT n _))) aM
 ·have M:=M.same s1;have c:=Mf c;have lp:=sW st.pile;refine xB M T.Pu T.Qu M.pile (by omega) (gU (aB (k:=1) (Dat.Px n)) (oC (z:=mc.b) M T.Pu T.Th) (by omega)) λH2 s2=>?_;have e:=(M.same s2).Yc (n % mc.b::st.pile);rw [fQ] at e;exact ok .Py _ (by unfold bZ;rw [LZ c];rfl) _ ((fN (s1.trans s2)).trans RD.lp) e
theorem lV (T:Txt P w K mg) (GD:PD P w K mg base U1 k T.IG T.HZ ["self","place"] (fH T.GC "place")):PD P w K mg base (UC P w) (k+1+1) T.Hw T.HB ["self"] (D2 K T.GC T.Gz):=by
 refine T.IK.YF S9 (λvs H Q E h=>?_) (λcdv A outer s H vs Q E hr h=>?_)
 ·obtain ⟨A,mc,st,rfl,_⟩:=h;rfl
 have nd:=S9.nd;obtain ⟨A,mc,st,rfl,M,ok,bad⟩:=h;refine ⟨_,(aF (bD (aO qU (a9 aZ rfl T.GQ cC (aD (dI (pv 0) rfl) aC)) aG (aV _)) (aH (eB T.IE GD (fO T) hr iW rfl T.Hl (aD (dI (pv 0) rfl) aC))) aU)
 (aH (iQ (pv 0) eM rfl))),?_⟩
 have ed:(!decide ((((st.pile.reverse.map D.int).length:Nat):Int)=1))=!decide (st.pile.length=1):=MH Bool.not (lN (by rw [LR,MO];omega));refine aP (K:=K) (b:=!decide (st.pile.length=1)) (RT.as (aJ (pS (eO (tG M T.Pu T.Qu)) aE)) ed) (λc H1 s1=>?_) (λc H1 s1=>?_)
 ·have c:=Mf ((Bool.not_eq_true' _).mp c);exact mQ (M.same s1) T.Pu T.PR λdx n=>bad (by unfold ko;rw [LZ c];rfl) _ dx (fN (s1.trans (aT n _))) aM
 ·have M:=M.same s1;have c:=LS ((Bool.not_eq_false' _).mp c);refine ⟨_,rfl,A.m,_,A.dx,_,rfl,M.ins,T.Pu,T.Sk,by show 7 < 1000;decide,?_⟩;exact ok .Py { st with ended:=true } (by unfold ko;rw [Mc c];rfl) _ ((fN s1).trans RD.m) (M.setM (zr true) rfl rfl)
theorem ph (T:Txt P w K mg) (GD:PD P w K mg base U1 k T.IG T.HZ ["self","place"] (fH T.GC "place")) (HS:PD P w K mg base (UC P w) (k+1) T.Hx T.HC ["self"] (tU K T.GC T.Gz)):PD P w K mg base (UC P w) (k+1+1) T.Io T.Iq ["self","name","number","onward"] (D7 K T.GC T.Gz):=by
 refine T.JS.YF UI (λvs H Q E h=>?_) (λcdv A outer s H vs Q E hr h=>?_)
 ·obtain ⟨A,mc,st,nm,num,on,rfl,_⟩:=h;rfl
 have nd:=UI.nd;obtain ⟨A,mc,st,nm,num,on,rfl,M,hk,ok,bad⟩:=h;refine ⟨_,(aF (bD (aO eA (pv 1) (aS (aD aN (aD aN aC))) (by with_unfolding_all rfl)) (aH (aQ (bI dY (pv 3) (pv 2)))) aU)
 (aF (bD (aO eA (pv 1) (aS (aD aN (aD aN aC))) (by with_unfolding_all rfl)) (aH (aQ (dR (aO cH (iO (pv 0) T.Pu T.Qi HS hr (fY T) .nil iH) aG (aV _)) (bI dY (pv 3) (pv 2)) (pv 3)))) aU)
 (aF (bD (aO cH (pv 1) aN (aV _)) (aF (bD (aO cH (a9 aZ rfl T.GQ cC (aD (dI (pv 0) rfl) aC)) (bQ (v:=.int 16) rfl T.Iy ⟨_,rfl⟩) (aV _)) (aH (eB T.IE GD (fO T) hr iW rfl T.Hl (aD (dI (pv 0) rfl) aC))) aU)
 (aF (bK (eU Mn Mz MD bU (dI (pv 0) rfl) (aD (pv 3) aC)))
 (aH (aQ (pv 2))))) aU)
 (aF (bD (dS (bT (dI (pv 0) rfl) (λ_=>rfl))) (aH (eB T.IE GD (fO T) hr iW rfl T.Hl (aD (dI (pv 0) rfl) aC))) aU)
 (aH (aQ (pH Mn N2 Ow o9 (dI (pv 0) rfl)))))))),?_⟩
 refine aP (K:=K) (b:=decide (nm ∈ (["skip","jump"]:List Str))) (aJ (iR (ys:=["skip","jump"]) (aB (k:=1) (Dat.Rb nm)) (aR (aA aL (aA aL aI))))) (λc H1 s1=>?_) (λc H1 s1=>?_)
 ·have c:=LS c;refine bC (K:=K) (d:=.int ((on:Int)+num)) (dU (aB (k:=3) (Dat.Px _)) (aB (k:=2) (Dat.Px _))) λv H2 s2 q=>?_;rw [q.Pz];exact ok _ st (by unfold oj;rw [Mc c];show some (V.int ((on+num:Nat):Int),st)=_;rw [Int.natCast_add]) _ (fN (s1.trans s2)) (M.same (s1.trans s2))
 have n1:=Mf c;have M:=M.same s1;refine aP (K:=K) (b:=decide (nm ∈ (["zero","none"]:List Str))) (aJ (iR (ys:=["zero","none"]) (aB (k:=1) (Dat.Rb nm)) (aR (aA aL (aA aL aI))))) (λc H2 s2=>?_) (λc H2 s2=>?_)
 ·have c:=LS c;have M:=M.same s2;have s12:=s1.trans s2;have ew:oj nm num on st=(eJ st).map λp=>(if p.1=0 then on+num else on,p.2):=by unfold oj;rw [LZ n1,Mc c]
  rw [ew] at ok bad;refine tj M ⟨λv st' e H3 b3 M3=>?_,λe H3 dx b3 hd=>?_⟩
  ·obtain ⟨p,hp,e2⟩:=Mb.mp e;cases e2;refine ⟨rfl,_,rfl,?_⟩;have es:decide (V.int p.1=V.int 0)=decide (p.1=0):=lN ⟨λz=>V.int.inj z,λz=>by rw [z]⟩;rw [es];rw [hp] at ok;by_cases hz:p.1=0
   ·rw [Mh hz];refine jG ⟨_,rfl,_,rfl,on,num,rfl,rfl,?_⟩;exact ok _ p.2 (by show some (V.int ((if p.1=0 then on+num else on:Nat):Int),p.2)=_;rw [Mc hz,Int.natCast_add]) _ ((fN s12).trans b3) M3
   ·rw [LY hz];refine ji ⟨_,rfl,?_⟩;exact ok _ p.2 (by show some (V.int ((if p.1=0 then on+num else on:Nat):Int),p.2)=_;rw [LZ hz]) _ ((fN s12).trans b3) M3
  ·have e:eJ st=none:=by simpa using e
   exact bad (by rw [e];rfl) H3 dx ((fN s12).trans b3) hd
 have n2:=Mf c;have M:=M.same s2;have s12:=s1.trans s2;refine aP (K:=K) (b:=decide (nm="call")) (aJ (bF (aB (K:=K) (k:=1) (Dat.Rb nm)) aL)) (λc H3 s3=>?_) (λc H3 s3=>?_)
 ·have c:=LS c;have M:=M.same s3;have Rz:=s12.trans s3;have ew:oj nm num on st=if st.kept.length=16 then none else some (num,{ st with kept:=on::st.kept }):=by unfold oj;rw [LZ n1,LZ n2,Mc c]
  rw [ew] at ok bad;have ed:decide (((((st.kept.reverse.map λ(n:Nat)=>(n:Int)).map D.int).length:Nat):Int)=16)=decide (st.kept.length=16):=lN (by rw [LR,LR,MO];omega);refine aP (K:=K) (b:=decide (st.kept.length=16)) (RT.as (aJ (eS (eO (Du M T.Pu T.QO)) aE)) ed) (λc H4 s4=>?_) (λc H4 s4=>?_)
  ·exact mQ (M.same s4) T.Pu T.PR λdx n=>bad (by rw [Mc (LS c)];rfl) _ dx (fN (Rz.trans (s4.trans (aT n _)))) aM
  ·have M:=M.same s4;have c:=Mf c;have lk:=CP st.kept;refine jM (xB M T.Pu T.QO M.kept (by omega) (aB (k:=3) (Dat.Px _)) λH5 s5=>?_);have e:=(M.same s5).Yd (on::st.kept);rw [uE] at e;exact ⟨_,rfl,ok _ _ (by rw [LZ c];rfl) _ ((fN (Rz.trans (s4.trans s5))).trans RD.lk) e⟩
 have n3:=Mf c;have M:=M.same s3;have Rz:=s12.trans s3;obtain ⟨pile,place,kept,ended⟩:=st
 cases kept with
 | nil =>refine aP (K:=K) (b:=true) (bX (oF M T.Pu T.QO M.kept)) (λ_ H4 s4=>?_) (λc=>nomatch c);exact mQ (M.same s4) T.Pu T.PR λdx n=>bad (by unfold oj;rw [LZ n1,LZ n2,LZ n3];rfl) _ dx (fN (Rz.trans (s4.trans (aT n _)))) aM
 | cons x r =>
  have e:XS (x::r)=XS r++[.int x]:=uE x r;refine aP (K:=K) (b:=false) (RT.as (bX (oF M T.Pu T.QO M.kept)) ?_) (λc=>nomatch c) (λ_ H4 s4=>?_)
  ·show (!!(XS (x::r)).isEmpty)=false;rw [e];cases XS r <;> rfl
  ·have M:=M.same s4;have hp:H4 A.lk=some (.lst (XS r++[.int x])):=by rw [<- e];exact M.kept
   exact Da M T.Pu T.QO hp (ok (.int x) _ (by unfold oj;rw [LZ n1,LZ n2,LZ n3];rfl) _ ((fN (Rz.trans s4)).trans RD.lk) (M.Yd r))
noncomputable def D1 (K:W.Frag) (N C:Addr):Sp:=λvs H Q E=>∃ A mc st nm num,vs=[.ref A.m,.str nm,.int (num:Nat)]/\PM K C A mc st H/\wB mc/\iZ mc st/\(nm="load"->num<=3)/\Qa K N C A mc st H Q E ((eW mc nm num st).map λs=>(.Py,s))
section
variable {N C:Addr} {A:MA} {mc:MC} {st:MS} {H:Hp} {Q:VK} {E:XK} {n:Int} {k:MS->Option MS}
variable {Q1:VK}
theorem yt (h:Qa K N C A mc st H Q E (((bZ mc n st).bind k).map λs=>(.Py,s))) (q:∀ s,bZ mc n st=some s->∀ H',RD A H H'->PM K C A mc s H'->Q1 .Py H'):Qa K N C A mc st H Q1 E ((bZ mc n st).map λs=>(.Py,s)):=by
 refine ⟨λv st' e H' b M'=>?_,λe H' dx b hd=>?_⟩
 ·obtain ⟨s,hs,e2⟩:=Mb.mp e;cases e2;exact q _ hs H' b M'
 ·have e:bZ mc n st=none:=by simpa using e
  exact h.2 (by rw [e];rfl) H' dx b hd
theorem tX {k:Int × MS->Option MS} (h:Qa K N C A mc st H Q E (((eJ st).bind k).map λs=>(.Py,s))) (q:∀ p,eJ st=some p->∀ H',RD A H H'->PM K C A mc p.2 H'->Q1 (.int p.1) H'):Qa K N C A mc st H Q1 E ((eJ st).map λp=>(.int p.1,p.2)):=by
 refine ⟨λv st' e H' b M'=>?_,λe H' dx b hd=>?_⟩
 ·obtain ⟨p,hs,e2⟩:=Mb.mp e;cases e2;exact q _ hs H' b M'
 ·have e:eJ st=none:=by simpa using e
  exact h.2 (by rw [e];rfl) H' dx b hd
theorem lZ {p:Int × MS} (o:iZ mc st) (h:eJ st=some p):iZ mc p.2/\0<=p.1/\p.1 < mc.b/\p.2.pile.length+1=st.pile.length:=by obtain ⟨_,hk,hp,_⟩:=kv h;have l:=o.l;rw [hp,L5] at l;refine ⟨⟨λx hx=>o.p x (by rw [hp];exact Mt _ hx),by omega,by rw [hk];exact o.k⟩,?_⟩;have:=o.p p.1 (by rw [hp];exact Mw);exact ⟨this.1,this.2,by rw [hp,L5]⟩
theorem sP {s:MS} (b2:2<=mc.b) (o:iZ mc st) (h:bZ mc n st=some s):iZ mc s:=by
 obtain ⟨_,hk,hp,hl,_⟩:=oA h;have l:=o.l;refine ⟨λx hx=>?_,by rw [hp,L5];omega,by rw [hk];exact o.k⟩;rw [hp] at hx;rcases Mm.mp hx with z | z
 ·rw [z];exact ⟨MN _ (by omega),ML _ (by omega)⟩
 ·exact o.p x z
end
theorem lU (T:Txt P w K mg) (HS:PD P w K mg base (UC P w) k T.Hx T.HC ["self"] (tU K T.GC T.Gz)) (GU:PD P w K mg base (UC P w) k T.HV T.HX ["self","number"] (xk K T.GC T.Gz)) (Jk:Ok P w base k T.Hk (Qh K xy)):PD P w K mg base (UC P w) (k+1) T.Hv T.HA ["self","name","number"] (D1 K T.GC T.Gz):=by
 refine T.IJ.YF Tc (λvs H Q E h=>?_) (λcdv A outer s H vs Q E hr h=>?_)
 ·obtain ⟨A,mc,st,nm,num,rfl,_⟩:=h;rfl
 have nd:=Tc.nd;obtain ⟨A,mc,st,nm,num,rfl,M,oc,os,Z3,out⟩:=h;have b2:=oc.b2;refine ⟨_,(aF (bD (aO eA (pv 1) (aS (aD aN (aD aN aC))) (by with_unfolding_all rfl)) (aF (bK (gB (pv 0) T.Pu T.PF GU hr (dQ T) .nil iH (aD (pv 2) aC)))
 (aH yo)) aU)
 (aF (bD (aO cH (pv 1) aN (aV _)) (aF (bK (gB (pv 0) T.Pu T.PF GU hr (dQ T) .nil iH (aD (bB aW (dI (pv 0) rfl) (pv 2)) aC)))
 (aH yo)) aU)
 (aF (bM (i:=3) nd rfl (Or.inl rfl) (iO (pv 0) T.Pu T.Qi HS hr (fY T) .nil iH))
 (aH (bD (aO cH (pv 1) aN (aV _)) (aH (bK (gB (pv 0) T.Pu T.PF GU hr (dQ T) .nil iH (aD (bI dY (pv 3) (pv 2)) aC)))) (aH (bD (aO cH (pv 1) aN (aV _)) (aF (bK (gB (pv 0) T.Pu T.PF GU hr (dQ T) .nil iH (aD (pv 3) aC)))
 (aH (bK (gB (pv 0) T.Pu T.PF GU hr (dQ T) .nil iH (aD (pv 3) aC))))) (aH (bD (aO cH (pv 1) aN (aV _)) (aF (bM (i:=4) nd rfl (Or.inl rfl) (iO (pv 0) T.Pu T.Qi HS hr (fY T) .nil iH))
 (aF (bK (gB (pv 0) T.Pu T.PF GU hr (dQ T) .nil iH (aD (pv 3) aC)))
 (aH (bK (gB (pv 0) T.Pu T.PF GU hr (dQ T) .nil iH (aD (pv 4) aC)))))) (aH (bK (gB (pv 0) T.Pu T.PF GU hr (dQ T) .nil iH (aD (pc (D:=T.Hk) Jk hr (aD (pv 1) (aD (iO (pv 0) T.Pu T.Qi HS hr (fY T) .nil iH) (aD (pv 3) (aD (dI (pv 0) rfl) aC))))) aC))))))))))))),?_⟩
 refine aP (K:=K) (b:=decide (nm ∈ (["put","far"]:List Str))) (aJ (iR (ys:=["put","far"]) (aB (k:=1) (Dat.Rb nm)) (aR (aA aL (aA aL aI))))) (λc H1 s1=>?_) (λc H1 s1=>?_)
 ·have ew:eW mc nm num st=bZ mc num st:=by unfold eW;rw [Mc (LS c)]
  rw [ew] at out;have out:=Qa.on (st1:=st) out (fN s1) rfl;refine jM (kZ (aB (k:=2) (Dat.Px (num:Int))) (M.same s1) b2 os.l ⟨λv st' e H' b M'=>?_,out.2⟩);obtain ⟨s,hs,e2⟩:=Mb.mp e;cases e2;exact out.1 _ _ e H' b M'
 have n1:=Mf c;have M:=M.same s1;have out:=Qa.on (st1:=st) out (fN s1) rfl;refine aP (K:=K) (b:=decide (nm="load")) (aJ (bF (aB (K:=K) (k:=1) (Dat.Rb nm)) aL)) (λc H2 s2=>?_) (λc H2 s2=>?_)
 ·have c:=LS c;have ew:eW mc nm num st=bZ mc (mc.as.getD num 0) st:=by unfold eW;rw [LZ n1,Mc c]
  rw [ew] at out;have out:=Qa.on (st1:=st) out (fN s2) rfl;have M:=M.same s2;have ln:=Z3 c;have la:=oc.as
  have hg:(mc.as.map D.int)[num]?=some (.int (mc.as.getD num 0)):=by rw [LV,LQ (by omega:num < mc.as.length),Ml,LQ (by omega:num < mc.as.length)];rfl
  refine jM (kZ (a7 (k:=num) (Dm M T.Pu T.Sj) (aB (k:=2) (Dat.Px (num:Int))) hg) M b2 os.l ⟨λv st' e H' b M'=>?_,out.2⟩);obtain ⟨s,hs,e2⟩:=Mb.mp e;cases e2;exact out.1 _ _ e H' b M'
 have n2:=Mf c;have M:=M.same s2;have out:=Qa.on (st1:=st) out (fN s2) rfl
 have ew:eW mc nm num st=(eJ st).bind λu =>
  if nm="more" then bZ mc (u.1+num) u.2
  else if nm="twice" then (bZ mc u.1 u.2).bind λs=>bZ mc u.1 s
  else if nm="about" then (eJ u.2).bind λl=>(bZ mc u.1 l.2).bind λs=>bZ mc l.1 s
  else (eJ u.2).bind λl=>bZ mc (two nm l.1 u.1 mc.b) l.2:=by unfold eW;rw [LZ n1,LZ n2]
 rw [ew] at out;refine gW (tj M (tX out λu hu H3 b3 M=>?_));obtain ⟨ou,u0,u1,ul⟩:=lZ os hu;have pu:=(kv hu).1;rw [hu] at out;have out:=Qa.on (st1:=u.2) out b3 pu
 have out:Qa K T.GC T.Gz A mc u.2 H3 Q E ((if nm="more" then bZ mc (u.1+num) u.2
  else if nm="twice" then (bZ mc u.1 u.2).bind λs=>bZ mc u.1 s
  else if nm="about" then (eJ u.2).bind λl=>(bZ mc u.1 l.2).bind λs=>bZ mc l.1 s
  else (eJ u.2).bind λl=>bZ mc (two nm l.1 u.1 mc.b) l.2).map λs=>(.Py,s)):=out
 refine fL (b:=decide (nm="more")) (aJ (bF (aB (K:=K) (k:=1) (Dat.Rb nm)) aL)) (λc H4 s4=>?_) (λc H4 s4=>?_)
 ·rw [Mc (LS c)] at out;have out:=Qa.on (st1:=u.2) out (fN s4) rfl;refine kZ (dU (aB (k:=3) (Dat.Px u.1)) (aB (k:=2) (Dat.Px (num:Int)))) (M.same s4) b2 ou.l ⟨λv st' e H' b M'=>?_,out.2⟩;obtain ⟨s,hs,e2⟩:=Mb.mp e;cases e2;exact out.1 _ _ e H' b M'
 rw [LZ (Mf c)] at out;have M:=M.same s4;have out:=Qa.on (st1:=u.2) out (fN s4) rfl;refine fL (b:=decide (nm="twice")) (aJ (bF (aB (K:=K) (k:=1) (Dat.Rb nm)) aL)) (λc H5 s5=>?_) (λc H5 s5=>?_)
 ·rw [Mc (LS c)] at out;have out:=Qa.on (st1:=u.2) out (fN s5) rfl;refine jM (kZ (aB (k:=3) (Dat.Px u.1)) (M.same s5) b2 ou.l (yt out λs hs H6 b6 M6=>?_));rw [hs] at out;have out:Qa K T.GC T.Gz A mc s H6 Q E ((bZ mc u.1 s).map λs=>(.Py,s)):=Qa.on out b6 (oA hs).1;refine kZ (aB (k:=3) (Dat.Px u.1)) M6 b2 (sP b2 ou hs).l ⟨λv st' e H' b M'=>?_,out.2⟩;obtain ⟨s',hs',e2⟩:=Mb.mp e;cases e2;exact out.1 _ _ e H' b M'
 rw [LZ (Mf c)] at out;have M:=M.same s5;have out:=Qa.on (st1:=u.2) out (fN s5) rfl;refine fL (b:=decide (nm="about")) (aJ (bF (aB (K:=K) (k:=1) (Dat.Rb nm)) aL)) (λc H6 s6=>?_) (λc H6 s6=>?_)
 ·rw [Mc (LS c)] at out;have out:=Qa.on (st1:=u.2) out (fN s6) rfl;refine gW (tj (M.same s6) (tX out λl hl H7 b7 M7=>?_));obtain ⟨ol,l0,l1,ll⟩:=lZ ou hl;rw [hl] at out;have out:Qa K T.GC T.Gz A mc l.2 H7 Q E (((bZ mc u.1 l.2).bind λs=>bZ mc l.1 s).map λs=>(.Py,s)):=Qa.on out b7 (kv hl).1;refine jM (kZ (aB (k:=3) (Dat.Px u.1)) M7 b2 ol.l (yt out λs hs H8 b8 M8=>?_));rw [hs] at out;have out:Qa K T.GC T.Gz A mc s H8 Q E ((bZ mc l.1 s).map λs=>(.Py,s)):=Qa.on out b8 (oA hs).1;refine kZ (aB (k:=4) (Dat.Px l.1)) M8 b2 (sP b2 ol hs).l ⟨λv st' e H' b M'=>?_,out.2⟩;obtain ⟨s',hs',e2⟩:=Mb.mp e;cases e2;exact out.1 _ _ e H' b M'
 ·rw [LZ (Mf c)] at out;have M:=M.same s6;have out:=Qa.on (st1:=u.2) out (fN s6) rfl;refine ⟨_,rfl,A.m,A.dx,_,rfl,M.ins,by kernel_rfl,_,rfl,?_⟩;refine tj M (tX out λl hl H7 b7 M7=>?_);obtain ⟨ol,l0,l1,ll⟩:=lZ ou hl;rw [hl] at out;have out:Qa K T.GC T.Gz A mc l.2 H7 Q E ((bZ mc (two nm l.1 u.1 mc.b) l.2).map λs=>(.Py,s)):=Qa.on out b7 (kv hl).1;refine ⟨_,rfl,iM (v:=.int mc.b) M7 T.Pu T.Th ?_⟩;refine ⟨[.str nm,.int l.1,.int u.1,.int mc.b],.int (two nm l.1 u.1 mc.b),Pq.cons (Dat.Rb nm) (Pq.cons (Dat.Px _) (Pq.cons (Dat.Px _) (Pq.cons (Dat.Px _) Pq.nil))),⟨nm,l.1,u.1,mc.b,rfl,b2,oc.b9,l0,l1,u0,u1,rfl⟩,λv H8 s8 q8=>?_⟩;have out:=Qa.on (st1:=l.2) out (fN s8) rfl;refine ⟨A,mc,l.2,_,by rw [q8.Pz];rfl,M7.same s8,b2,ol.l,⟨λv st' e H' b M'=>?_,out.2⟩⟩;obtain ⟨s',hs',e2⟩:=Mb.mp e;cases e2;exact out.1 _ _ e H' b M'
noncomputable def XD (cs:List Int) (p:Nat) (c:Int):List Int:=(cs.drop (p+1)).take (cV c)
noncomputable def jV (cs:List Int) (p:Nat) (c:Int):Nat:=(uL (XD cs p c)).toNat
noncomputable def oh (nm:Str) (num:Nat):Bool:=decide (kB nm Zb num < (num:Int))
noncomputable abbrev WS:List Str:=["skip","jump","zero","none","call","back"]
noncomputable def YN (mc:MC) (nm:Str) (num on:Nat) (st:MS):Option MS :=
 if nm ∈ WS then (oj nm num on st).map λp=>{ p.2 with place:=p.1 }
 else if nm="end" then (ko st).map λs=>{ s with place:=on }
 else (eW mc nm num st).map λs=>{ s with place:=on }
noncomputable def iI (mc:MC) (st:MS):Option MS:=match mc.cs[st.place]? with
 | none=>none
 | some c=>if jY mc.cs st.place c=true then none else if oh (VB c) (jV mc.cs st.place c)=true then none
  else YN mc (VB c) (jV mc.cs st.place c) (st.place+1+cV c) st
theorem xE (cs:List Int) (p:Nat) (c:Int):kQ cs p (cV c)=(XD cs p c).map D.int:=by unfold kQ XD;rw [List.map_take,List.map_drop]
theorem A6 (ok:Z1 cs):(XD cs p c).length<=2/\∀ n ∈ XD cs p c,0<=n/\n<=99:=by unfold XD;refine ⟨by rw [Mx];have:=Cv c;omega,λn hn=>?_⟩;obtain ⟨i,hi⟩:=List.mem_iff_getElem?.mp (OV (List.mem_of_mem_take hn));exact ok.c i n hi
theorem yl (ok:Z1 cs):uL (XD cs p c)=((jV cs p c:Nat):Int)/\jV cs p c<=9999:=by obtain ⟨h1,h2⟩:=A6 (p:=p) (c:=c) ok;have:=A7 h1 h2;unfold jV;omega
theorem Ct:∀ p ∈ Zb,∃ i,p.2=.flat (.int i):=by intro p hp;simp only [Zb,Mm,Nc,Oi] at hp;rcases hp with rfl | rfl | rfl <;> exact ⟨_,rfl⟩
theorem CS {num:Nat} (h:oh "load" num=false):num<=3:=by
 have h:=Mf h;have e:kB "load" Zb num=3:=by kernel_rfl
 rw [e] at h;omega
variable {mc:MC}
theorem B2 {st:MS} (h:uj mc.cs st.place=true):iI mc st=none:=by
 unfold iI
 cases hc:mc.cs[st.place]? with
 | none=>rfl
 | some c =>
  have h':jY mc.cs st.place c=true:=by unfold uj at h;rw [hc] at h;exact h
  exact Mc h'
theorem zI {st:MS} (h:uj mc.cs st.place=false):∃ c,mc.cs[st.place]?=some c/\jY mc.cs st.place c=false:=by
 cases hc:mc.cs[st.place]? with
 | none =>
  have h':true=false:=by unfold uj at h;rw [hc] at h;exact h
  cases h'
 | some c=>exact ⟨c,rfl,by unfold uj at h;rw [hc] at h;exact h⟩
noncomputable def xl (K:W.Frag) (N C:Addr):Sp:=λvs H Q E=>∃ A mc st,vs=[.ref A.m]/\PM K C A mc st H/\wB mc/\iZ mc st/\Qa K N C A mc st H Q E ((iI mc st).map λs=>(.Py,s))
theorem nX (T:Txt P w K mg) (GD:PD P w K mg base U1 k T.IG T.HZ ["self","place"] (fH T.GC "place")) (II:PD P w K mg base (UC P w) (k+1) T.GB.a T.GB.d ["cells","place"] (xj K "place" xA (xx T.GC))) (K3:Ok P w base (k+1) T.IX (Qh K zU)) (KW:PD P w K mg base (UC P w) (k+1) T.Io T.Iq ["self","name","number","onward"] (D7 K T.GC T.Gz)) (KB:PD P w K mg base (UC P w) (k+1) T.Hw T.HB ["self"] (D2 K T.GC T.Gz)) (KA:PD P w K mg base (UC P w) (k+1) T.Hv T.HA ["self","name","number"] (D1 K T.GC T.Gz)):PD P w K mg base (UC P w) (k+1+1) T.HW T.HY ["self"] (xl K T.GC T.Gz):=by
 refine T.JE.YF Ul (λvs H Q E h=>?_) (λcdv A outer s H vs Q E hr h=>?_)
 ·obtain ⟨A,mc,st,rfl,_⟩:=h;rfl
 have nd:=Ul.nd;obtain ⟨A,mc,st,rfl,M,oc,os,out⟩:=h;have UD:=oc.cs;refine ⟨_,(aF (iE (oz II hr rfl T.GB.m T.GB.f.kp T.GB.b .nil iH (aD (dI (pv 0) rfl) (aD (dI (pv 0) rfl) aC))) (iP rfl (bN (aY (i:=1) nd rfl (Or.inl rfl)) (bN (aY (i:=2) nd rfl (Or.inl rfl)) gC))))
 (aF (bM (i:=3) nd rfl (Or.inl rfl) (pc (D:=T.IX) K3 hr (aD (pv 2) aC)))
 (aF (bD (aO pE (pv 3) (qW (bQ (v:=.ref T.JN) rfl T.IA rfl) (pv 1) (pv 3) ⟨rfl,rfl,rfl,rfl⟩) (aV _)) (aH (eB T.IE GD (fO T) hr iW rfl T.Hl (aD (dI (pv 0) rfl) aC))) aU)
 (aF (bM (i:=4) nd rfl (Or.inl rfl) (bI dY (bI dY (dI (pv 0) rfl) aG) (a9 aZ rfl T.GQ cC (aD (pv 2) aC))))
 (aF (bD (aO eA (pv 1) (bQ (v:=.ref T.K9) rfl T.KH rfl) (by with_unfolding_all rfl)) (aH (bM (i:=4) nd rfl (Or.inl rfl) (gB (pv 0) T.Pu T.UQ KW hr (qr T) .nil iH (aD (pv 1) (aD (pv 3) (aD (pv 4) aC)))))) (aH (bD (aO cH (pv 1) aN (aV _)) (aH (bK (iO (pv 0) T.Pu T.Tf KB hr (mM T) .nil iH))) (aH (bK (gB (pv 0) T.Pu T.Tg KA hr (mL T) .nil iH (aD (pv 1) (aD (pv 3) aC))))))))
 (aH (iQ (pv 0) (pv 4) rfl))))))),?_⟩
 have rA:RB K (bO (lB K (dW 0) "cells") (bO (lB K (dW 0) "place") dH)) (gI ["self","name","behind","number","onward"] [.ref A.m]) H [.l (cD mc.cs),.d (.int st.place)]:=E8 (Dt M T.Pu T.Si) (E7 (oC (z:=st.place) M T.Pu T.PR) tq)
 cases ZJ:uj mc.cs st.place with
 | true =>have e:iI mc st=none:=B2 ZJ;exact m8 (R:=xA) (B:=xx T.GC) rA ⟨mc.cs,st.place,rfl,UD,ZJ,rfl,rfl⟩ λH1 dx s1 hd=>out.2 (by rw [e];rfl) H1 dx (fN s1) hd
 | false =>
  obtain ⟨c,hc,hb⟩:=zI ZJ;obtain ⟨ZI,hlt⟩:=Ab hb;obtain ⟨en,n9⟩:=yl (p:=st.place) (c:=c) UD;obtain ⟨l2,n2⟩:=A6 (p:=st.place) (c:=c) UD;have lb:(kQ mc.cs st.place (cV c)).length=cV c:=by rw [oN];omega
  have e:iI mc st=if oh (VB c) (jV mc.cs st.place c)=true then none else YN mc (VB c) (jV mc.cs st.place c) (st.place+1+cV c) st:=by unfold iI;rw [hc];dsimp only;rw [LZ (by rw [hb];exact L6)]
  rw [e] at out;refine kr (K:=K) (d:=.str (VB c)) (e:=.tup (kQ mc.cs st.place (cV c))) (qY (R:=xA) (B:=xx T.GC) rA ⟨mc.cs,st.place,c,rfl,UD,hc,hb,rfl⟩) λv1 v2 H1 s1 h1 h2=>?_;obtain rfl:=h1.P9;generalize VB c=nm at *;generalize hnum:jV mc.cs st.place c=num at *;refine cF (K:=K) (d:=.int num) (RE.as (bE (R:=zU) (aA (aB (k:=2) h2) aI) ⟨XD mc.cs st.place c,by rw [xE],l2,n2,rfl⟩) (by rw [en])) λv3 H2 s2 h3=>?_;obtain rfl:=h3.Pz;have h2:=s2.dat h2;have s12:=s1.trans s2;have M:=M.same s12;have out:=Qa.on (st1:=st) out (fN s12) rfl;refine aP (K:=K) (b:=oh nm num) (aJ (cO (p:=λi j=>decide (j < i)) (aB (k:=3) (Dat.Px (num:Int))) (rb T.IB (aB (k:=1) (Dat.Rb nm)) (aB (k:=3) (Dat.Px (num:Int))) Ct))) (λct H3 s3=>?_) (λct H3 s3=>?_)
  ·exact mQ (M.same s3) T.Pu T.PR λdx n=>out.2 (by rw [Mc ct];rfl) _ dx (fN (s3.trans (aT n _))) aM
  ·have M:=M.same s3;have out:=Qa.on (st1:=st) out (fN s3) rfl;rw [LZ (by rw [ct];exact L6)] at out;have h2:=s3.dat h2;have eo:(st.place:Int)+1+((kQ mc.cs st.place (cV c)).length:Int)=((st.place+1+cV c:Nat):Int):=by rw [lb];omega
   refine cF (K:=K) (d:=.int ((st.place+1+cV c:Nat):Int)) (RE.as (dU (dU (oC (z:=st.place) M T.Pu T.PR) aE) (cY (aB (k:=2) h2))) (MH D.int eo)) λv4 H4 s4 h4=>?_;obtain rfl:=h4.Pz;have M:=M.same s4;have out:=Qa.on (st1:=st) out (fN s4) rfl;generalize st.place+1+cV c=on at *;refine cZ (RT.use (b:=decide (nm ∈ WS)) (aJ (iR (ys:=WS) (aB (K:=K) (k:=1) (Dat.Rb nm)) (gT T.Ly))) λH5 s5=>?_);have M:=M.same s5;have out:=Qa.on (st1:=st) out (fN s5) rfl;by_cases hw:nm ∈ WS
   ·rw [Mh hw];refine jG ⟨_,rfl,A.m,A.dx,_,rfl,M.ins,by kernel_rfl,_,rfl,_,rfl,_,rfl,A,mc,st,nm,num,on,rfl,M,os.k,λv st' ew H6 b6 M6=>?_,λew H6 dx b6 hd=>?_⟩
    ·obtain ⟨p,hp,e2⟩:=Mb.mp ew;cases e2;refine ⟨_,rfl,_,rfl,A.m,_,A.dx,_,rfl,M6.ins,T.Pu,T.PR,by show 7 < 1000;decide,?_⟩;exact out.1 .Py { p.2 with place:=p.1 } (by unfold YN;rw [Mc hw,hp];rfl) _ (b6.trans RD.m) (M6.setM (m7 p.1) rfl rfl)
    ·have ew:oj nm num on st=none:=by simpa using ew
     exact out.2 (by unfold YN;rw [Mc hw,ew];rfl) H6 dx b6 hd
   ·rw [LY hw];refine ji (RT.use (b:=decide (nm="end")) (aJ (bF (aB (K:=K) (k:=1) (Dat.Rb nm)) aL)) λH6 s6=>?_);have M:=M.same s6;have out:=Qa.on (st1:=st) out (fN s6) rfl;by_cases he:nm="end"
    ·rw [Mh he];refine jG ⟨_,rfl,A.m,A.dx,_,rfl,M.ins,by kernel_rfl,A,mc,st,rfl,M,λv st' ew H7 b7 M7=>?_,λew H7 dx b7 hd=>?_⟩
     ·obtain ⟨s',hs',e2⟩:=Mb.mp ew;cases e2;refine ⟨_,rfl,_,rfl,A.m,_,A.dx,_,rfl,M7.ins,T.Pu,T.PR,by show 7 < 1000;decide,?_⟩;exact out.1 .Py { st' with place:=on } (by unfold YN;rw [LZ hw,Mc he,hs'];rfl) _ (b7.trans RD.m) (M7.setM (m7 on) rfl rfl)
     ·have ew:ko st=none:=by simpa using ew
      exact out.2 (by unfold YN;rw [LZ hw,Mc he,ew];rfl) H7 dx b7 hd
    ·rw [LY he];refine ji ⟨_,rfl,A.m,A.dx,_,rfl,M.ins,by kernel_rfl,_,rfl,_,rfl,A,mc,st,nm,num,rfl,M,oc,os,?_,λv st' ew H7 b7 M7=>?_,λew H7 dx b7 hd=>?_⟩
     ·rintro rfl;exact CS ct
     ·obtain ⟨s',hs',e2⟩:=Mb.mp ew;cases e2;refine ⟨_,rfl,_,rfl,A.m,_,A.dx,_,rfl,M7.ins,T.Pu,T.PR,by show 7 < 1000;decide,?_⟩;exact out.1 .Py { st' with place:=on } (by unfold YN;rw [LZ hw,LZ he,hs'];rfl) _ (b7.trans RD.m) (M7.setM (m7 on) rfl rfl)
     ·have ew:eW mc nm num st=none:=by simpa using ew
      exact out.2 (by unfold YN;rw [LZ hw,LZ he,ew];rfl) H7 dx b7 hd
theorem uo {x:Addr} {C dx:Addr} {fs:List (Str × V)} (b:PX x H H') (h:H x=some (.ins C dx fs)):fA K H H':=by
 refine ⟨λa xs q=>?_,λa xs q=>⟨xs,?_⟩⟩
 ·rcases q with (q | ⟨u,q⟩) | q
  ·exact .inl (.inl (b _ _ (λz=>by rw [z,h] at q;cases q) q))
  ·exact .inl (.inr ⟨u,b _ _ (λz=>by rw [z,h] at q;cases q) q⟩)
  ·exact .inr q
 ·rcases q with (q | ⟨u,q⟩) | q
  ·exact .inl (.inl (b _ _ (λz=>by rw [z,h] at q;cases q) q))
  ·exact .inl (.inr ⟨u,b _ _ (λz=>by rw [z,h] at q;cases q) q⟩)
  ·exact .inr q
variable {tl:TE} {es:List D}
theorem yD {f:Str} {x:Addr} (h:RC K tl σ H es) (q:∀ l ys H',H l=none->Pr H H'->H' l=some (.lst ys)->Pq K H' es ys->∃ C dx fs,H' x=some (.ins C dx fs)/\VQ K C/\PU K C f/\fs.length < 1000/\us En σ (upd H' x (.ins C dx (iF f (.ref l) fs))))
  (e:σ[i]?=some (some (.ref x)):=by rfl):lC (FY K (dW i) tl f) us En σ H :=
 h.use λl ys H' n s hy dy=>let ⟨C,dx,fs,a1,a2,a3,a4,a5⟩:=q l ys H' n s hy dy;⟨_,e,x,C,dx,fs,rfl,a1,a2,a3,a4,a5⟩
noncomputable def F1 (K:W.Frag) (C:Addr):Sp:=λvs H Q _=>∃ (x dx lc:Addr) (vg v4:V) (mc:MC) (r:List Int),vs=[.ref x,.ref lc,vg,.int mc.b,v4]/\H x=some (.ins C dx [])/\H lc=some (.lst (mc.cs.map V.int))/\Dat K H (.tup (mc.as.map D.int)) vg/\LD K H (r.reverse.map D.int) v4/\r.length<=900 /\
 ∀ (A:MA) (H':Hp),A.m=x->A.dx=dx->A.lc=lc->A.vg=vg->PX x H H'->H A.lp=none->H A.lk=none->PM K C A mc ⟨r,0,[],false⟩ H'->Q .Py H'
theorem ky (T:Txt P w K mg)  : PD P w K mg base U1 (k+1) T.Hd T.He ["self","cells","given","size","pile"] (F1 K T.Gz):=by
 refine T.Iw.ok RZ (λvs H Q E h=>?_) (λcdv A outer s H vs Q E hr h=>?_)
 ·obtain ⟨x,dx,lc,vg,v4,mc,r,rfl,_⟩:=h;rfl
 have nd:=RZ.nd;obtain ⟨x,dx,lc,vg,v4,mc,r,rfl,hx,hc,hg,hp,lr,post⟩:=h;refine ⟨_,(aF (iQ (pv 0) (pv 1) rfl)
 (aF (iQ (pv 0) (pv 2) rfl)
 (aF (iQ (pv 0) (pv 3) rfl)
 (aF (iQ (pv 0) (cQ fD rfl T.Jl fZ (aD (pv 4) aC)) rfl)
 (aF (iQ (pv 0) aG rfl)
 (aF (iQ (pv 0) (b0 aC) rfl)
 (aH (iQ (pv 0) eM rfl)))))))),?_⟩
 have ncx:lc≠x:=λz=>by rw [z,hx] at hc;cases hc
 refine ⟨_,rfl,_,rfl,x,_,dx,_,rfl,hx,T.Pu,T.Si,by show 0 < 1000;decide,?_⟩;refine ⟨_,rfl,_,rfl,x,_,dx,_,rfl,aM,T.Pu,T.Sj,by show 1 < 1000;decide,?_⟩;refine ⟨_,rfl,_,rfl,x,_,dx,_,rfl,aM,T.Pu,T.Th,by show 2 < 1000;decide,?_⟩;generalize e3:upd (upd (upd H x _) x _) x _=H3;have b3:PX x H H3:=by rw [<- e3];exact PX.upd (PX.upd (PX.upd (Pr.refl _).but))
 have x3:H3 x=some (.ins T.Gz dx [("cells",.ref lc),("given",vg),("size",.int mc.b)]):=by rw [<- e3,aM];kernel_rfl
 have p3:LD K H3 (r.reverse.map D.int) v4:=by
  obtain ⟨l,vs,e,hq,hd⟩:=hp;refine ⟨l,vs,e,?_,Pq.mono (uo b3 hx) _ hd⟩;rcases hq with q | q
  ·exact .inl (b3 _ _ (λz=>by rw [z,hx] at q;cases q) q)
  ·exact .inr q
 refine yD (K:=K) (x:=x) (jK (cK (k:=4) p3)) λlp ys H4 np s4 hy dy=>?_;obtain rfl:=lO dy;refine ⟨_,dx,_,s4 _ _ x3,T.Pu,T.Qu,by show 3 < 1000;decide,?_⟩;refine ⟨_,rfl,x,_,dx,_,rfl,aM,T.Pu,T.PR,by show 4 < 1000;decide,?_⟩;generalize e6:upd (upd H4 x _) x _=H6;have b6:PX x H H6:=by rw [<- e6];exact PX.upd (PX.upd (b3.trans s4.but))
 have npx:lp≠x:=λz=>by rw [z,x3] at np;cases np
 have p6:H6 lp=some (.lst (pV r)):=by rw [<- e6,aX npx,aX npx];exact hy
 have x6:H6 x=some (.ins T.Gz dx [("cells",.ref lc),("given",vg),("size",.int mc.b),("pile",.ref lp),("place",.int 0)]):=by rw [<- e6,aM];kernel_rfl
 refine ⟨jg (by decide),λlk nk=>?_⟩;have nkx:lk≠x:=λz=>by rw [z,x6] at nk;cases nk
 have nkp:lp≠lk:=λz=>by rw [<- z,p6] at nk;cases nk
 have c6:H6 lc=some (.lst (mc.cs.map V.int)):=b6 _ _ ncx hc;have nck:lc≠lk:=λz=>by rw [<- z,c6] at nk;cases nk
 have ncp:lc≠lp:=λz=>by rw [<- z,b3 _ _ ncx hc] at np;cases np
 refine ⟨_,rfl,x,_,dx,_,rfl,by rw [aX (MQ nkx)];exact x6,T.Pu,T.QO,by show 5 < 1000;decide,?_⟩;refine ⟨_,rfl,x,_,dx,_,rfl,aM,T.Pu,T.Sk,by show 6 < 1000;decide,?_⟩;generalize e9:upd (upd (upd H6 lk _) x _) x _=H9;have b9:PX x H6 H9:=by rw [<- e9];exact PX.upd (PX.upd (aT nk _).but)
 have k9:H9 lk=some (.lst (XS [])):=by rw [<- e9,aX nkx,aX nkx,aM];rfl
 have x9:H9 x=some (.ins T.Gz dx (mF ⟨x,dx,lp,lk,lc,vg⟩ mc ⟨r,0,[],false⟩)):=by rw [<- e9,aM];kernel_rfl
 have nH:∀ b,b≠x->H6 b=none->H b=none:=λb z n=>by
  cases e:H b with
  | none=>rfl
  | some o=>rw [b6 _ _ z e] at n;cases n
 have nH3:∀ b,b≠x->H3 b=none->H b=none:=λb z n=>by
  cases e:H b with
  | none=>rfl
  | some o=>rw [b3 _ _ z e] at n;cases n
 exact post ⟨x,dx,lp,lk,lc,vg⟩ H9 rfl rfl rfl rfl (b6.trans b9) (nH3 _ npx np) (nH _ nkx nk) ⟨x9,b9 _ _ ncx c6,Dat.mono (uo (b6.trans b9) hx) _ hg,b9 _ _ npx p6,k9,nkp,ncp,nck⟩
variable {E:XK} {Q:VK}
theorem Bz {sp:Sp} {Tu:List V} {tA:TA} (h:tA σ H λvs H1=>sp (vs++Tu) H1 Q E):gJ sp Tu E tA σ H Q:=h
theorem BA {tA:TA} {Q:List V->Hp->Prop} (h:te σ H λx H1=>tA σ H1 λxs H2=>Q (x::xs) H2):bO te tA σ H Q:=h
inductive Pa where
 | hole (i:Int)
 | gap (i m:Int)
 | slot (i:Int)
 | num (n:Int)
 | two (o:Str) (a b:Pa)
noncomputable def Qf:Pa->D
 | .hole i=>.tup [.str "hole",.int i]
 | .gap i m=>.tup [.str "gap",.int i,.int m]
 | .slot i=>.tup [.str "slot",.int i]
 | .num n=>.tup [.str "num",.int n]
 | .two o a b=>.tup [.str o,Qf a,Qf b]
inductive Cl where
 | n (i:Int)
 | arg (k:Nat)
 | low (k:Nat)
 | high (k:Nat)
noncomputable def U4:Cl->D
 | .n i=>.int i
 | .arg k=>.tup [.str "arg",.int k]
 | .low k=>.tup [.str "low",.int k]
 | .high k=>.tup [.str "high",.int k]
noncomputable def oQ (g s:Nat):Cl->Bool
 | .n _=>true
 | .arg k=>decide (k < s)
 | .low k=>decide (k < g)
 | .high k=>decide (k < g)
noncomputable def eF (nums ks:List Int):Cl->Int
 | .n i=>i
 | .arg k=>ks.getD k 0
 | .low k=>nums.getD k 0 % 100
 | .high k=>nums.getD k 0 / 100
theorem fF {k:Nat} (h:k < ns.length):(ns.map D.int)[k]?=some (.int (ns.getD k 0)):=by rw [LV,Ml,LQ h];rfl
noncomputable def vK (ds:List D) (d:D):Prop:=∃ (c:Cl) (nums ks:List Int),ds=[U4 c,.tup (nums.map D.int),.tup (ks.map D.int)]/\oQ nums.length ks.length c=true/\d=.int (eF nums ks c)
theorem pB (T:Txt P w K mg)  : Ok P w base (k+1) T.IV (Qh K vK):=by
 refine T.IV.f.ok UK (λvs H Q E h=>?_) (λcdv A outer s H vs Q E hr h=>?_)
 ·obtain ⟨ds,d,hd,⟨c,nums,ks,rfl,_⟩,_⟩:=h;exact hd.length.symm
 have nd:=UK.nd;obtain ⟨ds,d,hd,⟨c,nums,ks,rfl,UD,rfl⟩,post⟩:=h;obtain ⟨v0,v1,v2,rfl,h0,h1,h2⟩:=nA hd;refine ⟨_,(aF (bD (bT (a9 (fB AJ) rfl T.GJ cR (dA (pv 0) (dA (f9 (v:=.ty "int") rfl T.LA Ag rfl) aC))) (λ_=>rfl)) (aH (aQ (pv 0))) aU)
 (aF (bD (aO cH (bB aW (pv 0) aG) aN (aV _)) (aH (aQ (bI eE (bB aW (pv 1) (bB aW (pv 0) aG)) aG))) aU)
 (aF (bD (aO cH (bB aW (pv 0) aG) aN (aV _)) (aH (aQ (bI oy (bB aW (pv 1) (bB aW (pv 0) aG)) aG))) aU)
 (aH (aQ (bB aW (pv 2) (bB aW (pv 0) aG))))))),?_⟩
 cases c with
 | n j =>have h0:Dat K H (.int j) v0:=h0;refine aP (K:=K) (b:=true) (bH (cJ (aB (k:=0) h0))) (λ_ H1 s1=>?_) (λc=>nomatch c);exact bC (K:=K) (d:=.int j) (aB (k:=0) (s1.dat h0)) λv H2 s2 q=>post v H2 (s1.trans s2) q
 | low j =>have h0:Dat K H (.tup [.str "low",.int j]) v0:=h0;have UD:=LS UD;refine aP (K:=K) (b:=false) (bH (cJ (aB (k:=0) h0))) (λc=>nomatch c) (λ_ H1 s1=>?_);refine aP (K:=K) (b:=true) (RT.as (aJ (bF (a7 (k:=0) (aB (k:=0) (s1.dat h0)) aE rfl) aL)) (Mh rfl)) (λ_ H2 s2=>?_) (λc=>nomatch c);have s12:=s1.trans s2;exact bC (K:=K) (d:=.int (nums.getD j 0 % 100)) (gU (a7 (k:=j) (aB (k:=1) (s12.dat h1)) (a7 (k:=1) (aB (k:=0) (s12.dat h0)) aE rfl) (fF UD)) aE (by decide)) λv H3 s3 q=>post v H3 (s12.trans s3) q
 | high j =>have h0:Dat K H (.tup [.str "high",.int j]) v0:=h0;have UD:=LS UD;refine aP (K:=K) (b:=false) (bH (cJ (aB (k:=0) h0))) (λc=>nomatch c) (λ_ H1 s1=>?_);refine aP (K:=K) (b:=false) (RT.as (aJ (bF (a7 (k:=0) (aB (k:=0) (s1.dat h0)) aE rfl) aL)) (LY (by decide +kernel))) (λc=>nomatch c) (λ_ H2 s2=>?_);have s12:=s1.trans s2;refine aP (K:=K) (b:=true) (RT.as (aJ (bF (a7 (k:=0) (aB (k:=0) (s12.dat h0)) aE rfl) aL)) (Mh rfl)) (λ_ H3 s3=>?_) (λc=>nomatch c);have Rz:=s12.trans s3;exact bC (K:=K) (d:=.int (nums.getD j 0 / 100)) (yA (a7 (k:=j) (aB (k:=1) (Rz.dat h1)) (a7 (k:=1) (aB (k:=0) (Rz.dat h0)) aE rfl) (fF UD)) aE ⟨by decide,by decide⟩) λv H4 s4 q=>post v H4 (Rz.trans s4) q
 | arg j =>have h0:Dat K H (.tup [.str "arg",.int j]) v0:=h0;have UD:=LS UD;refine aP (K:=K) (b:=false) (bH (cJ (aB (k:=0) h0))) (λc=>nomatch c) (λ_ H1 s1=>?_);refine aP (K:=K) (b:=false) (RT.as (aJ (bF (a7 (k:=0) (aB (k:=0) (s1.dat h0)) aE rfl) aL)) (LY (by decide +kernel))) (λc=>nomatch c) (λ_ H2 s2=>?_);have s12:=s1.trans s2;refine aP (K:=K) (b:=false) (RT.as (aJ (bF (a7 (k:=0) (aB (k:=0) (s12.dat h0)) aE rfl) aL)) (LY (by decide +kernel))) (λc=>nomatch c) (λ_ H3 s3=>?_);have Rz:=s12.trans s3;exact bC (K:=K) (d:=.int (ks.getD j 0)) (a7 (k:=j) (aB (k:=2) (Rz.dat h2)) (a7 (k:=1) (aB (k:=0) (Rz.dat h0)) aE rfl) (fF UD)) λv H4 s4 q=>post v H4 (Rz.trans s4) q
noncomputable def bJ:Pa->Nat
 | .two _ a b=>1+max (bJ a) (bJ b)
 | _=>1
noncomputable def XT (nh ng ns:Nat):Pa->Bool
 | .hole i=>decide (0<=i) && decide (i.toNat < nh)
 | .gap i _=>decide (0<=i) && decide (i.toNat < ng)
 | .slot i=>decide (0<=i) && decide (i.toNat < ns)
 | .num _=>true
 | .two o a b=>(decide (o="add") || decide (o="sub") || decide (o="mul") || decide (o="less")) && (XT nh ng ns a && XT nh ng ns b)
noncomputable def U3 (hs nums ks:List Int):Pa->Tr
 | .hole i=>.num (hs.getD i.toNat 0)
 | .gap i _=>.num (nums.getD i.toNat 0)
 | .slot i=>.arg (ks.getD i.toNat 0)
 | .num n=>.num n
 | .two o a b=>.two o (U3 hs nums ks a) (U3 hs nums ks b)
noncomputable abbrev tY (hs nums ks as:List Int):D:=.tup [.tup (hs.map D.int),.tup (nums.map D.int),.tup (ks.map D.int),.tup (as.map D.int)]
noncomputable def Zn (n:Nat) (ds:List D) (d:D):Prop:=∃ (p:Pa) (hs nums ks as:List Int),ds=[Qf p,tY hs nums ks as]/\XT hs.length nums.length ks.length p=true/\bJ p<=n/\d=toD (U3 hs nums ks p)
theorem gG {l m:Nat} {g:D} (h:RE K te σ H (.tup [d,e,f,g])) (q:∀ v w x y H',Pr H H'->Dat K H' d v->Dat K H' e w->Dat K H' f x->Dat K H' g y->us En ((((σ.set i (some v)).set j (some w)).set l (some x)).set m (some y)) H') :
  lC (lA te (rV K 4 (iG (bW i) (iG (bW j) (iG (bW l) (iG (bW m) wc)))))) us En σ H :=
 h.use λx H1 s1 q1=>by obtain ⟨a,vs,e1,hq,hd⟩:=q1.P7;obtain ⟨v,w,x,y,e2,hv,hw,hx,hy⟩:=As hd;subst e1 e2;exact ⟨a,_,rfl,hq,rfl,v,_,rfl,w,_,rfl,x,_,rfl,y,_,rfl,rfl,q v w x y H1 s1 hv hw hx hy⟩
theorem jH {i:Int} (h:(decide (0<=i) && decide (i.toNat < n))=true):i=((i.toNat:Nat):Int)/\i.toNat < n:=by rw [LW] at h;have h0:=LS h.1;exact ⟨by omega,LS h.2⟩
theorem qp {o:Str} (h:(decide (o="add") || decide (o="sub") || decide (o="mul") || decide (o="less"))=true):o="add"\/o="sub"\/o="mul"\/o="less":=by
 simp only [Ov,N8] at h;rcases h with ((h | h) | h) | h
 ·exact .inl h
 ·exact .inr (.inl h)
 ·exact .inr (.inr (.inl h))
 ·exact .inr (.inr (.inr h))
theorem Cd {o:Str} (h:o="add"\/o="sub"\/o="mul"\/o="less"):¬ o="hole"/\¬ o="gap"/\¬ o="slot"/\¬ o="num":=by rcases h with rfl | rfl | rfl | rfl <;> decide +kernel
theorem lX (T:Txt P w K mg) (Ih:Ok P w base k T.GL (Qh K (Zn n))):Ok P w base (k+1) T.GL (Qh K (Zn (n+1))):=by
 refine T.GL.f.ok Td (λvs H Q E h=>?_) (λcdv A outer s H vs Q E hr h=>?_)
 ·obtain ⟨ds,d,hd,⟨p,hs,nums,ks,as,rfl,_⟩,_⟩:=h;exact hd.length.symm
 have nd:=Td.nd;obtain ⟨ds,d,hd,⟨p,hs,nums,ks,as,rfl,Xm,dp,rfl⟩,post⟩:=h;obtain ⟨v0,v1,rfl,h0,h1⟩:=jb hd;refine ⟨_,(aF (bM (i:=2) nd rfl (Or.inl rfl) (bB aW (pv 0) aG))
 (aF (iE (pv 1) (iP rfl (bN (aY (i:=3) nd rfl (Or.inl rfl)) (bN (aY (i:=4) nd rfl (Or.inl rfl)) (bN (aY (i:=5) nd rfl (Or.inl rfl)) (bN (aY (i:=6) nd rfl (Or.inl rfl)) gC))))))
 (aF (bD (aO cH (pv 2) aN (aV _)) (aH (aQ (aS (aD aN (aD (bB aW (pv 3) (bB aW (pv 0) aG)) aC))))) aU)
 (aF (bD (aO cH (pv 2) aN (aV _)) (aH (aQ (aS (aD aN (aD (bB aW (pv 4) (bB aW (pv 0) aG)) aC))))) aU)
 (aF (bD (aO cH (pv 2) aN (aV _)) (aH (aQ (aS (aD aN (aD (bB aW (pv 5) (bB aW (pv 0) aG)) aC))))) aU)
 (aF (bD (aO cH (pv 2) aN (aV _)) (aH (aQ (pv 0))) aU)
 (aH (aQ (aS (aD (pv 2) (aD (pc (D:=T.GL) Ih hr (aD (bB aW (pv 0) aG) (aD (pv 1) aC))) (aD (pc (D:=T.GL) Ih hr (aD (bB aW (pv 0) aG) (aD (pv 1) aC))) aC)))))))))))),?_⟩
 cases p with
 | hole i =>have h0:Dat K H (.tup [.str "hole",.int i]) v0:=h0;refine cF (K:=K) (d:=.str "hole") (a7 (k:=0) (aB (k:=0) h0) aE rfl) λv2 H1 s1 q2=>?_;refine gG (K:=K) (aB (k:=1) (s1.dat h1)) λv3 v4 v5 v6 H2 s2 q3 q4 q5 q6=>?_;refine aP (K:=K) (b:=true) (RT.as (aJ (bF (aB (k:=2) (s2.dat q2)) aL)) (Mh rfl)) (λ_ H3 t3=>?_) (λc=>nomatch c);have s3:=s2.trans t3;have u3:=t3;obtain ⟨ei,hi⟩:=jH Xm;have h0':=(s1.trans s3).dat h0;rw [ei] at h0';exact bC (K:=K) (d:=toD (U3 hs nums ks (.hole i))) (aR (aA aL (aA (a7 (k:=i.toNat) (aB (k:=3) (u3.dat q3)) (a7 (k:=1) (aB (k:=0) h0') aE rfl) (fF hi)) aI))) λv H' s q=>post v H' (s1.trans (s3.trans s)) q
 | gap i m =>have h0:Dat K H (.tup [.str "gap",.int i,.int m]) v0:=h0;refine cF (K:=K) (d:=.str "gap") (a7 (k:=0) (aB (k:=0) h0) aE rfl) λv2 H1 s1 q2=>?_;refine gG (K:=K) (aB (k:=1) (s1.dat h1)) λv3 v4 v5 v6 H2 s2 q3 q4 q5 q6=>?_;refine aP (K:=K) (b:=false) (RT.as (aJ (bF (aB (k:=2) (s2.dat q2)) aL)) (LY (by decide +kernel))) (λc=>nomatch c) (λ_ H3 t3=>?_);have s3:=s2.trans t3;have u3:=t3;refine aP (K:=K) (b:=true) (RT.as (aJ (bF (aB (k:=2) (s3.dat q2)) aL)) (Mh rfl)) (λ_ H4 t4=>?_) (λc=>nomatch c);have s4:=s3.trans t4;have u4:=u3.trans t4;obtain ⟨ei,hi⟩:=jH Xm;have h0':=(s1.trans s4).dat h0;rw [ei] at h0';exact bC (K:=K) (d:=toD (U3 hs nums ks (.gap i m))) (aR (aA aL (aA (a7 (k:=i.toNat) (aB (k:=4) (u4.dat q4)) (a7 (k:=1) (aB (k:=0) h0') aE rfl) (fF hi)) aI))) λv H' s q=>post v H' (s1.trans (s4.trans s)) q
 | slot i =>have h0:Dat K H (.tup [.str "slot",.int i]) v0:=h0;refine cF (K:=K) (d:=.str "slot") (a7 (k:=0) (aB (k:=0) h0) aE rfl) λv2 H1 s1 q2=>?_;refine gG (K:=K) (aB (k:=1) (s1.dat h1)) λv3 v4 v5 v6 H2 s2 q3 q4 q5 q6=>?_;refine aP (K:=K) (b:=false) (RT.as (aJ (bF (aB (k:=2) (s2.dat q2)) aL)) (LY (by decide +kernel))) (λc=>nomatch c) (λ_ H3 t3=>?_);have s3:=s2.trans t3;have u3:=t3;refine aP (K:=K) (b:=false) (RT.as (aJ (bF (aB (k:=2) (s3.dat q2)) aL)) (LY (by decide +kernel))) (λc=>nomatch c) (λ_ H4 t4=>?_);have s4:=s3.trans t4;have u4:=u3.trans t4;refine aP (K:=K) (b:=true) (RT.as (aJ (bF (aB (k:=2) (s4.dat q2)) aL)) (Mh rfl)) (λ_ H5 t5=>?_) (λc=>nomatch c);have s5:=s4.trans t5;have u5:=u4.trans t5;obtain ⟨ei,hi⟩:=jH Xm;have h0':=(s1.trans s5).dat h0;rw [ei] at h0';exact bC (K:=K) (d:=toD (U3 hs nums ks (.slot i))) (aR (aA aL (aA (a7 (k:=i.toNat) (aB (k:=5) (u5.dat q5)) (a7 (k:=1) (aB (k:=0) h0') aE rfl) (fF hi)) aI))) λv H' s q=>post v H' (s1.trans (s5.trans s)) q
 | num n =>have h0:Dat K H (.tup [.str "num",.int n]) v0:=h0;refine cF (K:=K) (d:=.str "num") (a7 (k:=0) (aB (k:=0) h0) aE rfl) λv2 H1 s1 q2=>?_;refine gG (K:=K) (aB (k:=1) (s1.dat h1)) λv3 v4 v5 v6 H2 s2 q3 q4 q5 q6=>?_;refine aP (K:=K) (b:=false) (RT.as (aJ (bF (aB (k:=2) (s2.dat q2)) aL)) (LY (by decide +kernel))) (λc=>nomatch c) (λ_ H3 t3=>?_);have s3:=s2.trans t3;have u3:=t3;refine aP (K:=K) (b:=false) (RT.as (aJ (bF (aB (k:=2) (s3.dat q2)) aL)) (LY (by decide +kernel))) (λc=>nomatch c) (λ_ H4 t4=>?_);have s4:=s3.trans t4;have u4:=u3.trans t4;refine aP (K:=K) (b:=false) (RT.as (aJ (bF (aB (k:=2) (s4.dat q2)) aL)) (LY (by decide +kernel))) (λc=>nomatch c) (λ_ H5 t5=>?_);have s5:=s4.trans t5;have u5:=u4.trans t5;refine aP (K:=K) (b:=true) (RT.as (aJ (bF (aB (k:=2) (s5.dat q2)) aL)) (Mh rfl)) (λ_ H6 t6=>?_) (λc=>nomatch c);have s6:=s5.trans t6;have u6:=u5.trans t6;exact bC (K:=K) (d:=toD (.num n)) (aB (k:=0) ((s1.trans s6).dat h0)) λv H' s q=>post v H' (s1.trans (s6.trans s)) q
 | two o a b =>have Xm:((decide (o="add") || decide (o="sub") || decide (o="mul") || decide (o="less")) && (XT hs.length nums.length ks.length a && XT hs.length nums.length ks.length b))=true:=Xm;rw [LW,LW] at Xm;obtain ⟨n1,n2,n3,n4⟩:=Cd (qp Xm.1);have dp:1+max (bJ a) (bJ b)<=n+1:=dp;have h0:Dat K H (.tup [.str o,Qf a,Qf b]) v0:=h0;refine cF (K:=K) (d:=.str o) (a7 (k:=0) (aB (k:=0) h0) aE rfl) λv2 H1 s1 q2=>?_;refine gG (K:=K) (aB (k:=1) (s1.dat h1)) λv3 v4 v5 v6 H2 s2 q3 q4 q5 q6=>?_;refine aP (K:=K) (b:=false) (RT.as (aJ (bF (aB (k:=2) (s2.dat q2)) aL)) (LY n1)) (λc=>nomatch c) (λ_ H3 t3=>?_);have s3:=s2.trans t3;have u3:=t3;refine aP (K:=K) (b:=false) (RT.as (aJ (bF (aB (k:=2) (s3.dat q2)) aL)) (LY n2)) (λc=>nomatch c) (λ_ H4 t4=>?_);have s4:=s3.trans t4;have u4:=u3.trans t4;refine aP (K:=K) (b:=false) (RT.as (aJ (bF (aB (k:=2) (s4.dat q2)) aL)) (LY n3)) (λc=>nomatch c) (λ_ H5 t5=>?_);have s5:=s4.trans t5;have u5:=u4.trans t5;refine aP (K:=K) (b:=false) (RT.as (aJ (bF (aB (k:=2) (s5.dat q2)) aL)) (LY n4)) (λc=>nomatch c) (λ_ H6 t6=>?_);have s6:=s5.trans t6;have u6:=u5.trans t6;have h0':=(s1.trans s6).dat h0;have h1':=(s1.trans s6).dat h1;exact bC (K:=K) (d:=toD (.two o (U3 hs nums ks a) (U3 hs nums ks b))) (aR (aA (aB (k:=2) (s6.dat q2)) (aA (bE (R:=Zn n) (aA (a7 (k:=1) (aB (k:=0) h0') aE rfl) (aA (aB (k:=1) h1') aI)) ⟨a,hs,nums,ks,as,rfl,Xm.2.1,by omega,rfl⟩) (aA (bE (R:=Zn n) (aA (a7 (k:=2) (aB (k:=0) h0') aE rfl) (aA (aB (k:=1) h1') aI)) ⟨b,hs,nums,ks,as,rfl,Xm.2.2,by omega,rfl⟩) aI)))) λv H' s q=>post v H' (s1.trans (s6.trans s)) q
theorem CG (ds:List D) (d:D):¬ Zn 0 ds d:=λ⟨p,_,_,_,_,_,_,h,_⟩=>by cases p <;> simp only [bJ] at h <;> omega
variable {tt:TT} {ta tb:TE}
theorem DY {b:Bool} (h:RT tt σ H b) (h1:b=true->RC K ta σ H es) (h2:b=false->RC K tb σ H es):RC K (tIf tt ta tb) σ H es:=λH1 s Q q =>
 (h.mono s).use λH' s'=>by
  cases b with
  | true=>exact jG (h1 rfl H' (s.trans s') Q λl ys H2 hl s2=>q l ys H2 (s'.free hl) (s'.trans s2))
  | false=>exact ji (h2 rfl H' (s.trans s') Q λl ys H2 hl s2=>q l ys H2 (s'.free hl) (s'.trans s2))
theorem yV (ys:List Int):(ys.map V.int).all kF=true:=by rw [MF];intro v hv;obtain ⟨y,_,rfl⟩:=M9.mp hv;rfl
theorem CB (x y:Int):Yr (.int x) (.int y)=decide (x=y):=by unfold Yr;by_cases h:x=y <;> simp [h]
theorem xY (x:Int):∀ ys:List Int,Zg (.int x) (ys.map V.int)=decide (x ∈ ys)
 | []=>by simp [Zg]
 | y::ys=>by
  have ih:=xY x ys;unfold Zg at ih ⊢;rw [ND,Pf,ih,CB];by_cases h:y=x
  ·subst h;simp
  ·have h':¬ x=y:=λz=>h z.symm;simp [h,h']
theorem pP {x:Int} {ys:List Int} (h1:RE K ta σ H (.int x)) (h2:RE K tb σ H (.tup (ys.map D.int))):RE K (S8 (Zu K false) ta tb) σ H (.bl (decide (x ∈ ys))):=λH1 s Q q =>
 h1 H1 s _ λv H2 s2 q2=>h2 H2 (s.trans s2) _ λw H3 s3 q3=>by obtain ⟨a,vs,ev,hq,hd⟩:=q3.P7;have e:=lO hd;subst e;rw [q2.Pz];refine ⟨a,_,ev,.inr hq,rfl,yV ys,?_⟩;rw [xY];exact q _ _ (s2.trans s3) (Dat.UA _)
noncomputable abbrev tI (xs:List Int):D:=.tup (xs.map D.int)
noncomputable def iV (rows:List (List Int)) (some:List Int):List (List Int):=rows.flatMap λr=>some.map λx=>r++[x]
noncomputable def bR (css:List (List Int)):List (List Int):=css.foldl iV [[]]
theorem rq (css:List (List Int)) (c:List Int):bR (css++[c])=iV (bR css) c:=by unfold bR;rw [List.foldl_append];rfl
theorem uF:∀ (css:List (List Int)) (rs:List (List Int)) (n:Nat),(∀ r ∈ rs,r.length=n)->∀ r ∈ css.foldl iV rs,r.length=n+css.length
 | [],rs,n,h,r,hr=>h r hr
 | c::css,rs,n,h,r,hr=>by
  have:=uF css (iV rs c) (n+1) (λr hr=>by
   obtain ⟨r0,h0,h1⟩:=List.mem_flatMap.mp hr;obtain ⟨x,_,rfl⟩:=M9.mp h1;rw [Ma,h r0 h0];rfl) r hr
  rw [this,L5];omega
theorem iA (css:List (List Int)):∀ r ∈ bR css,r.length=css.length:=λr hr=>by have:=uF css [[]] 0 (λr h=>by rw [Mv.mp h];rfl) r hr;omega
noncomputable def jI (css:List (List Int)):Prop:=css.length<=20/\∀ i,i < css.length->(bR (css.take i)).length * (css.getD i []).length<=1000
noncomputable def FG:D->D->D
 | .tup a,e=>.tup (a++[e])
 | d,_=>d
theorem Ao (rows:List (List Int)) (some:List Int):((rows.map tI).flatMap λc=>(some.map D.int).map (FG c))=(iV rows some).map tI:=by
 unfold iV;rw [List.flatMap_map,List.map_flatMap];congr 1
 funext r
 rw [Oc,Oc];apply List.map_congr_left;intro x _;show D.tup (r.map D.int++[D.int x])=D.tup ((r++[x]).map D.int);rw [MM];rfl
noncomputable def jP (K:W.Frag):Sp:=λvs H Q _=>∃ (a:Addr) (us:List V) (css:List (List Int)),vs=[.ref a]/\PJ K H a us/\Vd K H (css.map (·.map D.int)) us/\jI css/\∀ r ys H',Pr H H'->H' r=some (.lst ys)->H r=none->Pq K H' ((bR css).map tI) ys->Q (.ref r) H'
theorem wJ (T:Txt P w K mg)  : Ok P w base (k+1) T.IC (jP K):=by
 refine T.IC.f.ok WJ (λvs H Q E h=>?_) (λcdv A outer s H vs Q E hr h=>?_)
 ·obtain ⟨a,us,css,rfl,_⟩:=h;rfl
 have nd:=WJ.nd;obtain ⟨a,us,css,rfl,hq,hL,⟨h20,hok⟩,post⟩:=h;refine ⟨_,(aF (bM (i:=1) nd rfl (Or.inl rfl) (b0 (aD (aS aC) aC)))
 (aF (fS MJ rfl (cU (pv 0)) (aY (i:=2) nd rfl (Or.inr rfl)) (aH (vc (i:=1) (own:=["row","one"]) (fr:=[2]) (N':=["row","one","some"]) (cU (pv 1)) rfl (by show dX ["choices","rows","some"] (λx=>(aK ni).names.lookup x) _ _ _ _=true;decide +kernel) rfl (λ_ _ _ _ _=>(aY (i:=0) (by show List.Nodup [("row":Str),("one":Str),("some":Str)];decide +kernel) rfl (Or.inl rfl))) (λ_ _ _ _ _=>(Bl (K:=K) rfl (pv 2))) (λ_ _ _ _ _=>(aY (i:=1) (by show List.Nodup [("row":Str),("one":Str),("some":Str)];decide +kernel) rfl (Or.inl rfl))) (λ_ _ _ _ _=>(bI (r:=ve K) sQ (pv 0) (aS (aD (pv 1) aC)))) nd rfl rfl rfl)))
 (aH (aQ (pv 1))))),?_⟩
 have ll:=hL.length;rw [LR] at ll;refine gE (K:=K) (es:=[.tup []]) (cE (aA (aR aI) aI)) λl ys H1 nl s1 hy dy=>?_;refine cZ ⟨_,rfl,a,rfl,⟨us,s1.seq hq⟩,lQ (K:=K) (a:=a) (xs:=us) (λi σ G=>∃ (z:Option V) (l:Addr) (ys:List V),σ=[some (.ref a),some (.ref l),z]/\Pr H G/\H l=none/\G l=some (.lst ys)/\Pq K G ((bR (css.take i)).map tI) ys) ?_ ?_ ?_ ?_⟩
 ·exact ⟨none,l,ys,rfl,s1,nl,hy,dy⟩
 ·rintro i σ G hi ⟨z,l,ys,rfl,sG,nl,hy,dy⟩;exact sG.seq hq
 ·rintro i x σ G hx ⟨z,l,ys,rfl,sG,nl,hy,dy⟩;have hi:i < us.length:=(Mg.mp hx).1;have hic:i < css.length:=by omega
  obtain ⟨v,hv,Z3⟩:=(sG.ZC hL).get (i:=i) (es:=css[i].map D.int) (by rw [LV,LQ hic];rfl);rw [hx] at hv;cases hv;refine eY ?_;dsimp only;have eg:css.getD i []=css[i]:=by rw [Ml,LQ hic];rfl
  have hm:=hok i hic;rw [eg] at hm;refine RC.use (K:=K) (Fc (K:=K) (i:=0) (j:=1) (kk:=2) (cs:=(bR (css.take i)).map tI) (es:=css[i].map D.int) FG (cK (k:=1) (LD.of hy dy)) Z3 rfl (by decide) (by decide) (by decide) (by rw [LR,LR];exact hm) rfl rfl (λG c v e w sG' hc he hcv hew=>?_)) λl2 ys2 G2 nl2 s2 hy2 dy2=>?_
  ·obtain ⟨r,hr,rfl⟩:=M9.mp hc;obtain ⟨y,hy3,rfl⟩:=M9.mp he;have lr:=iA _ r hr;rw [Mx] at lr;exact tD (aB (k:=0) hcv) (aR (aA (aB (k:=1) hew) aI)) (by rw [LR,L5,MB];omega)
  ·refine ⟨some x,l2,ys2,rfl,sG.trans s2,sG.free nl2,hy2,?_⟩;rw [Ao,<- rq] at dy2;rw [MP,LQ hic];exact dy2
 ·rintro σ G ⟨z,l,ys,rfl,sG,nl,hy,dy⟩;rw [<- ll,MY] at dy;exact ⟨_,rfl,post l ys G sG hy nl dy⟩
noncomputable def iY (ks:List Int) (b:Nat):List (List Int):=(List.range 4).map λk:Nat=>if (k:Int) ∈ ks then (List.range b).map λi:Nat=>(i:Int) else [0]
noncomputable def vJ (ds es:List D):Prop:=∃ (ks:List Int) (b:Nat),ds=[.tup (ks.map D.int),.int b]/\b<=1000/\jI (iY ks b)/\es=(bR (iY ks b)).map tI
theorem uP (T:Txt P w K mg) (JU:Ok P w base k T.IC (jP K)):Ok P w base (k+1) T.J7 (iU K vJ):=by
 refine T.J7.f.ok Wh (λvs H Q E h=>?_) (λcdv A outer s H vs Q E hr h=>?_)
 ·obtain ⟨ds,es,hd,⟨ks,b,rfl,_⟩,_⟩:=h;exact hd.length.symm
 have nd:=Wh.nd;obtain ⟨ds,es,hd,⟨ks,b,rfl,hb,hok,rfl⟩,post⟩:=h;obtain ⟨v0,v1,rfl,h0,h1⟩:=jb hd;refine ⟨_,(aH (aQ (pc (D:=T.IC) JU hr (aD (dZ (own:=["k"]) (fr:=[0,1]) (N':=["k","ks","size"]) (kq rfl T.Jp (aD (bQ (v:=.int 4) rfl T.Ia ⟨_,rfl⟩) aC)) rfl (by show dX ["ks","size"] (λx=>(aK lq).names.lookup x) _ _ _ _=true;decide +kernel) rfl (λ_ _ _ _ _=>(aY (i:=0) (by show List.Nodup [("k":Str),("ks":Str),("size":Str)];decide +kernel) rfl (Or.inl rfl))) (λ_ _ _ _ _=>cX) (λ_ _ _ _ _=>(dR (aO (show Se _ _ (Zu K false) from eA) (pv 0) (pv 1) (by with_unfolding_all rfl)) (cQ (gY rfl) rfl T.Jl fZ (aD (cQ lK rfl T.Jp lJ (aD (pv 2) aC)) aC)) (b0 (aD aG aC))))) aC)))),?_⟩;refine jx (Bz (BA (Ys.use (K:=K) (Dj (n:=4) (aA aE aI) (by decide) ((iY ks b).map (·.map D.int)) (by unfold iY;rw [LR,LR,Nn]) rfl (λG i es sG he=>?_)) λl us H1 nl s1 hy dL=>?_)))
 ·unfold iY at he;rw [LV,LV] at he;obtain ⟨c,hc,rfl⟩:=Mb.mp he;obtain ⟨k',hk,rfl⟩:=Mb.mp hc;have hk4:i < 4:=by have:=(Mg.mp hk).1;rwa [Nn] at this
  rw [O0 hk4] at hk;cases hk;refine DY (b:=decide ((i:Int) ∈ ks)) (aJ (pP (aB (k:=0) (Dat.Px (i:Int))) (aB (k:=1) (sG.dat h0)))) (λc=>?_) (λc=>?_)
  ·rw [Mc (LS c)];refine RC.as (jL (n:=b) (aB (k:=2) (sG.dat h1)) hb) ?_;rw [Oc];rfl
  ·rw [LZ (Mf c)];exact cE (aA aE aI)
 ·exact ⟨l,us,iY ks b,rfl,PJ.of hy,dL,hok,λr ys H' s' hr nr dr=>post r ys H' (s1.trans s') hr (s1.free nr) dr⟩
section
variable {mc:MC} {st s:MS} {nm:Str} {num on:Nat}
theorem FA {p:Nat × MS} (o:iZ mc st) (h:oj nm num on st=some p):iZ mc p.2/\p.2.ended=st.ended:=by
 unfold oj at h;split at h
 ·cases h;exact ⟨o,rfl⟩
 ·split at h
  ·obtain ⟨q,hq,e⟩:=Mb.mp h;cases e;exact ⟨(lZ o hq).1,(kv hq).2.2.2⟩
  ·split at h
   ·split at h
    ·cases h
    ·rename_i hl;cases h;have:=o.k;exact ⟨⟨o.p,o.l,by show st.kept.length+1<=16;omega⟩,rfl⟩
   ·split at h
    ·cases h
    ·rename_i k r e;cases h;have:=o.k;rw [e,L5] at this;exact ⟨⟨o.p,o.l,by show r.length<=16;omega⟩,rfl⟩
theorem Ew (b2:2<=mc.b) (o:iZ mc st) (h:eW mc nm num st=some s):iZ mc s/\s.ended=st.ended:=by
 have pu:∀ {n:Int} {a b:MS},iZ mc a->bZ mc n a=some b->iZ mc b/\b.ended=a.ended:=λoa hb=>⟨sP b2 oa hb,(oA hb).2.2.2.2⟩
 have tk:∀ {p:Int × MS} {a:MS},iZ mc a->eJ a=some p->iZ mc p.2/\p.2.ended=a.ended:=λoa hb=>⟨(lZ oa hb).1,(kv hb).2.2.2⟩
 unfold eW at h;split at h
 ·exact pu o h
 ·split at h
  ·exact pu o h
  ·obtain ⟨u,hu,h⟩:=MV.mp h;obtain ⟨ou,eu⟩:=tk o hu;split at h
   ·obtain ⟨a,b⟩:=pu ou h;exact ⟨a,b.trans eu⟩
   ·split at h
    ·obtain ⟨s1,h1,h2⟩:=MV.mp h;obtain ⟨o1,e1⟩:=pu ou h1;obtain ⟨a,b⟩:=pu o1 h2;exact ⟨a,b.trans (e1.trans eu)⟩
    ·split at h
     ·obtain ⟨l,hl,h⟩:=MV.mp h;obtain ⟨ol,el⟩:=tk ou hl;obtain ⟨s1,h1,h2⟩:=MV.mp h;obtain ⟨o1,e1⟩:=pu ol h1;obtain ⟨a,b⟩:=pu o1 h2;exact ⟨a,b.trans (e1.trans (el.trans eu))⟩
     ·obtain ⟨l,hl,h⟩:=MV.mp h;obtain ⟨ol,el⟩:=tk ou hl;obtain ⟨a,b⟩:=pu ol h;exact ⟨a,b.trans (el.trans eu)⟩
theorem yF (oc:wB mc) (o:iZ mc st) (h:iI mc st=some s):iZ mc s/\(st.ended=false->s.ended=true->s.pile.length=1):=by
 unfold iI at h;split at h
 ·cases h
 ·split at h
  ·cases h
  ·split at h
   ·cases h
   ·unfold YN at h;split at h
    ·obtain ⟨p,hp,e⟩:=Mb.mp h;cases e;obtain ⟨a,b⟩:=FA o hp;exact ⟨⟨a.p,a.l,a.k⟩,λz w=>by rw [show p.2.ended=true from w,z] at b;cases b⟩
    ·split at h
     ·obtain ⟨p,hp,e⟩:=Mb.mp h;cases e;unfold ko at hp;split at hp
      ·rename_i hl;cases hp;exact ⟨⟨o.p,o.l,o.k⟩,λ_ _=>hl⟩
      ·cases hp
     ·obtain ⟨p,hp,e⟩:=Mb.mp h;cases e;obtain ⟨a,b⟩:=Ew oc.b2 o hp;exact ⟨⟨a.p,a.l,a.k⟩,λz w=>by rw [show p.ended=true from w,z] at b;cases b⟩
end
variable {G:Hp}
theorem qM {G':Hp} (s:Pr H G) (b:RD A G G') (h1:H A.m=none) (h2:H A.lp=none) (h3:H A.lk=none):Pr H G':=λx o e =>
 b x o (λz=>by rw [z,h1] at e;cases e) (λz=>by rw [z,h2] at e;cases e) (λz=>by rw [z,h3] at e;cases e) (s x o e)
theorem vF {c:TT} {tb:TS} (Pv:Nat->L2.St->Hp->Prop) (n:Nat) (h0:Pv n σ H)
  (hs:∀ n σ H,Pv n σ H->∃ b,RT c σ H b/\∀ H1,Pr H H1->if b=true then tb { En with nx:=λσ' H'=>∃ m,m < n/\Pv m σ' H',ct:=λσ' H'=>∃ m,m < n/\Pv m σ' H',bk:=En.nx } σ H1 else En.nx σ H1):tW c tb En σ H:=by
 refine ⟨Pv,⟨_,h0⟩,?_⟩;intro m σ H p;obtain ⟨b,hb,q⟩:=hs m σ H p;refine hb H (Pr.refl _) _ λH1 s=>?_;have z:=q H1 s
 cases b with
 | true=>exact ⟨_,λσ' H' h=>h,z⟩
 | false=>exact z
noncomputable def ZK (mc:MC):Nat->MS->Option (Option MS)
 | 0,_=>none
 | n+1,st=>if st.place < mc.cs.length then (match iI mc st with
  | none=>some none
  | some s=>ZK mc n s) else some (some st)
noncomputable def o5 (w:Int):Option MS->Bool
 | none=>false
 | some st=>QM (st.pile.reverse.map D.int) [.int 1,.int w]
noncomputable abbrev qC (nm:D) (pt:Pa) (cl:List Cl):D:=.tup [nm,Qf pt,.tup (cl.map U4)]
structure ow (pt:Pa) (cl:List Cl) (hs nums ks as:List Int) (b:Int):Prop where
 f:XT hs.length nums.length ks.length pt=true
 dp:bJ pt<=3
 t:Yl (U3 hs nums ks pt)
 dt:fC (U3 hs nums ks pt)<=8
 c:∀ c ∈ cl,oQ nums.length ks.length c=true
 l:cl.length<=12
 m:wB ⟨cl.map (eF nums ks),as,b⟩
 s:iZ ⟨cl.map (eF nums ks),as,b⟩ ⟨(1::hs).reverse,0,[],false⟩
noncomputable def zT (ds:List D) (d:D):Prop:=∃ (nm:D) (pt:Pa) (cl:List Cl) (hs nums ks as:List Int) (b:Int) (r:Option MS),ds=[qC nm pt cl,tY hs nums ks as,.int b]/\ow pt cl hs nums ks as b /\
 ZK ⟨cl.map (eF nums ks),as,b⟩ 20 ⟨(1::hs).reverse,0,[],false⟩=some r/\d=.bl (o5 (cP as b (U3 hs nums ks pt)) r)
section
variable {ta tb:TE} {σ:L2.St} {H:Hp} {ds es:List D}
theorem Dl (h1:RL K ta σ H ds) (h2:RL K tb σ H es) (n:PY ds=true) (n2:PY es=true) (d:PC ds<=20):RE K (S8 (vf K false) ta tb) σ H (.bl (QM ds es)):=λH1 s Q q =>
 h1 H1 s _ λv H2 s2 q2=>h2 H2 (s.trans s2) _ λw H3 s3 q3=>by obtain ⟨a,xs,rfl,ha,da⟩:=s3.ld q2;obtain ⟨b,ys,rfl,hb,db⟩:=q3;exact ⟨a,b,xs,ys,ds,es,rfl,rfl,ha.S7,hb.S7,da,db,n,n2,d,q _ _ (s2.trans s3) (Dat.UA _)⟩
end
theorem A8 (T:Txt P w K mg) (K1:Ok P w base (k+1) T.IV (Qh K vK)) (Km:PD P w K mg base U1 k T.Hd T.He ["self","cells","given","size","pile"] (F1 K T.Gz)) (KQ:PD P w K mg base (UC P w) (k+1) T.HW T.HY ["self"] (xl K T.GC T.Gz)) (Ih:Ok P w base (k+1) T.GL (Qh K (Zn 3))) (Jv:Ok P w base (k+1) T.HL (Qh K (kC 8))):Ok P w base (k+1+1) T.KO (Qh K zT):=by
 refine T.KO.f.ok XC (λvs H Q E h=>?_) (λcdv A outer s H vs Q E hr h=>?_)
 ·obtain ⟨ds,d,hd,⟨nm,pt,cl,hs,nums,ks,as,b,r,rfl,_⟩,_⟩:=h;exact hd.length.symm
 have nd:=XC.nd;obtain ⟨ds,d,hd,⟨nm,pt,cl,hs,nums,ks,as,b,r,rfl,ok,hgo,rfl⟩,post⟩:=h;obtain ⟨v0,v1,v2,rfl,h0,h1,h2⟩:=nA hd;obtain rfl:=h2.Pz;refine ⟨_,(aF (iE (pv 0) (iP rfl (bN (aY (i:=3) nd rfl (Or.inl rfl)) (bN (aY (i:=4) nd rfl (Or.inl rfl)) (bN (aY (i:=5) nd rfl (Or.inl rfl)) gC)))))
 (aF (iE (pv 1) (iP rfl (bN (aY (i:=6) nd rfl (Or.inl rfl)) (bN (aY (i:=7) nd rfl (Or.inr rfl)) (bN (aY (i:=8) nd rfl (Or.inr rfl)) (bN (aY (i:=9) nd rfl (Or.inl rfl)) gC))))))
 (aF (pK (i:=10) (own:=["cell"]) (fr:=[7,8]) (N':=["cell","nums","ks"]) (m4 (pv 5)) rfl (by show dX ["piece","trial","size","name","pattern","cells","holes","nums","ks","args","laid_cells","machine"] (λx=>(aK tO).names.lookup x) _ _ _ _=true;decide +kernel) rfl (λ_ _ _ _ _=>(aY (i:=0) (by show List.Nodup [("cell":Str),("nums":Str),("ks":Str)];decide +kernel) rfl (Or.inl rfl))) (λ_ _ _ _ _=>cX) (λ_ _ _ _ _=>(pc (D:=T.IV) K1 hr (aD (pv 0) (aD (pv 1) (aD (pv 2) aC))))) nd rfl rfl rfl)
 (aF (bM (i:=11) nd rfl (Or.inl rfl) (C5 T.WL Km hr rfl T.Jt (kP T) .nil ka (aD (pv 10) (aD (pv 9) (aD (pv 2) (aD (bI l8 (b0 (aD (bQ (v:=.int 1) rfl T.GY ⟨_,rfl⟩) aC)) (cQ fD rfl T.Jl fZ (aD (pv 6) aC))) aC))))))
 (aF (Br (t:=λE=>tW (vE (S8 (XJ λi j=>.bl (decide (i < j))) (lB K (dW 11) "place") (WB (λxs H Q=>∃ p ys,xs=[.ref p]/\(PJ K H p ys\/QE K H p ys)/\Q (.int ys.length) H) (bO (dW 10) dH)))) (nM (λσ=>nN T.Gz "step" (xl K T.GC T.Gz) [] (E σ) (dW 11) dH σ))) (λpn xe E hx ho=>(aH (pL ho (aO l9 (dI (pv 11) rfl) (a9 aZ rfl T.GQ cC (aD (pv 10) aC)) (aV _)) (aH (bK (zo (pv 11) T.Pu T.Uo KQ hr (oM T) .nil hx)))))) rfl T.Hl (λe=>(aH (aQ eM))))
 (aH (aQ (hE (sR hr) (dI (pv 11) rfl) (b0 (aD (bQ (v:=.int 1) rfl T.GY ⟨_,rfl⟩) (aD (pc (D:=T.HL) Jv hr (aD (pc (D:=T.GL) Ih hr (aD (pv 4) (aD (pv 1) aC))) (aD (pv 9) (aD (pv 2) aC)))) aC))) (aV _))))))))),?_⟩
 refine tL (K:=K) (d:=nm) (e:=Qf pt) (f:=.tup (cl.map U4)) (aB (k:=0) h0) λv3 v4 v5 H1 s1 q3 q4 q5=>?_;refine gG (K:=K) (aB (k:=1) (s1.dat h1)) λv6 v7 v8 v9 H2 s2 q6 q7 q8 q9=>?_;have hl:=ok.l;refine gE (K:=K) (es:=(cl.map (eF nums ks)).map D.int) (wQ (aB (k:=5) (s2.dat q5)) (by rw [LR];omega) _ (by simp) rfl (λG i c v d sG hc hd hv=>?_)) λlc ys H3 nc s3 hc dc=>?_
 ·rw [LV] at hc;obtain ⟨c0,hc0,rfl⟩:=Mb.mp hc;rw [LV,LV,hc0] at hd;cases hd;exact bE (R:=vK) (aA (aB (k:=0) hv) (aA (aB (k:=1) (sG.dat q7)) (aA (aB (k:=2) (sG.dat q8)) aI))) ⟨c0,nums,ks,rfl,ok.c c0 (Mj hc0),rfl⟩
 obtain rfl:=lO dc;have Rz:=s2.trans s3;have Z4:=s1.trans Rz;have q6:=s3.dat q6;have q9:=s3.dat q9;refine gW ⟨_,rfl,_,rfl,_,rfl,RC.use (K:=K) (mf (eT (cE (aA aE aI))) (eT (pO (aB (k:=6) q6))) (by have:=ok.s.l;rw [MO,L5] at this;rw [LR];simp only [L5,MB];omega)) λl0 y0 H4 nl0 s4 Sg d4 x dx nx ndx hne=>?_⟩;have s5:Pr H4 (upd (upd H4 dx (.own x)) x (.ins T.Gz dx [])):=(aT ndx _).trans (aT (by rw [aX (MQ hne)];exact nx) _);have W2:=s4.trans s5;have er:((1::hs).reverse.reverse.map D.int)=[D.int 1]++hs.map D.int:=by rw [List.reverse_reverse];rfl
 refine ⟨x,dx,lc,v9,.ref l0,⟨cl.map (eF nums ks),as,b⟩,(1::hs).reverse,rfl,aM,W2 _ _ hc,W2.dat q9,by rw [er];exact LD.of (s5 _ _ Sg) (s5.P0 d4),by have:=ok.s.l;exact Mr this (by decide),λA HM em edx elc evg bm nlp nlk M=>⟨rfl,?_⟩⟩;subst em elc;have nm3:H3 A.m=none:=s4.free nx;have np3:H3 A.lp=none:=W2.free nlp;have nk3:H3 A.lk=none:=W2.free nlk;have sM:Pr H3 HM:=λb' o e=>bm b' o (λz=>by rw [z,nm3] at e;cases e) (W2 _ _ e);refine cZ (vF (λn σ G=>∃ st,σ=[some v0,some v1,some (.int b),some v3,some v4,some v5,some v6,some v7,some v8,some v9,some (.ref A.lc),some (.ref A.m)]/\PM K T.Gz A ⟨cl.map (eF nums ks),as,b⟩ st G/\iZ ⟨cl.map (eF nums ks),as,b⟩ st/\Pr H3 G/\ZK ⟨cl.map (eF nums ks),as,b⟩ n st=some r) 20 ?_ ?_)
 ·exact ⟨_,rfl,M,ok.s,sM,hgo⟩
 ·rintro n σ G ⟨st,rfl,M,os,sG,hg⟩;refine ⟨decide ((st.place:Int) < (((cl.map (eF nums ks)).map D.int).length:Int)),aJ (cO (p:=λi j=>decide (i < j)) (oC (i:=11) (z:=st.place) M T.Pu T.PR) (eO (cK (K:=K) (k:=10) (LD.of M.cells (eP _))))),λG1 t1=>?_⟩;have M:=M.same t1;have Z5:=sG.trans t1
  cases n with
  | zero=>cases hg
  | succ n =>
  by_cases hlt:st.place < (cl.map (eF nums ks)).length
  ·rw [Mh (by rw [LR];omega)]
   have hg:(if st.place < (cl.map (eF nums ks)).length then (match iI ⟨cl.map (eF nums ks),as,b⟩ st with
    | none=>some none
    | some s=>ZK ⟨cl.map (eF nums ks),as,b⟩ n s) else some (some st))=some r:=hg
   rw [Mc hlt] at hg;refine jG ⟨_,rfl,A.m,A.dx,_,rfl,M.ins,by kernel_rfl,A,_,st,rfl,M,ok.m,os,λv st' e G3 b3 M3=>?_,λe G3 dx b3 hd=>⟨T.Ha,?_⟩⟩
   ·obtain ⟨s',hs',e2⟩:=Mb.mp e;cases e2;obtain ⟨os2,_⟩:=yF ok.m os hs';rw [hs'] at hg;exact ⟨n,Nh n,st',rfl,M3,os2,qM Z5 b3 nm3 np3 nk3,hg⟩
   ·have e:iI ⟨cl.map (eF nums ks),as,b⟩ st=none:=by simpa using e
    rw [e] at hg;cases hg;exact post _ _ (Z4.trans (qM Z5 b3 nm3 np3 nk3)) (Dat.UA _)
  ·rw [LY (by rw [LR];omega)]
   have hg:(if st.place < (cl.map (eF nums ks)).length then (match iI ⟨cl.map (eF nums ks),as,b⟩ st with
    | none=>some none
    | some s=>ZK ⟨cl.map (eF nums ks),as,b⟩ n s) else some (some st))=some r:=hg
   rw [LZ hlt] at hg;cases hg;refine ji (bC (K:=K) (d:=.bl (o5 (cP as b (U3 hs nums ks pt)) (some st))) (Dl (tG (i:=11) M T.Pu T.Qu) (eT (cE (aA aE (aA (bE (R:=kC 8) (aA (bE (R:=Zn 3) (aA (aB (k:=4) ((Rz.trans Z5).dat q4)) (aA (aB (k:=1) ((Z4.trans Z5).dat h1)) aI)) ⟨pt,hs,nums,ks,as,rfl,ok.f,ok.dp,rfl⟩) (aA (aB (k:=9) (Z5.dat q9)) (aA (aB (k:=2) (Dat.Px b)) aI))) ⟨_,as,b,rfl,ok.t,ok.dt,⟨ok.m.as,ok.m.ai,ok.m.b2,ok.m.b9⟩,rfl⟩) aI)))) (fE _) rfl (by rw [cW];decide)) λv H' s q=>post v H' (Z4.trans (Z5.trans s)) q)
noncomputable abbrev ZL:List Int:=[0,1,2,99,100,9999]
noncomputable def wd:D->Option Int
 | .tup [_,_,.int m]=>some m
 | _=>none
noncomputable def Wn (b:Nat):List Int:=(List.range b).map λi:Nat=>(i:Int)
noncomputable abbrev hD (pt:Pa):List D:=cG 3 "hole" (Qf pt)
noncomputable abbrev gD (pt:Pa):List D:=cG 3 "gap" (Qf pt)
noncomputable abbrev sD (pt:Pa):List D:=cG 3 "slot" (Qf pt)
noncomputable def jU (pt:Pa) (b:Nat):List (List Int):=(hD pt).map λ_=>Wn b
noncomputable def hW (pt:Pa):List (List Int):=(gD pt).map λg=>ZL.filter λi=>decide (i<=(wd g).getD 0)
noncomputable def gP (pt:Pa):List (List Int):=(sD pt).map λ_=>Wn 4
variable {t:TE}
theorem BI (h:RE K t σ H (.int n)) (hn:n<=1000):RC K (WB (λxs H Q=>∃ (p:Addr) (n:Nat),xs=[.ref p]/\H p=some (.Wn 0 n)/\n<=1000/\∀ l,H l=none->Q (.ref l) (upd H l (.lst ((List.range n).map λi:Nat=>V.int i))))
  (bO (WB (λxs H Q=>∃ n:Nat,xs=[.int n]/\∀ p,H p=none->Q (.ref p) (upd H p (.Wn 0 n))) (bO t dH)) dH)) σ H ((Wn n).map D.int):=RC.as (jL h hn) (by unfold Wn;rw [Oc];rfl)
theorem AD {c:D} {m:Int} (h:wd c=some m):∃ a b,c=.tup [a,b,.int m]:=by
 unfold wd at h;split at h
 ·cases h;exact ⟨_,_,rfl⟩
 ·cases h
noncomputable def leD (m:Int):D->Bool
 | .int i=>decide (i<=m)
 | _=>false
theorem yk (m:Int):TRN.filter (leD m)=(ZL.filter λi=>decide (i<=(some m).getD 0)).map D.int:=by show (ZL.map D.int).filter (leD m)=_;rw [List.filter_map];rfl
variable {css:List (List Int)}
theorem tJ (h:Ys K tl σ H (css.map (·.map D.int))) (ok:jI css)
  (q:∀ r ys H',Pr H H'->H' r=some (.lst ys)->H r=none->Pq K H' ((bR css).map tI) ys->us En (σ.set i (some (.ref r))) H'):lC (lA (gJ (jP K) [] E (bO tl dH)) (bW i)) us En σ H :=
 show tl σ H (λx H1=>jP K ([x]++[]) H1 (λv H2=>us En (σ.set i (some v)) H2) E) from
  Ys.use (K:=K) h λl ws H1 nl s1 hy dL=>⟨l,ws,css,rfl,PJ.of hy,dL,ok,λr ys H' s' hr nr dr=>q r ys H' (s1.trans s') hr (s1.free nr) dr⟩
theorem rL (T:Txt P w K mg):Binds K T.Jc ["size","most"] []:=by
 obtain ⟨oc,od,kV,doc,pm,an,cdv,ct,osl,e,lk,hcd⟩:=T.Jd.ex;obtain ⟨o,n,l,h⟩:=T.Jd.df;intro s us hK hl;have hl':us.length=2:=by simpa using hl
 match us,hl' with
 | [u0,u1],_=>rw [e];exact .of_defaults (T:=T.Kf) rfl (hK _ _ l) h rfl rfl
variable {r:List Int}
theorem kh {rows:List (List Int)} {x:V} (d:Pq K H (rows.map tI) ys) (h:ys[i]?=some x) (hr:rows[i]?=some r):Dat K H (tI r) x:=by obtain ⟨c,hc,hv⟩:=d.WD h;rw [LV,hr] at hc;cases hc;exact hv
variable {a:Addr} {xs:List V} {g:TG}
theorem hZ {α β:Type} {tb:TS} (rows:List α) (f:α->Option β) {tot R:Option β} (I:L2.St->Hp->Prop) (ht:tot=(rows.findSome? f).or R) (hlen:xs.length=rows.length) (h0:I σ H) (hl:∀ σ F,I σ F->PJ K F a xs)
  (hs:∀ (i:Nat) x r σ F,xs[i]?=some x->rows[i]?=some r->I σ F->∀ R',tot=(f r).or R'->g x σ F λσ2 H2=>tb { En with nx:=λσ' F'=>I σ' F'/\tot=R',ct:=λσ' F'=>I σ' F'/\tot=R',bk:=En.nx } σ2 H2)
  (hd:∀ σ F,I σ F->tot=R->En.nx σ F) :
  ∃ W:Nat->Nat->L2.St->Hp->Prop,(∃ m,W 0 m σ H)/\∀ i m σ H,W i m σ H ->
   ((Yw K a).stop i H/\En.nx σ H)\/((Yw K a).go i H/\∃ N:L2.St->Hp->Prop,(∀ σ' H',N σ' H'->∃ m',m' < m/\W (i+1) m' σ' H')/\∀ x H',(Yw K a).Vs i H x H'->g x σ H' λσ2 H2=>tb { En with nx:=N,ct:=N,bk:=En.nx } σ2 H2):=by
 refine lQ (K:=K) (a:=a) (xs:=xs) (λi σ F=>I σ F/\tot=((rows.drop i).findSome? f).or R) ⟨h0,ht⟩ (λi σ F _ h=>hl σ F h.1) ?_ ?_
 ·rintro i x σ F hx ⟨hI,e⟩;have hi:i < rows.length:=by have:=(Mg.mp hx).1;omega
  refine hs i x rows[i] σ F hx (LQ hi) hI _ ?_;rw [e,List.drop_eq_getElem_cons hi,List.findSome?_cons]
  cases f rows[i] with
  | none=>rfl
  | some b=>rfl
 ·rintro σ F ⟨hI,e⟩;rw [hlen,List.drop_length] at e;exact hd σ F hI e
noncomputable abbrev YO:List Str:=["put","far","load","add","sub","mul","less","more","twice","about"]
noncomputable def Ye (mc:MC) (nm:Str) (num:Nat) (st:MS):Option MS:=if oh nm num=true then none else eW mc nm num st
noncomputable def XU (mc:MC):Nat->MS->Option (Option MS)
 | 0,_=>none
 | n+1,st=>match mc.cs[st.place]? with
  | none=>some (some st)
  | some c=>if VB c ∈ YO/\c<=16/\jY mc.cs st.place c=false then (match Ye mc (VB c) (jV mc.cs st.place c) st with
   | none=>some none
   | some s=>XU mc n { s with place:=st.place+1+cV c }) else none
theorem Fj (h:nm ∈ YO):¬ nm="end"/\nm ∉ WS:=by simp only [YO,Mm,Nc,Oi] at h;rcases h with rfl | rfl | rfl | rfl | rfl | rfl | rfl | rfl | rfl | rfl <;> decide +kernel
theorem vD {st:MS} (hc:mc.cs[st.place]?=some c) (hn:VB c ∈ YO) (hb:jY mc.cs st.place c=false):iI mc st=(Ye mc (VB c) (jV mc.cs st.place c) st).map λs=>{ s with place:=st.place+1+cV c }:=by
 obtain ⟨he,hw⟩:=Fj hn;unfold iI Ye;rw [hc];dsimp only;rw [LZ (by rw [hb];exact L6)];by_cases ht:oh (VB c) (jV mc.cs st.place c)=true
 ·rw [Mc ht,Mc ht];rfl
 ·rw [LZ ht,LZ ht];unfold YN;rw [LZ hw,LZ he]
theorem xT:∀ (n:Nat) (st:MS) (r:Option MS),XU mc n st=some r->ZK mc n st=some r
 | 0,_,_,h=>by cases h
 | n+1,st,r,h=>by
  have h:(match mc.cs[st.place]? with
   | none=>some (some st)
   | some c=>if VB c ∈ YO/\c<=16/\jY mc.cs st.place c=false then (match Ye mc (VB c) (jV mc.cs st.place c) st with
    | none=>some none
    | some s=>XU mc n { s with place:=st.place+1+cV c }) else none)=some r:=h
  show (if st.place < mc.cs.length then (match iI mc st with
   | none=>some none
   | some s=>ZK mc n s) else some (some st))=some r
  cases hc:mc.cs[st.place]? with
  | none =>rw [hc] at h;rw [LZ (by have:=NU.mp hc;omega)];exact h
  | some c =>
   rw [hc] at h;dsimp only at h;rw [Mc (Mg.mp hc).1];by_cases hs:VB c ∈ YO/\c<=16/\jY mc.cs st.place c=false
   ·rw [Mc hs] at h;rw [vD hc hs.1 hs.2.2]
    cases hd:Ye mc (VB c) (jV mc.cs st.place c) st with
    | none=>rw [hd] at h;exact h
    | some s=>rw [hd] at h;exact xT n _ r h
   ·rw [LZ hs] at h;cases h
noncomputable abbrev Yt (cl:List Cl) (nums ks as:List Int) (b:Int):MC:=⟨cl.map (eF nums ks),as,b⟩
noncomputable abbrev Z6 (hs:List Int):MS:=⟨(1::hs).reverse,0,[],false⟩
noncomputable abbrev mJ:Type:=List Int × List Int × List Int × List Int
noncomputable def o4 (pt:Pa) (cl:List Cl) (b:Int) (hs nums ks as:List Int):Bool:=match XU (Yt cl nums ks as b) 20 (Z6 hs) with
 | some r=>o5 (cP as b (U3 hs nums ks pt)) r
 | none=>false
noncomputable def A9 (pt:Pa) (cl:List Cl) (b:Int) (hs nums ks as:List Int):Option mJ:=if o4 pt cl b hs nums ks as=true then none else some (hs,nums,ks,as)
noncomputable def eQ (pt:Pa) (cl:List Cl) (b:Nat):Option mJ:=(bR (jU pt b)).findSome? λhs=>(bR (hW pt)).findSome? λnums=>(bR (gP pt)).findSome? λks=>(bR (iY ks b)).findSome? λas=>A9 pt cl b hs nums ks as
noncomputable def nj:Option mJ->D
 | none=>.Py
 | some t=>tY t.1 t.2.1 t.2.2.1 t.2.2.2
noncomputable def qB:Pa->Bool
 | .two o a b=>(decide (o="add") || decide (o="sub") || decide (o="mul") || decide (o="less")) && (qB a && qB b)
 | _=>true
structure lD (nm:D) (pt:Pa) (cl:List Cl) (b:Nat):Prop where
 pc:jk (qC nm pt cl)=some true
 nmk:CY (qC nm pt cl)
 pp:Wq 3 (Qf pt)=true
 op:qB pt=true
 dp:bJ pt<=3
 c:∀ c ∈ cl,oQ (hW pt).length (gP pt).length c=true
 l:cl.length<=12
 b2:2<=b
 b5:b<=5
 g:∀ c ∈ gD pt,(wd c).isSome=true
 rh:jI (jU pt b)
 rn:jI (hW pt)
 rk:jI (gP pt)
 ra:∀ ks ∈ bR (gP pt),jI (iY ks b)
 all:∀ hs ∈ bR (jU pt b),∀ nums ∈ bR (hW pt),∀ ks ∈ bR (gP pt),∀ as ∈ bR (iY ks b),ow pt cl hs nums ks as b/\∃ r,XU (Yt cl nums ks as b) 20 (Z6 hs)=some r
noncomputable def ue (ds:List D) (d:D):Prop:=∃ (nm:D) (pt:Pa) (cl:List Cl) (b:Nat),ds=[qC nm pt cl,.int b]/\lD nm pt cl b/\d=nj (eQ pt cl b)
variable {cl:List Cl} {hs nums ks:List Int}
theorem Ba {o:Option mJ} {pt:Pa} {as:List Int} {R:Option mJ} (h:o=(A9 pt cl b hs nums ks as).or R):(o4 pt cl b hs nums ks as=true->o=R)/\(o4 pt cl b hs nums ks as=false->nj o=tY hs nums ks as):=by
 unfold A9 at h;refine ⟨λk=>?_,λk=>?_⟩
 ·rw [Mc k] at h;exact h
 ·rw [LZ (by rw [k];exact L6)] at h;rw [h];rfl
theorem wD (T:Txt P w K mg) (JZ:Ok P w base k T.Il (Qh K lF)) (Lh:PD P w K mg base U1 k T.Ja T.Jc ["size","most"] (Qh K zV)) (JU:Ok P w base k T.IC (jP K)) (HI:Ok P w base k T.GS (iU K (iD 3))) (Lm:Ok P w base k T.J7 (iU K vJ)) (LL:Ok P w base k T.KO (Qh K zT)):PD P w K mg base U1 (k+1) T.JV T.JW ["piece","size"] (Qh K ue):=by
 refine T.Kh.ok WK (λvs H Q E h=>?_) (λcdv A outer s H vs Q E hr h=>?_)
 ·obtain ⟨ds,d,hd,⟨nm,pt,cl,b,rfl,_⟩,_⟩:=h;exact hd.length.symm
 have nd:=WK.nd;obtain ⟨ds,d,hd,⟨nm,pt,cl,b,rfl,G,rfl⟩,post⟩:=h;obtain ⟨v0,v1,rfl,h0,h1⟩:=jb hd;refine ⟨_,(aF (bK (pc (D:=T.Il) JZ hr (aD (pv 0) aC)))
 (aF (bK (oz Lh hr rfl T.KJ T.Jd.kp (rL T) .nil ka (aD (pv 1) (aD (bQ (v:=.int 5) rfl T.GW ⟨_,rfl⟩) aC))))
 (aF (bM (i:=2) nd rfl (Or.inl rfl) (bB aW (pv 0) aG))
 (aF (bM (i:=3) nd rfl (Or.inl rfl) (pc (D:=T.IC) JU hr (aD (dZ (own:=["mark"]) (fr:=[1]) (N':=["mark","size"]) (cU (pc (D:=T.GS) HI hr (aD (pv 2) (aD aN aC)))) rfl (by show dX ["piece","size","pattern","all_holes","all_nums","all_ks","holes","nums","ks","args","trial"] (λx=>(aK gX).names.lookup x) _ _ _ _=true;decide +kernel) rfl (λ_ _ _ _ _=>(aY (i:=0) (by show List.Nodup [("mark":Str),("size":Str)];decide +kernel) rfl (Or.inl rfl))) (λ_ _ _ _ _=>cX) (λ_ _ _ _ _=>(cQ (gY rfl) rfl T.Jl fZ (aD (cQ lK rfl T.Jp lJ (aD (pv 1) aC)) aC)))) aC)))
 (aF (bM (i:=4) nd rfl (Or.inl rfl) (pc (D:=T.IC) JU hr (aD (Bf (x0:="mark") (own:=["mark"]) (fr:=[]) (N':=["mark"]) (cU (pc (D:=T.GS) HI hr (aD (pv 2) (aD aN aC)))) rfl (xF (by show oq "mark" ["piece","size","pattern","all_holes","all_nums","all_ks","holes","nums","ks","args","trial"] (λx=>(aK gX).names.lookup x) _ _ _ _=true;decide +kernel)) rfl (λ_ _=>rfl) (λ_=>rfl) rfl (λ_ _ _ _ _ _=>(aY (i:=0) (by show List.Nodup [("mark":Str)];decide +kernel) rfl (Or.inr rfl))) (λ_ _ _ _ _ _=>cX) (λ_ _ _ _ _ _=>(dZ (own:=["num"]) (fr:=[0]) (N':=["num","mark"]) (ym (K:=K) rfl (bQ (v:=.ref T.Jo) rfl T.Ii rfl)) rfl (by kernel_rfl) rfl (λ_ _ _ _ _=>(aY (i:=0) (by show List.Nodup [("num":Str),("mark":Str)];decide +kernel) rfl (Or.inl rfl))) (λ_ _ _ _ _=>(pI (aO kG (pv 0) (bB (r:=pN K) aW (pv 1) aG) (aV _)))) (λ_ _ _ _ _=>(pv 0))))) aC)))
 (aF (bM (i:=5) nd rfl (Or.inl rfl) (pc (D:=T.IC) JU hr (aD (dZ (own:=["mark"]) (fr:=[]) (N':=["mark"]) (cU (pc (D:=T.GS) HI hr (aD (pv 2) (aD aN aC)))) rfl (by show dX ["piece","size","pattern","all_holes","all_nums","all_ks","holes","nums","ks","args","trial"] (λx=>(aK gX).names.lookup x) _ _ _ _=true;decide +kernel) rfl (λ_ _ _ _ _=>(aY (i:=0) (by show List.Nodup [("mark":Str)];decide +kernel) rfl (Or.inl rfl))) (λ_ _ _ _ _=>cX) (λ_ _ _ _ _=>(cQ (gY rfl) rfl T.Jl fZ (aD (cQ lK rfl T.Jp lJ (aD (bQ (v:=.int 4) rfl T.Ia ⟨_,rfl⟩) aC)) aC)))) aC)))
 (aF (fS MJ rfl (cU (pv 3)) (aY (i:=6) nd rfl (Or.inl rfl)) (aH (fS MJ rfl (cU (pv 4)) (aY (i:=7) nd rfl (Or.inl rfl)) (aH (fS MJ rfl (cU (pv 5)) (aY (i:=8) nd rfl (Or.inl rfl)) (aH (fS MJ rfl (cU (pc (D:=T.J7) Lm hr (aD (pv 8) (aD (pv 1) aC)))) (aY (i:=9) nd rfl (Or.inl rfl)) (aF (bM (i:=10) nd rfl (Or.inl rfl) (aS (aD (pv 6) (aD (pv 7) (aD (pv 8) (aD (pv 9) aC))))))
 (aH (bD (dS (bT (pc (D:=T.KO) LL hr (aD (pv 0) (aD (pv 10) (aD (pv 1) aC)))) (λ_=>rfl))) (aH (aQ (pv 10))) aU))))))))))
 (aH (aQ gS))))))))),?_⟩
 obtain rfl:=h1.Pz;have b2:=G.b2;have b5:=G.b5;refine jM (RE.use (bE (R:=lF) (d:=.Py) (aA (aB (K:=K) (k:=0) h0) aI) ⟨_,rfl,G.nmk,G.pc,rfl⟩) λv3 H1 s1 _=>?_);refine jM (RE.use (bE (R:=zV) (d:=.Py) (aA (aB (K:=K) (k:=1) (Dat.Px (b:Int))) (aA aE aI)) ⟨_,_,rfl,by omega,by omega,rfl⟩) λv4 H2 s2 _=>?_);have s12:=s1.trans s2;refine cF (K:=K) (d:=Qf pt) (a7 (k:=1) (aB (k:=0) (s12.dat h0)) aE rfl) λv2 H3 s3 q2=>?_;have Rz:=s12.trans s3;refine tJ (K:=K) (css:=jU pt b) (kg (cs:=hD pt) (eT (fG (R:=iD 3) (aA (aB (k:=2) q2) (aA aL aI)) ⟨Qf pt,"hole",rfl,by decide,G.pp,rfl⟩)) (Mr (jv "hole" 3 (Qf pt) G.pp) (by decide)) _ (by unfold jU;rw [LR,LR]) rfl (λF i c v es sF hc he hv=>?_)) G.rh λr3 y3 H4 s4 ZM nr3 d3=>?_
 ·unfold jU at he;rw [LV,LV,hc] at he;cases he;exact BI (aB (k:=1) (Dat.Px (b:Int))) (by omega)
 refine tJ (K:=K) (css:=hW pt) (kg (cs:=gD pt) (eT (fG (R:=iD 3) (aA (aB (k:=2) (s4.dat q2)) (aA aL aI)) ⟨Qf pt,"gap",rfl,by decide,G.pp,rfl⟩)) (Mr (jv "gap" 3 (Qf pt) G.pp) (by decide)) _ (by unfold hW;rw [LR,LR]) rfl (λF i c v es sF hc he hv=>?_)) G.rn λr4 y4 H5 s5 ZN nr4 d4=>?_
 ·unfold hW at he;rw [LV,LV,hc] at he;cases he;have hg:=G.g c (Mj hc);obtain ⟨m,hm⟩:=NX.mp hg;obtain ⟨ca,cb,rfl⟩:=AD hm;refine RC.as (vj (cs:=TRN) (gT T.Kx) (by decide) (leD m) rfl (λF2 i c v2 t2 hc2 hv2=>?_)) (yk m);have hc3:(ZL.map D.int)[i]?=some c:=hc2;rw [LV] at hc3;obtain ⟨j,_,rfl⟩:=Mb.mp hc3;exact ⟨aJ (cO (p:=λi j=>decide (i<=j)) (aB (k:=0) hv2) (a7 (k:=2) (aB (k:=1) (t2.dat hv)) aE rfl)),aB (k:=0) hv2⟩
 have W2:=s4.trans s5;refine tJ (K:=K) (css:=gP pt) (kg (cs:=sD pt) (eT (fG (R:=iD 3) (aA (aB (k:=2) (W2.dat q2)) (aA aL aI)) ⟨Qf pt,"slot",rfl,by decide,G.pp,rfl⟩)) (Mr (jv "slot" 3 (Qf pt) G.pp) (by decide)) _ (by unfold gP;rw [LR,LR]) rfl (λF i c v es sF hc he hv=>?_)) G.rk λr5 y5 H6 s6 ZH nr5 d5=>?_
 ·unfold gP at he;rw [LV,LV,hc] at he;cases he;exact BI (n:=4) aE (by decide)
 have s56:=s5.trans s6;have ZM:=s56 _ _ ZM;have d3:=s56.P0 d3;have ZN:=s6 _ _ ZN;have d4:=s6.P0 d4;have sH6:=Rz.trans (W2.trans s6);have h0:=sH6.dat h0;clear s1 s2 s12 s3 Rz s4 s5 W2 s6 s56 hd;have e3:y3.length=(bR (jU pt b)).length:=by rw [<- d3.length,LR]
 have e4:y4.length=(bR (hW pt)).length:=by rw [<- d4.length,LR]
 have e5:y5.length=(bR (gP pt)).length:=by rw [<- d5.length,LR]
 generalize XW:eQ pt cl b=tot at post;have XW:tot=(eQ pt cl b).or none:=by rw [XW,Option.or_none]
 refine cZ ⟨_,rfl,r3,rfl,⟨y3,PJ.of ZM⟩,hZ (K:=K) (bR (jU pt b)) (λhs=>(bR (hW pt)).findSome? λnums=>(bR (gP pt)).findSome? λks=>(bR (iY ks b)).findSome? λas=>A9 pt cl b hs nums ks as) (λσ F=>∃ z6 z7 z8 z9 UB:Option V,σ=[some v0,some (.int (b:Int)),some v2,some (.ref r3),some (.ref r4),some (.ref r5),z6,z7,z8,z9,UB]/\Pr H6 F) XW e3 ?_ (λσ F ⟨_,_,_,_,_,_,sF⟩=>PJ.of (sF _ _ ZM)) ?_ ?_⟩
 ·exact ⟨none,none,none,none,none,rfl,Pr.refl _⟩
 ·rintro i6 x6 hs σ F Z7 hh6 ⟨z6,z7,z8,z9,UB,rfl,sF⟩ R6 ht6;have q6:=kh d3 Z7 hh6;have YQ:=Mj hh6;refine eY ?_;dsimp only;refine ⟨_,rfl,r4,rfl,⟨y4,PJ.of (sF _ _ ZN)⟩,hZ (K:=K) (bR (hW pt)) _ (λσ F=>∃ z7 z8 z9 UB:Option V,σ=[some v0,some (.int (b:Int)),some v2,some (.ref r3),some (.ref r4),some (.ref r5),some x6,z7,z8,z9,UB]/\Pr H6 F) ht6 e4 ?_ (λσ F ⟨_,_,_,_,_,sF⟩=>PJ.of (sF _ _ ZN)) ?_ ?_⟩
  ·exact ⟨z7,z8,z9,UB,rfl,sF⟩
  ·rintro i7 x7 nums σ F hx7 hh7 ⟨z7,z8,z9,UB,rfl,sF⟩ R7 ht7;have q7:=kh d4 hx7 hh7;have WM:=Mj hh7;refine eY ?_;dsimp only;refine ⟨_,rfl,r5,rfl,⟨y5,PJ.of (sF _ _ ZH)⟩,hZ (K:=K) (bR (gP pt)) _ (λσ F=>∃ z8 z9 UB:Option V,σ=[some v0,some (.int (b:Int)),some v2,some (.ref r3),some (.ref r4),some (.ref r5),some x6,some x7,z8,z9,UB]/\Pr H6 F) ht7 e5 ?_ (λσ F ⟨_,_,_,_,sF⟩=>PJ.of (sF _ _ ZH)) ?_ ?_⟩
   ·exact ⟨z8,z9,UB,rfl,sF⟩
   ·rintro i8 x8 ks σ F Z8 hh8 ⟨z8,z9,UB,rfl,sF⟩ R8 ht8;have q8:=kh d5 Z8 hh8;have hks:=Mj hh8;refine eY ?_;dsimp only;refine RC.use (K:=K) (fG (R:=vJ) (aA (aB (k:=8) (sF.dat q8)) (aA (aB (k:=1) (Dat.Px (b:Int))) aI)) ⟨ks,b,rfl,by omega,G.ra ks hks,rfl⟩) λra ya Fa na sa hya da=>?_;have ea:ya.length=(bR (iY ks b)).length:=by rw [<- da.length,LR]
    refine ⟨ra,rfl,⟨ya,PJ.of hya⟩,hZ (K:=K) (bR (iY ks b)) _ (λσ F=>∃ z9 UB:Option V,σ=[some v0,some (.int (b:Int)),some v2,some (.ref r3),some (.ref r4),some (.ref r5),some x6,some x7,some x8,z9,UB]/\Pr Fa F) ht8 ea ?_ (λσ F ⟨_,_,_,sF⟩=>PJ.of (sF _ _ hya)) ?_ ?_⟩
    ·exact ⟨z9,UB,rfl,Pr.refl _⟩
    ·rintro i9 x9 as σ F9 hx9 hh9 ⟨z9,UB,rfl,sF9⟩ R9 ht9;have q9:=kh da hx9 hh9;have has:=Mj hh9;refine eY ?_;dsimp only;have sA:=sF.trans (sa.trans sF9);obtain ⟨VP,r,hgo⟩:=G.all hs YQ nums WM ks hks as has;have ek:o4 pt cl b hs nums ks as=o5 (cP as b (U3 hs nums ks pt)) r:=by unfold o4;rw [hgo]
     obtain ⟨k1,k2⟩:=Ba ht9;rw [ek] at k1 k2;refine cF (K:=K) (d:=tY hs nums ks as) (aR (aA (aB (k:=6) (sA.dat q6)) (aA (aB (k:=7) (sA.dat q7)) (aA (aB (k:=8) (sA.dat q8)) (aA (aB (k:=9) (sF9.dat q9)) aI))))) λv10 Ft st qt=>?_;refine fL (b:=!o5 (cP as b (U3 hs nums ks pt)) r) (bX (bH (bE (K:=K) (R:=zT) (aA (aB (k:=0) ((sA.trans st).dat h0)) (aA (aB (k:=10) qt) (aA (aB (k:=1) (Dat.Px (b:Int))) aI))) ⟨nm,pt,cl,hs,nums,ks,as,b,r,rfl,VP,xT _ _ _ hgo,rfl⟩))) (λc Fk sk=>?_) (λc Fk sk=>?_)
     ·rw [k2 (jZ c)] at post;exact bC (K:=K) (d:=tY hs nums ks as) (aB (k:=10) (sk.dat qt)) λv H' s' q=>post v H' (sH6.trans (sA.trans (st.trans (sk.trans s')))) q
     ·exact (show kn _ _ _ from ⟨⟨_,_,rfl,sF9.trans (st.trans sk)⟩,k1 (iL c)⟩)
    ·rintro σ F9 ⟨z9,UB,rfl,sF9⟩ e;exact ⟨⟨_,_,_,rfl,sF.trans (sa.trans sF9)⟩,e⟩
   ·rintro σ F ⟨z8,z9,UB,rfl,sF⟩ e;exact ⟨⟨_,_,_,_,rfl,sF⟩,e⟩
  ·rintro σ F ⟨z7,z8,z9,UB,rfl,sF⟩ e;exact ⟨⟨_,_,_,_,_,rfl,sF⟩,e⟩
 ·rintro σ F ⟨z6,z7,z8,z9,UB,rfl,sF⟩ e;rw [e] at post;exact post _ _ (sH6.trans sF) Dat.W5
noncomputable def zW (ds:List D) (d:D):Prop:=∃ o x y b,ds=[.str o,.int x,.int y,.int b]/\Z2 o/\2<=b/\b<=10000/\0<=x/\x < b/\0<=y/\y < b/\d=.int (two o x y b)
theorem uO (T:Txt P w K mg)  : Ok P w base (k+1) T.IR (Qh K zW):=by
 refine T.IR.f.ok Wi (λvs H Q E h=>?_) (λcdv A outer s H vs Q E hr h=>?_)
 ·obtain ⟨ds,d,hd,⟨o,x,y,b,rfl,_⟩,_⟩:=h;exact hd.length.symm
 have nd:=Wi.nd;obtain ⟨ds,d,hd,⟨o,x,y,b,rfl,ho,hb,hb2,hx,hx2,hy,hy2,rfl⟩,post⟩:=h;obtain ⟨v0,v1,v2,v3,rfl,q0,q1,q2,q3⟩:=As hd;refine ⟨_,(aF (bD (aO cH (pv 0) aN (aV _)) (aH (aQ (bI eE (bI dY (pv 1) (pv 2)) (pv 3)))) aU)
 (aF (bD (aO cH (pv 0) aN (aV _)) (aH (aQ (bI eE (bI wL (pv 1) (pv 2)) (pv 3)))) aU)
 (aF (bD (aO cH (pv 0) aN (aV _)) (aH (aQ (bI eE (bI mZ (pv 1) (pv 2)) (pv 3)))) aU)
 (aH (aQ (dR (aO l9 (pv 1) (pv 2) (aV _)) aG aG)))))),?_⟩
 refine aP (K:=K) (b:=decide (o="add")) (aJ (bF (aB q0) aL)) (λc H1 s1=>?_) (λc H1 s1=>?_)
 ·refine bC (K:=K) (d:=.int (two o x y b)) ?_ λv H' s q=>post v H' (s1.trans s) q;have e:two o x y b=(x+y) % b:=by rw [LS c];rfl
  rw [e];exact gU (dU (aB (s1.dat q1)) (aB (s1.dat q2))) (aB (s1.dat q3)) (by omega)
 have q0:=s1.dat q0;have q1:=s1.dat q1;have q2:=s1.dat q2;have q3:=s1.dat q3;have n1:=Mf c;refine aP (K:=K) (b:=decide (o="sub")) (aJ (bF (aB q0) aL)) (λc H2 s2=>?_) (λc H2 s2=>?_)
 ·refine bC (K:=K) (d:=.int (two o x y b)) ?_ λv H' s q=>post v H' (s1.trans (s2.trans s)) q;have e:two o x y b=(x - y) % b:=by rw [LS c];rfl
  rw [e];exact gU (wW (aB (s2.dat q1)) (aB (s2.dat q2))) (aB (s2.dat q3)) (by omega)
 have q0:=s2.dat q0;have q1:=s2.dat q1;have q2:=s2.dat q2;have q3:=s2.dat q3;have n2:=Mf c;refine aP (K:=K) (b:=decide (o="mul")) (aJ (bF (aB q0) aL)) (λc H3 s3=>?_) (λc H3 s3=>?_)
 ·refine bC (K:=K) (d:=.int (two o x y b)) ?_ λv H' s q=>post v H' (s1.trans (s2.trans (s3.trans s))) q;have e:two o x y b=x * y % b:=by rw [LS c];rfl
  rw [e];exact gU (tE (aB (s3.dat q1)) (aB (s3.dat q2)) (.inr ⟨by omega,by omega⟩)) (aB (s3.dat q3)) (by omega)
 have n3:=Mf c;refine bC (K:=K) (d:=.int (two o x y b)) ?_ λv H' s q=>post v H' (s1.trans (s2.trans (s3.trans s))) q
 have eo:o="less":=by
  rcases ho with h | h | h | h
  ·exact absurd h n1
  ·exact absurd h n2
  ·exact absurd h n3
  ·exact h
 have e:two o x y b=if x < y then 1 else 0:=by rw [eo];rfl
 rw [e];refine jR (b:=decide (x < y)) (aJ (cO (p:=λi j=>decide (i < j)) (aB (s3.dat q1)) (aB (s3.dat q2)))) (λc2=>?_) (λc2=>?_)
 ·rw [Mc (LS c2)];exact aE
 ·rw [LZ (Mf c2)];exact aE
noncomputable def vM (ds es:List D):Prop:=ds=[]/\es=NM.map D.str
theorem qu (T:Txt P w K mg)  : Ok P w base (k+1) T.Ik (iU K vM):=by
 refine T.Ik.f.ok U8 (λvs H Q E h=>?_) (λcdv A outer s H vs Q E hr h=>?_)
 ·obtain ⟨ds,es,hd,⟨rfl,_⟩,_⟩:=h;exact hd.length.symm
 have nd:=U8.nd;obtain ⟨ds,es,hd,⟨rfl,rfl⟩,post⟩:=h;have e0:=hd.Vc;subst e0;refine' ⟨_,?WN,?YK⟩
 case' WN=>refine' aF ?a ?b
 case' a=>refine' bM (i:=0) ?c ?d ?e ?f
 case c=>exact nd
 case d=>exact rfl
 case e=>exact Or.inl rfl
 case' f=>refine' b0 ?g
 case' g=>refine' aD ?h ?i
 case h=>exact aN
 case' i=>refine' aD ?j ?k
 case j=>exact aN
 case' k=>refine' aD ?l ?m
 case l=>exact aN
 case' m=>refine' aD ?n ?o
 case n=>exact aN
 case' o=>refine' aD ?p ?q
 case p=>exact aN
 case' q=>refine' aD ?r ?s
 case r=>exact aN
 case' s=>refine' aD ?t ?u
 case t=>exact aN
 case' u=>refine' aD ?v ?w
 case v=>exact aN
 case' w=>refine' aD ?x ?y
 case x=>exact aN
 case' y=>refine' aD ?z ?aa
 case z=>exact aN
 case' aa=>refine' aD ?ab ?ac
 case ab=>exact aN
 case' ac=>refine' aD ?ad ?ae
 case ad=>exact aN
 case' ae=>refine' aD ?af ?ag
 case af=>exact aN
 case ag=>exact aC
 case' b=>refine' aH ?ah
 case ah=>exact (aQ (bI l8 (pv 0) (b0 (aD aN (aD aN (aD aN (aD aN aC)))))))
 refine gE (K:=K) (cE (aA aL (aA aL (aA aL (aA aL (aA aL (aA aL (aA aL (aA aL (aA aL (aA aL (aA aL (aA aL (aA aL aI)))))))))))))) λl ys H1 hl s1 hy dy=>?_;refine jx (RC.use (K:=K) (mf (cK (k:=0) (LD.of hy dy)) (eT (cE (aA aL (aA aL (aA aL (aA aL aI)))))) (by decide)) λl2 zs H2 hl2 s2 hz dz=>post l2 zs H2 (s1.trans s2) hz (s1.free hl2) ?_);exact dz
noncomputable def Ef (ds:List D) (d:D):Prop:=∃ i:Int,ds=[.int i]/\d=.int (cV i)
theorem pq (T:Txt P w K mg)  : Ok P w base (k+1) T.IT (Qh K Ef):=by
 refine T.IT.f.ok UL (λvs H Q E h=>?_) (λcdv A outer s H vs Q E hr h=>?_)
 ·obtain ⟨ds,d,hd,⟨i,rfl,rfl⟩,_⟩:=h;exact hd.length.symm
 have nd:=UL.nd;obtain ⟨ds,d,hd,⟨i,rfl,rfl⟩,post⟩:=h;obtain ⟨v0,rfl,h0⟩:=hX hd;refine ⟨_,(aF (bD (aO eA (pv 0) (aS (aD aG (aD aG (aD aG (aD aG aC))))) (by with_unfolding_all rfl)) (aH (aQ aG)) aU)
 (aH (aQ (dR (aO eA (pv 0) (aS (aD aG (aD aG (aD aG (aD aG (aD aG aC)))))) (by with_unfolding_all rfl)) aG aG)))),?_⟩
 refine aP (K:=K) (b:=decide (i ∈ ([2,9,11,15]:List Int))) (aJ (pP (ys:=[2,9,11,15]) (aB h0) (aR (aA aE (aA aE (aA aE (aA aE aI))))))) (λc H1 s1=>?_) (λc H1 s1=>?_)
 ·have e:cV i=2:=by unfold cV;rw [Mc (LS c)]
  rw [e] at post;exact bC (K:=K) (d:=.int 2) aE λv H2 s2 q=>post v H2 (s1.trans s2) q
 ·have c:=Mf c;refine bC (K:=K) (d:=.int (cV i)) (jR (b:=decide (i ∈ ([1,3,8,10,12]:List Int))) (aJ (pP (ys:=[1,3,8,10,12]) (aB (s1.dat h0)) (aR (aA aE (aA aE (aA aE (aA aE (aA aE aI)))))))) (λc2=>RE.as aE ?_) (λc2=>RE.as aE ?_)) λv H2 s2 q=>post v H2 (s1.trans s2) q
  ·unfold cV;rw [LZ c,Mc (LS c2)];rfl
  ·unfold cV;rw [LZ c,LZ (Mf c2)];rfl
variable {ds:List D}
theorem BL {k:Nat} (hl:H l=some (.lst ys)) (hd:Pq K H ds ys) (n1:PY ds=true) (dp:PC ds<=20) (hv:σ[k]?=some (some (.ref l)):=by rfl):RE K (S8 (vf K false) (dW k) (B5 dH)) σ H (.bl (QM ds [])):=λH1 s Q q =>
 ⟨_,hv,jg (by decide),λp hp=>by
  have sp:=aT hp (.lst []);exact ⟨l,p,ys,[],ds,[],rfl,rfl,PJ.of (sp _ _ (s _ _ hl)),PJ.of aM,sp.P0 (s.P0 hd),Pq.nil,n1,rfl,dp,q _ _ sp (Dat.UA _)⟩⟩
theorem lP (ds:List D):QM ds []=ds.isEmpty:=by cases ds <;> rfl
theorem Fv {n:Int} (h1:¬ nm="load") (h2:¬ nm="skip") (h3:¬ nm="zero"):kB nm Zb n=n:=by
 unfold kB
 have e:KTD.datumAt nm Zb=none:=by show (if decide (nm="load")=true then _ else if decide (nm="skip")=true then _ else if decide (nm="zero")=true then _ else _)=_;rw [LZ (by simp [h1]),LZ (by simp [h2]),LZ (by simp [h3])];rfl
 rw [e]
theorem B9 (h1:¬ nm="load") (h2:¬ nm="skip") (h3:¬ nm="zero"):oh nm n=false:=by unfold oh;rw [Fv h1 h2 h3];exact LY (by omega)
theorem B8:oh "load" n=decide (3 < n):=by unfold oh;rw [show kB "load" Zb n=3 by kernel_rfl];exact lN (by omega)
theorem vw (h:RE K te σ G d) (hl:G l=some (.lst xs)) (hx:xs.length<=900)
  (q:∀ y G',PX l G G'->G' l=some (.lst (xs++[y]))->Dat K G' d y->En.nx σ G') (hv:σ[j]?=some (some (.ref l)):=by rfl):nM (Zv K "list" jJ (dW j) (bO te dH)) En σ G :=
 jf (us:=kn) h hl hx q hv
noncomputable def BZ (K:W.Frag):Sp:=λvs H Q _=>∃ (nm:Str) (num:Nat) (lp:Addr) (vg:V) (mc:MC) (st:MS),vs=[.str nm,.int num,.ref lp,vg,.int mc.b]/\nm ∈ YO/\H lp=some (.lst (pV st.pile))/\Dat K H (.tup (mc.as.map D.int)) vg/\wB mc/\iZ mc st /\
 (∀ s,Ye mc nm num st=some s->∀ H',PX lp H H'->H' lp=some (.lst (pV s.pile))->Q (.bl true) H')/\(Ye mc nm num st=none->∀ H' zs,PX lp H H'->H' lp=some (.lst zs)->Q (.bl false) H')
theorem BE {z:V} (hl:H l=some (.lst (ys++[z]))) (q:Q z (upd H l (.lst ys))) (e:σ[j]?=some (some (.ref l)):=by rfl):Fo K "list" Bx (dW j) σ H Q :=
 ⟨_,e,.inl ⟨rfl,_,PJ.of hl⟩,l,_,z,rfl,rfl,hl,by simp,by rw [OW];exact q⟩
theorem jd {n:Int} {st:MS} (h:st.pile.length≠64):bZ mc n st=some { st with pile:=n % mc.b::st.pile }:=by unfold bZ;rw [LZ h]
theorem yr {n:Int} {st:MS} (h:st.pile.length=64):bZ mc n st=none:=by unfold bZ;rw [Mc h]
theorem fW {st:MS} {x:Int} (h:st.pile=x::r):eJ st=some (x,{ st with pile:=r }):=by unfold eJ;rw [h]
theorem o8 {x:Int} (h0:0<=x) (h1:x < b):x % b=x:=Int.emod_eq_of_lt h0 h1
theorem sy (T:Txt P w K mg) (Kp:Ok P w base k T.IR (Qh K zW)):Ok P w base (k+1) T.JP (BZ K):=by
 refine T.JP.f.ok Vy (λvs H Q E h=>?_) (λcdv A outer s H vs Q E hr h=>?_)
 ·obtain ⟨nm,num,lp,vg,mc,st,rfl,_⟩:=h;rfl
 have nd:=Vy.nd;obtain ⟨nm,num,lp,vg,mc,st,rfl,hss,hp,hg,oc,os,ok,bad⟩:=h;refine ⟨_,(aF (bD (aO eA (pv 0) (aS (aD aN (aD aN (aD aN aC)))) (by with_unfolding_all rfl)) (aF (bD (PW.pt (iC (aO pE (a9 aZ rfl T.GQ cC (aD (pv 2) aC)) aG (aV _)) (fT (PW.pt (sZ (aO cH (pv 0) aN (aV _)) (oB (aO pE (pv 1) aG (aV _)))))))) (aH (aQ eM)) aU)
 (aH (bK (eU Mn Mz MD bU (pv 2) (aD (dR (aO cH (pv 0) aN (aV _)) (bB aW (pv 3) (pv 1)) (bI eE (pv 1) (pv 4))) aC))))) (aH (bD (aO eA (pv 0) (aS (aD aN (aD aN aC))) (by with_unfolding_all rfl)) (aF (bD (PW.pt (iC (aO (sR hr) (pv 2) (b0 aC) (aV _)) (fT (PW.pt (sZ (aO cH (pv 0) aN (aV _)) (oB (aO pE (a9 aZ rfl T.GQ cC (aD (pv 2) aC)) aG (aV _)))))))) (aH (aQ eM)) aU)
 (aH (bK (eU Mn Mz MD bU (pv 2) (aD (dR (aO cH (pv 0) aN (aV _)) (bB PZ (pv 2) (DU Cf aG)) (bI eE (bI dY (pH Mn N2 Ow o9 (pv 2)) (pv 1)) (pv 4))) aC))))) (aF (bD (aO l9 (a9 aZ rfl T.GQ cC (aD (pv 2) aC)) aG (aV _)) (aH (aQ eM)) aU)
 (aF (wO (i:=5) (j:=6) rfl nd rfl rfl (by decide) rfl rfl (aD (pH Mn N2 Ow o9 (pv 2)) (aD (pH Mn N2 Ow o9 (pv 2)) aC)) (by kernel_rfl))
 (aH (bD (aO cH (pv 0) aN (aV _)) (aH (bK (eU Mn Nt NO gR (pv 2) (aD (b0 (aD (pv 5) (aD (pv 6) aC))) aC)))) (aH (bK (eU Mn Mz MD bU (pv 2) (aD (pc (D:=T.IR) Kp hr (aD (pv 0) (aD (pv 6) (aD (pv 5) (aD (pv 4) aC))))) aC)))))))))))
 (aH (aQ eM))),?_⟩
 have b2:=oc.b2;have l64:=os.l;have ll:=sW st.pile;have LP:∀ {G:Hp},G lp=some (.lst (pV st.pile))->LD K G (st.pile.reverse.map D.int) (.ref lp):=λh=>LD.of h (eP _);refine cZ (RT.use (b:=decide (nm ∈ (["put","far","load"]:List Str))) (aJ (iR (ys:=["put","far","load"]) (aB (K:=K) (k:=0) (Dat.Rb nm)) (aR (aA aL (aA aL (aA aL aI)))))) λH1 s1=>?_);have hp1:=s1 _ _ hp;by_cases cA:nm ∈ (["put","far","load"]:List Str)
 ·rw [Mh cA]
  have et:oh nm num=(decide (nm="load") && decide ((3:Int) < num)):=by
   by_cases hz:nm="load"
   ·subst hz;rw [B8,Mh (rfl:("load":Str)="load"),Nk];exact lN (by omega)
   ·rw [B9 hz (λz=>by rw [z] at cA;revert cA;decide +kernel) (λz=>by rw [z] at cA;revert cA;decide +kernel),LY hz];rfl
  have ew:eW mc nm num st=bZ mc (if nm="load" then mc.as.getD num 0 else num) st:=by
   unfold eW;by_cases hz:nm="load"
   ·rw [LZ (by rw [hz];decide +kernel),Mc hz,Mc hz]
   ·rw [Mc (by rcases Mm.mp cA with z | z;rw [z];exact Mw;rcases Mm.mp z with z | z;rw [z];exact Mt _ Mw;exact absurd (Mv.mp z) hz),LZ hz]
  refine jG (aP (K:=K) (b:=decide (st.pile.length=64) || (decide (nm="load") && decide ((3:Int) < num))) (eI (RT.as (aJ (cO (p:=λi j=>decide (j < i)) (eO (cK (k:=2) (LP hp1))) aE)) (lN (by rw [LR,MO];omega))) λ_=>k8 (aJ (bF (aB (K:=K) (k:=0) (Dat.Rb nm)) aL)) λ_=>aJ (cO (p:=λi j=>decide (j < i)) (aB (K:=K) (k:=1) (Dat.Px (num:Int))) aE)) (λc H2 s2=>?_) (λc H2 s2=>?_))
  ·refine bad ?_ H2 _ (s1.trans s2).but (s2 _ _ hp1);unfold Ye;rw [et]
   cases hz:(decide (nm="load") && decide ((3:Int) < num)) with
   | true=>rfl
   | false =>rw [hz,Bool.or_false] at c;rw [LZ L6,ew,yr (LS c)]
  ·rw [Nz] at c;have nl:=Mf c.1
   have ed:Ye mc nm num st=some { st with pile:=(if nm="load" then mc.as.getD num 0 else (num:Int) % mc.b)::st.pile }:=by
    unfold Ye;rw [et,c.2,LZ L6,ew,jd nl];by_cases hz:nm="load"
    ·rw [Mc hz,Mc hz]
     have h3:num<=3:=by rw [Mh hz,Nk] at c;have:=Mf c.2;omega
     have hm:=oc.ai (mc.as.getD num 0) (by
      rw [Ml,LQ (by have:=oc.as;omega:num < mc.as.length)];exact OJ _)
     rw [o8 hm.1 hm.2]
    ·rw [LZ hz,LZ hz]
   refine vw (K:=K) (d:=.int (if nm="load" then mc.as.getD num 0 else (num:Int) % mc.b)) (jR (b:=decide (nm="load")) (aJ (bF (aB (K:=K) (k:=0) (Dat.Rb nm)) aL)) (λcz=>?_) (λcz=>?_)) (s2 _ _ hp1) (by omega) λy G b hG dy=>?_
   ·have cz:=LS cz;rw [Mc cz]
    have h3:num<=3:=by rw [Mh cz,Nk] at c;have:=Mf c.2;omega
    have la:=oc.as
    exact a7 (k:=num) (aB (k:=3) ((s1.trans s2).dat hg)) (aB (k:=1) (Dat.Px (num:Int))) (by
     rw [LV,LQ (by omega:num < mc.as.length),Ml,LQ (by omega:num < mc.as.length)];rfl)
   ·rw [LZ (Mf cz)];exact gU (aB (k:=1) (Dat.Px (num:Int))) (aB (k:=4) (Dat.Px mc.b)) (by omega)
   ·rw [dy.Pz] at hG;exact ok _ ed G ((s1.trans s2).but.trans b) (by rw [fQ];exact hG)
 rw [LY cA];have et:oh nm num=false:=B9 (λz=>cA (by rw [z];decide +kernel)) (λz=>by rw [z] at hss;revert hss;decide +kernel) (λz=>by rw [z] at hss;revert hss;decide +kernel)
 have ew:Ye mc nm num st=(eJ st).bind λu =>
  if nm="more" then bZ mc (u.1+num) u.2
  else if nm="twice" then (bZ mc u.1 u.2).bind λs=>bZ mc u.1 s
  else if nm="about" then (eJ u.2).bind λl=>(bZ mc u.1 l.2).bind λs=>bZ mc l.1 s
  else (eJ u.2).bind λl=>bZ mc (two nm l.1 u.1 mc.b) l.2:=by
  unfold Ye eW;rw [et,LZ L6,LZ (λz=>cA (by rcases Mm.mp z with z | z;rw [z];exact Mw;rw [Mv.mp z];decide +kernel)),LZ (λz=>cA (by rw [z];decide +kernel))]
 rw [ew] at ok bad;refine ji (RT.use (b:=decide (nm ∈ (["more","twice"]:List Str))) (aJ (iR (ys:=["more","twice"]) (aB (K:=K) (k:=0) (Dat.Rb nm)) (aR (aA aL (aA aL aI))))) λH2 s2=>?_);have hp2:=s2 _ _ hp1;have s12:=s1.trans s2;by_cases cB:nm ∈ (["more","twice"]:List Str)
 ·rw [Mh cB];have hn:=BL (K:=K) (k:=2) (σ:=gI ["_law_name","_law_number","_law_pile","_law_args_here","_law_base","_law_other","_law_one"] [.str nm,.int num,.ref lp,vg,.int mc.b]) hp2 (eP st.pile.reverse) (fE _) (by rw [cW];decide);rw [lP] at hn;refine jG (aP (K:=K) (b:=(st.pile.reverse.map D.int).isEmpty || (decide (nm="twice") && decide (st.pile.length=64))) (eI (aJ hn) λ_=>k8 (aJ (bF (aB (K:=K) (k:=0) (Dat.Rb nm)) aL)) λ_=>RT.as (aJ (cO (p:=λi j=>decide (j < i)) (eO (cK (k:=2) (LP hp2))) aE)) (lN (by rw [LR,MO];omega))) (λc H3 s3=>?_) (λc H3 s3=>?_))
  ·refine bad ?_ H3 _ (s12.trans s3).but (s3 _ _ hp2)
   cases hq:st.pile with
   | nil=>unfold eJ;rw [hq];rfl
   | cons x r =>
    rw [hq] at c;have e0:((x::r).reverse.map D.int).isEmpty=false:=by simp
    rw [e0,NF,LW] at c;have ct:=LS c.1;have cl:r.length+1=64:=LS c.2;rw [fW hq,MZ,LZ (by rw [ct];decide +kernel),Mc ct,jd (by show r.length≠64;omega),MZ,yr (by show r.length+1=64;exact cl)]
  ·rw [Nz] at c
   obtain ⟨x,r,hx⟩:∃ x r,st.pile=x::r:=by
    cases hq:st.pile with
    | nil=>rw [hq] at c;exact nomatch c.1
    | cons x r=>exact ⟨x,r,rfl⟩
   have xb:=os.p x (by rw [hx];exact Mw);have rl:r.length+1<=64:=by rw [hx] at l64;exact l64
   have hp3:H3 lp=some (.lst (pV r++[.int x])):=by rw [<- fQ,<- hx];exact s3 _ _ hp2
   have Rz:=s12.trans s3;have lr:=sW r;refine ⟨_,rfl,.inl ⟨rfl,_,PJ.of hp3⟩,RT.use (b:=decide (nm="twice")) (aJ (bF (aB (K:=K) (k:=0) (Dat.Rb nm)) aL)) λH4 s4=>?_⟩;have hp4:=s4 _ _ hp3;by_cases ct:nm="twice"
   ·rw [Mh ct]
    have c64:r.length+1≠64:=by rw [Mh ct,Nk,hx] at c;exact Mf c.2
    refine jG (RE.use (qZ (d:=.int x) (ds:=r.reverse.map D.int) (cK (K:=K) (k:=2) (LD.of hp4 (Pq.append (eP r.reverse) (Pq.cons (Dat.Px x) Pq.nil)))) (D0 aE)) λv H5 s5 qv=>?_);rw [qv.Pz];refine ⟨lp,_,_,rfl,rfl,s5 _ _ hp4,dJ (by rw [Ma];show (pV r).length+1<=1000;omega),?_⟩;refine ok { st with pile:=x::x::r } ?_ _ ((Rz.trans (s4.trans s5)).but.trans (PX.upd (Pr.refl _).but)) (by rw [aM,fQ,fQ]);rw [fW hx,MZ,LZ (by rw [ct];decide +kernel),Mc ct,jd (by show r.length≠64;omega),MZ,jd (by show r.length+1≠64;exact c64),o8 xb.1 xb.2]
   ·rw [LY ct]
    have cm:nm="more":=by
     rcases Mm.mp cB with z | z
     ·exact z
     ·exact absurd (Mv.mp z) ct
    refine ji (BE hp4 ⟨_,rfl,x,num,rfl,rfl,_,rfl,x+num,mc.b,rfl,rfl,by show 0 < mc.b;omega,lp,pV r,_,rfl,rfl,aM,dJ (by omega),?_⟩);refine ok { st with pile:=(x+num) % mc.b::r } ?_ _ ((Rz.trans s4).but.trans (PX.upd (PX.upd (Pr.refl _).but))) (by rw [aM,fQ]);rw [fW hx,MZ,Mc cm,jd (by show r.length≠64;omega)]
 rw [LY cB];have nm1:¬ nm="more":=λz=>cB (by rw [z];decide +kernel);have nm2:¬ nm="twice":=λz=>cB (by rw [z];decide +kernel);refine ji (aP (K:=K) (b:=decide (st.pile.length < 2)) (RT.as (aJ (cO (p:=λi j=>decide (i < j)) (eO (cK (k:=2) (LP hp2))) aE)) (lN (by rw [LR,MO];omega))) (λc H3 s3=>?_) (λc H3 s3=>?_))
 ·have c:=LS c;refine bad ?_ H3 _ (s12.trans s3).but (s3 _ _ hp2)
  match hq:st.pile,c with
  | [],_=>unfold eJ;rw [hq];rfl
  | [x],_ =>rw [fW hq,MZ,LZ nm1,LZ nm2];have e:eJ { st with pile:=[] }=none:=rfl;split <;> (rw [e];rfl)
  | _::_::_,c=>exact absurd c (by simp)
 ·have c:=Mf c
  obtain ⟨u,l,r,hx⟩:∃ u l r,st.pile=u::l::r:=by
   match hq:st.pile,c with
   | [],c=>exact absurd c (by simp)
   | [x],c=>exact absurd c (by simp)
   | u::l::r,_=>exact ⟨u,l,r,rfl⟩
  have ub:=os.p u (by rw [hx];exact Mw);have lb:=os.p l (by rw [hx];exact Mt _ Mw);have rl:r.length+2<=64:=by rw [hx] at l64;exact l64
  have lr:=sW r;have Rz:=s12.trans s3;have hp3:H3 lp=some (.lst ((pV r++[.int l])++[.int u])):=by rw [<- fQ,<- fQ,<- hx];exact s3 _ _ hp2
  refine BE hp3 (BE aM ⟨_,_,rfl,?_⟩);generalize e5:upd (upd H3 lp _) lp (.lst (pV r))=H5;have hp5:H5 lp=some (.lst (pV r)):=by rw [<- e5];exact aM
  have b5:PX lp H H5:=by rw [<- e5];exact Rz.but.trans (PX.upd (PX.upd (Pr.refl _).but))
  refine RT.use (b:=decide (nm="about")) (aJ (bF (aB (K:=K) (k:=0) (Dat.Rb nm)) aL)) λH6 s6=>?_;have hp6:=s6 _ _ hp5;have b6:=b5.trans s6.but;by_cases ca:nm="about"
  ·rw [Mh ca];refine jG ⟨_,rfl,.inl ⟨rfl,_,PJ.of hp6⟩,_,rfl,_,rfl,jg (show 2<=1000 by decide),λlb2 nb=>?_⟩;have nlb:lp≠lb2:=λz=>by rw [<- z,hp6] at nb;cases nb
   refine ⟨lp,lb2,_,_,rfl,rfl,by rw [aX nlb];exact hp6,aM,jg (by show (pV r).length+2<=1000;omega),?_⟩;refine ok { st with pile:=l::u::r } ?_ _ ((b6.trans (aT nb _).but).trans (PX.upd (Pr.refl _).but)) (by rw [aM,fQ,fQ,NB];rfl);rw [fW hx,MZ,LZ nm1,LZ nm2,Mc ca,fW (st:={ st with pile:=l::r }) rfl,MZ,jd (by show r.length≠64;omega),MZ,jd (by show r.length+1≠64;omega),o8 ub.1 ub.2,o8 lb.1 lb.2]
  ·rw [LY ca]
   have Z2:Z2 nm:=by
    have h:=hss;simp only [YO,Mm,Nc,Oi] at h;rcases h with h | h | h | h | h | h | h | h | h | h
    ·exact absurd (by rw [h];decide +kernel) cA
    ·exact absurd (by rw [h];decide +kernel) cA
    ·exact absurd (by rw [h];decide +kernel) cA
    ·exact .inl h
    ·exact .inr (.inl h)
    ·exact .inr (.inr (.inl h))
    ·exact .inr (.inr (.inr h))
    ·exact absurd h nm1
    ·exact absurd h nm2
    ·exact absurd h ca
   have tw:=Cc (o:=nm) (x:=l) (y:=u) b2;refine ji (vw (K:=K) (d:=.int (two nm l u mc.b)) (bE (R:=zW) (aA (aB (k:=0) (Dat.Rb nm)) (aA (aB (k:=6) (Dat.Px l)) (aA (aB (k:=5) (Dat.Px u)) (aA (aB (k:=4) (Dat.Px mc.b)) aI)))) ⟨nm,l,u,mc.b,rfl,Z2,b2,oc.b9,lb.1,lb.2,ub.1,ub.2,rfl⟩) hp6 (by omega) λy G b hG dy=>?_);rw [dy.Pz] at hG;refine ok { st with pile:=two nm l u mc.b::r } ?_ G (b6.trans b) (by rw [fQ];exact hG);rw [fW hx,MZ,LZ nm1,LZ nm2,LZ ca,fW (st:={ st with pile:=l::r }) rfl,MZ,jd (by show r.length≠64;omega),o8 tw.1 tw.2]
theorem BU:RL K (gJ (iU K vM) [] E dH) σ H (NM.map D.str):=eT λH1 s Q q=>⟨[],_,Pq.nil,⟨rfl,rfl⟩,λr us H' s' h n d=>q r us H' n s' h d⟩
noncomputable def kH:Nat->List Int->List Int
 | _,[]=>[]
 | i,c::r=>c * ([1,100].getD i 0)::kH (i+1) r
theorem vb:∀ (i:Nat) (ns:List Int),(kH i ns).length=ns.length
 | _,[]=>rfl
 | i,c::r=>by rw [kH,L5,L5,vb]
theorem uZ:∀ (ns:List Int) (i k:Nat),(kH i ns)[k]?=ns[k]?.map λc=>c * ([1,100].getD (i+k) 0)
 | [],_,_=>by simp [kH]
 | c::r,i,0=>by simp [kH]
 | c::r,i,k+1=>by
  rw [kH,List.getElem?_cons_succ,List.getElem?_cons_succ,uZ r (i+1) k];congr 2
  funext c
  rw [show i+1+k=i+(k+1) by omega]
theorem Bp:ns.length<=2->(kH 0 ns).sum=uL ns:=by
 intro h
 match ns,h with
 | [],_=>rfl
 | [a],_=>show a * 1+0=(0:Int) * 100+a;omega
 | [a,b],_=>show a * 1+(b * 100+0)=((0:Int) * 100+b) * 100+a;omega
theorem oE (h:RE K te σ G d) (hl:G l=some (.lst xs)) (hx:xs.length<=900)
  (q:∀ y G',PX l G G'->G' l=some (.lst (xs++[y]))->Dat K G' d y->En.nx σ G') (hv:σ[j]?=some (some (.ref l)):=by rfl):nM (Zv K "list" jJ (dW j) (bO te dH)) En σ G:=by
 refine ⟨_,hv,.inl ⟨rfl,_,PJ.of hl⟩,h.use λy H1 s1 q1=>?_⟩;have hl1:=s1 _ _ hl;refine ⟨l,xs,y,rfl,rfl,hl1,dJ (by omega),?_⟩;have b:PX l H1 (upd H1 l (.lst (xs++[y]))):=PX.upd (Pr.refl _).but;exact q y _ (s1.but.trans b) aM (Dat.mono (b.grow hl1 aM) _ q1)
theorem E5 {tb:TS} (h:te σ H λx H1=>∃ a,x=.ref a/\(∃ xs,QE K H1 a xs)/\∃ W:Nat->Nat->L2.St->Hp->Prop,(∃ m,W 0 m σ H1)/\∀ i m σ H,W i m σ H ->
   ((Yx K a).stop i H/\En.nx σ H)\/((Yx K a).go i H/\∃ N:L2.St->Hp->Prop,(∀ σ' H',N σ' H'->∃ m',m' < m/\W (i+1) m' σ' H')/\∀ x H',(Yx K a).Vs i H x H'->g x σ H' λσ2 H2=>tb { En with nx:=N,ct:=N,bk:=En.nx } σ2 H2)):Gb (y9 K te) g tb En σ H:=h
noncomputable def vL (ds es:List D):Prop:=∃ (cl:List Cl) (nums ks:List Int),ds=[.tup (cl.map U4),.tup (nums.map D.int),.tup (ks.map D.int)]/\(∀ c ∈ cl,oQ nums.length ks.length c=true)/\cl.length<=12/\es=cl.map λc=>D.int (eF nums ks c)
theorem sE (T:Txt P w K mg)  : Ok P w base (k+1) T.JQ (iU K vL):=by
 refine T.JQ.f.ok Vz (λvs H Q E h=>?_) (λcdv A outer s H vs Q E hr h=>?_)
 ·obtain ⟨ds,es,hd,⟨cl,nums,ks,rfl,_⟩,_⟩:=h;exact hd.length.symm
 have nd:=Vz.nd;obtain ⟨ds,es,hd,⟨cl,nums,ks,rfl,UD,lc,rfl⟩,post⟩:=h;obtain ⟨v0,v1,v2,rfl,h0,h1,h2⟩:=nA hd;have h0:Dat K H (.tup (cl.map U4)) v0:=h0;have h1:Dat K H (.tup (nums.map D.int)) v1:=h1;have h2:Dat K H (.tup (ks.map D.int)) v2:=h2;obtain ⟨a,us,rfl,ha,Zx⟩:=h0.P7;have lu:=Zx.length;rw [LR] at lu;refine ⟨_,(aF (bM (i:=3) nd rfl (Or.inl rfl) (b0 aC))
 (aF (fS MJ rfl (m4 (pv 0)) (aY (i:=4) nd rfl (Or.inl rfl)) (aH (bD (dS (bT (a9 (fB j5) rfl T.GJ cR (dA (pv 4) (dA (f9 (v:=.ty "tuple") rfl T.Jq hV rfl) aC))) (λ_=>rfl))) (aH (bK (eU Mn Mz MD bU (pv 3) (aD (pv 4) aC)))) (aH (bD (aO cH (bB aW (pv 4) aG) aN (aV _)) (aH (bK (eU Mn Mz MD bU (pv 3) (aD (bB aW (pv 2) (bB aW (pv 4) aG)) aC)))) (aH (bK (eU Mn Mz MD bU (pv 3) (aD (dR (aO cH (bB aW (pv 4) aG) aN (aV _)) (bI eE (bB aW (pv 1) (bB aW (pv 4) aG)) aG) (bI oy (bB aW (pv 1) (bB aW (pv 4) aG)) aG)) aC)))))))))
 (aH (aQ (pv 3))))),?_⟩
 refine gW ⟨jg (by decide),λl hl=>?_⟩;have s1:Pr H (upd H l (.lst [])):=aT hl _;refine cZ (E5 (K:=K) ⟨_,rfl,a,rfl,⟨us,s1.YM ha⟩,xS (xs:=us) (λi σ G=>∃ (z:Option V) (ys:List V),σ=[some (.ref a),some v1,some v2,some (.ref l),z]/\Pr H G/\G l=some (.lst ys)/\Pq K G ((cl.take i).map λc=>D.int (eF nums ks c)) ys) ?_ (λi σ G _ ⟨_,_,_,p,_⟩=>p.YM ha) ?_ ?_⟩)
 ·exact ⟨none,[],rfl,s1,aM,by rw [M5];exact Pq.nil⟩
 ·rintro i vx σ G hi ⟨z,ys,rfl,sG,ZO,dy⟩;obtain ⟨dx,ex,hx⟩:=(sG.P0 Zx).WD hi;rw [LV] at ex
  cases hc:cl[i]? with
  | none=>rw [hc] at ex;cases ex
  | some c =>
   rw [hc] at ex;cases ex;have UD:=UD c (Mj hc);have et:cl.take (i+1)=cl.take i++[c]:=by rw [MP,hc];rfl
   have lys:ys.length<=12:=by rw [<- dy.length,LR,Mx];omega
   refine eY ?_;dsimp only
   have fin:∀ {G1 G2:Hp} {y:V} {b:Option V},Pr G G1->PX l G1 G2->G2 l=some (.lst (ys++[y]))->Dat K G2 (.int (eF nums ks c)) y->∃ (z:Option V) (ys:List V),[some (.ref a),some v1,some v2,some (.ref l),b]=[some (.ref a),some v1,some v2,some (.ref l),z]/\Pr H G2/\G2 l=some (.lst ys)/\Pq K G2 ((cl.take (i+1)).map λc=>D.int (eF nums ks c)) ys:=λ{G1 G2 y b} s1 b2 h2 q2=>by have g2:fA K G1 G2:=b2.grow (s1 _ _ ZO) h2;refine ⟨_,ys++[y],rfl,λx o hx=>b2 x o (bS hx hl) (s1 _ _ (sG _ _ hx)),h2,?_⟩;rw [et,MM];exact Pq.append (Pq.mono g2 _ (s1.P0 dy)) (Pq.cons q2 Pq.nil)
   cases c with
   | n j =>have hx:Dat K G (.int j) vx:=hx;refine fL (b:=true) (bX (bH (cJ (K:=K) (aB (k:=4) hx)))) (λ_ G1 s1=>?_) (λc=>nomatch c);exact oE (K:=K) (d:=.int j) (aB (k:=4) (s1.dat hx)) (s1 _ _ ZO) (by omega) λy G2 b2 h2 q2=>fin s1 b2 h2 q2
   | arg j =>have hx:Dat K G (.tup [.str "arg",.int j]) vx:=hx;have UD:=LS UD;refine fL (b:=false) (bX (bH (cJ (K:=K) (aB (k:=4) hx)))) (λc=>nomatch c) (λ_ G1 s1=>?_);have hx:=s1.dat hx;refine fL (b:=true) (RT.as (aJ (bF (a7 (k:=0) (aB (k:=4) hx) aE rfl) aL)) (Mh rfl)) (λ_ G2 s2=>?_) (λc=>nomatch c);have s12:=s1.trans s2;exact oE (K:=K) (d:=.int (ks.getD j 0)) (a7 (k:=j) (aB (k:=2) ((sG.trans s12).dat h2)) (a7 (k:=1) (aB (k:=4) (s2.dat hx)) aE rfl) (fF UD)) (s12 _ _ ZO) (by omega) λy G3 b3 h3 q3=>fin s12 b3 h3 q3
   | low j =>have hx:Dat K G (.tup [.str "low",.int j]) vx:=hx;have UD:=LS UD;refine fL (b:=false) (bX (bH (cJ (K:=K) (aB (k:=4) hx)))) (λc=>nomatch c) (λ_ G1 s1=>?_);have hx:=s1.dat hx;refine fL (b:=false) (RT.as (aJ (bF (a7 (k:=0) (aB (k:=4) hx) aE rfl) aL)) (LY (by decide +kernel))) (λc=>nomatch c) (λ_ G2 s2=>?_);have s12:=s1.trans s2;have hx:=s2.dat hx;refine oE (K:=K) (d:=.int (nums.getD j 0 % 100)) (jR (b:=true) (RT.as (aJ (bF (a7 (k:=0) (aB (k:=4) hx) aE rfl) aL)) (Mh rfl)) (λ_=>gU (a7 (k:=j) (aB (k:=1) ((sG.trans s12).dat h1)) (a7 (k:=1) (aB (k:=4) hx) aE rfl) (fF UD)) aE (by decide)) (λc=>nomatch c)) (s12 _ _ ZO) (by omega) λy G3 b3 h3 q3=>fin s12 b3 h3 q3
   | high j =>have hx:Dat K G (.tup [.str "high",.int j]) vx:=hx;have UD:=LS UD;refine fL (b:=false) (bX (bH (cJ (K:=K) (aB (k:=4) hx)))) (λc=>nomatch c) (λ_ G1 s1=>?_);have hx:=s1.dat hx;refine fL (b:=false) (RT.as (aJ (bF (a7 (k:=0) (aB (k:=4) hx) aE rfl) aL)) (LY (by decide +kernel))) (λc=>nomatch c) (λ_ G2 s2=>?_);have s12:=s1.trans s2;have hx:=s2.dat hx;refine oE (K:=K) (d:=.int (nums.getD j 0 / 100)) (jR (b:=false) (RT.as (aJ (bF (a7 (k:=0) (aB (k:=4) hx) aE rfl) aL)) (LY (by decide +kernel))) (λc=>nomatch c) (λ_=>yA (a7 (k:=j) (aB (k:=1) ((sG.trans s12).dat h1)) (a7 (k:=1) (aB (k:=4) hx) aE rfl) (fF UD)) aE ⟨by decide,by decide⟩)) (s12 _ _ ZO) (by omega) λy G3 b3 h3 q3=>fin s12 b3 h3 q3
 ·rintro σ G ⟨z,ys,rfl,sG,ZO,dy⟩;rw [<- lu,MY] at dy;exact ⟨_,rfl,post l ys G sG ZO hl dy⟩
theorem zH (rows:List (List Int)) (c:List Int):(iV rows c).length=rows.length * c.length:=by
 unfold iV
 induction rows with
 | nil=>simp
 | cons r rows ih=>rw [N7,Ma,ih,LR,L5,Pp];omega
theorem xm (rows:List (List Int)) (r c:List Int):iV (rows++[r]) c=iV rows c++c.map λx=>r++[x]:=by unfold iV;rw [OZ];simp
theorem sJ (T:Txt P w K mg)  : Ok P w base (k+1) T.Ig (jP K):=by
 refine T.Ig.f.ok VA (λvs H Q E h=>?_) (λcdv A outer s H vs Q E hr h=>?_)
 ·obtain ⟨a,us,css,rfl,_⟩:=h;rfl
 have nd:=VA.nd;obtain ⟨a,us,css,rfl,hq,hL,⟨h20,hok⟩,post⟩:=h;refine ⟨_,(aF (bM (i:=1) nd rfl (Or.inl rfl) (b0 (aD (aS aC) aC)))
 (aF (fS MJ rfl (cU (pv 0)) (aY (i:=2) nd rfl (Or.inl rfl)) (aF (bM (i:=3) nd rfl (Or.inl rfl) (b0 aC))
 (aF (fS MJ rfl (cU (pv 1)) (aY (i:=4) nd rfl (Or.inr rfl)) (aH (bK (eU PySem.F.plainAttrs_list PySem.F.slot_list_extend PySem.F.type_list_extend gR (pv 3) (aD (dZ (own:=["_law_one"]) (fr:=[4]) (N':=["_law_one","_law_row"]) (cU (pv 2)) rfl (by show dX ["_law_choices","_law_made","_law_some","_law_longer","_law_row"] (λx=>(aK kj).names.lookup x) _ _ _ _=true;decide +kernel) rfl (λ_ _ _ _ _=>(aY (i:=0) (by show List.Nodup [("_law_one":Str),("_law_row":Str)];decide +kernel) rfl (Or.inl rfl))) (λ_ _ _ _ _=>cX) (λ_ _ _ _ _=>(bI (r:=ve K) sQ (pv 1) (aS (aD (pv 0) aC))))) aC)))))
 (aH (bM (i:=1) nd rfl (Or.inl rfl) (pv 3))))))
 (aH (aQ (pv 1))))),?_⟩
 have ll:=hL.length;rw [LR] at ll;refine gE (K:=K) (es:=[.tup []]) (cE (aA (aR aI) aI)) λl ys H1 nl s1 hy dy=>?_;refine cZ ⟨_,rfl,a,rfl,⟨us,s1.seq hq⟩,lQ (K:=K) (a:=a) (xs:=us) (λi σ G=>∃ (z2 z3 z4:Option V) (l:Addr) (ys:List V),σ=[some (.ref a),some (.ref l),z2,z3,z4]/\Pr H G/\H l=none/\G l=some (.lst ys)/\Pq K G ((bR (css.take i)).map tI) ys) ?_ ?_ ?_ ?_⟩
 ·exact ⟨none,none,none,l,ys,rfl,s1,nl,hy,dy⟩
 ·rintro i σ G hi ⟨z2,z3,z4,l,ys,rfl,sG,nl,hy,dy⟩;exact sG.seq hq
 ·rintro i x σ G hx ⟨z2,z3,z4,l,ys,rfl,sG,nl,hy,dy⟩;have hi:i < us.length:=(Mg.mp hx).1;have hic:i < css.length:=by omega
  obtain ⟨v,hv,Z3⟩:=(sG.ZC hL).get (i:=i) (es:=css[i].map D.int) (by rw [LV,LQ hic];rfl);rw [hx] at hv;cases hv;have eg:css.getD i []=css[i]:=by rw [Ml,LQ hic];rfl
  have hm:=hok i hic;rw [eg] at hm;have et:bR (css.take (i+1))=iV (bR (css.take i)) css[i]:=by rw [MP,LQ hic];exact rq _ _
  have lr:∀ r ∈ bR (css.take i),r.length<=20:=λr hr=>by have:=iA _ r hr;rw [Mx] at this;omega
  generalize bR (css.take i)=rows at dy hm et lr;generalize css[i]=ci at Z3 hm et;have ly:=dy.length;rw [LR] at ly;refine eY ?_;dsimp only;refine gE (K:=K) (es:=[]) (cE aI) λl2 ys2 G1 nl2 t1 hy2 dy2=>?_;obtain rfl:=dy2.Vc;refine cZ ⟨_,rfl,l,rfl,⟨ys,PJ.of (t1 _ _ hy)⟩,lQ (K:=K) (a:=l) (xs:=ys) (λj σ F=>∃ (z4:Option V) (zs:List V),σ=[some (.ref a),some (.ref l),some x,some (.ref l2),z4]/\Pr G F/\F l2=some (.lst zs)/\Pq K F ((iV (rows.take j) ci).map tI) zs) ?_ (λj σ F _ ⟨_,_,_,sF,_⟩=>PJ.of (sF _ _ hy)) ?_ ?_⟩
  ·exact ⟨z4,[],rfl,t1,hy2,by rw [M5];exact Pq.nil⟩
  ·rintro j y σ F hj ⟨z4,zs,rfl,sF,hz,dz⟩;obtain ⟨dr,hr0,hry⟩:=(sF.P0 dy).WD hj;rw [LV] at hr0;obtain ⟨r,hr,rfl⟩:=Mb.mp hr0;have lj:j < rows.length:=(Mg.mp hr).1;have hrl:=lr r (Mj hr);have lz:=dz.length;rw [LR,zH,Mx,Nat.min_eq_left (by omega)] at lz
   have hmj:j * ci.length+ci.length<=1000:=by have:(j+1) * ci.length<=rows.length * ci.length:=OU _ lj;rw [Pp] at this;omega
   refine eY ?_;dsimp only;refine mx (K:=K) (es:=ci.map λx=>tI (r++[x])) (mj (cK (k:=2) (sF.ld Z3)) (by rw [LR];omega) _ (by simp) rfl (λF2 m c v d t2 hc hd hv=>?_)) hz (by rw [LR];omega) λws F2 b2 hz2 dw=>?_
   ·rw [LV] at hc hd
    cases hx:ci[m]? with
    | none=>rw [hx] at hc;cases hc
    | some x0 =>rw [hx] at hc hd;cases hc;cases hd;refine RE.as (tD (aB (k:=1) (t2.dat hry)) (aR (aA (aB (k:=0) hv) aI)) (by rw [LR,L5,MB];omega)) ?_;show D.tup (r.map D.int++[D.int x0])=D.tup ((r++[x0]).map D.int);rw [MM];rfl
   ·refine ⟨some y,zs++ws,rfl,λb o e=>b2 b o (λz=>by rw [z,nl2] at e;cases e) (sF b o e),hz2,?_⟩;rw [MP,hr];rw [show (some r).toList=[r] from rfl,xm,MM,Oc];exact Pq.append (Pq.mono (b2.grow hz hz2) _ dz) dw
  ·rintro σ F ⟨z4,zs,rfl,sF,hz,dz⟩;refine ⟨_,rfl,some x,some (.ref l2),z4,l2,zs,rfl,sG.trans sF,sG.free nl2,hz,?_⟩;rw [et];rw [<- ly,MY] at dz;exact dz
 ·rintro σ G ⟨z2,z3,z4,l,ys,rfl,sG,nl,hy,dy⟩;rw [<- ll,MY] at dy;exact ⟨_,rfl,post l ys G sG hy nl dy⟩
noncomputable def cT (k:Str):Pa->List D
 | .hole i=>if "hole"=k then [Qf (.hole i)] else []
 | .gap i m=>if "gap"=k then [Qf (.gap i m)] else []
 | .slot i=>if "slot"=k then [Qf (.slot i)] else []
 | .num n=>if "num"=k then [Qf (.num n)] else []
 | .two o a b=>if o=k then [Qf (.two o a b)] else cT k a++cT k b
theorem C3 {o:Str} {a b:Pa} (h:qB (.two o a b)=true):(o="add"\/o="sub"\/o="mul"\/o="less")/\qB a=true/\qB b=true:=by have h:((decide (o="add") || decide (o="sub") || decide (o="mul") || decide (o="less")) && (qB a && qB b))=true:=h;rw [LW,LW] at h;exact ⟨qp h.1,h.2.1,h.2.2⟩
theorem fR (k:Str):∀ p:Pa,(cT k p).length<=2 ^ bJ p
 | .hole i=>by unfold cT;split <;> simp [bJ]
 | .gap i m=>by unfold cT;split <;> simp [bJ]
 | .slot i=>by unfold cT;split <;> simp [bJ]
 | .num n=>by unfold cT;split <;> simp [bJ]
 | .two o a b=>by
  have ha:=fR k a;have hb:=fR k b;have e1:2 ^ bJ a<=2 ^ max (bJ a) (bJ b):=Nl (by decide) (Nat.le_max_left _ _);have e2:2 ^ bJ b<=2 ^ max (bJ a) (bJ b):=Nl (by decide) (Nat.le_max_right _ _);have e3:2 ^ bJ (.two o a b)=2 * 2 ^ max (bJ a) (bJ b):=by show 2 ^ (1+max (bJ a) (bJ b))=_;rw [Nat.pow_add]
  rw [e3];unfold cT;split
  ·show 1<=_;have:0 < 2 ^ max (bJ a) (bJ b):=Nat.pow_pos (by decide);omega
  ·rw [Ma];omega
theorem ju {k:Str}:∀ (n:Nat) (p:Pa),bJ p<=n->qB p=true->cG n k (Qf p)=cT k p
 | 0,p,h,_=>by cases p <;> simp only [bJ] at h <;> omega
 | n+1,.hole i,_,_=>by show (if decide ("hole"=k)=true then [Qf (.hole i)] else (dG (Qf (.hole i))).flatMap (cG n k))=if "hole"=k then _ else _;rw [show dG (Qf (.hole i))=[] from js (by decide +kernel)];by_cases h:"hole"=k <;> simp [h]
 | n+1,.gap i m,_,_=>by show (if decide ("gap"=k)=true then [Qf (.gap i m)] else (dG (Qf (.gap i m))).flatMap (cG n k))=if "gap"=k then _ else _;rw [show dG (Qf (.gap i m))=[] from js (by decide +kernel)];by_cases h:"gap"=k <;> simp [h]
 | n+1,.slot i,_,_=>by show (if decide ("slot"=k)=true then [Qf (.slot i)] else (dG (Qf (.slot i))).flatMap (cG n k))=if "slot"=k then _ else _;rw [show dG (Qf (.slot i))=[] from js (by decide +kernel)];by_cases h:"slot"=k <;> simp [h]
 | n+1,.num i,_,_=>by show (if decide ("num"=k)=true then [Qf (.num i)] else (dG (Qf (.num i))).flatMap (cG n k))=if "num"=k then _ else _;rw [show dG (Qf (.num i))=[] from js (by decide +kernel)];by_cases h:"num"=k <;> simp [h]
 | n+1,.two o a b,h,ho=>by obtain ⟨h1,h2,h3⟩:=C3 ho;have h:1+max (bJ a) (bJ b)<=n+1:=h;show (if decide (o=k)=true then [Qf (.two o a b)] else (dG (Qf (.two o a b))).flatMap (cG n k))=if o=k then _ else _;rw [show dG (Qf (.two o a b))=[Qf a,Qf b] by show (if KTD.inKeys o TB=true then _ else _)=_;rw [Mc (by rcases h1 with rfl | rfl | rfl | rfl <;> decide +kernel)]];rw [N7,N7,List.flatMap_nil,MI,ju n a (by omega) h2,ju n b (by omega) h3];by_cases h:o=k <;> simp [h]
noncomputable def gN (n:Nat) (ds es:List D):Prop:=∃ (p:Pa) (k:Str),ds=[Qf p,.str k]/\bJ p<=n/\n<=3/\es=cT k p
theorem pW {o k:Str} {r:List D} {v0 v1:V} (h0:Dat K H (.tup (.str o::r)) v0) (h1:Dat K H (.str k) v1) (e0:σ[0]?=some (some v0):=by rfl) (e1:σ[1]?=some (some v1):=by rfl):RE K (S8 rEq (S8 (pN K) (dW 0) (tC (.int 0))) (dW 1)) σ H (.bl (decide (o=k))) :=
 bF (a7 (k:=0) (aB (k:=0) h0 e0) aE rfl) (aB (k:=1) h1 e1)
theorem CU (ds es:List D):¬ gN 0 ds es:=λ⟨p,_,_,h,_⟩=>by cases p <;> simp only [bJ] at h <;> omega
theorem qs (T:Txt P w K mg) (GT:Ok P w base k T.GE (iU K (gN n))):Ok P w base (k+1) T.GE (iU K (gN (n+1))):=by
 refine T.GE.f.ok U9 (λvs H Q E h=>?_) (λcdv A outer s H vs Q E hr h=>?_)
 ·obtain ⟨ds,es,hd,⟨p,k',rfl,_⟩,_⟩:=h;exact hd.length.symm
 have nd:=U9.nd;obtain ⟨ds,es,hd,⟨p,k',rfl,dp,n3,rfl⟩,post⟩:=h;obtain ⟨v0,v1,rfl,h0,h1⟩:=jb hd;refine ⟨_,(aF (bD (aO cH (bB aW (pv 0) aG) (pv 1) (aV _)) (aH (aQ (b0 (aD (pv 0) aC)))) aU)
 (aF (bD (PW.pt (sZ (aO cH (a9 aZ rfl T.GQ cC (aD (pv 0) aC)) aG (aV _)) (oB (bT (a9 (fB j5) rfl T.GJ cR (dA (bB aW (pv 0) aG) (dA (f9 (v:=.ty "tuple") rfl T.Jq hV rfl) aC))) (λ_=>rfl))))) (aH (aQ (bI l8 (pc (D:=T.GE) GT hr (aD (bB aW (pv 0) aG) (aD (pv 1) aC))) (pc (D:=T.GE) GT hr (aD (bB aW (pv 0) aG) (aD (pv 1) aC)))))) aU)
 (aH (aQ (b0 aC))))),?_⟩
 cases p with
 | hole i =>
  have h0:Dat K H (.tup (.str "hole"::[.int i])) v0:=h0;refine aP (K:=K) (b:=decide ("hole"=k')) (aJ (pW h0 h1)) (λc H1 s1=>?_) (λc H1 s1=>?_)
  ·refine jx (RC.use (K:=K) (cE (aA (aB (k:=0) (s1.dat h0)) aI)) λl ys H2 nl s2 hy dy=>post l ys H2 (s1.trans s2) hy (s1.free nl) ?_);unfold cT;rw [Mc (LS c)];exact dy
  ·refine aP (K:=K) (b:=false) (RT.as (k8 (b:=false) (c:=false) (RT.as (aJ (eS (cY (aB (k:=0) (s1.dat h0))) aE)) rfl) λz=>nomatch z) rfl) (λc=>nomatch c) (λ_ H2 s2=>?_);refine jx (RC.use (K:=K) (cE aI) λl ys H3 nl s3 hy dy=>post l ys H3 (s1.trans (s2.trans s3)) hy ((s1.trans s2).free nl) ?_);unfold cT;rw [LZ (Mf c)];exact dy
 | gap i m =>
  have h0:Dat K H (.tup (.str "gap"::[.int i,.int m])) v0:=h0;refine aP (K:=K) (b:=decide ("gap"=k')) (aJ (pW h0 h1)) (λc H1 s1=>?_) (λc H1 s1=>?_)
  ·refine jx (RC.use (K:=K) (cE (aA (aB (k:=0) (s1.dat h0)) aI)) λl ys H2 nl s2 hy dy=>post l ys H2 (s1.trans s2) hy (s1.free nl) ?_);unfold cT;rw [Mc (LS c)];exact dy
  ·refine aP (K:=K) (b:=false) (RT.as (k8 (b:=true) (c:=false) (RT.as (aJ (eS (cY (aB (k:=0) (s1.dat h0))) aE)) rfl) λ_=>RT.as (bH (cJ (a7 (k:=1) (aB (k:=0) (s1.dat h0)) aE rfl))) rfl) rfl) (λc=>nomatch c) (λ_ H2 s2=>?_);refine jx (RC.use (K:=K) (cE aI) λl ys H3 nl s3 hy dy=>post l ys H3 (s1.trans (s2.trans s3)) hy ((s1.trans s2).free nl) ?_);unfold cT;rw [LZ (Mf c)];exact dy
 | slot i =>
  have h0:Dat K H (.tup (.str "slot"::[.int i])) v0:=h0;refine aP (K:=K) (b:=decide ("slot"=k')) (aJ (pW h0 h1)) (λc H1 s1=>?_) (λc H1 s1=>?_)
  ·refine jx (RC.use (K:=K) (cE (aA (aB (k:=0) (s1.dat h0)) aI)) λl ys H2 nl s2 hy dy=>post l ys H2 (s1.trans s2) hy (s1.free nl) ?_);unfold cT;rw [Mc (LS c)];exact dy
  ·refine aP (K:=K) (b:=false) (RT.as (k8 (b:=false) (c:=false) (RT.as (aJ (eS (cY (aB (k:=0) (s1.dat h0))) aE)) rfl) λz=>nomatch z) rfl) (λc=>nomatch c) (λ_ H2 s2=>?_);refine jx (RC.use (K:=K) (cE aI) λl ys H3 nl s3 hy dy=>post l ys H3 (s1.trans (s2.trans s3)) hy ((s1.trans s2).free nl) ?_);unfold cT;rw [LZ (Mf c)];exact dy
 | num i =>
  have h0:Dat K H (.tup (.str "num"::[.int i])) v0:=h0;refine aP (K:=K) (b:=decide ("num"=k')) (aJ (pW h0 h1)) (λc H1 s1=>?_) (λc H1 s1=>?_)
  ·refine jx (RC.use (K:=K) (cE (aA (aB (k:=0) (s1.dat h0)) aI)) λl ys H2 nl s2 hy dy=>post l ys H2 (s1.trans s2) hy (s1.free nl) ?_);unfold cT;rw [Mc (LS c)];exact dy
  ·refine aP (K:=K) (b:=false) (RT.as (k8 (b:=false) (c:=false) (RT.as (aJ (eS (cY (aB (k:=0) (s1.dat h0))) aE)) rfl) λz=>nomatch z) rfl) (λc=>nomatch c) (λ_ H2 s2=>?_);refine jx (RC.use (K:=K) (cE aI) λl ys H3 nl s3 hy dy=>post l ys H3 (s1.trans (s2.trans s3)) hy ((s1.trans s2).free nl) ?_);unfold cT;rw [LZ (Mf c)];exact dy
 | two o a b =>
  have dp:1+max (bJ a) (bJ b)<=n+1:=dp;have h0:Dat K H (.tup (.str o::[Qf a,Qf b])) v0:=h0;refine aP (K:=K) (b:=decide (o=k')) (aJ (pW h0 h1)) (λc H1 s1=>?_) (λc H1 s1=>?_)
  ·refine jx (RC.use (K:=K) (cE (aA (aB (k:=0) (s1.dat h0)) aI)) λl ys H2 nl s2 hy dy=>post l ys H2 (s1.trans s2) hy (s1.free nl) ?_);unfold cT;rw [Mc (LS c)];exact dy
  ·refine aP (K:=K) (b:=true) (RT.as (k8 (b:=true) (c:=true) (RT.as (aJ (eS (cY (aB (k:=0) (s1.dat h0))) aE)) rfl) λ_=>RT.as (bH (cJ (a7 (k:=1) (aB (k:=0) (s1.dat h0)) aE rfl))) (by cases a <;> rfl)) rfl) (λ_ H2 s2=>?_) (λc=>nomatch c);have s12:=s1.trans s2;have la:=fR k' a;have lb:=fR k' b;have ea:2 ^ bJ a<=2 ^ 3:=Nl (by decide) (by omega);have eb:2 ^ bJ b<=2 ^ 3:=Nl (by decide) (by omega);refine jx (RC.use (K:=K) (mf (eT (fG (R:=gN n) (aA (a7 (k:=1) (aB (k:=0) (s12.dat h0)) aE rfl) (aA (aB (k:=1) (s12.dat h1)) aI)) ⟨a,k',rfl,by omega,by omega,rfl⟩)) (eT (fG (R:=gN n) (aA (a7 (k:=2) (aB (k:=0) (s12.dat h0)) aE rfl) (aA (aB (k:=1) (s12.dat h1)) aI)) ⟨b,k',rfl,by omega,by omega,rfl⟩)) (by omega)) λl ys H3 nl s3 hy dy=>post l ys H3 (s12.trans s3) hy (s12.free nl) ?_);unfold cT;rw [LZ (Mf c)];exact dy
noncomputable def rK (n:Nat) (ds:List D) (d:D):Prop:=∃ (p:Pa) (hs nums ks as:List Int) (b:Int),ds=[Qf p,tY hs nums ks as,.int b]/\XT hs.length nums.length ks.length p=true/\bJ p<=n/\Yl (U3 hs nums ks p)/\argsOk as b/\(∀ x ∈ hs,0<=x/\x < b)/\d=.int (cP as b (U3 hs nums ks p))
theorem Cj (ds:List D) (d:D):¬ rK 0 ds d:=λ⟨p,_,_,_,_,_,_,_,h,_⟩=>by cases p <;> simp only [bJ] at h <;> omega
theorem jr {l:List Int} (h:i < l.length):l.getD i 0 ∈ l:=by rw [Ml,LQ h];exact OJ h
theorem qw (T:Txt P w K mg) (Kp:Ok P w base k T.IR (Qh K zW)) (Jn:Ok P w base k T.Ho (Qh K (rK n))):Ok P w base (k+1) T.Ho (Qh K (rK (n+1))):=by
 refine T.Ho.f.ok Va (λvs H Q E h=>?_) (λcdv A outer s H vs Q E hr h=>?_)
 ·obtain ⟨ds,d,hd,⟨p,hs,nums,ks,as,b,rfl,_⟩,_⟩:=h;exact hd.length.symm
 have nd:=Va.nd;obtain ⟨ds,d,hd,⟨p,hs,nums,ks,as,b,rfl,Xm,dp,VP,ha,YQ,rfl⟩,post⟩:=h;obtain ⟨v0,v1,v2,rfl,h0,h1,h2⟩:=nA hd;obtain rfl:=h2.Pz;refine ⟨_,(aF (iE (pv 1) (iP rfl (bN (aY (i:=3) nd rfl (Or.inl rfl)) (bN (aY (i:=4) nd rfl (Or.inl rfl)) (bN (aY (i:=5) nd rfl (Or.inl rfl)) (bN (aY (i:=6) nd rfl (Or.inl rfl)) gC))))))
 (aF (bD (aO cH (bB aW (pv 0) aG) aN (aV _)) (aH (aQ (bB aW (pv 3) (bB aW (pv 0) aG)))) aU)
 (aF (bD (aO eA (bB aW (pv 0) aG) (aS (aD aN (aD aN aC))) (by with_unfolding_all rfl)) (aH (aQ (bI eE (dR (aO cH (bB aW (pv 0) aG) aN (aV _)) (bB aW (pv 4) (bB aW (pv 0) aG)) (bB aW (pv 0) aG)) (pv 2)))) aU)
 (aF (bD (aO cH (bB aW (pv 0) aG) aN (aV _)) (aH (aQ (bB aW (pv 6) (bB aW (pv 5) (bB aW (pv 0) aG))))) aU)
 (aH (aQ (pc (D:=T.IR) Kp hr (aD (bB aW (pv 0) aG) (aD (pc (D:=T.Ho) Jn hr (aD (bB aW (pv 0) aG) (aD (pv 1) (aD (pv 2) aC)))) (aD (pc (D:=T.Ho) Jn hr (aD (bB aW (pv 0) aG) (aD (pv 1) (aD (pv 2) aC)))) (aD (pv 2) aC))))))))))),?_⟩
 have hb0:0 < b:=by have:=ha.2.2.1;omega
 cases p with
 | hole i =>
  have h0:Dat K H (.tup [.str "hole",.int i]) v0:=h0;refine gG (K:=K) (aB (k:=1) h1) λv3 v4 v5 v6 H1 s1 q3 q4 q5 q6=>?_;have h0:=s1.dat h0;refine aP (K:=K) (b:=true) (RT.as (aJ (bF (a7 (k:=0) (aB (k:=0) h0) aE rfl) aL)) (Mh (by decide +kernel))) (λ_ H2 s2=>?_) (λc=>nomatch c);have h0:=s2.dat h0;obtain ⟨ei,hi⟩:=jH Xm;rw [ei] at h0
  have e:cP as b (U3 hs nums ks (.hole i))=hs.getD i.toNat 0:=by have:=YQ _ (jr hi);exact Int.emod_eq_of_lt this.1 this.2
  rw [e] at post;exact bC (K:=K) (d:=.int (hs.getD i.toNat 0)) (a7 (k:=i.toNat) (aB (k:=3) (s2.dat q3)) (a7 (k:=1) (aB (k:=0) h0) aE rfl) (fF hi)) λv H' s q=>post v H' (s1.trans (s2.trans s)) q
 | gap i m =>have h0:Dat K H (.tup [.str "gap",.int i,.int m]) v0:=h0;refine gG (K:=K) (aB (k:=1) h1) λv3 v4 v5 v6 H1 s1 q3 q4 q5 q6=>?_;have h0:=s1.dat h0;refine aP (K:=K) (b:=false) (RT.as (aJ (bF (a7 (k:=0) (aB (k:=0) h0) aE rfl) aL)) (LY (by decide +kernel))) (λc=>nomatch c) (λ_ H2 s2=>?_);have h0:=s2.dat h0;refine aP (K:=K) (b:=true) (RT.as (aJ (iR (ys:=["gap","num"]) (a7 (k:=0) (aB (k:=0) h0) aE rfl) (aR (aA aL (aA aL aI))))) (Mh (by decide +kernel))) (λ_ H3 s3=>?_) (λc=>nomatch c);have h0:=s3.dat h0;obtain ⟨ei,hi⟩:=jH Xm;rw [ei] at h0;have s23:=s2.trans s3;exact bC (K:=K) (d:=.int (nums.getD i.toNat 0 % b)) (gU (jR (b:=true) (RT.as (aJ (bF (a7 (k:=0) (aB (k:=0) h0) aE rfl) aL)) (Mh rfl)) (λ_=>a7 (k:=i.toNat) (aB (k:=4) (s23.dat q4)) (a7 (k:=1) (aB (k:=0) h0) aE rfl) (fF hi)) (λc=>nomatch c)) (aB (k:=2) (Dat.Px b)) hb0) λv H' s q=>post v H' (s1.trans (s23.trans s)) q
 | slot i =>
  have h0:Dat K H (.tup [.str "slot",.int i]) v0:=h0;refine gG (K:=K) (aB (k:=1) h1) λv3 v4 v5 v6 H1 s1 q3 q4 q5 q6=>?_;have h0:=s1.dat h0;refine aP (K:=K) (b:=false) (RT.as (aJ (bF (a7 (k:=0) (aB (k:=0) h0) aE rfl) aL)) (LY (by decide +kernel))) (λc=>nomatch c) (λ_ H2 s2=>?_);have h0:=s2.dat h0;refine aP (K:=K) (b:=false) (RT.as (aJ (iR (ys:=["gap","num"]) (a7 (k:=0) (aB (k:=0) h0) aE rfl) (aR (aA aL (aA aL aI))))) (LY (by decide +kernel))) (λc=>nomatch c) (λ_ H3 s3=>?_);have h0:=s3.dat h0;refine aP (K:=K) (b:=true) (RT.as (aJ (bF (a7 (k:=0) (aB (k:=0) h0) aE rfl) aL)) (Mh (by decide +kernel))) (λ_ H4 s4=>?_) (λc=>nomatch c);have h0:=s4.dat h0;obtain ⟨ei,hi⟩:=jH Xm;rw [ei] at h0;have s24:=s2.trans (s3.trans s4);have hk:0<=ks.getD i.toNat 0/\ks.getD i.toNat 0<=3:=VP;have ek:ks.getD i.toNat 0=(((ks.getD i.toNat 0).toNat:Nat):Int):=by omega
  exact bC (K:=K) (d:=.int (as.getD (ks.getD i.toNat 0).toNat 0)) (a7 (k:=(ks.getD i.toNat 0).toNat) (aB (k:=6) (s24.dat q6)) (RE.as (a7 (k:=i.toNat) (aB (k:=5) (s24.dat q5)) (a7 (k:=1) (aB (k:=0) h0) aE rfl) (fF hi)) (MH D.int ek)) (fF (by have:=ha.1;omega))) λv H' s q=>post v H' (s1.trans (s24.trans s)) q
 | num i =>have h0:Dat K H (.tup [.str "num",.int i]) v0:=h0;refine gG (K:=K) (aB (k:=1) h1) λv3 v4 v5 v6 H1 s1 q3 q4 q5 q6=>?_;have h0:=s1.dat h0;refine aP (K:=K) (b:=false) (RT.as (aJ (bF (a7 (k:=0) (aB (k:=0) h0) aE rfl) aL)) (LY (by decide +kernel))) (λc=>nomatch c) (λ_ H2 s2=>?_);have h0:=s2.dat h0;refine aP (K:=K) (b:=true) (RT.as (aJ (iR (ys:=["gap","num"]) (a7 (k:=0) (aB (k:=0) h0) aE rfl) (aR (aA aL (aA aL aI))))) (Mh (by decide +kernel))) (λ_ H3 s3=>?_) (λc=>nomatch c);have h0:=s3.dat h0;have s23:=s2.trans s3;exact bC (K:=K) (d:=.int (i % b)) (gU (jR (b:=false) (RT.as (aJ (bF (a7 (k:=0) (aB (k:=0) h0) aE rfl) aL)) (LY (by decide +kernel))) (λc=>nomatch c) (λ_=>a7 (k:=1) (aB (k:=0) h0) aE rfl)) (aB (k:=2) (Dat.Px b)) hb0) λv H' s q=>post v H' (s1.trans (s23.trans s)) q
 | two o x y =>have h0:Dat K H (.tup [.str o,Qf x,Qf y]) v0:=h0;refine gG (K:=K) (aB (k:=1) h1) λv3 v4 v5 v6 H1 s1 q3 q4 q5 q6=>?_;have h0:=s1.dat h0;have Xm:((decide (o="add") || decide (o="sub") || decide (o="mul") || decide (o="less")) && (XT hs.length nums.length ks.length x && XT hs.length nums.length ks.length y))=true:=Xm;rw [LW,LW] at Xm;have ho:=qp Xm.1;obtain ⟨n1,n2,n3,n4⟩:=Cd ho;have dp:1+max (bJ x) (bJ y)<=n+1:=dp;have VP:Z2 o/\Yl (U3 hs nums ks x)/\Yl (U3 hs nums ks y):=VP;refine aP (K:=K) (b:=false) (RT.as (aJ (bF (a7 (k:=0) (aB (k:=0) h0) aE rfl) aL)) (LY n1)) (λc=>nomatch c) (λ_ H2 s2=>?_);have h0:=s2.dat h0;refine aP (K:=K) (b:=false) (RT.as (aJ (iR (ys:=["gap","num"]) (a7 (k:=0) (aB (k:=0) h0) aE rfl) (aR (aA aL (aA aL aI))))) (LY (λz=>by rcases Mm.mp z with z | z;exact n2 z;exact n4 (Mv.mp z)))) (λc=>nomatch c) (λ_ H3 s3=>?_);have h0:=s3.dat h0;refine aP (K:=K) (b:=false) (RT.as (aJ (bF (a7 (k:=0) (aB (k:=0) h0) aE rfl) aL)) (LY n3)) (λc=>nomatch c) (λ_ H4 s4=>?_);have h0:=s4.dat h0;have YR:=s1.trans (s2.trans (s3.trans s4));have h1:=YR.dat h1;have wx:=jD ha (U3 hs nums ks x) VP.2.1;have wy:=jD ha (U3 hs nums ks y) VP.2.2;exact bC (K:=K) (d:=.int (two o (cP as b (U3 hs nums ks x)) (cP as b (U3 hs nums ks y)) b)) (bE (R:=zW) (aA (a7 (k:=0) (aB (k:=0) h0) aE rfl) (aA (bE (R:=rK n) (d:=.int (cP as b (U3 hs nums ks x))) (aA (a7 (k:=1) (aB (k:=0) h0) aE rfl) (aA (aB (k:=1) h1) (aA (aB (k:=2) (Dat.Px b)) aI))) ⟨x,hs,nums,ks,as,b,rfl,Xm.2.1,by omega,VP.2.1,ha,YQ,rfl⟩) (aA (bE (R:=rK n) (d:=.int (cP as b (U3 hs nums ks y))) (aA (a7 (k:=2) (aB (k:=0) h0) aE rfl) (aA (aB (k:=1) h1) (aA (aB (k:=2) (Dat.Px b)) aI))) ⟨y,hs,nums,ks,as,b,rfl,Xm.2.2,by omega,VP.2.2,ha,YQ,rfl⟩) (aA (aB (k:=2) (Dat.Px b)) aI)))) ⟨o,_,_,b,rfl,ho,ha.2.2.1,ha.2.2.2,wx.1,wx.2,wy.1,wy.2,rfl⟩) λv H' s q=>post v H' (YR.trans s) q
theorem FS {K:W.Frag} {ts:TS} (h:te σ H λx H'=>∃ k,vP K x H' k/\if (!k)=true then ts { En with nx:=us En } σ H' else us En σ H'):lC (DC (Fq (λσ H Q=>te σ H λx H'=>∃ k,vP K x H' k/\Q k H')) ts kn) us En σ H:=h
noncomputable def qm (K:W.Frag):Sp:=λvs H Q _=>∃ (lc lp:Addr) (vg:V) (mc:MC) (st:MS) (r:Option MS),vs=[.ref lc,.ref lp,vg,.int mc.b]/\st.place=0/\wB mc/\iZ mc st/\H lc=some (.lst (mc.cs.map V.int))/\H lp=some (.lst (pV st.pile))/\lc≠lp/\Dat K H (.tup (mc.as.map D.int)) vg/\XU mc 20 st=some r /\
 (∀ s,r=some s->∀ H',PX lp H H'->H' lp=some (.lst (pV s.pile))->Q (.ref lp) H')/\(r=none->∀ H' zs,PX lp H H'->H' lp=some (.lst zs)->Q .Py H')
theorem pw (T:Txt P w K mg) (KY:Ok P w base k T.IT (Qh K Ef)) (K6:Ok P w base k T.Ik (iU K vM)) (Lf:Ok P w base k T.JP (BZ K)):Ok P w base (k+1) T.IU (qm K):=by
 refine T.IU.f.ok UN (λvs H Q E h=>?_) (λcdv A outer s H vs Q E hr h=>?_)
 ·obtain ⟨lc,lp,vg,mc,st,r,rfl,_⟩:=h;rfl
 have nd:=UN.nd;obtain ⟨lc,lp,vg,mc,st,r,rfl,p0,oc,os,hc,hp,ncp,hg,hgo,ok,bad⟩:=h;refine ⟨_,(aF (bM (i:=4) nd rfl (Or.inl rfl) aG)
 (aF (pL MJ (aO l9 (pv 4) (a9 aZ rfl T.GQ cC (aD (pv 0) aC)) (aV _)) (aF (bM (i:=5) nd rfl (Or.inl rfl) (pc (D:=T.IT) KY hr (aD (bB PZ (pv 0) (pv 4)) aC)))
 (aF (bM (i:=6) nd rfl (Or.inl rfl) (kb Xk (pv 0) (jc (bI dY (pv 4) aG)) (jc (bI dY (bI dY (pv 4) aG) (pv 5)))))
 (aF (bM (i:=7) nd rfl (Or.inl rfl) (a9 (Am rfl) rfl T.LO Eu (aD (dZ (own:=["_law_spot","_law_cell"]) (fr:=[]) (N':=["_law_spot","_law_cell"]) (Bk rfl T.KL (aD (pv 6) aC)) rfl (by show dX ["_law_cells","_law_pile","_law_args","_law_base","_law_at","_law_many","_law_behind_here","_law_number"] (λx=>(aK jl).names.lookup x) _ _ _ _=true;decide +kernel) rfl (λ_ _ _ _ _=>(C6 (K:=K) (n:=2) rfl rfl (bN (aY (i:=0) (by show List.Nodup [("_law_spot":Str),("_law_cell":Str)];decide +kernel) rfl (Or.inl rfl)) (bN (aY (i:=1) (by show List.Nodup [("_law_spot":Str),("_law_cell":Str)];decide +kernel) rfl (Or.inl rfl)) gC)))) (λ_ _ _ _ _=>cX) (λ_ _ _ _ _=>(bI mZ (pv 1) (bB (r:=pN K) aW (aS (aD aG (aD aG aC))) (pv 0))))) aC)))
 (aF (bD (dS (bT (pc (D:=T.JP) Lf hr (aD (bB PZ (uX K6 hr rfl T.Ik.m T.Ik.f.kp T.Ik.b .nil ka) (bB PZ (pv 0) (pv 4))) (aD (pv 7) (aD (pv 1) (aD (pv 2) (aD (pv 3) aC)))))) (λ_=>rfl))) (aH (aQ gS)) aU)
 (aH (Bq (i:=4) nd rfl (Or.inl rfl) (bI dY aG (a9 aZ rfl T.GQ cC (aD (pv 6) aC))) wj)))))))
 (aH (aQ (pv 1))))),?_⟩
 have UD:=oc.cs;refine cF (K:=K) (d:=.int 0) aE λv4 H1 s1 q4=>?_;obtain rfl:=q4.Pz;refine cZ (vF (λn σ G=>∃ (st:MS) (z5 z6 z7:Option V),σ=[some (.ref lc),some (.ref lp),some vg,some (.int mc.b),some (.int st.place),z5,z6,z7]/\G lc=some (.lst (mc.cs.map V.int))/\Dat K G (.tup (mc.as.map D.int)) vg/\G lp=some (.lst (pV st.pile))/\iZ mc st/\PX lp H G/\XU mc n st=some r) 20 ?_ ?_)
 ·exact ⟨st,none,none,none,by rw [p0];rfl,s1 _ _ hc,s1.dat hg,s1 _ _ hp,os,s1.but,hgo⟩
 ·rintro n σ G ⟨st,z5,z6,z7,rfl,gc,gg,gp,os,bG,hgo⟩;have LC:∀ {F:Hp},Pr G F->LD K F (cD mc.cs) (.ref lc):=λs=>LD.of (s _ _ gc) (eP _);refine ⟨decide ((st.place:Int) < ((cD mc.cs).length:Int)),aJ (cO (p:=λi j=>decide (i < j)) (aB (K:=K) (k:=4) (Dat.Px (st.place:Int))) (eO (cK (k:=0) (LC (Pr.refl _))))),λG1 u1=>?_⟩
  cases n with
  | zero=>cases hgo
  | succ n =>
  have hgo:(match mc.cs[st.place]? with
   | none=>some (some st)
   | some c=>if VB c ∈ YO/\c<=16/\jY mc.cs st.place c=false then (match Ye mc (VB c) (jV mc.cs st.place c) st with
    | none=>some none
    | some s=>XU mc n { s with place:=st.place+1+cV c }) else none)=some r:=hgo
  cases hcs:mc.cs[st.place]? with
  | none =>rw [hcs] at hgo;have hp':=NU.mp hcs;rw [LY (by rw [LR];omega)];have er:some st=r:=ME hgo;exact ji ⟨_,rfl,ok st er.symm G1 (bG.trans u1.but) (u1 _ _ gp)⟩
  | some c =>
  rw [hcs] at hgo;dsimp only at hgo;have hlt:=(Mg.mp hcs).1;rw [Mh (by rw [LR];omega)];by_cases hs:VB c ∈ YO/\c<=16/\jY mc.cs st.place c=false
  ·rw [Mc hs] at hgo;obtain ⟨hss,c16,hb⟩:=hs;obtain ⟨c0,c99⟩:=UD.c _ _ hcs;have hx':=Al hcs;have rc:∀ {F:Hp} {w5 w6 w7:Option V},Pr G F->RE K (S8 (Bu K) (dW 0) (dW 4)) [some (.ref lc),some (.ref lp),some vg,some (.int mc.b),some (.int st.place),w5,w6,w7] F (.int c):=λs=>BM (k:=st.place) (cK (k:=0) (LC s)) (aB (K:=K) (k:=4) (Dat.Px (st.place:Int))) hx';have hn:(NM.map D.str)[c.toNat]?=some (.str (VB c)):=by rw [LV,EB c.toNat (by omega)];rfl
   have ec:c=((c.toNat:Nat):Int):=by omega
   refine jG (cF (K:=K) (d:=.int (cV c)) (bE (R:=Ef) (aA (rc u1) aI) ⟨c,rfl,rfl⟩) λv5 G2 u2 d5=>?_);obtain rfl:=d5.Pz;have u12:=u1.trans u2;have el:(st.place:Int)+1=((st.place+1:Nat):Int):=by omega
   have eh:(st.place:Int)+1+(cV c:Int)=((st.place+1+cV c:Nat):Int):=by omega
   refine gE (K:=K) (es:=(XD mc.cs st.place c).map D.int) (RC.as (Dg (lo:=st.place+1) (hi:=st.place+1+cV c) (cK (k:=0) (LC u12)) (RE.as (dU (aB (K:=K) (k:=4) (Dat.Px (st.place:Int))) aE) (MH D.int el)) (RE.as (dU (dU (aB (K:=K) (k:=4) (Dat.Px (st.place:Int))) aE) (aB (k:=5) (Dat.Px (cV c:Int)))) (MH D.int eh))) (by rw [show st.place+1+cV c - (st.place+1)=cV c by omega];exact xE mc.cs st.place c)) λl11 ys11 G3 n11 u3 hy11 dy11=>?_;have u13:=u12.trans u3;have L11:LD K G3 ((XD mc.cs st.place c).map D.int) (.ref l11):=LD.of hy11 dy11;have lns:(XD mc.cs st.place c).length=min (cV c) (mc.cs.length - (st.place+1)):=by unfold XD;rw [Mx,NH]
   obtain ⟨ZI,hlb⟩:=Ab hb;obtain ⟨en,n99⟩:=yl (p:=st.place) (c:=c) UD;obtain ⟨l2,nsb⟩:=A6 (p:=st.place) (c:=c) UD;have lnb:(XD mc.cs st.place c).length=cV c:=by rw [lns];omega
   have se:=vD hcs hss hb;refine cF (K:=K) (d:=.int (jV mc.cs st.place c)) (RE.as (Ds (ns:=kH 0 (XD mc.cs st.place c)) (eT (BG (cK (k:=6) L11) (by rw [LR];omega) ((kH 0 (XD mc.cs st.place c)).map D.int) (by rw [LR,LR,vb]) (by decide) rfl (λF k cc e w s hcc hee hw=>?_)))) (by rw [Bp l2,en])) λv12 G5 u5 d12=>?_
   ·rw [LV] at hcc hee;rw [uZ] at hee;obtain ⟨x,hx,rfl⟩:=Mb.mp hcc;rw [hx] at hee;have ee:D.int (x * ([1,100]:List Int).getD (0+k) 0)=e:=ME hee;subst ee;have xb:=nsb x (Mj hx);have k2:k < 2:=by have:=(Mg.mp hx).1;omega
    have hg2:([.int 1,.int 100]:List D)[k]?=some (.int (([1,100]:List Int).getD (0+k) 0)):=by
     match k,k2 with
     | 0,_=>rfl
     | 1,_=>rfl
    have gb:([1,100]:List Int).getD (0+k) 0=1\/([1,100]:List Int).getD (0+k) 0=100:=by
     match k,k2 with
     | 0,_=>exact .inl rfl
     | 1,_=>exact .inr rfl
    exact tE (aB (k:=1) hw) (a7 (k:=k) (aR (aA aE (aA aE aI))) (aB (k:=0) (Dat.Px (k:Int))) hg2) (.inr ⟨by omega,by omega⟩)
   obtain rfl:=d12.Pz;have u15:=u13.trans u5;refine FS (K:=K) (Bz (BA (RE.use (K:=K) (BM (k:=c.toNat) BU (RE.as (rc u15) (MH D.int ec)) hn) λvn G6 u6 dn=>?_)));obtain rfl:=dn.P9;have Z9:=u15.trans u6;have gp6:=Z9 _ _ gp;refine ⟨_,rfl,_,rfl,_,rfl,_,rfl,VB c,jV mc.cs st.place c,lp,vg,mc,st,rfl,hss,gp6,Z9.dat gg,oc,os,λs' hs9 G9 b9 fp=>⟨true,rfl,?_⟩,λhn9 G9 zs b9 fp=>⟨false,rfl,?_⟩⟩
   ·rw [hs9] at hgo;have gr:=b9.grow (K:=K) gp6 fp;have n6:l11≠lp:=λz=>by rw [z,u12 _ _ gp] at n11;cases n11
    have hy9:=b9 _ _ n6 ((u5.trans u6) _ _ hy11);have eo:(st.place:Int)+(1+(((XD mc.cs st.place c).map D.int).length:Int))=((st.place+1+cV c:Nat):Int):=by rw [LR,lnb];omega
    obtain ⟨os2,_⟩:=yF oc os (by rw [se,hs9];rfl:iI mc st=some { s' with place:=st.place+1+cV c });refine ji ⟨_,rfl,RE.use (dU (K:=K) aE (eO (cK (k:=6) (LD.of hy9 (Pq.mono gr _ ((u5.trans u6).P0 dy11)))))) λv9 GA ua qa=>⟨st.place,1+(((XD mc.cs st.place c).map D.int).length:Int),rfl,qa.Pz,?_⟩⟩;exact ⟨n,Nh n,{ s' with place:=st.place+1+cV c },some (.int (cV c)),some (.ref l11),some (.int (jV mc.cs st.place c)),by rw [<- eo];rfl,ua _ _ (b9 _ _ ncp (Z9 _ _ gc)),ua.dat (Dat.mono gr _ (Z9.dat gg)),ua _ _ fp,os2,((bG.trans Z9.but).trans b9).trans ua.but,hgo⟩
   ·rw [hn9] at hgo;have er:none=r:=ME hgo;exact jG (bad er.symm G9 zs ((bG.trans Z9.but).trans b9) fp)
  ·rw [LZ hs] at hgo;cases hgo
theorem tH (h:Ys K tl σ H (css.map (·.map D.int))) (ok:jI css)
  (q:∀ r ys H',Pr H H'->H' r=some (.lst ys)->H r=none->Pq K H' ((bR css).map tI) ys->Q (.ref r) H'):gJ (jP K) [] E (bO tl dH) σ H Q :=
 show tl σ H (λx H1=>jP K ([x]++[]) H1 Q E) from
  Ys.use (K:=K) h λl ws H1 nl s1 hy dL=>⟨l,ws,css,rfl,PJ.of hy,dL,ok,λr ys H' s' hr nr dr=>q r ys H' (s1.trans s') hr (s1.free nr) dr⟩
theorem BC {tp:TE} {lc:Addr} {vg:V} {st:MS} {r:Option MS} {ps:List Int} (hp:RC K tp σ G (ps.map D.int)) (hst:st.pile=ps.reverse) (p0:st.place=0) (oc:wB mc) (os:iZ mc st) (hc:G lc=some (.lst (mc.cs.map V.int))) (hg:Dat K G (.tup (mc.as.map D.int)) vg) (hgo:XU mc 20 st=some r)
  (q:∀ w GA,Pr G GA->((r=none/\w=.Py)\/∃ s lp,r=some s/\w=.ref lp/\GA lp=some (.lst (pV s.pile)))->Q w GA) (e7:σ[7]?=some (some (.ref lc)):=by rfl) (e8:σ[8]?=some (some vg):=by rfl) (e1:σ[1]?=some (some (.int mc.b)):=by rfl) :
  gJ (qm K) [] E (bO (dW 7) (bO tp (bO (dW 8) (bO (dW 1) dH)))) σ G Q :=
 ⟨_,e7,RC.use (K:=K) hp λlp yp G9 np t9 hyp dyp=>by
  obtain rfl:=lO dyp;have ncp:lc≠lp:=λz=>by rw [<- z,hc] at np;cases np
  have sA:∀ {GA:Hp},PX lp G9 GA->Pr G GA:=λbA x o e=>bA x o (λz=>by rw [z,np] at e;cases e) (t9 x o e);refine ⟨_,e8,_,e1,lc,lp,vg,mc,st,r,rfl,p0,oc,os,t9 _ _ hc,by rw [hyp,hst];show _=some (HO.lst (ps.reverse.reverse.map V.int));rw [List.reverse_reverse],ncp,t9.dat hg,hgo,λs es GA bA hA=>?_,λer GA zs bA hA=>?_⟩
  ·exact q _ GA (sA bA) (.inr ⟨s,lp,es,rfl,hA⟩)
  ·exact q _ GA (sA bA) (.inl ⟨er,rfl⟩)⟩
theorem Fe (h1:RE K ta σ H .Py) (h2:RL K tb σ H es):RE K (S8 (λx y H Q=>Bw K x y H Q\/vf K true x y H Q) ta tb) σ H (.bl true):=λH1 s Q q =>
 h1 H1 s _ λv H2 s2 q2=>h2 H2 (s.trans s2) _ λw H3 s3 q3=>by obtain ⟨b,ys,rfl,hb,db⟩:=q3;exact .inl ⟨b,ys,q2.Tv,rfl,hb.S7,q _ _ (s2.trans s3) (Dat.UA _)⟩
theorem Dr (h1:RL K ta σ H ds) (h2:RL K tb σ H es) (n:PY ds=true) (n2:PY es=true) (d:PC ds<=20):RE K (S8 (λx y H Q=>Bw K x y H Q\/vf K true x y H Q) ta tb) σ H (.bl (!QM ds es)):=λH1 s Q q =>
 h1 H1 s _ λv H2 s2 q2=>h2 H2 (s.trans s2) _ λw H3 s3 q3=>by obtain ⟨a,xs,rfl,ha,da⟩:=s3.ld q2;obtain ⟨b,ys,rfl,hb,db⟩:=q3;exact .inr ⟨a,b,xs,ys,ds,es,rfl,rfl,ha.S7,hb.S7,da,db,n,n2,d,q _ _ (s2.trans s3) (Dat.UA _)⟩
theorem jW (T:Txt P w K mg) (GT:Ok P w base k T.GE (iU K (gN 3))) (JM:Ok P w base k T.Ig (jP K)) (Lg:Ok P w base k T.JQ (iU K vL)) (KZ:Ok P w base k T.IU (qm K)) (Jn:Ok P w base k T.Ho (Qh K (rK 3))):Ok P w base (k+1) T.Hn (Qh K ue):=by
 refine T.Hn.f.ok Rf (λvs H Q E h=>?_) (λcdv A outer s H vs Q E hr h=>?_)
 ·obtain ⟨ds,d,hd,⟨nm,pt,cl,b,rfl,_⟩,_⟩:=h;exact hd.length.symm
 have nd:=Rf.nd;obtain ⟨ds,d,hd,⟨nm,pt,cl,b,rfl,G,rfl⟩,post⟩:=h;obtain ⟨v0,v1,rfl,h0,h1⟩:=jb hd;refine ⟨_,(aF (vd (i:=2) (x0:="_law_gap") (own:=["_law_gap"]) (fr:=[]) (N':=["_law_gap"]) (cU (pc (D:=T.GE) GT hr (aD (bB aW (pv 0) aG) (aD aN aC)))) rfl (xF (by show oq "_law_gap" ["_law_piece","_law_base","_law_gaps","_law_every","_law_holes","_law_nums","_law_ks","_law_cells","_law_args","_law_trial","_law_left"] (λx=>(aK cI).names.lookup x) _ _ _ _=true;decide +kernel)) rfl (λ_ _=>rfl) (λ_=>rfl) rfl (λ_ _ _ _ _ _=>(aY (i:=0) (by show List.Nodup [("_law_gap":Str)];decide +kernel) rfl (Or.inr rfl))) (λ_ _ _ _ _ _=>cX) (λ_ _ _ _ _ _=>(dZ (own:=["_law_one"]) (fr:=[0]) (N':=["_law_one","_law_gap"]) (ym (K:=K) rfl (aS (aD aG (aD aG (aD aG (aD aG (aD aG (aD aG aC)))))))) rfl (by kernel_rfl) rfl (λ_ _ _ _ _=>(aY (i:=0) (by show List.Nodup [("_law_one":Str),("_law_gap":Str)];decide +kernel) rfl (Or.inl rfl))) (λ_ _ _ _ _=>(pI (aO kG (pv 0) (bB (r:=pN K) aW (pv 1) aG) (aV _)))) (λ_ _ _ _ _=>(pv 0)))) nd rfl rfl rfl)
 (aF (bM (i:=3) nd rfl (Or.inr rfl) (dZ (own:=["_law_k"]) (fr:=[]) (N':=["_law_k"]) (kq rfl T.Jp (aD (pv 1) aC)) rfl (by show dX ["_law_piece","_law_base","_law_gaps","_law_every","_law_holes","_law_nums","_law_ks","_law_cells","_law_args","_law_trial","_law_left"] (λx=>(aK cI).names.lookup x) _ _ _ _=true;decide +kernel) rfl (λ_ _ _ _ _=>(aY (i:=0) (by show List.Nodup [("_law_k":Str)];decide +kernel) rfl (Or.inl rfl))) (λ_ _ _ _ _=>cX) (λ_ _ _ _ _=>(pv 0))))
 (aF (fS MJ rfl (cU (pc (D:=T.Ig) JM hr (aD (dZ (own:=["_law_one"]) (fr:=[3]) (N':=["_law_one","_law_every"]) (cU (pc (D:=T.GE) GT hr (aD (bB aW (pv 0) aG) (aD aN aC)))) rfl (by show dX ["_law_piece","_law_base","_law_gaps","_law_every","_law_holes","_law_nums","_law_ks","_law_cells","_law_args","_law_trial","_law_left"] (λx=>(aK cI).names.lookup x) _ _ _ _=true;decide +kernel) rfl (λ_ _ _ _ _=>(aY (i:=0) (by show List.Nodup [("_law_one":Str),("_law_every":Str)];decide +kernel) rfl (Or.inl rfl))) (λ_ _ _ _ _=>cX) (λ_ _ _ _ _=>(pv 1))) aC))) (aY (i:=4) nd rfl (Or.inl rfl)) (aH (fS MJ rfl (cU (pc (D:=T.Ig) JM hr (aD (pv 2) aC))) (aY (i:=5) nd rfl (Or.inl rfl)) (aH (fS MJ rfl (cU (pc (D:=T.Ig) JM hr (aD (dZ (own:=["_law_one"]) (fr:=[]) (N':=["_law_one"]) (cU (pc (D:=T.GE) GT hr (aD (bB aW (pv 0) aG) (aD aN aC)))) rfl (by show dX ["_law_piece","_law_base","_law_gaps","_law_every","_law_holes","_law_nums","_law_ks","_law_cells","_law_args","_law_trial","_law_left"] (λx=>(aK cI).names.lookup x) _ _ _ _=true;decide +kernel) rfl (λ_ _ _ _ _=>(aY (i:=0) (by show List.Nodup [("_law_one":Str)];decide +kernel) rfl (Or.inl rfl))) (λ_ _ _ _ _=>cX) (λ_ _ _ _ _=>(b0 (aD aG (aD aG (aD aG (aD aG aC))))))) aC))) (aY (i:=6) nd rfl (Or.inr rfl)) (aF (bM (i:=7) nd rfl (Or.inl rfl) (pc (D:=T.JQ) Lg hr (aD (bB aW (pv 0) aG) (aD (pv 5) (aD (pv 6) aC)))))
 (aH (fS MJ rfl (cU (pc (D:=T.Ig) JM hr (aD (dZ (own:=["_law_k"]) (fr:=[3,6]) (N':=["_law_k","_law_every","_law_ks"]) (kq rfl T.Jp (aD aG aC)) rfl (by show dX ["_law_piece","_law_base","_law_gaps","_law_every","_law_holes","_law_nums","_law_ks","_law_cells","_law_args","_law_trial","_law_left"] (λx=>(aK cI).names.lookup x) _ _ _ _=true;decide +kernel) rfl (λ_ _ _ _ _=>(aY (i:=0) (by show List.Nodup [("_law_k":Str),("_law_every":Str),("_law_ks":Str)];decide +kernel) rfl (Or.inl rfl))) (λ_ _ _ _ _=>cX) (λ_ _ _ _ _=>(dR (aO (show Se _ _ (Zu K false) from eA) (pv 0) (pv 2) (by with_unfolding_all rfl)) (pv 1) (b0 (aD aG aC))))) aC))) (aY (i:=8) nd rfl (Or.inl rfl)) (aF (bM (i:=9) nd rfl (Or.inl rfl) (aS (aD (pv 4) (aD (pv 5) (aD (pv 6) (aD (pv 8) aC))))))
 (aF (bM (i:=10) nd rfl (Or.inl rfl) (pc (D:=T.IU) KZ hr (aD (pv 7) (aD (bI l8 (b0 (aD aG aC)) (cQ fD rfl T.Jl fZ (aD (pv 4) aC))) (aD (pv 8) (aD (pv 1) aC))))))
 (aH (bD (aO ((C2 hr).or (pG hr)) (pv 10) (b0 (aD aG (aD (pc (D:=T.Ho) Jn hr (aD (bB aW (pv 0) aG) (aD (pv 9) (aD (pv 1) aC)))) aC))) (aV _)) (aH (aQ (pv 9))) aU))))))))))))
 (aH (aQ gS))))),?_⟩
 obtain rfl:=h1.Pz;have b2:=G.b2;have b5:=G.b5;have eH:jU pt b=(cT "hole" pt).map λ_=>Wn b:=by unfold jU hD;rw [ju 3 pt G.dp G.op]
 have eN:hW pt=(cT "gap" pt).map λg=>ZL.filter λi=>decide (i<=(wd g).getD 0):=by unfold hW gD;rw [ju 3 pt G.dp G.op]
 have eK:gP pt=(cT "slot" pt).map λ_=>Wn 4:=by unfold gP sD;rw [ju 3 pt G.dp G.op]
 have hgm:∀ c ∈ cT "gap" pt,(wd c).isSome=true:=λc hc=>G.g c (by unfold gD;rw [ju 3 pt G.dp G.op];exact hc);refine gW (Ys.use (K:=K) (kg (cs:=cT "gap" pt) (eT (fG (R:=gN 3) (aA (a7 (k:=1) (aB (k:=0) h0) aE rfl) (aA aL aI)) ⟨pt,"gap",rfl,G.dp,by decide,rfl⟩)) (Mr (fR "gap" pt) (Mr (Nl (by decide) G.dp) (by decide))) ((hW pt).map (·.map D.int)) (by rw [eN,LR,LR]) rfl (λF i c v es sF hc he hv=>?_)) λlg yg H1 ng s1 hyg dLg=>?_)
 ·rw [eN,LV,LV,hc] at he;cases he;obtain ⟨m,hm⟩:=NX.mp (hgm c (Mj hc));obtain ⟨ca,cb,rfl⟩:=AD hm;refine RC.as (vj (cs:=TRN) (aR (aA aE (aA aE (aA aE (aA aE (aA aE (aA aE aI))))))) (by decide) (leD m) rfl (λF2 i c v2 t2 hc2 hv2=>?_)) (yk m);have hc3:(ZL.map D.int)[i]?=some c:=hc2;rw [LV] at hc3;obtain ⟨j,_,rfl⟩:=Mb.mp hc3;exact ⟨aJ (cO (p:=λi j=>decide (i<=j)) (aB (k:=0) hv2) (a7 (k:=2) (aB (k:=1) (t2.dat hv)) aE rfl)),aB (k:=0) hv2⟩
 refine gW (zw (K:=K) (n:=b) (aA (aB (k:=1) (Dat.Px (b:Int))) aI) (by omega) ((Wn b).map D.int) (by unfold Wn;rw [LR,LR,Nn]) rfl (λF i d sF hd2=>?_) λle ye H2 ne s2 hye dye=>?_)
 ·have e:d=.int (i:Int):=by
   unfold Wn at hd2;rw [LV,LV] at hd2;obtain ⟨x,hx,rfl⟩:=Mb.mp hd2;obtain ⟨y,hy,rfl⟩:=Mb.mp hx;have hi:i < b:=by have:=(Mg.mp hy).1;rwa [Nn] at this
   rw [O0 hi] at hy;cases hy;rfl
  subst e;exact aB (k:=0) (Dat.Px (i:Int))
 have s12:=s1.trans s2;have hyg:=s2 _ _ hyg;have dLg:=s2.ZC dLg;have h0:=s12.dat h0;have le0:H2 le≠none:=λz=>by rw [hye] at z;cases z
 generalize XW:eQ pt cl b=tot at post;have XW:tot=(eQ pt cl b).or none:=by rw [XW,Option.or_none]
 refine cZ (tH (K:=K) (css:=jU pt b) (zu (cs:=cT "hole" pt) (eT (fG (R:=gN 3) (aA (a7 (k:=1) (aB (k:=0) h0) aE rfl) (aA aL aI)) ⟨pt,"hole",rfl,G.dp,by decide,rfl⟩)) (Mr (fR "hole" pt) (Mr (Nl (by decide) G.dp) (by decide))) _ (by rw [eH,LR,LR]) rfl (λF i c v es sF hc he hv=>?_)) G.rh λr3 y3 H3 s3 ZM nr3 d3=>?_)
 ·rw [eH,LV,LV,hc] at he;cases he;exact BV (k:=1) le0 (sF _ _ hye) (sF.P0 dye)
 have e3:y3.length=(bR (jU pt b)).length:=by rw [<- d3.length,LR]
 have Z4:=s12.trans s3;have h0:=s3.dat h0;have hye:=s3 _ _ hye;have dye:=s3.P0 dye;have hyg:=s3 _ _ hyg;have dLg:=s3.ZC dLg;clear s1 s2 s12 s3 hd;refine ⟨r3,rfl,⟨y3,PJ.of ZM⟩,hZ (K:=K) (bR (jU pt b)) (λhs=>(bR (hW pt)).findSome? λnums=>(bR (gP pt)).findSome? λks=>(bR (iY ks b)).findSome? λas=>A9 pt cl b hs nums ks as) (λσ F=>∃ z4 z5 z6 z7 z8 z9 UB:Option V,σ=[some v0,some (.int (b:Int)),some (.ref lg),some (.ref le),z4,z5,z6,z7,z8,z9,UB]/\Pr H3 F) XW e3 ?_ (λσ F ⟨_,_,_,_,_,_,_,_,sF⟩=>PJ.of (sF _ _ ZM)) ?_ ?_⟩
 ·exact ⟨none,none,none,none,none,none,none,rfl,Pr.refl _⟩
 ·rintro i4 x4 hs σ F4 hx4 hh4 ⟨z4,z5,z6,z7,z8,z9,UB,rfl,a4⟩ R4 ht4;have q4:=kh d3 hx4 hh4;have YQ:=Mj hh4;refine eY ?_;dsimp only;refine ⟨_,rfl,lg,yg,hW pt,rfl,PJ.of (a4 _ _ hyg),a4.ZC dLg,G.rn,λr4 y4 H4 t4 ZN nr4 d4=>?_⟩;have e4:y4.length=(bR (hW pt)).length:=by rw [<- d4.length,LR]
  have w4:=a4.trans t4;refine ⟨r4,rfl,⟨y4,PJ.of ZN⟩,hZ (K:=K) (bR (hW pt)) _ (λσ F=>∃ z5 z6 z7 z8 z9 UB:Option V,σ=[some v0,some (.int (b:Int)),some (.ref lg),some (.ref le),some x4,z5,z6,z7,z8,z9,UB]/\Pr H4 F) ht4 e4 ?_ (λσ F ⟨_,_,_,_,_,_,_,sF⟩=>PJ.of (sF _ _ ZN)) ?_ ?_⟩
  ·exact ⟨z5,z6,z7,z8,z9,UB,rfl,Pr.refl _⟩
  ·rintro i5 x5 nums σ F5 hx5 hh5 ⟨z5,z6,z7,z8,z9,UB,rfl,a5⟩ R5 ht5;have q5:=kh d4 hx5 hh5;have WM:=Mj hh5;refine eY ?_;dsimp only;have w5:=w4.trans a5;refine tH (K:=K) (css:=gP pt) (kg (cs:=cT "slot" pt) (eT (fG (R:=gN 3) (aA (a7 (k:=1) (aB (k:=0) (w5.dat h0)) aE rfl) (aA aL aI)) ⟨pt,"slot",rfl,G.dp,by decide,rfl⟩)) (Mr (fR "slot" pt) (Mr (Nl (by decide) G.dp) (by decide))) _ (by rw [eK,LR,LR]) rfl (λF i c v es sF hc he hv=>?_)) G.rk λr5 y5 H5 t5 ZH nr5 d5=>?_
   ·rw [eK,LV,LV,hc] at he;cases he;exact RC.as (cE (aA aE (aA aE (aA aE (aA aE aI))))) rfl
   have e5:y5.length=(bR (gP pt)).length:=by rw [<- d5.length,LR]
   have w6:=w5.trans t5;refine ⟨r5,rfl,⟨y5,PJ.of ZH⟩,hZ (K:=K) (bR (gP pt)) _ (λσ F=>∃ z6 z7 z8 z9 UB:Option V,σ=[some v0,some (.int (b:Int)),some (.ref lg),some (.ref le),some x4,some x5,z6,z7,z8,z9,UB]/\Pr H5 F) ht5 e5 ?_ (λσ F ⟨_,_,_,_,_,_,sF⟩=>PJ.of (sF _ _ ZH)) ?_ ?_⟩
   ·exact ⟨z6,z7,z8,z9,UB,rfl,Pr.refl _⟩
   ·rintro i6 x6 ks σ F6 Z7 hh6 ⟨z6,z7,z8,z9,UB,rfl,a6⟩ R6 ht6;have q6:=a6.dat (kh d5 Z7 hh6);have hks:=Mj hh6;have w7:=w6.trans a6;have v46:=a5.trans (t5.trans a6);have v56:=t5.trans a6;have q5:=v46.dat q5;have q4:=(w4.trans v46).dat q4;refine eY ?_;dsimp only;have ln:=iA _ nums WM;have lk:=iA _ ks hks;refine gE (K:=K) (es:=cl.map λc=>D.int (eF nums ks c)) (fG (R:=vL) (aA (a7 (k:=2) (aB (k:=0) (w7.dat h0)) aE rfl) (aA (aB (k:=5) q5) (aA (aB (k:=6) q6) aI))) ⟨cl,nums,ks,rfl,λc hc=>by rw [ln,lk];exact G.c c hc,G.l,rfl⟩) λlc yc G7 nc t7 hyc dyc=>?_;have ec:(cl.map λc=>D.int (eF nums ks c))=(cl.map (eF nums ks)).map D.int:=by rw [Oc];rfl
    rw [ec] at dyc;obtain rfl:=lO dyc;have w8:=w7.trans t7;refine tH (K:=K) (css:=iY ks b) (BJ (n:=4) (aA aE aI) (by decide) _ (by unfold iY;rw [LR,LR,Nn]) rfl (λF i es sF he=>?_)) (G.ra ks hks) λr8 y8 H8 t8 hr8 nr8 d8=>?_
    ·unfold iY at he;rw [LV,LV] at he;obtain ⟨c,hc,rfl⟩:=Mb.mp he;obtain ⟨k',hk,rfl⟩:=Mb.mp hc;have hk4:i < 4:=by have:=(Mg.mp hk).1;rwa [Nn] at this
     rw [O0 hk4] at hk;cases hk;refine FW (b:=decide ((i:Int) ∈ ks)) (aJ (pP (aB (k:=0) (Dat.Px (i:Int))) (aB (k:=2) ((t7.trans sF).dat q6)))) (λc G' sG=>?_) (λc G' sG=>?_)
     ·rw [Mc (LS c)];exact BV (k:=1) (λz=>by rw [w8 _ _ hye] at z;cases z) ((w8.trans (sF.trans sG)) _ _ hye) ((w8.trans (sF.trans sG)).P0 dye)
     ·rw [LZ (Mf c)];exact RN.of (cE (aA aE aI))
    have e8:y8.length=(bR (iY ks b)).length:=by rw [<- d8.length,LR]
    have q4:=(t7.trans t8).dat q4;have q5:=(t7.trans t8).dat q5;have q6:=(t7.trans t8).dat q6;have hyc:=t8 _ _ hyc;have w9:=w8.trans t8;have h0:=w9.dat h0;refine ⟨r8,rfl,⟨y8,PJ.of hr8⟩,hZ (K:=K) (bR (iY ks b)) _ (λσ F=>∃ z8 z9 UB:Option V,σ=[some v0,some (.int (b:Int)),some (.ref lg),some (.ref le),some x4,some x5,some x6,some (.ref lc),z8,z9,UB]/\Pr H8 F) ht6 e8 ?_ (λσ F ⟨_,_,_,_,sF⟩=>PJ.of (sF _ _ hr8)) ?_ ?_⟩
    ·exact ⟨z8,z9,UB,rfl,Pr.refl _⟩
    ·rintro i8 x8 as σ F8 Z8 hh8 ⟨z8,z9,UB,rfl,a8⟩ R8 ht8;have q8:=a8.dat (kh d8 Z8 hh8);have has:=Mj hh8;refine eY ?_;dsimp only;obtain ⟨VP,r,hgo⟩:=G.all hs YQ nums WM ks hks as has;have ek:o4 pt cl b hs nums ks as=o5 (cP as b (U3 hs nums ks pt)) r:=by unfold o4;rw [hgo]
     obtain ⟨k1,k2⟩:=Ba ht8;rw [ek] at k1 k2;have hh:∀ x ∈ hs,0<=x/\x < (b:Int):=λx hx=>VP.s.p x (List.mem_reverse.mpr (Mt _ hx));have lh:hs.length+1<=64:=by have:=VP.s.l;rwa [MO] at this
     refine cF (K:=K) (d:=tY hs nums ks as) (aR (aA (aB (k:=4) (a8.dat q4)) (aA (aB (k:=5) (a8.dat q5)) (aA (aB (k:=6) (a8.dat q6)) (aA (aB (k:=8) q8) aI))))) λv9 Ft st qt=>?_;have st8:=a8.trans st;refine gW (BC (K:=K) (ps:=1::hs) (mc:=Yt cl nums ks as b) (st:=Z6 hs) (mf (eT (cE (aA aE aI))) (eT (pO (aB (k:=4) (st8.dat q4)))) (by rw [LR];simp only [L5,MB];omega)) rfl rfl VP.m VP.s (st8 _ _ hyc) (st.dat q8) hgo λw GA sA hor=>?_);have st9:=st8.trans sA;refine fL (b:=!o5 (cP as b (U3 hs nums ks pt)) r) ?_ (λc Fk sk=>?_) (λc Fk sk=>?_)
     ·rcases hor with ⟨rfl,rfl⟩ | ⟨s,lp,rfl,rfl,hA⟩
      ·exact aJ (Fe (aB (k:=10) Dat.W5) (eT (cE (aA aE (aA (bE (R:=rK 3) (aA (a7 (k:=1) (aB (k:=0) (st9.dat h0)) aE rfl) (aA (aB (k:=9) (sA.dat qt)) (aA (aB (k:=1) (Dat.Px (b:Int))) aI))) ⟨pt,hs,nums,ks,as,b,rfl,VP.f,VP.dp,VP.t,⟨VP.m.as,VP.m.ai,VP.m.b2,VP.m.b9⟩,hh,rfl⟩) aI)))))
      ·exact aJ (Dr (cK (k:=10) (LD.of hA (eP s.pile.reverse))) (eT (cE (aA aE (aA (bE (R:=rK 3) (aA (a7 (k:=1) (aB (k:=0) (st9.dat h0)) aE rfl) (aA (aB (k:=9) (sA.dat qt)) (aA (aB (k:=1) (Dat.Px (b:Int))) aI))) ⟨pt,hs,nums,ks,as,b,rfl,VP.f,VP.dp,VP.t,⟨VP.m.as,VP.m.ai,VP.m.b2,VP.m.b9⟩,hh,rfl⟩) aI)))) (fE _) rfl (by rw [cW];decide))
     ·rw [k2 (jZ c)] at post;exact bC (K:=K) (d:=tY hs nums ks as) (aB (k:=9) ((sA.trans sk).dat qt)) λv H' s' q=>post v H' (Z4.trans (w9.trans (st9.trans (sk.trans s')))) q
     ·exact (show kn _ _ _ from ⟨⟨_,_,_,rfl,st9.trans sk⟩,k1 (iL c)⟩)
    ·rintro σ F ⟨z8,z9,UB,rfl,a8⟩ e;exact ⟨⟨_,_,_,_,_,rfl,a6.trans (t7.trans (t8.trans a8))⟩,e⟩
   ·rintro σ F ⟨z6,z7,z8,z9,UB,rfl,a6⟩ e;exact ⟨⟨_,_,_,_,_,_,rfl,a5.trans (t5.trans a6)⟩,e⟩
  ·rintro σ F ⟨z5,z6,z7,z8,z9,UB,rfl,a5⟩ e;exact ⟨⟨_,_,_,_,_,_,_,rfl,w4.trans a5⟩,e⟩
 ·rintro σ F ⟨z4,z5,z6,z7,z8,z9,UB,rfl,a4⟩ e;rw [e] at post;exact post _ _ (Z4.trans a4) Dat.W5
noncomputable abbrev LPD:List D:=[.tup [.str "inc",.tup [.str "add",.tup [.str "hole",.int 0],.tup [.str "num",.int 1]],.tup [.int 12,.int 1]],
 .tup [.str "both",.tup [.str "add",.tup [.str "slot",.int 0],.tup [.str "slot",.int 1]],.tup [.int 3,.tup [.str "arg",.int 0],.int 3,.tup [.str "arg",.int 1],.int 4]],
 .tup [.str "twofold",.tup [.str "mul",.tup [.str "hole",.int 0],.tup [.str "num",.int 2]],.tup [.int 13,.int 4]],
 .tup [.str "fewer",.tup [.str "sub",.tup [.str "hole",.int 0],.tup [.str "gap",.int 0,.int 99]],.tup [.int 1,.tup [.str "low",.int 0],.int 5]],
 .tup [.str "addmul",.tup [.str "add",.tup [.str "mul",.tup [.str "hole",.int 0],.tup [.str "hole",.int 1]],.tup [.str "gap",.int 0,.int 99]],.tup [.int 6,.int 12,.tup [.str "low",.int 0]]],
 .tup [.str "turned",.tup [.str "less",.tup [.str "gap",.int 0,.int 99],.tup [.str "hole",.int 0]],.tup [.int 1,.tup [.str "low",.int 0],.int 14,.int 7]],
 .tup [.str "far",.tup [.str "add",.tup [.str "hole",.int 0],.tup [.str "gap",.int 0,.int 9999]],.tup [.int 2,.tup [.str "low",.int 0],.tup [.str "high",.int 0],.int 4]],
 .tup [.str "pair",.tup [.str "sub",.tup [.str "gap",.int 0,.int 99],.tup [.str "gap",.int 1,.int 99]],.tup [.int 1,.tup [.str "low",.int 0],.int 1,.tup [.str "low",.int 1],.int 5]]]
theorem pz (T:Txt P w K mg)  : Ok P w base (k+1) T.HR (iU K λds es=>ds=[]/\es=LPD):=by
 refine T.HR.f.ok UM (λvs H Q E h=>?_) (λcdv A outer s H vs Q E hr h=>?_)
 ·obtain ⟨ds,es,hd,⟨rfl,rfl⟩,_⟩:=h;exact hd.length.symm
 have nd:=UM.nd;obtain ⟨ds,es,hd,⟨rfl,rfl⟩,post⟩:=h;have ez:=hd.Vc;subst ez;refine' ⟨_,?WN,?YK⟩
 case' WN=>refine' aF ?a ?b
 case' a=>refine' iE ?c ?d ?e ?f
 case' c=>refine' aS ?g
 case' g=>refine' aD ?h ?i
 case h=>exact (aS (aD aN (aD aG aC)))
 case' i=>refine' aD ?j ?k
 case j=>exact (aS (aD aN (aD aG aC)))
 case' k=>refine' aD ?l ?m
 case l=>exact (aS (aD aN (aD aG (aD aG aC))))
 case m=>exact aC
 case d=>exact (iP rfl (bN (aY (i:=0) nd rfl (Or.inl rfl)) (bN (aY (i:=1) nd rfl (Or.inl rfl)) (bN (aY (i:=2) nd rfl (Or.inl rfl)) gC))))
 case e=>rfl
 case f=>kernel_rfl
 case' b=>refine' aF ?n ?o
 case' n=>refine' bM (i:=3) ?p ?q ?r ?s
 case p=>exact nd
 case q=>exact rfl
 case r=>exact Or.inl rfl
 case' s=>refine' b0 ?t
 case' t=>refine' aD ?u ?v
 case' u=>refine' aS ?w
 case' w=>refine' aD ?x ?y
 case x=>exact aN
 case' y=>refine' aD ?z ?aa
 case' z=>refine' aS ?ab
 case' ab=>refine' aD ?ac ?ad
 case ac=>exact aN
 case' ad=>refine' aD ?ae ?af
 case ae=>exact (pv 0)
 case' af=>refine' aD ?ag ?ah
 case ag=>exact (aS (aD aN (aD aG aC)))
 case ah=>exact aC
 case' aa=>refine' aD ?ai ?aj
 case ai=>exact (aS (aD aG (aD aG aC)))
 case aj=>exact aC
 case v=>exact aC
 case' o=>refine' aF ?ak ?al
 case' ak=>refine' bK ?am
 case' am=>refine' eU ?an ?ao ?ap ?aq ?ar ?au
 case an=>exact Mn
 case ao=>exact Mz
 case ap=>exact MD
 case aq=>exact bU
 case ar=>exact (pv 3)
 case' au=>refine' aD ?av ?aw
 case' av=>refine' aS ?ax
 case' ax=>refine' aD ?ay ?az
 case ay=>exact aN
 case' az=>refine' aD ?ba ?bb
 case' ba=>refine' aS ?bc
 case' bc=>refine' aD ?bd ?be
 case bd=>exact aN
 case' be=>refine' aD ?bf ?bg
 case bf=>exact (aS (aD aN (aD aG aC)))
 case' bg=>refine' aD ?bh ?bi
 case bh=>exact (aS (aD aN (aD aG aC)))
 case bi=>exact aC
 case' bb=>refine' aD ?bj ?bk
 case' bj=>refine' aS ?bl
 case' bl=>refine' aD ?bm ?bn
 case bm=>exact aG
 case' bn=>refine' aD ?bo ?bp
 case bo=>exact (aS (aD aN (aD aG aC)))
 case' bp=>refine' aD ?bq ?br
 case bq=>exact aG
 case' br=>refine' aD ?bs ?bt
 case bs=>exact (aS (aD aN (aD aG aC)))
 case' bt=>refine' aD ?bu ?bv
 case bu=>exact aG
 case bv=>exact aC
 case bk=>exact aC
 case aw=>exact aC
 case' al=>refine' aF ?bw ?bx
 case' bw=>refine' bK ?bz
 case' bz=>refine' eU ?ca ?cb ?cc ?cd ?ce ?cf
 case ca=>exact Mn
 case cb=>exact Mz
 case cc=>exact MD
 case cd=>exact bU
 case ce=>exact (pv 3)
 case' cf=>refine' aD ?cg ?ch
 case' cg=>refine' aS ?ci
 case' ci=>refine' aD ?cj ?ck
 case cj=>exact aN
 case' ck=>refine' aD ?cl ?cm
 case' cl=>refine' aS ?cn
 case' cn=>refine' aD ?co ?cp
 case co=>exact aN
 case' cp=>refine' aD ?cq ?cr
 case cq=>exact (pv 0)
 case' cr=>refine' aD ?cs ?ct
 case cs=>exact (aS (aD aN (aD aG aC)))
 case ct=>exact aC
 case' cm=>refine' aD ?cu ?cv
 case cu=>exact (aS (aD aG (aD aG aC)))
 case cv=>exact aC
 case ch=>exact aC
 case' bx=>refine' aF ?cw ?cx
 case' cw=>refine' bK ?cy
 case' cy=>refine' eU ?cz ?da ?db ?dc ?dd ?de
 case cz=>exact Mn
 case da=>exact Mz
 case db=>exact MD
 case dc=>exact bU
 case dd=>exact (pv 3)
 case' de=>refine' aD ?df ?dg
 case' df=>refine' aS ?dh
 case' dh=>refine' aD ?di ?dj
 case di=>exact aN
 case' dj=>refine' aD ?dk ?dl
 case dk=>exact (aS (aD aN (aD (pv 0) (aD (pv 2) aC))))
 case' dl=>refine' aD ?dm ?dn
 case' dm=>refine' aS ?dp
 case' dp=>refine' aD ?dq ?dr
 case dq=>exact aG
 case' dr=>refine' aD ?ds ?dt
 case ds=>exact (aS (aD aN (aD aG aC)))
 case' dt=>refine' aD ?du ?dv
 case du=>exact aG
 case dv=>exact aC
 case dn=>exact aC
 case dg=>exact aC
 case' cx=>refine' aF ?dw ?dx
 case' dw=>refine' bK ?dy
 case' dy=>refine' eU ?dz ?ea ?eb ?ec ?ed ?ee
 case dz=>exact Mn
 case ea=>exact Mz
 case eb=>exact MD
 case ec=>exact bU
 case ed=>exact (pv 3)
 case' ee=>refine' aD ?ef ?eg
 case' ef=>refine' aS ?eh
 case' eh=>refine' aD ?ei ?ej
 case ei=>exact aN
 case' ej=>refine' aD ?ek ?el
 case' ek=>refine' aS ?em
 case' em=>refine' aD ?en ?eo
 case en=>exact aN
 case' eo=>refine' aD ?ep ?eq
 case ep=>exact (aS (aD aN (aD (pv 0) (aD (pv 1) aC))))
 case' eq=>refine' aD ?er ?es
 case er=>exact (pv 2)
 case es=>exact aC
 case' el=>refine' aD ?et ?eu
 case' et=>refine' aS ?ev
 case' ev=>refine' aD ?ew ?ex
 case ew=>exact aG
 case' ex=>refine' aD ?ey ?ez
 case ey=>exact aG
 case' ez=>refine' aD ?fa ?fb
 case fa=>exact (aS (aD aN (aD aG aC)))
 case fb=>exact aC
 case eu=>exact aC
 case eg=>exact aC
 case' dx=>refine' aF ?fc ?fd
 case' fc=>refine' bK ?fe
 case' fe=>refine' eU ?ff ?fg ?fh ?fi ?fj ?fk
 case ff=>exact Mn
 case fg=>exact Mz
 case fh=>exact MD
 case fi=>exact bU
 case fj=>exact (pv 3)
 case' fk=>refine' aD ?fl ?fm
 case' fl=>refine' aS ?fn
 case' fn=>refine' aD ?fo ?fp
 case fo=>exact aN
 case' fp=>refine' aD ?fq ?fr
 case fq=>exact (aS (aD aN (aD (pv 2) (aD (pv 0) aC))))
 case' fr=>refine' aD ?fs ?ft
 case' fs=>refine' aS ?fu
 case' fu=>refine' aD ?fv ?fw
 case fv=>exact aG
 case' fw=>refine' aD ?fx ?fy
 case fx=>exact (aS (aD aN (aD aG aC)))
 case' fy=>refine' aD ?fz ?ga
 case fz=>exact aG
 case' ga=>refine' aD ?gb ?gc
 case gb=>exact aG
 case gc=>exact aC
 case ft=>exact aC
 case fm=>exact aC
 case' fd=>refine' aF ?gd ?ge
 case' gd=>refine' bK ?gf
 case' gf=>refine' eU ?gg ?gh ?gi ?gj ?gk ?gl
 case gg=>exact Mn
 case gh=>exact Mz
 case gi=>exact MD
 case gj=>exact bU
 case gk=>exact (pv 3)
 case' gl=>refine' aD ?gm ?gn
 case' gm=>refine' aS ?go
 case' go=>refine' aD ?gp ?gq
 case gp=>exact aN
 case' gq=>refine' aD ?gr ?gs
 case' gr=>refine' aS ?gt
 case' gt=>refine' aD ?gu ?gv
 case gu=>exact aN
 case' gv=>refine' aD ?gw ?gx
 case gw=>exact (pv 0)
 case' gx=>refine' aD ?gy ?gz
 case gy=>exact (aS (aD aN (aD aG (aD aG aC))))
 case gz=>exact aC
 case' gs=>refine' aD ?ha ?hb
 case' ha=>refine' aS ?hc
 case' hc=>refine' aD ?hd ?he
 case hd=>exact aG
 case' he=>refine' aD ?hf ?hg
 case hf=>exact (aS (aD aN (aD aG aC)))
 case' hg=>refine' aD ?hh ?hi
 case hh=>exact (aS (aD aN (aD aG aC)))
 case' hi=>refine' aD ?hj ?hk
 case hj=>exact aG
 case hk=>exact aC
 case hb=>exact aC
 case gn=>exact aC
 case' ge=>refine' aF ?hl ?hm
 case' hl=>refine' bK ?hn
 case' hn=>refine' eU ?ho ?hp ?hq ?hr ?hs ?ht
 case ho=>exact Mn
 case hp=>exact Mz
 case hq=>exact MD
 case hr=>exact bU
 case hs=>exact (pv 3)
 case' ht=>refine' aD ?hu ?hv
 case' hu=>refine' aS ?hw
 case' hw=>refine' aD ?hx ?hy
 case hx=>exact aN
 case' hy=>refine' aD ?hz ?ia
 case' hz=>refine' aS ?ib
 case' ib=>refine' aD ?ic ?id
 case ic=>exact aN
 case' id=>refine' aD ?ie ?ig
 case ie=>exact (aS (aD aN (aD aG (aD aG aC))))
 case' ig=>refine' aD ?ih ?ii
 case ih=>exact (aS (aD aN (aD aG (aD aG aC))))
 case ii=>exact aC
 case' ia=>refine' aD ?ij ?ik
 case' ij=>refine' aS ?il
 case' il=>refine' aD ?im ?io
 case im=>exact aG
 case' io=>refine' aD ?ip ?iq
 case ip=>exact (aS (aD aN (aD aG aC)))
 case' iq=>refine' aD ?ir ?it
 case ir=>exact aG
 case' it=>refine' aD ?iu ?iv
 case iu=>exact (aS (aD aN (aD aG aC)))
 case' iv=>refine' aD ?iw ?ix
 case iw=>exact aG
 case ix=>exact aC
 case ik=>exact aC
 case hv=>exact aC
 case' hm=>refine' aH ?iy
 case iy=>exact (aQ (pv 3))
 refine tL (K:=K) (d:=.tup [.str "hole",.int 0]) (e:=.tup [.str "hole",.int 1]) (f:=.tup [.str "gap",.int 0,.int 99]) (aR (aA (aR (aA aL (aA aE aI))) (aA (aR (aA aL (aA aE aI))) (aA (aR (aA aL (aA aE (aA aE aI)))) aI)))) λvh vo vg H1 s1 dh XE dg=>?_;refine gE (K:=K) (cE (aA (aR (aA aL (aA (aR (aA aL (aA (aB dh) (aA (aR (aA aL (aA aE aI))) aI)))) (aA (aR (aA aE (aA aE aI))) aI)))) aI)) λlb x0 G0 hb s2 h0 e0=>?_;have hlb:H lb=none:=s1.free hb;have dh:=s2.dat dh;have XE:=s2.dat XE;have dg:=s2.dat dg;have bb0:PX lb H G0:=(s1.trans s2).but;have l0:=e0.length;simp only [L5,MB,Ma] at l0;refine jf (K:=K) (aR (aA aL (aA (aR (aA aL (aA (aR (aA aL (aA aE aI))) (aA (aR (aA aL (aA aE aI))) aI)))) (aA (aR (aA aE (aA (aR (aA aL (aA aE aI))) (aA aE (aA (aR (aA aL (aA aE aI))) (aA aE aI)))))) aI)))) h0 (by first | omega | (simp only [Ma,L5,MB];omega)) λy1 G1 b1 h1 W8=>?_;have g1:fA K _ G1:=b1.grow h0 h1;have dh:=Dat.mono g1 _ dh;have XE:=Dat.mono g1 _ XE;have dg:=Dat.mono g1 _ dg;have e1:=Pq.append (Pq.mono g1 _ e0) (Pq.cons W8 Pq.nil);have l1:=e1.length;have bb1:=bb0.trans b1;simp only [L5,MB,Ma] at l1;refine jf (K:=K) (aR (aA aL (aA (aR (aA aL (aA (aB dh) (aA (aR (aA aL (aA aE aI))) aI)))) (aA (aR (aA aE (aA aE aI))) aI)))) h1 (by first | omega | (simp only [Ma,L5,MB];omega)) λy2 G2 b2 h2 e2'=>?_;have g2:fA K _ G2:=b2.grow h1 h2;have dh:=Dat.mono g2 _ dh;have XE:=Dat.mono g2 _ XE;have dg:=Dat.mono g2 _ dg;have e2:=Pq.append (Pq.mono g2 _ e1) (Pq.cons e2' Pq.nil);have l2:=e2.length;have bb2:=bb1.trans b2;simp only [L5,MB,Ma] at l2;refine jf (K:=K) (aR (aA aL (aA (aR (aA aL (aA (aB dh) (aA (aB dg) aI)))) (aA (aR (aA aE (aA (aR (aA aL (aA aE aI))) (aA aE aI)))) aI)))) h2 (by first | omega | (simp only [Ma,L5,MB];omega)) λy3 G3 b3 h3 e3'=>?_;have g3:fA K _ G3:=b3.grow h2 h3;have dh:=Dat.mono g3 _ dh;have XE:=Dat.mono g3 _ XE;have dg:=Dat.mono g3 _ dg;have e3:=Pq.append (Pq.mono g3 _ e2) (Pq.cons e3' Pq.nil);have l3:=e3.length;have bb3:=bb2.trans b3;simp only [L5,MB,Ma] at l3;refine jf (K:=K) (aR (aA aL (aA (aR (aA aL (aA (aR (aA aL (aA (aB dh) (aA (aB XE) aI)))) (aA (aB dg) aI)))) (aA (aR (aA aE (aA aE (aA (aR (aA aL (aA aE aI))) aI)))) aI)))) h3 (by first | omega | (simp only [Ma,L5,MB];omega)) λy4 G4 b4 h4 e4'=>?_;have g4:fA K _ G4:=b4.grow h3 h4;have dh:=Dat.mono g4 _ dh;have XE:=Dat.mono g4 _ XE;have dg:=Dat.mono g4 _ dg;have e4:=Pq.append (Pq.mono g4 _ e3) (Pq.cons e4' Pq.nil);have l4:=e4.length;have bb4:=bb3.trans b4;simp only [L5,MB,Ma] at l4;refine jf (K:=K) (aR (aA aL (aA (aR (aA aL (aA (aB dg) (aA (aB dh) aI)))) (aA (aR (aA aE (aA (aR (aA aL (aA aE aI))) (aA aE (aA aE aI))))) aI)))) h4 (by first | omega | (simp only [Ma,L5,MB];omega)) λy5 G5 b5 h5 e5'=>?_;have g5:fA K _ G5:=b5.grow h4 h5;have dh:=Dat.mono g5 _ dh;have XE:=Dat.mono g5 _ XE;have dg:=Dat.mono g5 _ dg;have e5:=Pq.append (Pq.mono g5 _ e4) (Pq.cons e5' Pq.nil);have l5:=e5.length;have bb5:=bb4.trans b5;simp only [L5,MB,Ma] at l5;refine jf (K:=K) (aR (aA aL (aA (aR (aA aL (aA (aB dh) (aA (aR (aA aL (aA aE (aA aE aI)))) aI)))) (aA (aR (aA aE (aA (aR (aA aL (aA aE aI))) (aA (aR (aA aL (aA aE aI))) (aA aE aI))))) aI)))) h5 (by first | omega | (simp only [Ma,L5,MB];omega)) λy6 G6 b6 h6 e6'=>?_;have g6:fA K _ G6:=b6.grow h5 h6;have dh:=Dat.mono g6 _ dh;have XE:=Dat.mono g6 _ XE;have dg:=Dat.mono g6 _ dg;have e6:=Pq.append (Pq.mono g6 _ e5) (Pq.cons e6' Pq.nil);have l6:=e6.length;have bb6:=bb5.trans b6;simp only [L5,MB,Ma] at l6;refine jf (K:=K) (aR (aA aL (aA (aR (aA aL (aA (aR (aA aL (aA aE (aA aE aI)))) (aA (aR (aA aL (aA aE (aA aE aI)))) aI)))) (aA (aR (aA aE (aA (aR (aA aL (aA aE aI))) (aA aE (aA (aR (aA aL (aA aE aI))) (aA aE aI)))))) aI)))) h6 (by first | omega | (simp only [Ma,L5,MB];omega)) λy7 G7 b7 h7 e7'=>?_;have g7:fA K _ G7:=b7.grow h6 h7;have dh:=Dat.mono g7 _ dh;have XE:=Dat.mono g7 _ XE;have dg:=Dat.mono g7 _ dg;have e7:=Pq.append (Pq.mono g7 _ e6) (Pq.cons e7' Pq.nil);have l7:=e7.length;have bb7:=bb6.trans b7;have sm:Pr H G7:=λb o hbo=>bb7 b o (bS hbo hlb) hbo;exact ⟨_,rfl,post lb _ G7 sm h7 hlb e7⟩
variable {q:Int}
theorem BD {t:Addr} {p:Int} (hl:RC K tl σ G (ks.map D.int)) (hS:XG K G a ns) (hT:G t=some (.lst [.int p,.int q])) (hp:0<=p) (h0:0 < ks.length) (h1:ks.length<=1000)
  (post:∀ (k:Int) (G':Hp) (p' q':Int),k ∈ ks->PX t G G'->G' t=some (.lst [.int p',.int q'])->0<=p'->Q (.int k) G') (e0:σ[0]?=some (some (.ref a)):=by rfl) (e1:σ[1]?=some (some (.ref t)):=by rfl) :
  gJ (tT K) [] E (bO (dW 0) (bO (dW 1) (bO tl dH))) σ G Q :=
 ⟨_,e0,_,e1,hl.use λl ys G1 n1 s1 hy dy=>by
  obtain rfl:=lO dy;refine ⟨a,t,l,ns,_,p,q,[],rfl,hS.same s1,PJ.of hy,(λz=>by rw [z,hT] at n1;cases n1),by rw [LR];exact h0,by rw [LR];omega,s1 _ _ hT,hp,λi x G2 p' q' b2 t2 g2 hx=>?_⟩;rw [LV] at hx;obtain ⟨k,hk,rfl⟩:=Mb.mp hx;exact post k G2 p' q' (Mj hk) (s1.but.trans b2) t2 g2⟩
theorem BB {tm:TE} {t:Addr} {m p:Int} (hm:RE K tm σ G (.int m)) (hS:XG K G a ns) (hT:G t=some (.lst [.int p,.int q])) (hp:0<=p) (h0:0 < m) (h1:m<=1000000)
  (post:∀ (k:Int) (G':Hp) (p' q':Int),0<=k->k < m->PX t G G'->G' t=some (.lst [.int p',.int q'])->0<=p'->Q (.int k) G') (e0:σ[0]?=some (some (.ref a)):=by rfl) (e1:σ[1]?=some (some (.ref t)):=by rfl) :
  gJ (tS K) [] E (bO (dW 0) (bO (dW 1) (bO tm dH))) σ G Q :=
 ⟨_,e0,_,e1,hm.use λv G1 s1 qv=>by
  obtain rfl:=qv.Pz;exact ⟨a,t,ns,m,p,q,[],rfl,hS.same s1,s1 _ _ hT,hp,h0,h1,λk G2 p' q' b2 t2 g2 k0 k1=>post k G2 p' q' k0 k1 (s1.but.trans b2) t2 g2⟩⟩
theorem wX (h:RL K t σ H es):RE K (WB (λxs H Q=>∃ p ys,xs=[.ref p]/\((PJ K H p ys/\∀ l,H l=none->Q (.ref l) (upd H l (.tup ys)))\/(QE K H p ys/\Q (.ref p) H))) (bO t dH)) σ H (.tup es):=λH1 s Q q =>
 je ((h.mono s).use λv H' s' hd=>by
  obtain ⟨l,ys,rfl,hy,hd⟩:=hd;exact ⟨l,ys,rfl,.inl ⟨hy.S7,λp hp=>q _ _ (s'.trans (aT hp _)) (Dat.tupI (QE.of aM) ((aT hp _).P0 hd))⟩⟩)
noncomputable abbrev MG:List Int:=[0,5,99,150,9999]
noncomputable def zl (m:Int):List Pa:=[.two "add" (.hole 0) (.hole 1),.two "sub" (.hole 0) (.hole 1),.two "less" (.hole 0) (.hole 1),.two "mul" (.hole 0) (.gap 0 m),.two "add" (.hole 0) (.gap 0 m),.gap 0 m,.slot 0,.two "sub" (.hole 0) (.slot 0),.two "add" (.hole 0) (.hole 1)]
noncomputable def gQ (k:Str) (p:Pa):Bool:=!(cT k p).isEmpty
noncomputable def mP (g s:Bool):List (List Cl):=[[.n 4],[.n 5],[.n 6],[.n 7],[.n 13],[.n 14]]++((if g=true then [[.n 1,.low 0],[.n 12,.low 0],[.n 2,.low 0,.high 0]] else [[.n 1,.n 0],[.n 1,.n 1],[.n 1,.n 2],[.n 12,.n 0],[.n 12,.n 1],[.n 12,.n 2],[.n 2,.n 7,.n 1]])++(if s=true then [[.n 3,.arg 0]] else [[.n 3,.n 0]]))
structure Drawn (pt:Pa) (bl:List (List Cl)):Prop where
 p:∃ m ∈ MG,pt ∈ zl m
 l1:1<=bl.length
 l4:bl.length<=4
 b:∀ x ∈ bl,x ∈ mP (gQ "gap" pt) (gQ "slot" pt)
theorem sX:∀ m ∈ MG,∀ p ∈ zl m,(bJ p<=3/\∀ k ∈ (["gap","slot"]:List Str),PY (cT k p)=true/\PC (cT k p)<=20):=by decide +kernel
theorem xG:∀ (g s:Bool),∀ x ∈ mP g s,x.length<=3:=by decide +kernel
structure XI (K:W.Frag) (a t l:Addr) (ns:List Int) (H:Hp) (pd:D) (v5:V) (G:Hp) (cl:List Cl):Prop where
 s:XG K G a ns
 b:PX t H G
 t:∃ p q:Int,G t=some (.lst [.int p,.int q])/\0<=p
 l:∃ ys,G l=some (.lst ys)/\Pq K G (cl.map U4) ys
 d:Dat K G pd v5
section
variable {a t l:Addr} {ns:List Int} {H G G':Hp} {pd:D} {v5:V} {cl:List Cl}
theorem XI.same (S:XI K a t l ns H pd v5 G cl) (s:Pr G G'):XI K a t l ns H pd v5 G' cl:=by obtain ⟨h1,h2,⟨p,q,h3,h4⟩,⟨ys,h5,h6⟩,h7⟩:=S;exact ⟨h1.same s,h2.trans s.but,⟨p,q,s _ _ h3,h4⟩,⟨ys,s _ _ h5,s.P0 h6⟩,s.dat h7⟩
theorem XI.drawn {p' q':Int} (S:XI K a t l ns H pd v5 G cl) (b:PX t G G') (t':G' t=some (.lst [.int p',.int q'])) (g:0<=p') (hlt:l≠t):XI K a t l ns H pd v5 G' cl:=by obtain ⟨h1,h2,⟨p,q,h3,h4⟩,⟨ys,h5,h6⟩,h7⟩:=S;have gr:fA K G G':=b.grow h3 t';exact ⟨h1.but b h3,h2.trans b,⟨p',q',t',g⟩,⟨ys,b _ _ hlt h5,Pq.mono gr _ h6⟩,Dat.mono gr _ h7⟩
theorem XI.grown {xs:List V} {cs:List Cl} (S:XI K a t l ns H pd v5 G cl) (b:PX l G G') (h':G' l=some (.lst xs)) (hd:Pq K G' ((cl++cs).map U4) xs) (hlt:l≠t) (nl:H l=none):XI K a t l ns H pd v5 G' (cl++cs):=by obtain ⟨h1,h2,⟨p,q,h3,h4⟩,⟨ys,h5,h6⟩,h7⟩:=S;have gr:fA K G G':=b.grow h5 h';exact ⟨h1.but b h5,λx o n e=>b x o (λz=>by rw [z,nl] at e;cases e) (h2 x o n e),⟨p,q,b _ _ (MQ hlt) h3,h4⟩,⟨xs,h',hd⟩,Dat.mono gr _ h7⟩
variable {σ:L2.St}
theorem tf {te:TE} {En:Ends} {UD:Cl->Prop} (S:XI K a t l ns H pd v5 G cl) (hlt:l≠t) (nl:H l=none) (h9:cl.length<=900)
  (h:∀ Q:VK,(∀ v G' c,UD c->XI K a t l ns H pd v5 G' cl->Dat K G' (U4 c) v->Q v G')->te σ G Q) (q:∀ c G',UD c->XI K a t l ns H pd v5 G' (cl++[c])->En.nx σ G') (e6:σ[6]?=some (some (.ref l)):=by rfl) :
  nM (Zv K "list" jJ (dW 6) (bO te dH)) En σ G:=by
 obtain ⟨_,_,_,⟨ys0,h50,_⟩,_⟩:=id S;refine ⟨_,e6,.inl ⟨rfl,_,PJ.of h50⟩,h _ λv G' c hc S' dv=>?_⟩;obtain ⟨_,_,_,⟨ys,h5,h6⟩,_⟩:=id S';have ly:=h6.length;rw [LR] at ly;refine ⟨l,_,_,rfl,rfl,h5,dJ (by omega),q c _ hc (S'.grown (cs:=[c]) (PX.upd (Pr.refl _).but) aM ?_ hlt nl)⟩;have gr:fA K G' (upd G' l (.lst (ys++[v]))):=(PX.upd (Pr.refl G').but).grow h5 aM;rw [MM];exact Pq.append (Pq.mono gr _ h6) (Pq.cons (Dat.mono gr _ dv) Pq.nil)
theorem yB {ta tb:TE} {H:Hp} {ds es:List D} (h1:RL K ta σ H ds) (h2:RL K tb σ H es) (n:PY ds=true) (n2:PY es=true) (d:PC ds<=20):RE K (S8 (vf K true) ta tb) σ H (.bl (!QM ds es)):=λH1 s Q q =>
 h1 H1 s _ λv H2 s2 q2=>h2 H2 (s.trans s2) _ λw H3 s3 q3=>by obtain ⟨a,xs,rfl,ha,da⟩:=s3.ld q2;obtain ⟨b,ys,rfl,hb,db⟩:=q3;exact ⟨a,b,xs,ys,ds,es,rfl,rfl,ha.S7,hb.S7,da,db,n,n2,d,q _ _ (s2.trans s3) (Dat.UA _)⟩
theorem xa {E:XK} {G:Hp} {pt:Pa} {m:Int} {k':Str} {v5:V} (hm:m ∈ MG) (hp:pt ∈ zl m) (hk:k' ∈ (["gap","slot"]:List Str)) (h:Dat K G (Qf pt) v5) (e5:σ[5]?=some (some v5):=by rfl) :
  RT (vE (S8 (vf K true) (gJ (iU K (gN 3)) [] E (bO (dW 5) (bO (tC (.str k')) dH))) (B5 dH))) σ G (gQ k' pt):=by
 obtain ⟨dp,hh⟩:=sX m hm pt hp;obtain ⟨n1,n2⟩:=hh k' hk;have:=yB (K:=K) (eT (fG (E:=E) (R:=gN 3) (aA (aB (k:=5) h e5) (aA (aL (x:=k')) aI)) ⟨pt,k',rfl,dp,by decide,rfl⟩)) (eT (cE (σ:=σ) (H:=G) aI)) n1 rfl n2;rw [lP] at this;exact aJ this
end
noncomputable def yE (K:W.Frag):Sp:=λvs H Q _=>∃ (a t:Addr) (ns:List Int) (p q:Int),vs=[.ref a,.ref t]/\XG K H a ns/\H t=some (.lst [.int p,.int q])/\0<=p /\
 ∀ (v:V) (H':Hp) (pt:Pa) (bl:List (List Cl)) (p' q':Int),PX t H H'->H' t=some (.lst [.int p',.int q'])->0<=p'->Drawn pt bl->Dat K H' (qC (.str "drawn") pt bl.flatten) v->Q v H'
theorem kz (T:Txt P w K mg) (IY:Ok P w base k T.Hb (tT K)) (JL:Ok P w base k T.Ie (tS K)) (GT:Ok P w base k T.GE (iU K (gN 3))):Ok P w base (k+1) T.HJ (yE K):=by
 refine T.HJ.f.ok R1 (λvs H Q E h=>?_) (λcdv A outer s H vs Q E hr h=>?_)
 ·obtain ⟨a,t,ns,p,q,rfl,_⟩:=h;rfl
 have nd:=R1.nd;obtain ⟨a,t,ns,p,q,rfl,hS,hT,hp,post⟩:=h;refine' ⟨_,?WN,?YK⟩
 case' WN=>refine' aF ?a ?b
 case a=>exact (wO (i:=2) (j:=3) rfl nd rfl rfl (by decide) rfl rfl (aD (aS (aD aN (aD aG aC))) (aD (aS (aD aN (aD aG (aD (pc (D:=T.Hb) IY hr (aD (pv 0) (aD (pv 1) (aD (b0 (aD aG (aD aG (aD aG (aD aG (aD aG aC)))))) aC)))) aC)))) aC)) (by kernel_rfl))
 case' b=>refine' aF ?c ?d
 case' c=>refine' bM (i:=4) ?e ?f ?g ?h
 case e=>exact nd
 case f=>exact rfl
 case g=>exact Or.inl rfl
 case' h=>refine' b0 ?i
 case' i=>refine' aD ?j ?k
 case' j=>refine' aS ?l
 case' l=>refine' aD ?m ?n
 case m=>exact aN
 case' n=>refine' aD ?o ?p
 case o=>exact (pv 2)
 case' p=>refine' aD ?q ?r
 case q=>exact (aS (aD aN (aD aG aC)))
 case r=>exact aC
 case' k=>refine' aD ?s ?t
 case' s=>refine' aS ?u
 case' u=>refine' aD ?v ?w
 case v=>exact aN
 case' w=>refine' aD ?x ?y
 case x=>exact (pv 2)
 case' y=>refine' aD ?z ?aa
 case z=>exact (aS (aD aN (aD aG aC)))
 case aa=>exact aC
 case' t=>refine' aD ?ab ?ac
 case' ab=>refine' aS ?ad
 case' ad=>refine' aD ?ae ?af
 case ae=>exact aN
 case' af=>refine' aD ?ag ?ah
 case ag=>exact (pv 2)
 case' ah=>refine' aD ?ai ?aj
 case ai=>exact (aS (aD aN (aD aG aC)))
 case aj=>exact aC
 case ac=>exact aC
 case' d=>refine' aF ?ak ?al
 case' ak=>refine' bK ?am
 case' am=>refine' eU ?an ?ao ?ap ?aq ?ar ?au
 case an=>exact Mn
 case ao=>exact Nt
 case ap=>exact NO
 case aq=>exact gR
 case ar=>exact (pv 4)
 case' au=>refine' aD ?av ?aw
 case' av=>refine' b0 ?ax
 case' ax=>refine' aD ?ay ?az
 case ay=>exact (aS (aD aN (aD (pv 2) (aD (pv 3) aC))))
 case az=>exact aC
 case aw=>exact aC
 case' al=>refine' aF ?ba ?bb
 case' ba=>refine' bK ?bc
 case' bc=>refine' eU ?bd ?be ?bf ?bg ?bh ?bi
 case bd=>exact Mn
 case be=>exact Nt
 case bf=>exact NO
 case bg=>exact gR
 case bh=>exact (pv 4)
 case' bi=>refine' aD ?bj ?bk
 case' bj=>refine' b0 ?bl
 case' bl=>refine' aD ?bm ?bn
 case bm=>exact (aS (aD aN (aD (pv 2) (aD (pv 3) aC))))
 case' bn=>refine' aD ?bo ?bp
 case bo=>exact (pv 3)
 case' bp=>refine' aD ?bq ?br
 case bq=>exact (aS (aD aN (aD aG aC)))
 case' br=>refine' aD ?bs ?bt
 case' bs=>refine' aS ?bu
 case' bu=>refine' aD ?bv ?bw
 case bv=>exact aN
 case' bw=>refine' aD ?bx ?bz
 case bx=>exact (pv 2)
 case' bz=>refine' aD ?ca ?cb
 case ca=>exact (aS (aD aN (aD aG aC)))
 case cb=>exact aC
 case bt=>exact aC
 case bk=>exact aC
 case' bb=>refine' aF ?cc ?cd
 case' cc=>refine' bK ?ce
 case' ce=>refine' eU ?cf ?cg ?ch ?ci ?cj ?ck
 case cf=>exact Mn
 case cg=>exact Nt
 case ch=>exact NO
 case ci=>exact gR
 case cj=>exact (pv 4)
 case' ck=>refine' aD ?cl ?cm
 case' cl=>refine' b0 ?cn
 case' cn=>refine' aD ?co ?cp
 case' co=>refine' aS ?cq
 case' cq=>refine' aD ?cr ?cs
 case cr=>exact aN
 case' cs=>refine' aD ?ct ?cu
 case ct=>exact (pv 2)
 case' cu=>refine' aD ?cv ?cw
 case cv=>exact (bI sQ (kb DB (pv 2) yn (jc aG)) (aS (aD aG aC)))
 case cw=>exact aC
 case cp=>exact aC
 case cm=>exact aC
 case' cd=>refine' aF ?cx ?cy
 case cx=>exact (wO (i:=5) (j:=6) rfl nd rfl rfl (by decide) rfl rfl (aD (pc (D:=T.Hb) IY hr (aD (pv 0) (aD (pv 1) (aD (pv 4) aC)))) (aD (b0 aC) aC)) (by kernel_rfl))
 case' cy=>refine' aF ?cz ?da
 case' cz=>refine' fS ?db ?dc ?dd ?de ?df
 case db=>exact MJ
 case dc=>exact rfl
 case dd=>exact (kq rfl T.Jp (aD (bI dY aG (pc (D:=T.Ie) JL hr (aD (pv 0) (aD (pv 1) (aD aG aC))))) aC))
 case de=>exact (aY (i:=7) nd rfl (Or.inl rfl))
 case' df=>refine' aF ?dg ?dh
 case' dg=>refine' bM (i:=8) ?di ?dj ?dk ?dl
 case di=>exact nd
 case dj=>exact rfl
 case dk=>exact Or.inl rfl
 case' dl=>refine' oz ?dm ?dn ?dp ?dq ?dr ?ds ?dt ?du ?dv
 case dm=>exact IY
 case dn=>exact hr
 case dp=>exact rfl
 case dq=>exact T.Hb.m
 case dr=>exact T.Hb.f.kp
 case ds=>exact T.Hb.b
 case dt=>exact .nil
 case du=>exact ka
 case' dv=>refine' aD ?dw ?dx
 case dw=>exact (pv 0)
 case' dx=>refine' aD ?dy ?dz
 case dy=>exact (pv 1)
 case' dz=>refine' aD ?ea ?eb
 case' ea=>refine' b0 ?ec
 case' ec=>refine' aD ?ed ?ee
 case ed=>exact aG
 case' ee=>refine' aD ?ef ?eg
 case ef=>exact aG
 case' eg=>refine' aD ?eh ?ei
 case eh=>exact aG
 case' ei=>refine' aD ?ej ?ek
 case ej=>exact aG
 case' ek=>refine' aD ?el ?em
 case el=>exact aG
 case' em=>refine' aD ?en ?eo
 case en=>exact aG
 case' eo=>refine' aD ?ep ?eq
 case ep=>exact aG
 case' eq=>refine' aD ?er ?es
 case er=>exact aG
 case' es=>refine' aD ?et ?eu
 case et=>exact aG
 case' eu=>refine' aD ?ev ?ew
 case ev=>exact aG
 case ew=>exact aC
 case eb=>exact aC
 case' dh=>refine' aF ?ex ?ey
 case ex=>exact (bK (eU Mn Mz MD bU (pv 6) (aD (pv 8) aC)))
 case' ey=>refine' aF ?ez ?fa
 case' ez=>refine' bD ?fb ?fc ?fd
 case fb=>exact (aO eA (pv 8) (aS (aD aG (aD aG aC))) (by with_unfolding_all rfl))
 case' fc=>refine' aH ?fe
 case' fe=>refine' bK ?ff
 case' ff=>refine' eU ?fg ?fh ?fi ?fj ?fk ?fl
 case fg=>exact Mn
 case fh=>exact Mz
 case fi=>exact MD
 case fj=>exact bU
 case fk=>exact (pv 6)
 case' fl=>refine' aD ?fm ?fn
 case' fm=>refine' dR ?fo ?fp ?fq
 case fo=>exact (aO (pG hr) (pc (D:=T.GE) GT hr (aD (pv 5) (aD aN aC))) (b0 aC) (aV _))
 case fp=>exact (aS (aD aN (aD aG aC)))
 case fq=>exact (pc (D:=T.Ie) JL hr (aD (pv 0) (aD (pv 1) (aD aG aC))))
 case fn=>exact aC
 case fd=>exact aU
 case' fa=>refine' aF ?fr ?fs
 case' fr=>refine' bD ?ft ?fu ?fv
 case ft=>exact (aO cH (pv 8) aG (aV _))
 case' fu=>refine' aH ?fw
 case' fw=>refine' bK ?fx
 case' fx=>refine' eU ?fy ?fz ?ga ?gb ?gc ?gd
 case fy=>exact Mn
 case fz=>exact Nt
 case ga=>exact NO
 case gb=>exact gR
 case gc=>exact (pv 6)
 case' gd=>refine' aD ?ge ?gf
 case' ge=>refine' dR ?gg ?gh ?gi
 case gg=>exact (aO (pG hr) (pc (D:=T.GE) GT hr (aD (pv 5) (aD aN aC))) (b0 aC) (aV _))
 case' gh=>refine' b0 ?gj
 case' gj=>refine' aD ?gk ?gl
 case gk=>exact (aS (aD aN (aD aG aC)))
 case' gl=>refine' aD ?gm ?gn
 case gm=>exact (aS (aD aN (aD aG aC)))
 case gn=>exact aC
 case gi=>exact (b0 (aD aG (aD aG aC)))
 case gf=>exact aC
 case fv=>exact aU
 case' fs=>refine' aH ?go
 case' go=>refine' bD ?gp ?gq ?gr
 case gp=>exact (aO cH (pv 8) aG (aV _))
 case' gq=>refine' aH ?gs
 case' gs=>refine' bK ?gt
 case' gt=>refine' eU ?gu ?gv ?gw ?gx ?gy ?gz
 case gu=>exact Mn
 case gv=>exact Mz
 case gw=>exact MD
 case gx=>exact bU
 case gy=>exact (pv 6)
 case' gz=>refine' aD ?ha ?hb
 case' ha=>refine' dR ?hc ?hd ?he
 case hc=>exact (aO (pG hr) (pc (D:=T.GE) GT hr (aD (pv 5) (aD aN aC))) (b0 aC) (aV _))
 case hd=>exact (aS (aD aN (aD aG aC)))
 case he=>exact aG
 case hb=>exact aC
 case gr=>exact aU
 case' da=>refine' aH ?hf
 case hf=>exact (aQ (aS (aD aN (aD (pv 5) (aD (cQ jh rfl T.Jq hV (aD (pv 6) aC)) aC)))))
 refine cZ (RE.use (aR (K:=K) (ds:=[.str "hole",.int 0]) (aA aL (aA aE aI))) λv2 G1 u1 d2=>?_);refine BD (K:=K) (ks:=MG) (cE (aA aE (aA aE (aA aE (aA aE (aA aE aI)))))) (hS.same u1) (u1 _ _ hT) hp (by decide) (by decide) λm G2 p2 q2 hm b2 t2 g2=>⟨jg (show 3<=1000 by decide),λr3 n3=>⟨_,_,rfl,?_⟩⟩
 have gr2:fA K G1 G2:=b2.grow (u1 _ _ hT) t2;have s3:Pr G2 (upd G2 r3 (.tup [.str "gap",.int 0,.int m])):=aT n3 _;generalize hG3:upd G2 r3 (.tup [.str "gap",.int 0,.int m])=G3 at s3;have d3:Dat K G3 (.tup [.str "gap",.int 0,.int m]) (.ref r3):=by rw [<- hG3];exact Dat.tupI (QE.of aM) (Pq.cons (Dat.Rb _) (Pq.cons (Dat.Px _) (Pq.cons (Dat.Px _) Pq.nil)))
 have d2:=s3.dat (Dat.mono gr2 _ d2);have XR:=((hS.same u1).but b2 (u1 _ _ hT)).same s3;have t3:=s3 _ _ t2;have b3:PX t H G3:=(u1.but.trans b2).trans s3.but;clear hG3 gr2 n3 s3 b2 t2 u1;generalize hv3:V.ref r3=v3 at d3;dsimp only;refine gE (K:=K) (es:=[Qf (.two "add" (.hole 0) (.hole 1)),Qf (.two "sub" (.hole 0) (.hole 1)),Qf (.two "less" (.hole 0) (.hole 1))]) (cE (aA (aR (aA aL (aA (aB (k:=2) d2) (aA (aR (aA aL (aA aE aI))) aI)))) (aA (aR (aA aL (aA (aB (k:=2) d2) (aA (aR (aA aL (aA aE aI))) aI)))) (aA (aR (aA aL (aA (aB (k:=2) d2) (aA (aR (aA aL (aA aE aI))) aI)))) aI)))) λl4 y4 G4 n4 u4 Sg dy4=>?_;have l4t:l4≠t:=λz=>by rw [z,t3] at n4;cases n4
 have f4:H l4=none:=OH.mpr λo e=>by have:=b3 l4 o l4t e;rw [n4] at this;cases this
 have ly4:=dy4.length;have d2:=u4.dat d2;have d3:=u4.dat d3;have hS4:=XR.same u4;have t4:=u4 _ _ t3;have b4:PX t H G4:=b3.trans u4.but;clear u4 XR t3 b3 n4;refine cZ (mx (K:=K) (j:=4) (es:=[Qf (.two "mul" (.hole 0) (.gap 0 m))]) (cE (aA (aR (aA aL (aA (aB (k:=2) d2) (aA (aB (k:=3) d3) aI)))) aI)) Sg (by rw [<- ly4];simp only [L5,MB,Ma];decide) λz5 G5 c5 YS dz5=>?_);have gr5:fA K G4 G5:=c5.grow Sg YS;have dy5:=Pq.append (Pq.mono gr5 _ dy4) dz5;have ly5:=dy5.length;have d2:=Dat.mono gr5 _ d2;have d3:=Dat.mono gr5 _ d3;refine cZ (mx (K:=K) (j:=4) (es:=[Qf (.two "add" (.hole 0) (.gap 0 m)),Qf (.gap 0 m),Qf (.slot 0),Qf (.two "sub" (.hole 0) (.slot 0))]) (cE (aA (aR (aA aL (aA (aB (k:=2) d2) (aA (aB (k:=3) d3) aI)))) (aA (aB (k:=3) d3) (aA (aR (aA aL (aA aE aI))) (aA (aR (aA aL (aA (aB (k:=2) d2) (aA (aR (aA aL (aA aE aI))) aI)))) aI))))) YS (by rw [<- ly5];simp only [L5,MB,Ma];decide) λz6 G6 c6 hy6 dz6=>?_);have Zo:fA K G5 G6:=c6.grow YS hy6;have dy6:=Pq.append (Pq.mono Zo _ dy5) dz6;have ly6:=dy6.length;have d2:=Dat.mono Zo _ d2;have d3:=Dat.mono Zo _ d3;refine cZ (mx (K:=K) (j:=4) (es:=[Qf (.two "add" (.hole 0) (.hole 1))]) (cE (aA (aR (aA aL (aA (aB (k:=2) d2) (aA (tD (Fg (n:=1) (aB (k:=2) d2) aE) (aR (aA aE aI)) (by decide)) aI)))) aI)) hy6 (by rw [<- ly6];simp only [L5,MB,Ma];decide) λz7 G7 c7 hy7 dz7=>?_);have gr7:fA K G6 G7:=c7.grow hy6 hy7;have dy7:Pq K G7 ((zl m).map Qf) _:=Pq.append (Pq.mono gr7 _ dy6) dz7;have ly7:=dy7.length;have d2:=Dat.mono gr7 _ d2;have d3:=Dat.mono gr7 _ d3;have c57:PX l4 G4 G7:=(c5.trans c6).trans c7;have hS7:=hS4.but c57 Sg;have t7:=c57 _ _ (MQ l4t) t4;have b7:PX t H G7:=λx o n e=>c57 x o (λz=>by rw [z,f4] at e;cases e) (b4 x o n e);clear c5 c6 c7 c57 hS4 t4 b4 gr5 Zo gr7 dz5 dz6 dz7 dy4 dy5 dy6 YS hy6 Sg ly4 ly5 ly6;generalize hxs:((y4++z5)++z6)++z7=xs at *;refine cZ ⟨_,rfl,_,rfl,_,rfl,a,t,l4,ns,xs,p2,q2,[],rfl,hS7,PJ.of hy7,l4t,by rw [<- ly7];show 0 < 9;decide,by rw [<- ly7];show 9<=1000000;decide,t7,g2,λip v5 G8 p8 q8 b8 t8 g8 Z8=>⟨jg (by decide),λl nl8=>⟨_,_,rfl,?_⟩⟩⟩;have gr8:fA K G7 G8:=b8.grow t7 t8;obtain ⟨dp,ep,d5⟩:=(Pq.mono gr8 _ dy7).WD Z8;rw [LV] at ep;obtain ⟨pt,hpt,rfl⟩:=Mb.mp ep;have hpt:=Mj hpt;have u9:Pr G8 (upd G8 l (.lst [])):=aT nl8 _;have hlt:l≠t:=λz=>by rw [z,t8] at nl8;cases nl8
 have nl:H l=none:=OH.mpr λo e=>by have:=b8 l o hlt (b7 l o hlt e);rw [nl8] at this;cases this
 have S0:XI K a t l ns H (Qf pt) v5 (upd G8 l (.lst [])) []:=⟨(hS7.but b8 t7).same u9,(b7.trans b8).trans u9.but,⟨p8,q8,u9 _ _ t8,g8⟩,⟨[],aM,Pq.nil⟩,u9.dat d5⟩
 have bks:=xG (gQ "gap" pt) (gQ "slot" pt);generalize upd G8 l (.lst [])=G9 at S0;clear u9 d5 gr8 Z8 b8 t8 b7 t7 hS7 hy7 dy7 ly7;dsimp only;obtain ⟨h1,h2,⟨p9,q9,h3,h4⟩,_,_⟩:=id S0;refine cZ (BB (K:=K) (m:=4) aE h1 h3 h4 (by decide) (by decide) λkd GA pA qA k0 k4 bA tA gA=>⟨1,kd,rfl,rfl,1+kd,rfl,by omega,by omega,?_⟩);have SA:=S0.drawn bA tA gA hlt;refine yX (n:=(1+kd).toNat) (λi σ G=>∃ (z7 z8:Option V) (bl:List (List Cl)),σ=[some (.ref a),some (.ref t),some v2,some v3,some (.ref l4),some v5,some (.ref l),z7,z8]/\bl.length=i/\(∀ x ∈ bl,x ∈ mP (gQ "gap" pt) (gQ "slot" pt))/\XI K a t l ns H (Qf pt) v5 G bl.flatten) ?_ ?_ ?_
 ·exact ⟨none,none,[],rfl,rfl,(λx hx=>by cases hx),SA⟩
 ·rintro i σ G hi ⟨z7,z8,bl,rfl,lbl,Zc,SG⟩
  have lfl:bl.flatten.length<=3 * bl.length:=by
   clear lbl SG
   induction bl with
   | nil=>simp
   | cons x bl ih =>have h1:=bks x (Zc x Mw);have h2:=ih λy hy=>Zc y (Mt _ hy);rw [NC,Ma,L5];omega
  refine eY ?_;dsimp only;obtain ⟨h1,h2,⟨p1,q1,h3,h4⟩,_,_⟩:=id SG;refine gW (BD (K:=K) (ks:=[4,5,6,7,13,14,1,2,3,12]) (cE (aA aE (aA aE (aA aE (aA aE (aA aE (aA aE (aA aE (aA aE (aA aE (aA aE aI))))))))))) h1 h3 h4 (by decide) (by decide) λnum G1 p1 q1 hnum b1 t1 g1=>?_);have SG:=SG.drawn b1 t1 g1 hlt
  have fin:∀ {w:Option V} (Ry:List Cl) (G':Hp),Ry ∈ mP (gQ "gap" pt) (gQ "slot" pt)->XI K a t l ns H (Qf pt) v5 G' (bl.flatten++Ry)->∃ (z7 z8:Option V) (bl:List (List Cl)),[some (.ref a),some (.ref t),some v2,some v3,some (.ref l4),some v5,some (.ref l),w,some (.int num)]=[some (.ref a),some (.ref t),some v2,some v3,some (.ref l4),some v5,some (.ref l),z7,z8]/\bl.length=i+1/\(∀ x ∈ bl,x ∈ mP (gQ "gap" pt) (gQ "slot" pt))/\XI K a t l ns H (Qf pt) v5 G' bl.flatten:=λ{w} Ry G' hb S'=>⟨_,_,bl++[Ry],rfl,by rw [Ma,lbl];rfl,λx hx=>by
    rcases Na.mp hx with hx | hx
    ·exact Zc x hx
    ·rw [Mv.mp hx];exact hb,by rw [List.flatten_append,NC,List.flatten_nil,MI];exact S'⟩
  refine cZ (tf (K:=K) (UD:=λc=>c=.n num) SG hlt nl (by omega) (λQ hQ=>⟨_,rfl,hQ _ G1 (.n num) rfl SG (Dat.Px num)⟩) λc G2 ec S2=>?_);subst ec;dsimp only;have ln1:(bl.flatten++[Cl.n num]).length<=900:=by rw [Ma,L5,MB];omega
  refine cZ (RT.use (b:=decide (num ∈ ([1,12]:List Int))) (aJ (pP (K:=K) (ys:=[1,12]) (aB (k:=8) (Dat.Px num)) (aR (aA aE (aA aE aI))))) λG3 u3=>?_);have S3:=S2.same u3;have no2:∀ {G:Hp} {us:TS} {w7:Option V},¬ num=2->True:=λ_=>trivial;by_cases c1:num ∈ ([1,12]:List Int)
  ·rw [Mh c1];have n2:¬ num=2:=λz=>by rw [z] at c1;revert c1;decide
   have n3:¬ num=3:=λz=>by rw [z] at c1;revert c1;decide
   refine jG (tf (K:=K) (UD:=λc=>([.n num,c]:List Cl) ∈ mP (gQ "gap" pt) (gQ "slot" pt)) S3 hlt nl ln1 (λQ hQ=>?_) λc G4 hc S4=>?_)
   ·refine RT.use (xa (K:=K) hm hpt (by decide +kernel) S3.d) λG4 u4=>?_;have S4:=S3.same u4
    cases hg:gQ "gap" pt with
    | true =>
     rw [hg] at hQ;refine jG (RE.use (aR (K:=K) (ds:=[.str "low",.int 0]) (aA aL (aA aE aI))) λv G5 u5 dv=>hQ v G5 (.low 0) ?_ (S4.same u5) dv);rcases Mm.mp c1 with rfl | c1
     ·cases gQ "slot" pt <;> simp [mP]
     ·obtain rfl:=Mv.mp c1;cases gQ "slot" pt <;> simp [mP]
    | false =>
     rw [hg] at hQ;obtain ⟨h1,h2,⟨p5,q5,h3,h4⟩,_,_⟩:=id S4;refine ji (BB (K:=K) (m:=3) aE h1 h3 h4 (by decide) (by decide) λk2 G5 p6 q6 k0 k1 b5 t5 g5=>hQ _ G5 (.n k2) ?_ (S4.drawn b5 t5 g5 hlt) (Dat.Px k2));have hk:k2=0\/k2=1\/k2=2:=by omega
     rcases Mm.mp c1 with rfl | c1
     ·rcases hk with rfl | rfl | rfl <;> (cases gQ "slot" pt <;> simp [mP])
     ·obtain rfl:=Mv.mp c1;rcases hk with rfl | rfl | rfl <;> (cases gQ "slot" pt <;> simp [mP])
   ·rw [NB] at S4;refine aP (K:=K) (b:=false) (RT.as (aJ (eS (K:=K) (aB (k:=8) (Dat.Px num)) aE)) (LY n2)) (λc=>nomatch c) (λ_ G5 u5=>?_);refine fL (b:=false) (RT.as (aJ (eS (K:=K) (aB (k:=8) (Dat.Px num)) aE)) (LY n3)) (λc=>nomatch c) (λ_ G6 u6=>?_);exact (show kn _ _ _ from fin [.n num,c] G6 hc (S4.same (u5.trans u6)))
  ·rw [LY c1];refine ji (show kn _ _ _ from ?_);show lC _ _ _ _ _;by_cases c2:num=2
   ·subst c2;refine cZ (fL (b:=true) (RT.as (aJ (eS (K:=K) (aB (k:=8) (Dat.Px 2)) aE)) (Mh rfl)) (λ_ G4 u4=>?_) (λc=>nomatch c));have S4:=S3.same u4;obtain ⟨ys,hy,dy⟩:=S4.l;have ly:=dy.length;rw [LR] at ly;refine mx (K:=K) (j:=6) (es:=(if gQ "gap" pt=true then ([.low 0,.high 0]:List Cl) else [.n 7,.n 1]).map U4) (DY (xa (K:=K) hm hpt (by decide +kernel) S4.d) (λc=>?_) (λc=>?_)) hy (by rw [LR,<- ly];split <;> (simp only [L5,MB,Ma] at ln1 ⊢;omega)) λzs G5 b5 YS dz=>?_
    ·rw [Mc c];exact cE (aA (aR (aA aL (aA aE aI))) (aA (aR (aA aL (aA aE aI))) aI))
    ·rw [LZ (by rw [c];exact L6)];exact cE (aA aE (aA aE aI))
    ·have S5:=S4.grown b5 YS (by rw [MM];exact Pq.append (Pq.mono (b5.grow hy YS) _ dy) dz) hlt nl;rw [NB] at S5;refine fL (b:=false) (RT.as (aJ (eS (K:=K) (aB (k:=8) (Dat.Px 2)) aE)) (LY (by decide))) (λc=>nomatch c) (λ_ G6 u6=>?_);exact (show kn _ _ _ from fin _ G6 (by cases gQ "gap" pt <;> cases gQ "slot" pt <;> simp [mP]) (S5.same u6))
   ·refine aP (K:=K) (b:=false) (RT.as (aJ (eS (K:=K) (aB (k:=8) (Dat.Px num)) aE)) (LY c2)) (λc=>nomatch c) (λ_ G4 u4=>?_);have S4:=S3.same u4;by_cases c3:num=3
    ·subst c3;refine fL (b:=true) (RT.as (aJ (eS (K:=K) (aB (k:=8) (Dat.Px 3)) aE)) (Mh rfl)) (λ_ G5 u5=>?_) (λc=>nomatch c);have S5:=S4.same u5;refine tf (K:=K) (UD:=λc=>c=if gQ "slot" pt=true then .arg 0 else .n 0) S5 hlt nl ln1 (λQ hQ=>?_) λc G6 hc S6=>?_
     ·refine RE.use (jR (K:=K) (d:=U4 (if gQ "slot" pt=true then .arg 0 else .n 0)) (xa (K:=K) hm hpt (by decide +kernel) S5.d) (λc=>?_) (λc=>?_)) λv G6 u6 dv=>hQ v G6 _ rfl (S5.same u6) dv
      ·rw [Mc c];exact aR (aA aL (aA aE aI))
      ·rw [LZ (by rw [c];exact L6)];exact aE
     ·rw [NB] at S6;subst hc;exact fin _ G6 (by cases gQ "gap" pt <;> cases gQ "slot" pt <;> simp [mP]) S6
    ·refine fL (b:=false) (RT.as (aJ (eS (K:=K) (aB (k:=8) (Dat.Px num)) aE)) (LY c3)) (λc=>nomatch c) (λ_ G5 u5=>?_);refine (show kn _ _ _ from fin [.n num] G5 ?_ (S4.same u5))
     have h6:([.n num]:List Cl) ∈ ([[.n 4],[.n 5],[.n 6],[.n 7],[.n 13],[.n 14]]:List (List Cl)):=by
      simp only [Mm,Nc,Oi,not_or] at hnum c1;rcases hnum with rfl | rfl | rfl | rfl | rfl | rfl | h | h | h | h
      ·simp
      ·simp
      ·simp
      ·simp
      ·simp
      ·simp
      ·exact absurd h c1.1
      ·exact absurd h c2
      ·exact absurd h c3
      ·exact absurd h c1.2
     exact Of _ h6
 ·rintro σ G ⟨z7,z8,bl,rfl,lbl,Zc,SG⟩;obtain ⟨h1,h2,⟨p1,q1,h3,h4⟩,⟨ys,hy,dy⟩,h7⟩:=id SG;refine bC (K:=K) (d:=qC (.str "drawn") pt bl.flatten) (aR (aA aL (aA (aB (k:=5) h7) (aA (wX (cK (k:=6) (LD.of hy dy))) aI)))) λv H' s' qv=>?_;exact post v H' pt bl p1 q1 (h2.trans s'.but) (s' _ _ h3) h4 ⟨⟨m,hm,hpt⟩,by omega,by omega,Zc⟩ qv
noncomputable def okB (cs:List Int):Bool:=decide (1<=cs.length) && decide (cs.length<=900) && cs.all λc=>decide (0<=c) && decide (c<=99)
theorem EL (h:okB cs=true):Z1 cs:=by unfold okB at h;rw [LW,LW] at h;refine ⟨LS h.1.1,LS h.1.2,λi c hc=>?_⟩;have:=MF.mp h.2 c (Mj hc);rw [LW] at this;exact ⟨LS this.1,LS this.2⟩
noncomputable def zj:Tr->Bool
 | .num n=>decide (0<=n) && decide (n<=9999)
 | .arg k=>decide (0<=k) && decide (k<=3)
 | .two o a b=>(decide (o="add") || decide (o="sub") || decide (o="mul") || decide (o="less")) && (zj a && zj b)
 | .pick _ _ _=>false
theorem sv:∀ {t:Tr},zj t=true->Yl t
 | .num n,h=>by have h:(decide (0<=n) && decide (n<=9999))=true:=h;rw [LW] at h;exact ⟨LS h.1,LS h.2⟩
 | .arg k,h=>by have h:(decide (0<=k) && decide (k<=3))=true:=h;rw [LW] at h;exact ⟨LS h.1,LS h.2⟩
 | .two o a b,h=>by have h:((decide (o="add") || decide (o="sub") || decide (o="mul") || decide (o="less")) && (zj a && zj b))=true:=h;rw [LW,LW] at h;exact ⟨qp h.1,sv h.2.1,sv h.2.2⟩
 | .pick _ _ _,h=>by cases h
noncomputable def inB (b x:Int):Bool:=decide (0<=x) && decide (x < b)
theorem AO {l:List Int} (h:l.all (inB b)=true):∀ x ∈ l,0<=x/\x < b:=λx hx=>by have:=MF.mp h x hx;unfold inB at this;rw [LW] at this;exact ⟨LS this.1,LS this.2⟩
noncomputable def rp (css:List (List Int)):Bool:=decide (css.length<=20) && (List.range css.length).all λi=>decide ((bR (css.take i)).length * (css.getD i []).length<=1000)
theorem ki (h:rp css=true):jI css:=by unfold rp at h;rw [LW] at h;exact ⟨LS h.1,λi hi=>LS (MF.mp h.2 i (List.mem_range.mpr hi))⟩
noncomputable def xn (pt:Pa) (cl:List Cl) (b:Nat) (hs nums ks as:List Int):Bool :=
 (XT hs.length nums.length ks.length pt && (decide (bJ pt<=3) && (zj (U3 hs nums ks pt) && (decide (fC (U3 hs nums ks pt)<=8) && (cl.all (oQ nums.length ks.length) && decide (cl.length<=12)))))) &&
 ((okB (cl.map (eF nums ks)) && (decide (as.length=4) && (as.all (inB b) && (decide (2<=(b:Int)) && decide ((b:Int)<=10000))))) && (((1::hs).reverse.all (inB b) && decide ((1::hs).reverse.length<=64)) &&
 (XU (Yt cl nums ks as b) 20 (Z6 hs)).isSome))
theorem zK {pt:Pa} {b:Nat} {as:List Int} (h:xn pt cl b hs nums ks as=true):ow pt cl hs nums ks as b/\∃ r,XU (Yt cl nums ks as b) 20 (Z6 hs)=some r:=by unfold xn at h;simp only [LW,N8] at h;obtain ⟨⟨h1,h2,h3,h4,h5,h6⟩,⟨k1,k2,k3,k4,k5⟩,⟨m1,m2⟩,n⟩:=h;exact ⟨⟨h1,h2,sv h3,h4,λc hc=>MF.mp h5 c hc,h6,⟨EL k1,k2,AO k3,k4,k5⟩,⟨AO m1,m2,MK _⟩⟩,NX.mp n⟩
noncomputable def oW (nm:Str) (pt:Pa) (b:Nat):Bool :=
 (decide (nm.length<=100) && (Wq 3 (Qf pt) && (qB pt && (decide (bJ pt<=3) && (decide (2<=b) && decide (b<=5)))))) && (((gD pt).all λc=>(wd c).isSome) && (rp (jU pt b) && (rp (hW pt) && (rp (gP pt) && (bR (gP pt)).all (λks=>rp (iY ks b))))))
noncomputable def uz (nm:Str) (pt:Pa) (cl:List Cl) (b:Nat):Bool :=
 (oW nm pt b && ((jk (qC (.str nm) pt cl) == some true) && (cl.all (oQ (hW pt).length (gP pt).length) && decide (cl.length<=12)))) && (bR (jU pt b)).all λhs=>(bR (hW pt)).all λnums=>(bR (gP pt)).all λks=>(bR (iY ks b)).all λas=>xn pt cl b hs nums ks as
theorem xP {pt:Pa} {b:Nat} (h:oW nm pt b=true) (pc:jk (qC (.str nm) pt cl)=some true) (hc:∀ c ∈ cl,oQ (hW pt).length (gP pt).length c=true) (hl:cl.length<=12)
  (hall:∀ hs ∈ bR (jU pt b),∀ nums ∈ bR (hW pt),∀ ks ∈ bR (gP pt),∀ as ∈ bR (iY ks b),ow pt cl hs nums ks as b/\∃ r,XU (Yt cl nums ks as b) 20 (Z6 hs)=some r):lD (.str nm) pt cl b:=by
 unfold oW at h;simp only [LW,N8] at h;obtain ⟨⟨h1,h2,h3,h4,h5,h6⟩,k1,k2,k3,k4,k5⟩:=h;exact ⟨pc,Mr h1 (show 100<=sizeLine by decide),h2,h3,h4,hc,hl,h5,h6,λc hc=>MF.mp k1 c hc,ki k2,ki k3,ki k4,λks hk=>ki (MF.mp k5 ks hk),hall⟩
theorem oV {pt:Pa} {b:Nat} (h:uz nm pt cl b=true):lD (.str nm) pt cl b:=by unfold uz at h;rw [LW,LW,LW,LW] at h;obtain ⟨⟨h1,h2,h3,h4⟩,k⟩:=h;exact xP h1 (by simpa using h2) (λc hc=>MF.mp h3 c hc) (LS h4) λhs h1 nums h2 ks h3 as h4=>zK (MF.mp (MF.mp (MF.mp (MF.mp k hs h1) nums h2) ks h3) as h4)
noncomputable abbrev BS:List Nat:=[2,3,4,5]
noncomputable def QS:List (Str × Pa × List Cl):=[("one",.gap 0 99,[.n 1,.low 0]),("two",.gap 0 9999,[.n 2,.low 0,.high 0]),("slot",.slot 0,[.n 3,.arg 0]),("add",.two "add" (.hole 0) (.hole 1),[.n 4]),("sub",.two "sub" (.hole 0) (.hole 1),[.n 5]),("mul",.two "mul" (.hole 0) (.hole 1),[.n 6]),("less",.two "less" (.hole 0) (.hole 1),[.n 7]),("more",.two "add" (.hole 0) (.gap 0 99),[.n 12,.low 0]),
 ("inc",.two "add" (.hole 0) (.num 1),[.n 12,.n 1]),("both",.two "add" (.slot 0) (.slot 1),[.n 3,.arg 0,.n 3,.arg 1,.n 4]),("twofold",.two "mul" (.hole 0) (.num 2),[.n 13,.n 4]),("fewer",.two "sub" (.hole 0) (.gap 0 99),[.n 1,.low 0,.n 5]),("addmul",.two "add" (.two "mul" (.hole 0) (.hole 1)) (.gap 0 99),[.n 6,.n 12,.low 0]),("turned",.two "less" (.gap 0 99) (.hole 0),[.n 1,.low 0,.n 14,.n 7]),("far",.two "add" (.hole 0) (.gap 0 9999),[.n 2,.low 0,.high 0,.n 4]),("pair",.two "sub" (.gap 0 99) (.gap 1 99),[.n 1,.low 0,.n 1,.low 1,.n 5])]
theorem yY:∀ b ∈ BS,∀ p ∈ QS,(cT "slot" p.2.1).length < 2->uz p.1 p.2.1 p.2.2 b=true/\(eQ p.2.1 p.2.2 b).isNone=true:=by decide +kernel
theorem xV:∀ p ∈ QS,bJ p.2.1<=3:=by decide +kernel
theorem uI:∀ (css:List (List Int)) (rs:List (List Int)) (r:List Int),r ∈ css.foldl iV rs->∀ x ∈ r,(∃ r0 ∈ rs,x ∈ r0)\/∃ c ∈ css,x ∈ c
 | [],rs,r,h,x,hx=>.inl ⟨r,h,hx⟩
 | c::css,rs,r,h,x,hx=>by
  rcases uI css (iV rs c) r h x hx with ⟨r0,h0,YH⟩ | ⟨c',hc',hx'⟩
  ·obtain ⟨r1,h1,h2⟩:=List.mem_flatMap.mp h0;obtain ⟨y,hy,rfl⟩:=M9.mp h2;rcases Na.mp YH with h3 | h3
   ·exact .inl ⟨r1,h1,h3⟩
   ·rw [Mv.mp h3];exact .inr ⟨c,Mw,hy⟩
  ·exact .inr ⟨c',Mt _ hc',hx'⟩
theorem lT {x:Int} (h:r ∈ bR css) (hx:x ∈ r):∃ c ∈ css,x ∈ c:=by
 rcases uI css [[]] r h x hx with ⟨r0,h0,h1⟩ | h
 ·rw [Mv.mp h0] at h1;cases h1
 ·exact h
theorem sj {b:Nat} {x:Int} (h:x ∈ Wn b):0<=x/\x < b:=by obtain ⟨i,hi,rfl⟩:=M9.mp h;have:=List.mem_range.mp hi;omega
theorem Fy {x:Int} (h:x ∈ ZL):0<=x/\x<=9999:=by revert h;revert x;decide
noncomputable def zg:Pa->Bool
 | .num n=>decide (0<=n) && decide (n<=9999)
 | .two _ a b=>zg a && zg b
 | _=>true
theorem wC (h1:∀ x ∈ hs,0<=x/\x<=9999) (h2:∀ x ∈ nums,0<=x/\x<=9999) (h3:∀ x ∈ ks,0<=x/\x<=3):∀ p:Pa,XT hs.length nums.length ks.length p=true->zg p=true->Yl (U3 hs nums ks p)
 | .hole i,h,_=>h1 _ (jr (jH h).2)
 | .gap i m,h,_=>h2 _ (jr (jH h).2)
 | .slot i,h,_=>h3 _ (jr (jH h).2)
 | .num n,_,h=>by have h:(decide (0<=n) && decide (n<=9999))=true:=h;rw [LW] at h;exact ⟨LS h.1,LS h.2⟩
 | .two o a b,h,hn=>by have h:((decide (o="add") || decide (o="sub") || decide (o="mul") || decide (o="less")) && (XT hs.length nums.length ks.length a && XT hs.length nums.length ks.length b))=true:=h;have hn:(zg a && zg b)=true:=hn;rw [LW,LW] at h;rw [LW] at hn;exact ⟨qp h.1,wC h1 h2 h3 a h.2.1 hn.1,wC h1 h2 h3 b h.2.2 hn.2⟩
theorem rT (hs nums ks:List Int):∀ p:Pa,fC (U3 hs nums ks p)<=bJ p
 | .hole i=>L7 _
 | .gap i m=>L7 _
 | .slot i=>L7 _
 | .num n=>L7 _
 | .two o a b=>by have ha:=rT hs nums ks a;have hb:=rT hs nums ks b;show fC (.two o (U3 hs nums ks a) (U3 hs nums ks b))<=1+max (bJ a) (bJ b);simp only [fC];omega
noncomputable def yO (pt:Pa):List Cl->Bool
 | .n c::r=>(dM (.int c) 0 99 && (decide (jQ c=some (VB c,r.length)) && (decide (VB c ∈ SS) && ((r.map U4).map (oP (Qf pt))).all id))) && ((decide (0<=c) && decide (c<=16)) && (decide (cV c=r.length) && (r.all (oQ (hW pt).length (gP pt).length) && r.all λx=>match x with
  | .n i=>decide (0<=i) && decide (i<=99)
  | _=>true)))
 | _=>false
theorem Cy:∀ m ∈ MG,∀ p ∈ zl m,∀ x ∈ mP (gQ "gap" p) (gQ "slot" p),yO p x=true:=by decide +kernel
structure Gh (pt:Pa) (c:Int) (r:List Cl):Prop where
 w:dM (.int c) 0 99=true
 i:jQ c=some (VB c,r.length)
 s:VB c ∈ SS
 k:((r.map U4).map (oP (Qf pt))).all id=true
 c0:0<=c
 c16:c<=16
 b:cV c=r.length
 o:∀ x ∈ r,oQ (hW pt).length (gP pt).length x=true
 n:∀ i,Cl.n i ∈ r->0<=i/\i<=99
theorem oo {pt:Pa} {x:List Cl} (h:yO pt x=true):∃ c r,x=.n c::r/\Gh pt c r:=by
 match x,h with
 | .n c::r,h =>simp only [yO,LW,N8] at h;obtain ⟨⟨h1,h2,h3,h4⟩,⟨h5,h6⟩,h7,h8,h9⟩:=h;refine ⟨c,r,rfl,h1,h2,h3,h4,h5,h6,h7,λx hx=>MF.mp h8 x hx,λi hi=>?_⟩;have:=MF.mp h9 _ hi;rw [LW] at this;exact ⟨LS this.1,LS this.2⟩
 | [],h=>cases h
 | .arg _::_,h=>cases h
 | .low _::_,h=>cases h
 | .high _::_,h=>cases h
theorem Aa {α:Type} {pre r:List α} {x:α}:(pre++x::r)[pre.length]?=some x:=by rw [Nd (L7 _),Nat.sub_self];rfl
theorem ui {pt:Pa}:∀ (bl:List (List Cl)) (pre:List Cl) (n:Nat),bl.length < n->(∀ x ∈ bl,yO pt x=true)->kO n (Qf pt) ((pre++bl.flatten).map U4) pre.length=some true
 | [],pre,n,hn,_=>by
  obtain ⟨n,rfl⟩:∃ m,n=m+1:=⟨n - 1,by have:0 < n:=hn;omega⟩
  unfold kO;rw [List.flatten_nil,MI,Ng (by rw [LR];omega)]
 | x::bl,pre,n,hn,h=>by
  obtain ⟨n,rfl⟩:∃ m,n=m+1:=⟨n - 1,by have:bl.length+1 < n:=hn;omega⟩
  obtain ⟨c,r,rfl,B⟩:=oo (h x Mw);have e1:pre++((Cl.n c::r)::bl).flatten=pre++Cl.n c::(r++bl.flatten):=by rw [NC];rfl
  have e2:pre++((Cl.n c::r)::bl).flatten=(pre++Cl.n c::r)++bl.flatten:=by rw [NC,NB]
  have ih:=ui bl (pre++Cl.n c::r) n (by have:bl.length+1 < n+1:=hn;omega) λy hy=>h y (Mt _ hy);rw [<- e2] at ih;have hx:((pre++((Cl.n c::r)::bl).flatten).map U4)[pre.length]?=some (.int c):=by rw [LV,e1,Aa];rfl
  have hb:hU ((pre++((Cl.n c::r)::bl).flatten).map U4) pre.length r.length=r.map U4:=by unfold hU;rw [<- List.map_drop,<- List.map_take,e1,List.drop_append,List.drop_eq_nil_of_le (by omega),Nat.add_sub_cancel_left,List.nil_append];show List.map U4 (List.take r.length (r++bl.flatten))=_;rw [List.take_append_of_le_length (L7 _),MY]
  unfold kO;rw [hx];dsimp only;rw [LZ (by rw [B.w];exact λz=>nomatch z)];unfold EA;dsimp only;rw [B.i];dsimp only;rw [hb,Mc (by rw [LR]),LZ (by rw [Mh B.s,B.k];exact λz=>nomatch z)];have el:pre.length+1+r.length=(pre++Cl.n c::r).length:=by rw [Ma,L5];omega
  rw [el];exact ih
theorem xU {pt:Pa} {as:List Int}:∀ (bl:List (List Cl)) (pre:List Cl) (n:Nat) (st:MS),cl=pre++bl.flatten->st.place=pre.length->bl.length < n->(∀ x ∈ bl,yO pt x=true)->∃ r,XU (Yt cl nums ks as b) n st=some r
 | [],pre,n,st,ec,hp,hn,_=>by
  obtain ⟨n,rfl⟩:∃ m,n=m+1:=⟨n - 1,by have:0 < n:=hn;omega⟩
  refine ⟨some st,?_⟩;unfold XU;rw [Ng (by rw [LR,ec,hp,List.flatten_nil,MI];omega)]
 | x::bl,pre,n,st,ec,hp,hn,h=>by
  obtain ⟨n,rfl⟩:∃ m,n=m+1:=⟨n - 1,by have:bl.length+1 < n:=hn;omega⟩
  obtain ⟨c,r,rfl,B⟩:=oo (h x Mw);have e1:cl=pre++Cl.n c::(r++bl.flatten):=by rw [ec,NC];rfl
  have e2:cl=(pre++Cl.n c::r)++bl.flatten:=by rw [ec,NC,NB]
  have hx:(Yt cl nums ks as b).cs[st.place]?=some c:=by show (cl.map (eF nums ks))[st.place]?=_;rw [LV,hp,e1,Aa];rfl
  have hb:jY (Yt cl nums ks as b).cs st.place c=false:=by unfold jY;rw [LY (by have:=B.c16;omega),NF];refine LY ?_;rw [show (Yt cl nums ks as b).cs.length=cl.length from LR _,e1,hp,B.b,Ma,L5,Ma];omega
  unfold XU;rw [hx];dsimp only;rw [Mc ⟨B.s,B.c16,hb⟩]
  cases Ye (Yt cl nums ks as b) (VB c) (jV (Yt cl nums ks as b).cs st.place c) st with
  | none=>exact ⟨none,rfl⟩
  | some s=>exact xU bl (pre++Cl.n c::r) n _ e2 (by show st.place+1+cV c=_;rw [hp,B.b,Ma,L5];omega) (by have:bl.length+1 < n+1:=hn;omega) λy hy=>h y (Mt _ hy)
noncomputable def FN (pt:Pa) (b:Nat):Bool:=oW "drawn" pt b && (og (Qf pt) && (XT (jU pt b).length (hW pt).length (gP pt).length pt && zg pt))
theorem zm:∀ b ∈ BS,∀ m ∈ MG,∀ p ∈ zl m,FN p b=true:=by decide +kernel
theorem uw:iB (.str "drawn")=true/\mU (.str "drawn")=false:=by decide +kernel
theorem vY {pt:Pa} {bl:List (List Cl)} {b:Nat} (D:Drawn pt bl) (hb:b ∈ BS):lD (.str "drawn") pt bl.flatten b:=by
 obtain ⟨⟨m,hm,hp⟩,l1,l4,Zc⟩:=D;have hB:∀ x ∈ bl,yO pt x=true:=λx hx=>Cy m hm pt hp x (Zc x hx);have F:=zm b hb m hm pt hp;unfold FN at F;rw [LW,LW,LW] at F;obtain ⟨f1,f2,f3,f4⟩:=F;have b25:2<=b/\b<=5:=by revert hb;clear f1 f3;revert b;decide
 have lx:∀ x ∈ bl,1<=x.length/\x.length<=3:=λx hx=>by obtain ⟨c,r,rfl,B⟩:=oo (hB x hx);exact ⟨Nat.succ_le_succ (MK _),xG _ _ _ (Zc _ hx)⟩
 have lf:bl.length<=bl.flatten.length/\bl.flatten.length<=3 * bl.length:=by
  clear l1 l4 Zc hB
  induction bl with
  | nil=>exact ⟨L7 _,L7 _⟩
  | cons x bl ih =>have h1:=lx x Mw;have h2:=ih λy hy=>lx y (Mt _ hy);rw [NC,Ma,L5];omega
 have hcl:∀ c ∈ bl.flatten,oQ (hW pt).length (gP pt).length c=true/\∀ i,c=Cl.n i->0<=i/\i<=99:=λy hy=>by
  obtain ⟨x,hx,hyx⟩:=List.mem_flatten.mp hy;obtain ⟨c,r,rfl,B⟩:=oo (hB x hx);rcases Mm.mp hyx with rfl | h
  ·exact ⟨rfl,λi e=>by cases e;have:=B.c0;have:=B.c16;omega⟩
  ·exact ⟨B.o y h,λi e=>B.n i (by rw [<- e];exact h)⟩
 have pc:jk (qC (.str "drawn") pt bl.flatten)=some true:=by show (if (!iB (.str "drawn") || (mU (.str "drawn") || !og (Qf pt)))=true then some false else csD (Qf pt) (.tup (bl.flatten.map U4)))=_;rw [uw.1,uw.2,f2];rw [LZ (by decide)];show (if (decide (1<=((bl.flatten.map U4).length:Int)) && decide (((bl.flatten.map U4).length:Int)<=12))=false then some false else kO ((bl.flatten.map U4).length+1) (Qf pt) (bl.flatten.map U4) 0)=_;rw [LR,Mh (by omega),Mh (by omega),LZ (by decide)];exact ui bl [] _ (by omega) hB
 refine xP f1 pc (λc hc=>(hcl c hc).1) (by omega) λhs YQ nums WM ks hks as has=>?_;have lh:=iA _ hs YQ;have ln:=iA _ nums WM;have lk:=iA _ ks hks;have la:=iA _ as has;have hf:XT hs.length nums.length ks.length pt=true:=by rw [lh,ln,lk];exact f3
 have mh:∀ x ∈ hs,0<=x/\x < (b:Int):=λx hx=>by obtain ⟨c,hc,hxc⟩:=lT YQ hx;obtain ⟨_,_,rfl⟩:=M9.mp hc;exact sj hxc
 have mn:∀ x ∈ nums,0<=x/\x<=9999:=λx hx=>by obtain ⟨c,hc,hxc⟩:=lT WM hx;obtain ⟨_,_,rfl⟩:=M9.mp hc;exact Fy (OO.mp hxc).1
 have mk:∀ x ∈ ks,0<=x/\x<=3:=λx hx=>by obtain ⟨c,hc,hxc⟩:=lT hks hx;obtain ⟨_,_,rfl⟩:=M9.mp hc;have:=sj hxc;omega
 have ma:∀ x ∈ as,0<=x/\x < (b:Int):=λx hx=>by
  obtain ⟨c,hc,hxc⟩:=lT has hx;obtain ⟨k,_,rfl⟩:=M9.mp hc;split at hxc
  ·exact sj hxc
  ·rw [Mv.mp hxc];omega
 have hc:∀ c ∈ bl.flatten,oQ nums.length ks.length c=true:=λc hc=>by rw [ln,lk];exact (hcl c hc).1
 refine ⟨⟨hf,?_,wC (λx hx=>by have:=mh x hx;omega) mn mk pt hf f4,Mr (rT hs nums ks pt) ?_,hc,by omega,⟨⟨?_,?_,λi c hi=>?_⟩,?_,ma,by show (2:Int)<=b;omega,by show (b:Int)<=10000;omega⟩,⟨λx hx=>?_,?_,MK _⟩⟩,xU bl [] 20 _ rfl rfl (by omega) hB⟩
 ·exact (sX m hm pt hp).1
 ·exact Mr (sX m hm pt hp).1 (by decide)
 ·show 1<=(bl.flatten.map _).length;rw [LR];omega
 ·show (bl.flatten.map _).length<=900;rw [LR];omega
 ·have hi:(bl.flatten.map (eF nums ks))[i]?=some c:=hi;rw [LV] at hi;obtain ⟨x,hx,rfl⟩:=Mb.mp hi;have hx:=Mj hx;have hok:=hc x hx
  cases x with
  | n j=>exact (hcl _ hx).2 j rfl
  | arg j=>have:=mk _ (jr (LS hok));show 0<=ks.getD j 0/\ks.getD j 0<=99;omega
  | low j=>show 0<=nums.getD j 0 % 100/\nums.getD j 0 % 100<=99;omega
  | high j=>have:=mn _ (jr (LS hok));show 0<=nums.getD j 0 / 100/\nums.getD j 0 / 100<=99;omega
 ·show as.length=4;rw [la];unfold iY;rw [LR,Nn]
 ·have hx:x ∈ (1::hs).reverse:=hx;rcases Mm.mp (List.mem_reverse.mp hx) with rfl | h
  ·show 0<=(1:Int)/\(1:Int) < b;omega
  ·exact mh x h
 ·show (1::hs).reverse.length<=64
  have:(jU pt b).length<=20:=by unfold oW at f1;simp only [LW,N8] at f1;exact (ki f1.2.2.1).1
  rw [MO,L5];omega
theorem BK {K:W.Frag} {tA tK:TA} {fs:List D} {gV:List V->List V->List V} {R:List D->D->Prop} (h:RA K tA σ H ds) (hk:RA K tK σ H es) (hg:∀ H vs zs,Pq K H ds vs->Pq K H es zs->Pq K H fs (gV vs zs)) (e:R fs d) :
  RE K (B3 (Qh K R) gV E tA tK) σ H d:=λH1 s Q q =>
 h H1 s _ λvs H2 s2 q2=>hk H2 (s.trans s2) _ λzs H3 s3 q3=>⟨fs,d,hg _ _ _ (s3.P0 q2) q3,e,λv H4 s4 q4=>q _ _ (s2.trans (s3.trans s4)) q4⟩
theorem zJ:∀ o:Option mJ,Rp (nj o)=true/\fJ (nj o)<=20
 | none=>⟨rfl,by decide⟩
 | some t=>by
  obtain ⟨a,b,c,d⟩:=t;refine ⟨?_,?_⟩
  ·show (PY (a.map D.int) && (PY (b.map D.int) && (PY (c.map D.int) && (PY (d.map D.int) && true))))=true;rw [fE,fE,fE,fE];rfl
  ·show max (PC (a.map D.int)+1) (max (PC (b.map D.int)+1) (max (PC (c.map D.int)+1) (max (PC (d.map D.int)+1) 0)))+1<=20;rw [cW,cW,cW,cW];decide
noncomputable abbrev VV:Type:=Str × Pa × List Cl
noncomputable abbrev fM (p:VV):D:=qC (.str p.1) p.2.1 p.2.2
structure rW (ps:List VV):Prop where
 lo:1<=ps.length
 hi:ps.length<=16
 pc:∀ p ∈ ps,jk (fM p)=some true/\CY (fM p)
 nd:(ps.map (·.1)).Nodup
noncomputable def Ei (as:List Ar) (d:D):Prop:=∃ ps,as=[.l (ps.map fM)]/\rW ps/\d=.bl true
theorem zk (T:Txt P w K mg) (Kr:Ok P w base k T.IS (Qh K oJ)):Ok P w base (k+1) T.Kz (spA K Ei):=by
 refine T.Kz.f.ok Xb (λvs H Q E h=>?_) (λcdv A outer s H vs Q E hr h=>?_)
 ·obtain ⟨as,d,hd,⟨ps,rfl,_⟩,_⟩:=h;exact hd.length.symm
 have nd:=Xb.nd;obtain ⟨as,d,hd,⟨ps,rfl,hS,rfl⟩,post⟩:=h;obtain ⟨v0,rfl,h0⟩:=Ep hd;have h0:LD K H (ps.map fM) v0:=h0;have hlo:=hS.lo;have hhi:=hS.hi;refine ⟨_,(aF (bD (PW.pt (iC (dS (bT (a9 (fB CL) rfl T.GJ cR (dA (pv 0) (dA (f9 (v:=.ty "list") rfl T.Jl fZ rfl) aC))) (λ_=>rfl))) (fT (dS (pM kG kG aG (a9 aZ rfl T.GQ cC (aD (pv 0) aC)) (bQ (v:=.int 16) rfl T.Hr ⟨_,rfl⟩)))))) (aH (aQ eM)) aU)
 (aF (bD (dS (bT (a9 (j0 rfl) rfl T.K5 oO (aD (dZ (own:=["piece"]) (fr:=[]) (N':=["piece"]) (cU (pv 0)) rfl (by show dX ["thing"] (λx=>(aK mD).names.lookup x) _ _ _ _=true;decide +kernel) rfl (λ_ _ _ _ _=>(aY (i:=0) (by show List.Nodup [("piece":Str)];decide +kernel) rfl (Or.inl rfl))) (λ_ _ _ _ _=>cX) (λ_ _ _ _ _=>(pc (D:=T.IS) Kr hr (aD (pv 0) aC)))) aC)) (λ_=>rfl))) (aH (aQ eM)) aU)
 (aH (aQ (hE cH (a9 uq rfl T.GQ cC (aD (cQ (yR rfl) rfl T.LN Et (aD (dZ (own:=["piece"]) (fr:=[]) (N':=["piece"]) (cU (pv 0)) rfl (by show dX ["thing"] (λx=>(aK mD).names.lookup x) _ _ _ _=true;decide +kernel) rfl (λ_ _ _ _ _=>(aY (i:=0) (by show List.Nodup [("piece":Str)];decide +kernel) rfl (Or.inl rfl))) (λ_ _ _ _ _=>cX) (λ_ _ _ _ _=>(bB (r:=pN K) aW (pv 0) aG))) aC)) aC)) (a9 aZ rfl T.GQ cC (aD (pv 0) aC)) (aV _)))))),?_⟩
 refine aP (K:=K) (b:=false) ?_ (λc=>nomatch c) (λ_ H1 s1=>?_)
 ·refine RT.as (eI (b:=false) (RT.as (bX (bH (cJ (aB h0.lst)))) rfl) λ_=>bX (aJ (mq (p:=λi j=>decide (i<=j)) (r:=λi j=>decide (i<=j)) aE (eO (cK h0)) λ_=>aE))) ?_;rw [LR,NF,Mh (show (1:Int)<=(ps.length:Int) by omega),Mh (show (ps.length:Int)<=16 by omega)];rfl
 have h0:=s1.ld h0;refine aP (K:=K) (b:=false) ?_ (λc=>nomatch c) (λ_ H2 s2=>?_)
 ·refine RT.as (bX (bH (mm (bs:=ps.map λ_=>true) (mj (cK h0) (by rw [LR];omega) _ (by simp) rfl (λG1 j c v d s1 hc hd hv=>?_))))) ?_
  ·simp only [LV] at hc hd
   cases hx:ps[j]? with
   | none=>rw [hx] at hc;cases hc
   | some p =>rw [hx] at hc hd;cases hc;cases hd;obtain ⟨k1,k2⟩:=hS.pc p (Mj hx);exact bE (R:=oJ) (aA (aB (k:=0) hv) aI) ⟨fM p,true,rfl,k2,by rw [k1];rfl,rfl⟩
  ·rw [List.all_map];simp
 have h0:=s2.ld h0;refine bC (K:=K) (d:=.bl true) (RE.as (eS (zA (zs:=ps.map (·.1)) (mj (cK h0) (by rw [LR];omega) _ (by simp) rfl (λG1 j c v d s1 hc hd hv=>?_)) (by rw [LR];omega)) (eO (cK h0))) ?_) λv H' s q=>post v H' (s1.trans (s2.trans s)) q
 ·simp only [LV] at hc hd
  cases hx:ps[j]? with
  | none=>rw [hx] at hc;cases hc
  | some p =>rw [hx] at hc hd;cases hc;cases hd;exact a7 (k:=0) (aB (k:=0) hv) aE rfl
 ·rw [(CA _).mpr hS.nd,LR,LR];simp
noncomputable def vN (as:List Ar) (d:D):Prop:=∃ ps,as=[.l (ps.map fM)]/\rW ps/\d=.Py
theorem uT (T:Txt P w K mg) (Lx:Ok P w base k T.Kz (spA K Ei)):Ok P w base (k+1) T.J8 (spA K vN):=by
 refine T.J8.f.ok Wj (λvs H Q E h=>?_) (λcdv A outer s H vs Q E hr h=>?_)
 ·obtain ⟨as,d,hd,⟨ps,rfl,_⟩,_⟩:=h;exact hd.length.symm
 have nd:=Wj.nd;obtain ⟨as,d,hd,⟨ps,rfl,hS,rfl⟩,post⟩:=h;obtain ⟨v0,rfl,h0⟩:=Ep hd;have h0:LD K H (ps.map fM) v0:=h0;refine ⟨_,(aH (bD (dS (bT (pc (D:=T.Kz) Lx hr (aD (pv 0) aC)) (λ_=>rfl))) (aH kf) aU)),?_⟩;exact fL (b:=false) (bX (bH (vm (K:=K) (R:=Ei) (E8 (cK h0) tq) ⟨ps,rfl,hS,rfl⟩))) (λc=>nomatch c) (λ_ H1 s1=>post _ H1 s1 Dat.W5)
structure SA where
 s:Addr
 dx:Addr
 lr:Addr
 od:Addr
noncomputable def sF (S:SA):List (Str × V):=[("ready",.ref S.lr),("orders",.ref S.od)]
structure Qc (K:W.Frag) (C:Addr) (S:SA) (ps:List VV) (H:Hp):Prop where
 ins:H S.s=some (.ins C S.dx (sF S))
 rd:∃ xs,H S.lr=some (.lst xs)/\Pq K H (ps.map fM) xs
section
variable {C:Addr} {S:SA} {ps:List VV} {H H':Hp}
theorem Qc.same (h:Qc K C S ps H) (s:Pr H H'):Qc K C S ps H':=by obtain ⟨h1,xs,h2,h3⟩:=h;exact ⟨s _ _ h1,xs,s _ _ h2,s.P0 h3⟩
theorem Qc.ne (h:Qc K C S ps H):S.s≠S.lr:=λz=>by obtain ⟨h1,xs,h2,_⟩:=h;rw [z,h2] at h1;cases h1
theorem Qc.but {t:Addr} {zs zs':List V} (h:Qc K C S ps H) (b:PX t H H') (n:S.lr≠t) (ht:H t=some (.lst zs)) (ht':H' t=some (.lst zs')):Qc K C S ps H':=by obtain ⟨h1,xs,h2,h3⟩:=h;exact ⟨b _ _ (λz=>by rw [z,ht] at h1;cases h1) h1,xs,b _ _ n h2,Pq.mono (b.grow ht ht') _ h3⟩
theorem pU {i:Nat} {σ:L2.St} (h:Qc K C S ps H) (c:VQ K C) (n:PU K C "ready") (e:σ[i]?=some (some (.ref S.s)):=by rfl):RL K (lB K (dW i) "ready") σ H (ps.map fM):=λH1 s Q q=>by obtain ⟨h1,xs,h2,h3⟩:=h.same s;exact ⟨_,e,S.s,C,S.dx,_,_,rfl,h1,c,n,rfl,q _ _ (Pr.refl _) (LD.of h2 h3)⟩
end
noncomputable def D5 (K:W.Frag) (C:Addr):Sp:=λvs H Q _=>∃ (x dx:Addr),vs=[.ref x,.Py]/\H x=some (.ins C dx []) /\
 ∀ (S:SA) (H':Hp),S.s=x->PX x H H'->H S.lr=none->Qc K C S (QS.take 8) H'->Q .Py H'
theorem Ad:BAS=(QS.take 8).map fM:=rfl
theorem Ae:rW (QS.take 8):=⟨by decide,by decide,by
 have h:∀ p ∈ QS.take 8,jk (fM p)=some true/\p.1.length<=8:=by decide +kernel
 exact λp hp=>⟨(h p hp).1,Mr (h p hp).2 (by decide)⟩,by decide +kernel⟩
theorem mX (T:Txt P w K mg) (Ln:Ok P w base k T.J8 (spA K vN)):PD P w K mg base U1 (k+1) T.HN T.HP ["self","some"] (D5 K T.GP):=by
 refine T.Iv.ok TN (λvs H Q E h=>?_) (λcdv A outer s H vs Q E hr h=>?_)
 ·obtain ⟨x,dx,rfl,_⟩:=h;rfl
 have nd:=TN.nd;obtain ⟨x,dx,rfl,hx,post⟩:=h;refine ⟨_,(aF (bD (aO wK (pv 1) gS (aV _)) (aH (bM (i:=1) nd rfl (Or.inl rfl) (cQ fD rfl T.Jl fZ (aD (bQ (v:=.ref T.Kw) rfl T.J4 rfl) aC)))) aU)
 (aF (bK (pc (D:=T.J8) Ln hr (aD (pv 1) aC)))
 (aF (iQ (pv 0) (cQ fD rfl T.Jl fZ (aD (pv 1) aC)) rfl)
 (aH (iQ (pv 0) Bg rfl))))),?_⟩
 refine cZ (RT.use (b:=true) (aJ (wR (K:=K) (d:=.Py) (aB (k:=1) Dat.W5))) λH1 s1=>jG ?_);refine RC.use (K:=K) (jK (BR T.La)) λl1 y1 H2 n1 s2 hy1 dy1=>?_;rw [Ad] at dy1;have s12:=s1.trans s2;refine jM (RE.use (vm (R:=vN) (d:=.Py) (E8 (cK (K:=K) (k:=1) (LD.of hy1 dy1)) tq) ⟨_,rfl,Ae,rfl⟩) λv3 H3 s3 _=>?_);have Rz:=s12.trans s3;refine yD (K:=K) (x:=x) (jK (cK (k:=1) (s3.ld (LD.of hy1 dy1)))) λlr ys H4 np s4 hy dy=>?_;have YR:=Rz.trans s4;refine ⟨_,dx,_,YR _ _ hx,T.Qg,T.QD,by show 0 < 1000;decide,?_⟩;have b5:PX x H (upd H4 x (.ins T.GP dx (iF "ready" (.ref lr) []))):=PX.upd YR.but;have nlx:lr≠x:=λz=>by rw [z,Rz _ _ hx] at np;cases np
 have YS:upd H4 x (.ins T.GP dx (iF "ready" (.ref lr) [])) lr=some (.lst ys):=by rw [aX nlx];exact hy
 have x5:upd H4 x (.ins T.GP dx (iF "ready" (.ref lr) [])) x=some (.ins T.GP dx (iF "ready" (.ref lr) [])):=aM;have dy5:=Pq.mono (j4 (K:=K) (o':=.ins T.GP dx (iF "ready" (.ref lr) [])) (YR _ _ hx) (.inr ⟨_,_,_,rfl⟩) λ_ z=>by cases z) _ dy;generalize upd H4 x (.ins T.GP dx (iF "ready" (.ref lr) []))=H5 at b5 YS x5 dy5;intro od nod;have Zq:od≠x:=λz=>by rw [z,x5] at nod;cases nod
 have s6:Pr H5 (upd H5 od (.dT [])):=aT nod _;refine ⟨_,rfl,x,_,dx,_,rfl,s6 _ _ x5,T.Qg,T.R3,by show 1 < 1000;decide,?_⟩;have x6:=s6 _ _ x5;refine post ⟨x,dx,lr,od⟩ _ rfl (PX.upd (b5.trans s6.but)) ?_ ⟨by rw [aM];kernel_rfl,ys,by rw [aX nlx];exact s6 _ _ YS,Pq.mono (j4 (K:=K) x6 (.inr ⟨_,_,_,rfl⟩) λ_ z=>by cases z) _ (s6.P0 dy5)⟩;exact Rz.free np
noncomputable def D3 (K:W.Frag) (C:Addr):Sp:=λvs H Q _=>∃ (S:SA) (v:V) (ps:List VV) (n:Str),vs=[.ref S.s,v]/\Qc K C S ps H/\Dat K H (.str n) v/\iB (.str n)=true/\n.length<=sizeLine/\ps.length<=16 /\
 ∀ H',Pr H H'->Q (.bl ((ps.map (·.1)).any λm=>decide (m=n))) H'
theorem Eo (ps:List VV) (n:Str):((ps.map λp=>D.str p.1).any λe=>Qe e (.str n))=(ps.map (·.1)).any λm=>decide (m=n):=by rw [List.any_map,List.any_map];rfl
theorem ot:∀ ps:List VV,PY (ps.map λp=>D.str p.1)=true/\PC (ps.map λp=>D.str p.1)<=20
 | []=>⟨rfl,by decide⟩
 | p::ps=>⟨(ot ps).1,Nat.max_le.mpr ⟨by show 0<=20;decide,(ot ps).2⟩⟩
theorem lW (T:Txt P w K mg) (KD:Ok P w base k T.Ju (Qh K uf)):PD P w K mg base U1 (k+1) T.Hy T.HD ["self","name"] (D3 K T.GP):=by
 refine T.IL.ok Te (λvs H Q E h=>?_) (λcdv A outer s H vs Q E hr h=>?_)
 ·obtain ⟨S,v,ps,n,rfl,_⟩:=h;rfl
 have nd:=Te.nd;obtain ⟨S,v,ps,n,rfl,sh,hn,nk,nl,lp,post⟩:=h;refine ⟨_,(aH (aQ (kW (pc (D:=T.Ju) KD hr (aD (pv 1) aC)) (kX (hE (show Se _ _ (EZ K false) from ER hr) (pv 1) (dZ (own:=["piece"]) (fr:=[]) (N':=["piece"]) (cU (dI (pv 0) rfl)) rfl (by show dX ["self","name"] (λx=>(aK bY).names.lookup x) _ _ _ _=true;decide +kernel) rfl (λ_ _ _ _ _=>(aY (i:=0) (by show List.Nodup [("piece":Str)];decide +kernel) rfl (Or.inl rfl))) (λ_ _ _ _ _=>cX) (λ_ _ _ _ _=>(bB (r:=pN K) aW (pv 0) aG))) (by with_unfolding_all rfl)))))),?_⟩;refine bC (K:=K) (d:=.bl ((ps.map (·.1)).any λm=>decide (m=n))) (RE.as (eR (b:=true) (bE (R:=uf) (aA (aB (k:=1) hn) aI) ⟨_,rfl,nl,MH D.bl nk.symm⟩) λ_=>Fd (neg:=false) (ds:=ps.map λp:VV=>D.str p.1) (d:=.str n) (aB (k:=1) hn) (eT (mj (K:=K) (pU (i:=0) sh T.Qg T.QD) (by rw [LR];omega) _ (by simp) rfl (λG1 j c v d s1 hc hd hv=>?_))) (ot ps).1 rfl (ot ps).2) ?_) λv H' s q=>by rw [q.VR];exact post H' s
 ·simp only [LV] at hc hd
  cases hx:ps[j]? with
  | none=>rw [hx] at hc;cases hc
  | some p =>rw [hx] at hc hd;cases hc;cases hd;exact a7 (k:=0) (aB (k:=0) hv) aE rfl
 ·rw [Nk,LZ (by decide),Eo]
structure qT (ps:List VV) (p:VV):Prop where
 f:lD (.str p.1) p.2.1 p.2.2 3
 n:p.1 ∉ ps.map (·.1)
 l:ps.length < 16
noncomputable def D6 (K:W.Frag) (B C:Addr):Sp:=λvs H Q E=>∃ (S:SA) (v:V) (ps:List VV) (p:VV),vs=[.ref S.s,v]/\Qc K C S ps H/\Dat K H (fM p) v/\qT ps p /\
 (eQ p.2.1 p.2.2 3=none->∀ H' xs xs',PX S.lr H H'->H S.lr=some (.lst xs)->H' S.lr=some (.lst xs')->Qc K C S (ps++[p]) H'->Q .Py H') /\
 (∀ t,eQ p.2.1 p.2.2 3=some t->∀ H' dx u,Pr H H'->H' dx=some (.xd [("trial",u)])->Dat K H' (nj (some t)) u->E (.ref B) (some dx) H')
theorem EK {ps:List VV} {n:Str} (h:n ∉ ps.map (·.1)):((ps.map (·.1)).any λm=>decide (m=n))=false:=by rw [List.any_eq_false];intro m hm e;exact h (LS e ▸ hm)
theorem CF {p:VV} {b:Nat} (F:lD (.str p.1) p.2.1 p.2.2 b):iB (.str p.1)=true:=by
 have h:=F.pc
 cases hn:iB (.str p.1) with
 | true=>rfl
 | false =>have h:(if (!iB (.str p.1) || (mU (.str p.1) || !og (Qf p.2.1)))=true then some false else csD (Qf p.2.1) (.tup (p.2.2.map U4)))=some true:=h;rw [hn] at h;cases h
theorem uM (T:Txt P w K mg) (KP:PD P w K mg base U1 k T.Kd T.JX ["self","trial"] (fH T.Ht "trial")) (JZ:Ok P w base (k+1) T.Il (Qh K lF)) (KC:PD P w K mg base U1 (k+1) T.Hy T.HD ["self","name"] (D3 K T.GP)) (Ls:PD P w K mg base U1 (k+1) T.JV T.JW ["piece","size"] (Qh K ue)):PD P w K mg base (UC P w) (k+1+1) T.Jx T.JB ["self","piece"] (D6 K T.Ht T.GP):=by
 refine T.Kt.YF Wk (λvs H Q E h=>?_) (λcdv A outer s H vs Q E hr h=>?_)
 ·obtain ⟨S,v,ps,p,rfl,_⟩:=h;rfl
 have nd:=Wk.nd;obtain ⟨S,v,ps,p,rfl,sh,hv,ok,post,ex⟩:=h;refine ⟨_,(aF (bK (pc (D:=T.Il) JZ hr (aD (pv 1) aC)))
 (aF (bD (bT (gB (pv 0) T.Qg T.Ti KC hr (mO T) .nil ka (aD (bB aW (pv 1) aG) aC)) (λ_=>rfl)) (aH kf) aU)
 (aF (bD (aO cH (a9 aZ rfl T.GQ cC (aD (dI (pv 0) rfl) aC)) (bQ (v:=.int 16) rfl T.Hr ⟨_,rfl⟩) (aV _)) (aH kf) aU)
 (aF (bM (i:=2) nd rfl (Or.inl rfl) (Bd Ls hr rfl T.K4 T.Kh.kp (yM T) ka (aD (pv 1) aC) (C9 (bQ (v:=.int 3) rfl T.Ij ⟨_,rfl⟩) EX)))
 (aF (bD (aO sU (pv 2) gS (aV _)) (aH (eB T.Li KP (yN T) hr iW rfl T.JG (aD (pv 2) aC))) aU)
 (aH (bK (eU Mn Mz MD bU (dI (pv 0) rfl) (aD (pv 1) aC))))))))),?_⟩
 refine jM (RE.use (bE (R:=lF) (d:=.Py) (aA (aB (K:=K) (k:=1) hv) aI) ⟨_,rfl,ok.f.nmk,ok.f.pc,rfl⟩) λv3 H1 s1 _=>?_);have sh1:=sh.same s1;have hv1:=s1.dat hv;have ll:=ok.l;refine cZ ⟨_,rfl,S.s,S.dx,_,rfl,sh1.ins,rfl,RE.use (a7 (k:=0) (aB (K:=K) (k:=1) hv1) aE rfl) λvn H2 s2 qn=>⟨S,vn,ps,p.1,rfl,sh1.same s2,qn,CF ok.f,ok.f.nmk,by omega,λH3 s3=>?_⟩⟩;rw [EK ok.n];refine ⟨false,rfl,ji ?_⟩;have Rz:=(s1.trans s2).trans s3;have sh3:=sh.same Rz;have hv3:=Rz.dat hv;refine aP (K:=K) (b:=false) (RT.as (aJ (eS (eO (pU (i:=0) sh3 T.Qg T.QD)) aE)) (by rw [LR];exact LY (by omega))) (λc=>nomatch c) (λ_ H4 s4=>?_);have YR:=Rz.trans s4;have sh4:=sh.same YR;have hv4:=YR.dat hv
 refine cF (K:=K) (d:=nj (eQ p.2.1 p.2.2 3)) (BK (ds:=[fM p]) (es:=[.int (3:Nat)]) (fs:=[fM p,.int (3:Nat)]) (aA (aB (k:=1) hv4) aI) (aA aE aI) (λH vs zs h1 h2=>by
  obtain ⟨v,rfl,hv⟩:=hX h1;obtain ⟨z,rfl,hz⟩:=hX h2;exact Pq.cons hv (Pq.cons hz Pq.nil)) ⟨.str p.1,p.2.1,p.2.2,3,rfl,ok.f,rfl⟩) λvt H5 s5 qt=>?_
 have s15:=YR.trans s5
 cases hf:eQ p.2.1 p.2.2 3 with
 | some t =>rw [hf] at qt;refine fL (b:=true) (aJ (tF (K:=K) (aB (k:=2) qt))) (λ_ H6 s6=>?_) (λc=>nomatch c);exact ⟨_,rfl,_,rfl,λdx nd=>ex t hf _ dx vt (s15.trans (s6.trans (aT nd _))) aM ((s6.trans (aT nd _)).dat qt)⟩
 | none =>rw [hf] at qt;refine aP (K:=K) (b:=false) (aJ (tF (K:=K) (aB (k:=2) qt))) (λc=>nomatch c) (λ_ H6 s6=>?_);have s16:=s15.trans s6;obtain ⟨h1,xs,h2,h3⟩:=sh.same s16;have hv6:=s16.dat hv;have lx:=h3.length;rw [LR] at lx;obtain ⟨h10,xs0,h20,h30⟩:=id sh;refine ⟨_,rfl,S.s,T.GP,S.dx,_,_,rfl,h1,T.Qg,T.QD,rfl,.inl ⟨rfl,_,PJ.of h2⟩,_,rfl,S.lr,xs,v,rfl,rfl,h2,dJ (by omega),?_⟩;have gr:fA K H6 (upd H6 S.lr (.lst (xs++[v]))):=(PX.upd (Pr.refl H6).but).grow h2 aM;refine post hf _ xs0 _ (PX.upd s16.but) h20 aM ⟨by rw [aX sh.ne];exact h1,_,aM,?_⟩;rw [MM];exact Pq.append (Pq.mono gr _ h3) (Pq.cons (Dat.mono gr _ hv6) Pq.nil)
noncomputable def B0 (K:W.Frag) (C:Addr):Sp:=λvs H Q _=>∃ (S:SA) (ps:List VV),vs=[.ref S.s]/\Qc K C S ps H/\∀ r us H',Pr H H'->H' r=some (.lst us)->H r=none->Pq K H' (ps.map fM) us->Q (.ref r) H'
theorem pj (T:Txt P w K mg)  : PD P w K mg base U1 (k+1) T.Ip T.Ir ["self"] (B0 K T.GP):=by
 refine T.JT.ok UO (λvs H Q E h=>?_) (λcdv A outer s H vs Q E hr h=>?_)
 ·obtain ⟨S,ps,rfl,_⟩:=h;rfl
 have nd:=UO.nd;obtain ⟨S,ps,rfl,sh,post⟩:=h;refine ⟨_,(aH (aQ (cQ fD rfl T.Jl fZ (aD (dI (pv 0) rfl) aC)))),?_⟩;exact RC.use (K:=K) (jK (pU (i:=0) sh T.Qg T.QD)) λr us H' n s hy dy=>post r us H' s hy n dy
noncomputable def BY (K:W.Frag) (C:Addr):Sp:=λvs H Q _=>∃ (S:SA) (v:V) (ps:List VV) (p:VV),vs=[.ref S.s,.int 0,v,.Py]/\Qc K C S ps H/\Dat K H (fM p) v/\qT ps p /\
 (eQ p.2.1 p.2.2 3=none->∀ H' xs xs',PX S.lr H H'->H S.lr=some (.lst xs)->H' S.lr=some (.lst xs')->Qc K C S (ps++[p]) H'->Q .Py H') /\
 (∀ t,eQ p.2.1 p.2.2 3=some t->∀ H' u,Pr H H'->Dat K H' (.tup [.str "broken",nj (some t)]) u->Q u H')
theorem uN (T:Txt P w K mg) (Ll:PD P w K mg base (UC P w) k T.Jx T.JB ["self","piece"] (D6 K T.Ht T.GP)):Ok P w base (k+1) T.IQ (BY K T.GP):=by
 refine T.IQ.f.ok Wl (λvs H Q E h=>?_) (λcdv A outer s H vs Q E hr h=>?_)
 ·obtain ⟨S,v,ps,p,rfl,_⟩:=h;rfl
 have nd:=Wl.nd;obtain ⟨S,v,ps,p,rfl,sh,hv,ok,post,ex⟩:=h;refine ⟨_,(aH (Bs (i:=4) (λpn xe E hx=>(aF (bD (aO cH (pv 1) aG (aV _)) (aH (aQ (Bi (pv 0) T.Qg T.Wm Ll hr (vS T) .nil hx (aD (pv 2) aC)))) aU) zq)) rfl T.JG nd rfl rfl (λe=>(aH (aQ (aS (aD aN (aD (C4 (K:=K) rfl (pv 4)) aC)))))))),?_⟩;refine cZ (RT.use (b:=true) (aJ (eS (K:=K) (aB (k:=1) (Dat.Px 0)) aE)) λH1 s1=>jG ?_);refine ⟨_,rfl,S.s,S.dx,_,rfl,s1 _ _ sh.ins,rfl,_,rfl,S,v,ps,p,rfl,sh.same s1,s1.dat hv,ok,λhf H' xs xs' b h1 h2 sh'=>?_,λt hf H' dx u s2 hdx du=>⟨T.Hj,T.Ht,rfl,λa ha=>?_⟩⟩
 ·obtain ⟨_,ys,hy,_⟩:=id sh;exact post hf H' ys xs' (λx o n e=>b x o n (s1 _ _ e)) hy h2 sh'
 ·have hne:dx≠a:=λz=>by rw [z,ha] at hdx;cases hdx
  exact ⟨_,rfl,a,T.Ht,dx,u,rfl,aM,by rw [aX hne];exact hdx,T.JY,T.KI.no,jg (show 2<=1000 by decide),λq nq=>ex t hf _ _ (s1.trans (s2.trans ((aT ha _).trans (aT nq _)))) (Dat.tupI (QE.of aM) (Pq.cons (Dat.Rb _) (Pq.cons (((aT ha _).trans (aT nq _)).dat du) Pq.nil)))⟩
theorem wb:∀ pt:Pa,Rp (Qf pt)=true/\fJ (Qf pt)<=bJ pt
 | .hole _=>⟨rfl,by show 1<=1;decide⟩
 | .gap _ _=>⟨rfl,by show 1<=1;decide⟩
 | .slot _=>⟨rfl,by show 1<=1;decide⟩
 | .num _=>⟨rfl,by show 1<=1;decide⟩
 | .two o a b=>by
  obtain ⟨a1,a2⟩:=wb a;obtain ⟨b1,b2⟩:=wb b;refine ⟨?_,?_⟩
  ·show (Rp (Qf a) && (Rp (Qf b) && true))=true;rw [a1,b1];rfl
  ·show max 0 (max (fJ (Qf a)) (max (fJ (Qf b)) 0))+1<=1+max (bJ a) (bJ b);omega
theorem Az:∀ cl:List Cl,PY (cl.map U4)=true/\PC (cl.map U4)<=1
 | []=>⟨rfl,by decide⟩
 | c::cl=>by
  obtain ⟨h1,h2⟩:=Az cl;have hc:Rp (U4 c)=true/\fJ (U4 c)<=1:=by cases c <;> exact ⟨rfl,by first | exact L7 1 | exact MK 1⟩
  refine ⟨?_,?_⟩
  ·show (Rp (U4 c) && PY (cl.map U4))=true;rw [hc.1,h1];rfl
  ·show max (fJ (U4 c)) (PC (cl.map U4))<=1;omega
theorem xR (p:VV) (h:bJ p.2.1<=3):Rp (fM p)=true/\fJ (fM p)<=20:=by
 obtain ⟨a1,a2⟩:=wb p.2.1;obtain ⟨b1,b2⟩:=Az p.2.2;refine ⟨?_,?_⟩
 ·show (true && (Rp (Qf p.2.1) && (PY (p.2.2.map U4) && true)))=true;rw [a1,b1];rfl
 ·show max 0 (max (fJ (Qf p.2.1)) (max (PC (p.2.2.map U4)+1) 0))+1<=20;omega
theorem uA:∀ ps:List VV,(∀ p ∈ ps,bJ p.2.1<=3)->PY (ps.map fM)=true/\PC (ps.map fM)<=20
 | [],_=>⟨rfl,by decide⟩
 | p::ps,h=>by obtain ⟨a1,a2⟩:=xR p (h p Mw);obtain ⟨b1,b2⟩:=uA ps λq hq=>h q (Mt _ hq);exact ⟨by show (Rp (fM p) && PY (ps.map fM))=true;rw [a1,b1];rfl,Nat.max_le.mpr ⟨a2,b2⟩⟩
noncomputable def vR:Option mJ->D
 | none=>.Py
 | some t=>.tup [.str "broken",nj (some t)]
noncomputable def me (p:VV):Option mJ->List VV
 | none=>[p]
 | some _=>[]
theorem uh (o:Option mJ):Rp (vR o)=true/\fJ (vR o)<=20:=by
 cases o with
 | none=>exact ⟨rfl,by decide⟩
 | some t =>
  obtain ⟨a,b,c,d⟩:=t;refine ⟨?_,?_⟩
  ·show (true && (Rp (nj (some (a,b,c,d))) && true))=true;rw [(zJ _).1];rfl
  ·show max 0 (max (max (PC (a.map D.int)+1) (max (PC (b.map D.int)+1) (max (PC (c.map D.int)+1) (max (PC (d.map D.int)+1) 0)))+1) 0)+1<=20;rw [cW,cW,cW,cW];decide
section
variable {C:Addr} {S:SA} {ps:List VV} {p:VV} {H:Hp} {σ:L2.St} {v:V} {Q:VK} {E:XK}
theorem By {j:Nat} (sh:Qc K C S ps H) (hv:Dat K H (fM p) v) (ok:qT ps p)
  (q:∀ u H' xs xs',PX S.lr H H'->H S.lr=some (.lst xs)->H' S.lr=some (.lst xs')->Qc K C S (ps++me p (eQ p.2.1 p.2.2 3)) H'->Dat K H' (vR (eQ p.2.1 p.2.2 3)) u->Q u H') (e2:σ[2]?=some (some (.ref S.s)):=by rfl) (ej:σ[j]?=some (some v):=by rfl) :
  gJ (BY K C) [] E (bO (dW 2) (bO (tC (.int 0)) (bO (dW j) (bO (tC .Py) dH)))) σ H Q:=by
 refine ⟨_,e2,_,ej,S,v,ps,p,rfl,sh,hv,ok,λhf H' xs xs' b h1 h2 h3=>?_,λt hf H' u s h=>?_⟩
 ·rw [hf] at q;exact q _ H' xs xs' b h1 h2 h3 Dat.W5
 ·rw [hf] at q;obtain ⟨_,xs,hx,_⟩:=id sh;exact q u H' xs xs s.but hx (s _ _ hx) (by rw [show me p (some t)=[] from rfl,MI];exact sh.same s) h
theorem BH {i:Nat} (sh:Qc K C S ps H) (ei:σ[i]?=some (some (.ref S.s)):=by rfl):RC K (nN C "pieces" (B0 K C) [] E (dW i) dH) σ H (ps.map fM):=λH1 s Q q =>
 ⟨_,ei,S.s,S.dx,_,rfl,s _ _ sh.ins,rfl,S,ps,rfl,sh.same s,λr us H' s' h n d=>q r us H' n s' h d⟩
end
theorem FV {b:Bool} (h:RT tt σ H b) (h1:b=true->RL K ta σ H ds) (h2:b=false->RL K tb σ H ds):RL K (tIf tt ta tb) σ H ds:=λH1 s Q q =>
 h H1 s _ λH2 s2=>by
  cases b with
  | true=>exact jG (h1 rfl H2 (s.trans s2) Q λv H' s'=>q v H' (s2.trans s'))
  | false=>exact ji (h2 rfl H2 (s.trans s2) Q λv H' s'=>q v H' (s2.trans s'))
noncomputable abbrev DQ:D->Bool
 | .tup (.str x::_)=>!decide (x="both")
 | _=>true
noncomputable abbrev G7:List VV:=(QS.drop 8).filter λp=>!decide (p.1="both")
theorem FH:LPD.filter DQ=G7.map fM:=by kernel_rfl
theorem AC:∀ p ∈ G7,p ∈ QS:=λp hp=>OV (OO.mp hp).1
theorem DN:∀ p ∈ G7,(cT "slot" p.2.1).length < 2/\p.1 ∉ (QS.take 8).map (·.1)/\¬ p.1="drawn"/\¬ p.1="other":=by decide +kernel
theorem CH {p:VV} (hp:p ∈ G7):lD (.str p.1) p.2.1 p.2.2 3/\eQ p.2.1 p.2.2 3=none:=by obtain ⟨h1,h2⟩:=yY 3 (by decide) p (AC p hp) (DN p hp).1;exact ⟨oV h1,Option.isNone_iff_eq_none.mp h2⟩
noncomputable def nmW:Option mJ->Str
 | none=>"other"
 | some _=>"drawn"
noncomputable abbrev ZP (o:Option mJ):VV:=(nmW o,.two "sub" (.hole 0) (.hole 1),[.n 14,.n 5])
theorem DI (o:Option mJ):lD (.str (ZP o).1) (ZP o).2.1 (ZP o).2.2 3:=by
 cases o with
 | none=>exact oV (show uz "other" (.two "sub" (.hole 0) (.hole 1)) [.n 14,.n 5] 3=true by decide +kernel)
 | some t=>exact oV (show uz "drawn" (.two "sub" (.hole 0) (.hole 1)) [.n 14,.n 5] 3=true by decide +kernel)
theorem Cq (o:Option mJ):eQ (ZP o).2.1 (ZP o).2.2 3=some ([0,1],[],[],[0,0,0,0]):=by show eQ (.two "sub" (.hole 0) (.hole 1)) [.n 14,.n 5] 3=_;decide +kernel
noncomputable def vC (K:W.Frag):Sp:=λvs H Q _=>∃ (a:Addr) (ns:List Int),vs=[.ref a]/\XG K H a ns/\∀ H',Q (.bl true) H'
theorem EN (T:Txt P w K mg) (KN:PD P w K mg base U1 k T.HN T.HP ["self","some"] (D5 K T.GP)) (Ko:Ok P w base (k+1) T.HJ (yE K)) (Kb:Ok P w base (k+1) T.Hn (Qh K ue)) (Kn:Ok P w base (k+1) T.IQ (BY K T.GP)) (Kl:PD P w K mg base U1 (k+1) T.Ip T.Ir ["self"] (B0 K T.GP)) (IY:Ok P w base (k+1) T.Hb (tT K)) (K0:Ok P w base (k+1) T.HR (iU K λds es=>ds=[]/\es=LPD)):Ok P w base (k+1+1) T.Lk (vC K):=by
 refine T.Lk.f.ok YJ (λvs H Q E h=>?_) (λcdv A outer s H vs Q E hr h=>?_)
 ·obtain ⟨a,ns,rfl,_⟩:=h;rfl
 have nd:=YJ.nd;obtain ⟨a,ns,rfl,hS,post⟩:=h;refine' ⟨_,?WN,?YK⟩
 case' WN=>refine' aF ?a ?b
 case a=>exact (bM (i:=1) nd rfl (Or.inl rfl) (b0 (aD aG (aD aG aC))))
 case' b=>refine' aF ?c ?d
 case c=>exact (bM (i:=2) nd rfl (Or.inl rfl) (Bh T.Yb KN hr rfl T.KG (nQ T) (oi T) ka))
 case' d=>refine' aF ?e ?f
 case e=>exact (bM (i:=3) nd rfl (Or.inl rfl) (pc (D:=T.HJ) Ko hr (aD (pv 0) (aD (pv 1) aC))))
 case' f=>refine' aF ?g ?h
 case g=>exact (bM (i:=4) nd rfl (Or.inl rfl) (pc (D:=T.Hn) Kb hr (aD (pv 3) (aD aG aC))))
 case' h=>refine' aF ?i ?j
 case' i=>refine' bD ?k ?l ?m
 case k=>exact (aO (Bc hr) (pc (D:=T.IQ) Kn hr (aD (pv 2) (aD aG (aD (pv 3) (aD gS aC))))) (dR (aO wK (pv 4) gS (aV _)) gS (aS (aD aN (aD (pv 4) aC)))) (aV _))
 case' l=>refine' aH ?n
 case n=>exact (aQ eM)
 case m=>exact aU
 case' j=>refine' aF ?o ?p
 case' o=>refine' bD ?q ?r ?s
 case' q=>refine' aO ?t ?u ?v ?w
 case t=>exact (pG hr)
 case u=>exact (iO (pv 2) T.Qg T.Sl Kl hr (kE T) .nil ka)
 case v=>exact (bI l8 (bQ (v:=.ref T.Kw) rfl T.J4 rfl) (dR (aO wK (pv 4) gS (aV _)) (b0 (aD (pv 3) aC)) (b0 aC)))
 case w=>exact (aV _)
 case' r=>refine' aH ?x
 case x=>exact (aQ eM)
 case s=>exact aU
 case' p=>refine' aF ?y ?z
 case y=>exact (bM (i:=5) nd rfl (Or.inl rfl) (pc (D:=T.Hb) IY hr (aD (pv 0) (aD (pv 1) (aD (dZ (own:=["_law_one"]) (fr:=[]) (N':=["_law_one"]) (cU (uX K0 hr rfl T.HR.m T.HR.f.kp T.HR.b .nil ka)) rfl (by show dX ["_law_script","_law_town","_law_shop","_law_piece","_law_due","_law_good","_law_wrong"] (λx=>(aK BW).names.lookup x) _ _ _ _=true;decide +kernel) rfl (λ_ _ _ _ _=>(aY (i:=0) (by show List.Nodup [("_law_one":Str)];decide +kernel) rfl (Or.inl rfl))) (λ_ _ _ _ _=>(pI (aO qU (bB (r:=pN K) aW (pv 0) aG) aN (aV _)))) (λ_ _ _ _ _=>(pv 0))) aC)))))
 case' z=>refine' aF ?aa ?ab
 case' aa=>refine' bD ?ac ?ad ?ae
 case ac=>exact (PW.pt (iC (aO sU (pc (D:=T.IQ) Kn hr (aD (pv 2) (aD aG (aD (pv 5) (aD gS aC))))) gS (aV _)) (fT (aO (Bc hr) (bB PZ (iO (pv 2) T.Qg T.Sl Kl hr (kE T) .nil ka) (DU Cf aG)) (pv 5) (aV _)))))
 case' ad=>refine' aH ?af
 case af=>exact (aQ eM)
 case ae=>exact aU
 case' ab=>refine' aF ?ag ?ah
 case' ag=>refine' bM (i:=6) ?ai ?aj ?ak ?al
 case ai=>exact nd
 case aj=>exact rfl
 case ak=>exact Or.inl rfl
 case' al=>refine' aS ?am
 case' am=>refine' aD ?an ?ao
 case an=>exact (dR (aO sU (pv 4) gS (aV _)) aN aN)
 case' ao=>refine' aD ?ap ?aq
 case' ap=>refine' aS ?ar
 case' ar=>refine' aD ?au ?av
 case au=>exact aN
 case' av=>refine' aD ?aw ?ax
 case aw=>exact (aS (aD aN (aD aG aC)))
 case' ax=>refine' aD ?ay ?az
 case ay=>exact (aS (aD aN (aD aG aC)))
 case az=>exact aC
 case' aq=>refine' aD ?ba ?bb
 case ba=>exact (aS (aD aG (aD aG aC)))
 case bb=>exact aC
 case' ah=>refine' aH ?bc
 case' bc=>refine' aQ ?bd
 case' bd=>refine' hE ?be ?bf ?bg ?bh
 case be=>exact (EO hr)
 case bf=>exact (pc (D:=T.IQ) Kn hr (aD (pv 2) (aD aG (aD (pv 6) (aD gS aC)))))
 case' bg=>refine' aS ?bi
 case' bi=>refine' aD ?bj ?bk
 case bj=>exact aN
 case' bk=>refine' aD ?bl ?bm
 case' bl=>refine' aS ?bn
 case' bn=>refine' aD ?bo ?bp
 case bo=>exact (aS (aD aG (aD aG aC)))
 case' bp=>refine' aD ?bq ?br
 case bq=>exact (aS aC)
 case' br=>refine' aD ?bs ?bt
 case bs=>exact (aS aC)
 case' bt=>refine' aD ?bu ?bv
 case bu=>exact (aS (aD aG (aD aG (aD aG (aD aG aC)))))
 case bv=>exact aC
 case bm=>exact aC
 case bh=>exact (aV _)
 refine gW ⟨jg (by decide),λt ht=>?_⟩;have hS1:=hS.same (aT ht (.lst [.int 0,.int 0]));have t1:upd H t (.lst [.int 0,.int 0]) t=some (.lst [.int 0,.int 0]):=aM;generalize upd H t (.lst [.int 0,.int 0])=H1 at hS1 t1;refine gW (λx dx nx ndx hne=>⟨x,dx,rfl,aM,λS H3 es b3 nlr sh3=>⟨rfl,?_⟩⟩);have s2:Pr H1 (upd (upd H1 dx (.own x)) x (.ins T.GP dx [])):=(aT ndx _).trans (aT (by rw [aX (MQ hne)];exact nx) _);have s3:Pr H1 H3:=λb o e=>b3 b o (λz=>by rw [z,nx] at e;cases e) (s2 _ _ e);have lt:S.lr≠t:=λz=>by have:=s2.free nlr;rw [z,t1] at this;cases this
 subst es;have XR:=hS1.same s3;have t3:=s3 _ _ t1;clear b3 s2 s3 nlr nx ndx hne t1 hS1 ht;refine gW ⟨_,rfl,_,rfl,a,t,ns,0,0,rfl,XR,t3,by decide,λv3 H4 pt bl p4 q4 b4 t4 g4 D4 dv4=>?_⟩;have F4:=vY D4 (show 3 ∈ BS by decide);have sh4:=sh3.but b4 lt t3 t4;have hS4:=XR.but b4 t3;generalize ep:(("drawn",pt,bl.flatten):VV)=p;have F4:lD (.str p.1) p.2.1 p.2.2 3:=by rw [<- ep];exact F4
 have dv4:Dat K H4 (fM p) v3:=by rw [<- ep];exact dv4
 have pn:p.1="drawn":=by rw [<- ep]
 clear ep D4 b4 XR t3 sh3;refine cF (K:=K) (d:=nj (eQ p.2.1 p.2.2 3)) (bE (R:=ue) (aA (aB (k:=3) dv4) (aA (aE (i:=(3:Nat))) aI)) ⟨.str p.1,p.2.1,p.2.2,3,rfl,F4,rfl⟩) λv4 H5 s5 d5=>?_;have ok1:qT (QS.take 8) p:=⟨F4,by rw [pn];decide +kernel,by decide⟩
 have sh5:=sh4.same s5;have hS5:=hS4.same s5;have t5:=s5 _ _ t4;have dv5:=s5.dat dv4;clear s5 t4 hS4 sh4 dv4;refine cZ (By (K:=K) (j:=3) sh5 dv5 ok1 λu H6 xs xs6 b6 hx5 Z7 sh6 du=>?_);have Zo:fA K H5 H6:=b6.grow hx5 Z7;have d6:=Dat.mono Zo _ d5;have dv6:=Dat.mono Zo _ dv5;have hS6:=hS5.but b6 hx5;have t6:=b6 _ _ (MQ lt) t5;have ofl:=uh (eQ p.2.1 p.2.2 3);clear Zo dv5 d5 t5 hS5 sh5 b6 hx5;generalize ho:eQ p.2.1 p.2.2 3=o at *;refine RE.use (K:=K) (d:=vR o) (jR (b:=ZX (nj o)) (aJ (wR (aB (k:=4) d6))) (λc=>?_) (λc=>?_)) λw H7 s7 dw=>?_
 ·cases o with
  | none=>exact Ff
  | some t=>cases c
 ·cases o with
  | none=>cases c
  | some t=>exact aR (aA aL (aA (aB (k:=4) d6) aI))
 refine ⟨vR o,vR o,s7.dat du,dw,ofl.1,ofl.1,ofl.2,false,by rw [Mc rfl,j3 _ ofl.1];rfl,ji ?_⟩;have sh7:=sh6.same s7;have d7:=s7.dat d6;have dv7:=s7.dat dv6;have hS7:=hS6.same s7;have t7:=s7 _ _ t6;clear dw du s7 sh6 d6 dv6 hS6 t6 Z7
 have pl:∀ z ∈ QS.take 8++me p o,bJ z.2.1<=3:=λz hz=>by
  rcases Na.mp hz with h | h
  ·exact xV z (List.mem_of_mem_take h)
  ·cases o with
   | none=>rw [Mv.mp h];exact F4.dp
   | some _=>cases h
 obtain ⟨f1,f2⟩:=uA _ pl;refine aP (K:=K) (b:=false) (RT.as (aJ (yB (ds:=(QS.take 8++me p o).map fM) (es:=(QS.take 8++me p o).map fM) (eT (BH (i:=2) sh7)) (RL.as (eT (mf (es:=(me p o).map fM) (BR T.La) (FV (b:=ZX (nj o)) (aJ (wR (aB (k:=4) d7))) (λc=>?_) (λc=>?_)) ?_)) ?_) f1 f1 f2)) (by rw [VS _ f1];rfl)) (λc=>nomatch c) (λ_ H8 s8=>?_)
 ·cases o with
  | none=>exact eT (cE (es:=[fM p]) (aA (aB (k:=3) dv7) aI))
  | some t=>cases c
 ·cases o with
  | none=>cases c
  | some t=>exact eT (cE (es:=[]) aI)
 ·cases o with
  | none=>show 8+1<=1000;decide
  | some _=>show 8+0<=1000;decide
 ·rw [Ad,MM]
 have sh8:=sh7.same s8;have d8:=s8.dat d7;have hS8:=hS7.same s8;have t8:=s8 _ _ t7;clear s8 sh7 d7 dv7 hS7 t7 f1 f2;refine gW ⟨_,rfl,_,rfl,RC.use (K:=K) (Dh (eT λH1 s Q q=>⟨[],LPD,Pq.nil,⟨rfl,rfl⟩,λr us H' s' h n d=>q r us H' n s' h d⟩) (by decide) DQ rfl (λG j c v sG hc hv=>?_)) λl ys H9 n9 s9 hy dy=>?_⟩
 ·have hm:=Mj hc
  have hm:∃ x r,c=.tup (.str x::r):=by revert hm;clear hc hv;intro hm;simp only [LPD,Mm,Nc,Oi] at hm;rcases hm with rfl | rfl | rfl | rfl | rfl | rfl | rfl | rfl <;> exact ⟨_,_,rfl⟩
  obtain ⟨x,r,rfl⟩:=hm;exact ⟨aJ (BN (a7 (k:=0) (aB (k:=0) hv) aE rfl) aL),aB (k:=0) hv⟩
 rw [FH] at dy;have ltt:l≠t:=λz=>by rw [z,t8] at n9;cases n9
 have t9:=s9 _ _ t8;refine ⟨a,t,l,ns,ys,p4,q4,[],rfl,hS8.same s9,PJ.of hy,ltt,by rw [<- dy.length];decide +kernel,by rw [<- dy.length];decide +kernel,t9,g4,λi x H10 p10 q10 b10 t10 g10 hx=>?_⟩;have ZQ:fA K H9 H10:=b10.grow t9 t10;obtain ⟨dg,eg,dv10⟩:=(Pq.mono ZQ _ dy).WD hx;rw [LV] at eg;obtain ⟨gp,hgp,rfl⟩:=Mb.mp eg;have hgp:=Mj hgp;obtain ⟨gF,g0⟩:=CH hgp;obtain ⟨_,gn,gd,go⟩:=DN gp hgp;have gdp:=xV gp (AC gp hgp);have sh10:=(sh8.same s9).but b10 lt t9 t10;have d10:=Dat.mono ZQ _ (s9.dat d8);have hS10:=(hS8.same s9).but b10 t9;clear hx eg dy hy n9 ZQ b10 t9 hS8 t8 d8 sh8 s9 hgp
 have nm:∀ z:Str,z ∈ (me p o).map (·.1)->z="drawn":=λz hz=>by
  cases o with
  | none =>have hz:z ∈ [p.1]:=hz;rw [Mv.mp hz];exact pn
  | some _=>cases hz
 have ln:(me p o).length<=1:=by
  cases o with
  | none=>exact L7 1
  | some _=>exact MK 1
 have YF:qT (QS.take 8++me p o) gp:=⟨gF,λh=>by
  rw [MM] at h;rcases Na.mp h with h | h
  ·exact gn h
  ·exact gd (nm _ h),by rw [Ma];show 8+(me p o).length < 16;omega⟩
 dsimp only;refine cZ (By (K:=K) (j:=5) sh10 dv10 YF λu H11 xs xs11 b11 hx10 hx11 YL du=>?_);have gr11:fA K H10 H11:=b11.grow hx10 hx11;rw [g0] at du YL;have d11:=Dat.mono gr11 _ d10;have dv11:=Dat.mono gr11 _ dv10;obtain rfl:=Dat.Tv du;refine ⟨rfl,false,rfl,ji ?_⟩;obtain ⟨w1,w2⟩:=xR gp gdp;have YL:Qc K T.GP S ((QS.take 8++me p o)++[gp]) H11:=YL;refine RT.use (RT.as (aJ (Dq (qZ (ds:=(QS.take 8++me p o).map fM) (d:=fM gp) (RL.as (eT (BH (i:=2) YL)) (by rw [MM (l₂:=[gp])];rfl)) (D0 aE)) (aB (k:=5) dv11) w1 w1 w2)) (by rw [j3 _ w1];rfl)) λH12 s12=>ji ?_;have sh12:=YL.same s12;have d12:=s12.dat d11;refine cF (K:=K) (d:=fM (ZP o)) (aR (aA (jR (b:=!ZX (nj o)) (aJ (tF (aB (k:=4) d12))) (λc=>?_) (λc=>?_)) (aA (aR (aA aL (aA (aR (aA aL (aA aE aI))) (aA (aR (aA aL (aA aE aI))) aI)))) (aA (aR (aA aE (aA aE aI))) aI)))) λv6 H13 Rz d13=>?_
 ·cases o with
  | none=>cases c
  | some t=>exact aL
 ·cases o with
  | none=>exact aL
  | some t=>cases c
 have ok3:qT ((QS.take 8++me p o)++[gp]) (ZP o):=⟨DI o,λh=>by
  rw [MM,MM] at h;rcases Na.mp h with h | h
  ·rcases Na.mp h with h | h
   ·cases o with
    | none=>exact absurd h (show ("other":Str) ∉ (QS.take 8).map (·.1) by decide +kernel)
    | some _=>exact absurd h (show ("drawn":Str) ∉ (QS.take 8).map (·.1) by decide +kernel)
   ·cases o with
    | none=>exact absurd (nm _ h) (show ¬ ("other":Str)="drawn" by decide +kernel)
    | some _=>cases h
  ·have h:nmW o=gp.1:=Mv.mp h
   cases o with
   | none=>exact go h.symm
   | some _=>exact gd h.symm,by rw [Ma,Ma];show 8+(me p o).length+1 < 16;omega⟩
 refine By (K:=K) (j:=6) (sh12.same Rz) d13 ok3 λu H14 xs xs14 b14 hx13 hx14 sh14 du=>?_;rw [Cq] at du;obtain ⟨o1,o2⟩:=uh (some ([0,1],[],[],[0,0,0,0]));refine RE.use (K:=K) (d:=vR (some ([0,1],[],[],[0,0,0,0]))) (aR (aA aL (aA (aR (aA (aR (aA aE (aA aE aI))) (aA (aR aI) (aA (aR aI) (aA (aR (aA aE (aA aE (aA aE (aA aE aI))))) aI))))) aI))) λw H15 s15 dw=>?_;refine ⟨_,_,s15.dat du,dw,o1,o1,o2,?_⟩;rw [LZ (by decide),j3 _ o1];exact post _
end
end My
end
namespace My
open PySem L2 PyProof.Rows
section
variable {P:Program} {w:World} {K:W.Frag} {mg:Str->Option Value} {base:Heap}
theorem A2 (vs:List V) (H:Hp) (Q:VK) (E:XK):¬ Qh K (DL 0) vs H Q E:=λ⟨ds,es,_,h,_⟩=>h
theorem zh (vs:List V) (H:Hp) (Q:VK) (E:XK):¬ iU K (iD 0) vs H Q E:=λ⟨ds,es,_,⟨x,k,_,_,h,_⟩,_⟩=>nomatch h
theorem A3 (vs:List V) (H:Hp) (Q:VK) (E:XK):¬ Qh K (kC 0) vs H Q E:=λ⟨ds,es,_,⟨t,_,_,_,_,h,_⟩,_⟩=>by have:=yT t;omega
theorem chain (T:Txt P w K mg):Ok P w base 20 T.Lk (vC K):=by
 have w1:=uR (P:=P) (w:=w) (base:=base) (k:=0) T;have g1:=sL (P:=P) (w:=w) (base:=base) (k:=0) T;have n2:=wI (k:=1) T g1 w1;have wi:=nZ (P:=P) (w:=w) (base:=base) (k:=0) T;have ns:=sO (k:=1) T w1;have bo:=mY (P:=P) (w:=w) (base:=base) (k:=0) T
 have rk:∀ n:Nat,Ok P w base (n+1) T.HL (Qh K (kC n)):=by
  intro n
  induction n with
  | zero=>exact jq A3
  | succ n ih=>exact uU (k:=n+1) T (bo.mono (by omega)) ih
 have nm:=wH (P:=P) (w:=w) (base:=base) (k:=0) T;have mk:=wG (k:=1) T g1 w1
 have pp:∀ n:Nat,Ok P w base (n+3) T.GN (Qh K (ZG n)):=by
  intro n
  induction n with
  | zero=>exact iN (k:=2) (n:=0) T mk n2 (wi.mono (by decide)) (jq A2)
  | succ n ih=>exact iN (k:=n+3) (n:=n+1) T (mk.mono (by omega)) (n2.mono (by omega)) (wi.mono (by omega)) ih
 have ma:∀ n:Nat,Ok P w base (n+1) T.GS (iU K (iD n)):=by
  intro n
  induction n with
  | zero=>exact jq zh
  | succ n ih=>exact uS (k:=n+1) T (wi.mono (by omega)) ih
 have nu:=pC (k:=4) T (ma 3);have pa:=qy (k:=6) T (pp 3) (nu.mono (by decide));have fi:=qx (k:=4) T (g1.mono (by decide)) (ma 3) (w1.mono (by decide));have ce:=wF (k:=5) T (w1.mono (by decide)) fi;have fin:=pf (P:=P) (w:=w) (base:=base) (k:=0) T;have ia:=lY (k:=1) T fin;have iT:=kU (k:=1) T fin;have ai:=kA (k:=6) T (w1.mono (by decide)) (iT.mono (by decide)) ce;have pc:=uQ (k:=7) T (nm.mono (by decide)) pa ai;have np:=qz (k:=8) T pc;have num:=pD (P:=P) (w:=w) (base:=base) (k:=0) T;have mi:=ky (P:=P) (w:=w) (base:=base) (k:=0) T;have tk:=nY (k:=1) T fin;have pu:=nW (k:=1) T fin;have fn:=lV (k:=1) T fin;have wy:=ph (k:=2) T (fin.mono (by decide)) tk;have ch:=lU (k:=3) T tk pu (bo.mono (by decide));have st:=nX (k:=3) T (fin.mono (by decide)) (ia.mono (by decide)) (num.mono (by decide)) wy (fn.mono (by decide)) ch;have fc:=pB (P:=P) (w:=w) (base:=base) (k:=0) T
 have fp:∀ n:Nat,Ok P w base (n+1) T.GL (Qh K (Zn n)):=by
  intro n
  induction n with
  | zero=>exact jq λvs H Q E ⟨ds,d,_,h,_⟩=>CG ds d h
  | succ n ih=>exact lX (k:=n+1) T ih
 have ke:=A8 (k:=9) T (fc.mono (by decide)) (mi.mono (by decide)) (st.mono (by decide)) ((fp 3).mono (by decide)) ((rk 8).mono (by decide));have ro:=wJ (P:=P) (w:=w) (base:=base) (k:=0) T;have ar:=uP (k:=1) T ro;have fl:=wD (k:=11) T (np.mono (by decide)) (ns.mono (by decide)) (ro.mono (by decide)) ((ma 3).mono (by decide)) (ar.mono (by decide)) ke;have dr:=sC (P:=P) (w:=w) (base:=base) (k:=0) T;have pk:=sI (k:=1) T dr;have tw:=uO (P:=P) (w:=w) (base:=base) (k:=0) T;have nms:=qu (P:=P) (w:=w) (base:=base) (k:=0) T;have beh:=pq (P:=P) (w:=w) (base:=base) (k:=0) T;have dos:=sy (k:=1) T tw;have lp:=pz (P:=P) (w:=w) (base:=base) (k:=0) T;have fi:=sE (P:=P) (w:=w) (base:=base) (k:=0) T;have rw':=sJ (P:=P) (w:=w) (base:=base) (k:=0) T
 have mk:∀ n:Nat,n<=3->Ok P w base (n+1) T.GE (iU K (gN n)):=by
  intro n
  induction n with
  | zero=>exact λ_=>jq λvs H Q E ⟨ds,d,_,h,_⟩=>CU ds d h
  | succ n ih=>exact λh=>qs (k:=n+1) T (ih (by omega))
 have va:∀ n:Nat,Ok P w base (n+1) T.Ho (Qh K (rK n)):=by
  intro n
  induction n with
  | zero=>exact jq λvs H Q E ⟨ds,d,_,h,_⟩=>Cj ds d h
  | succ n ih=>exact qw (k:=n+1) T (tw.mono (by omega)) ih
 have le:=pw (k:=2) T (beh.mono (by decide)) (nms.mono (by decide)) dos;have ff:=jW (k:=4) T ((mk 3 (by decide)).mono (by decide)) (rw'.mono (by decide)) (fi.mono (by decide)) (le.mono (by decide)) ((va 3).mono (by decide));have dp:=kz (k:=4) T (pk.mono (by decide)) (dr.mono (by decide)) ((mk 3 (by decide)).mono (by decide));have bin:=nV (P:=P) (w:=w) (base:=base) (k:=0) T;have iset:=zk (k:=8) T pc;have nset:=uT (k:=9) T iset;have si:=mX (k:=10) T nset;have hasp:=lW (k:=10) T (nm.mono (by decide));have pt:=uM (k:=11) T (bin.mono (by decide)) (np.mono (by decide)) (hasp.mono (by decide)) fl;have pcs:=pj (P:=P) (w:=w) (base:=base) (k:=0) T;have ask:=uN (k:=13) T pt;exact EN (k:=18) T (si.mono (by decide)) (dp.mono (by decide)) (ff.mono (by decide)) (ask.mono (by decide)) (pcs.mono (by decide)) (pk.mono (by decide)) (lp.mono (by decide))
end
noncomputable def df_mk {K:W.Frag} {h:Heap} {mg:Str->Option Value} {n:Str} {st:Stmt} {ps:List Str} {f:Addr} {oc:Value} {od an:Option Addr} {osl:Array (Option Value)} {kV doc pm cdv ct:Value} (X:K.In h) (G:h.Ns mainGlobals mg) (a:W.nsIn K mainGlobals n=some (some (.ref f))) (l:K.lookup f=some ⟨oc,od,.func (W.fnOf n n (bP st) (bL st) (aK st) .none kV doc pm an cdv ct),osl⟩) (c:W.codeIn K cdv n=true) (k:W.keepIn K (.ref f)=true)
  (hb:∀ us:List Value,us.length=ps.length->bindArgs (W.fnOf n n (bP st) (bL st) (aK st) .none kV doc pm an cdv ct) ⟨us,[]⟩=pure (ps.zip us)):Df K mg n st ps:=⟨f,_,f6 l c k,W.mg_of X G a,.all hb⟩
noncomputable abbrev NsD (K:W.Frag) (n:Str) (f:Addr):Prop:=W.nsIn K mainGlobals n=some (some (.ref f))
noncomputable abbrev LkD (K:W.Frag) (n:Str) (st:Stmt) (f:Addr) (oc:Value) (od:Option Addr) (sl:Array (Option Value)) (kV dc pm:Value) (an:Option Addr) (cd ct:Value):Prop:=K.lookup f=some ⟨oc,od,.func (W.fnOf n n (bP st) (bL st) (aK st) .none kV dc pm an cd ct),sl⟩
variable {l:W.OpenLaw}
theorem all_mk {w:World} {K:W.Frag} {h:Heap} {mg:Str->Option Value} {fa:Addr} (X:K.In h) (G:h.Ns mainGlobals mg) (hfa:mg "law"=some (.ref fa)) (DD:Dfs K mg) {v5:Addr} {q5:Tok} {vc5:Value} {vd5:Option Addr} {vs5:Array (Option Value)} {vn5:Nat} {f5 f26:Addr} {od5 od26 an5 an26:Option Addr} {sl5 sl26:Array (Option Value)} {oc5 oc26 kV5 kV26 dc5 dc26 pm5 pm26 cd5 cd26 ct5 ct26:Value} {GG:Addr} {PV:Addr} {UR Rr:Option Addr} {US:Array (Option Value)} {UT Rt Ru Rv Qq Rw:Value} {Qj:Addr} {VW TQ:Option Addr} {VX:Array (Option Value)} {VY TR TU TV Rg TX:Value} {Qk:Addr} {VZ TY:Option Addr} {V0:Array (Option Value)} {V1 TZ T3 T4 Rh T7:Value} {Qs:Addr} {Wr Up:Option Addr} {Ws:Array (Option Value)} {Wt Uq Ur Us RG Ut:Value} {P4:Addr} {Ve Sn:Option Addr} {Vf:Array (Option Value)} {Vg So Sq Ss QJ Su:Value} {P5:Addr} {Vh Sv:Option Addr} {Vi:Array (Option Value)} {Vj Sw Sx Sy QK Sz:Value} {Ql:Addr} {V2 T8:Option Addr} {V3:Array (Option Value)} {V4 T9 Ua Ub Ri Uc:Value} {JA:Addr} {Qd:Addr} {VC Tj:Option Addr} {VD:Array (Option Value)} {VE Tn To Tp QT Tq:Value} {Qv:Addr} {VF:Value} {VG:Option Addr} {VH:Array (Option Value)} {VI:Nat} {P6:Addr} {Vk SD:Option Addr} {Vl:Array (Option Value)} {Vm SE SH SI QL SJ:Value} {Rx:Addr} {Xn VJ:Option Addr} {Xo:Array (Option Value)} {Xp VL VM VN Uh VO:Value} {Qt:Addr} {Wu Uu:Option Addr} {Wv:Array (Option Value)} {Ww Uv Uw Ux RH Uy:Value} {Ic:Tok} {Jg:Tok} {GZ:Tok} {JJ:Tok} {Hi:Tok} {Jj:Tok} {Ji:Tok} {Jh:Tok} {Jf:Tok} {Hm:Tok} {HQ:Tok} {Iu:Tok} {IH:Tok} {Jz:Addr} {IF:Addr} {Hz:Addr} {JR:Addr} {Kc:Addr} {Jy:Addr} {Ks:Addr} {Lo:Addr} {J3:Addr} {Lb:Addr} {Wx:Obj} {JO:Addr} {Jb:Addr} {UU:Addr} {Ym Xc:Option Addr} {Yn:Array (Option Value)} {Yo Xd Xe Xf V5 Xg:Value} {Ud:Addr} {XX WO:Option Addr} {XY:Array (Option Value)} {XZ WQ WR WT Vn WU:Value}
  (a5:NsD K "need_size" f5) (l5:K.lookup f5=some ⟨oc5,od5,.func (W.fnOf "need_size" "need_size" (bP eV) (bL eV) (aK eV) (.ref v5) kV5 dc5 pm5 an5 cd5 ct5),sl5⟩) (c5:W.codeIn K cd5 "need_size"=true) (k5:W.keepIn K (.ref f5)=true)
  (a26:NsD K "failing" f26) (l26:LkD K "failing" gX f26 oc26 od26 sl26 kV26 dc26 pm26 an26 cd26 ct26) (c26:W.codeIn K cd26 "failing"=true) (k26:W.keepIn K (.ref f26)=true)
  (e5:K.lookup v5=some ⟨vc5,vd5,.seq #[.int 10000 q5] vn5,vs5⟩)
  (Jt:W.nsIn K mainGlobals "Machine"=some (some (.ref GG)))
  (Qw:W.findIn K (.ref GG) "__init__"=some (some (.ref PV))) (Qx:K.lookup PV=some ⟨UT,UR,.func (W.fnOf "__init__" "Machine.__init__" (bP bV) (bL bV) (aK bV) .none Rt Ru Rv Rr Qq Rw),US⟩) (Qy:W.codeIn K Qq "Machine.__init__"=true) (Qz:W.keepIn K (.ref PV)=true) (QA:W.isFn K (.ref PV)=true)
  (Vo:W.makesIn K GG=true) (Vp:W.keepIn K (.ref GG)=true)
  (RI:W.findIn K (.ref GG) "take"=some (some (.ref Qj))) (RJ:K.lookup Qj=some ⟨VY,VW,.func (W.fnOf "take" "Machine.take" (bP dE) (bL dE) (aK dE) .none TR TU TV TQ Rg TX),VX⟩) (RK:W.codeIn K Rg "Machine.take"=true) (QG:W.keepIn K (.ref Qj)=true) (RM:W.isFn K (.ref Qj)=true)
  (RO:W.findIn K (.ref GG) "push"=some (some (.ref Qk))) (RP:K.lookup Qk=some ⟨V1,VZ,.func (W.fnOf "push" "Machine.push" (bP dC) (bL dC) (aK dC) .none TZ T3 T4 TY Rh T7),V0⟩) (RQ:W.codeIn K Rh "Machine.push"=true) (QH:W.keepIn K (.ref Qk)=true) (RS:W.isFn K (.ref Qk)=true)
  (SM:W.findIn K (.ref GG) "way"=some (some (.ref Qs))) (SN:K.lookup Qs=some ⟨Wt,Wr,.func (W.fnOf "way" "Machine.way" (bP dO) (bL dO) (aK dO) .none Uq Ur Us Up RG Ut),Ws⟩) (SQ:W.codeIn K RG "Machine.way"=true) (QU:W.keepIn K (.ref Qs)=true) (SR:W.isFn K (.ref Qs)=true)
  (QV:W.findIn K (.ref GG) "finish"=some (some (.ref P4))) (QW:K.lookup P4=some ⟨Vg,Ve,.func (W.fnOf "finish" "Machine.finish" (bP cN) (bL cN) (aK cN) .none So Sq Ss Sn QJ Su),Vf⟩) (QX:W.codeIn K QJ "Machine.finish"=true) (Qn:W.keepIn K (.ref P4)=true) (QY:W.isFn K (.ref P4)=true)
  (QZ:W.findIn K (.ref GG) "change"=some (some (.ref P5))) (Q0:K.lookup P5=some ⟨Vj,Vh,.func (W.fnOf "change" "Machine.change" (bP cM) (bL cM) (aK cM) .none Sw Sx Sy Sv QK Sz),Vi⟩) (Q3:W.codeIn K QK "Machine.change"=true) (Qo:W.keepIn K (.ref P5)=true) (Q4:W.isFn K (.ref P5)=true)
  (RU:W.findIn K (.ref GG) "step"=some (some (.ref Ql))) (RV:K.lookup Ql=some ⟨V4,V2,.func (W.fnOf "step" "Machine.step" (bP dD) (bL dD) (aK dD) .none T9 Ua Ub T8 Ri Uc),V3⟩) (RW:W.codeIn K Ri "Machine.step"=true) (QI:W.keepIn K (.ref Ql)=true) (RX:W.isFn K (.ref Ql)=true)
  (Pu:VQ K GG)
  (Si:W.findIn K (.ref GG) "cells"=some none)
  (Sj:W.findIn K (.ref GG) "given"=some none)
  (Th:W.findIn K (.ref GG) "size"=some none)
  (Qu:W.findIn K (.ref GG) "pile"=some none)
  (PR:W.findIn K (.ref GG) "place"=some none)
  (QO:W.findIn K (.ref GG) "kept"=some none)
  (Sk:W.findIn K (.ref GG) "ended"=some none)
  (KG:W.nsIn K mainGlobals "Shop"=some (some (.ref JA)))
  (Rj:W.findIn K (.ref JA) "__init__"=some (some (.ref Qd))) (Rk:K.lookup Qd=some ⟨VE,VC,.func (W.fnOf "__init__" "Shop.__init__" (bP dF) (bL dF) (aK dF) (.ref Qv) Tn To Tp Tj QT Tq),VD⟩) (Rl:W.codeIn K QT "Shop.__init__"=true) (Rm:W.keepIn K (.ref Qd)=true) (Rn:W.isFn K (.ref Qd)=true)
  (Ro:K.lookup Qv=some ⟨VF,VG,.seq #[.none] VI,VH⟩)
  (Xq:W.makesIn K JA=true) (Xr:W.keepIn K (.ref JA)=true)
  (Q5:W.findIn K (.ref JA) "has_piece"=some (some (.ref P6))) (Q6:K.lookup P6=some ⟨Vm,Vk,.func (W.fnOf "has_piece" "Shop.has_piece" (bP bY) (bL bY) (aK bY) .none SE SH SI SD QL SJ),Vl⟩) (Q7:W.codeIn K QL "Shop.has_piece"=true) (Qp:W.keepIn K (.ref P6)=true) (Q8:W.isFn K (.ref P6)=true)
  (UW:W.findIn K (.ref JA) "put"=some (some (.ref Rx))) (UX:K.lookup Rx=some ⟨Xp,Xn,.func (W.fnOf "put" "Shop.put" (bP eX) (bL eX) (aK eX) .none VL VM VN VJ Uh VO),Xo⟩) (UY:W.codeIn K Uh "Shop.put"=true) (Tt:W.keepIn K (.ref Rx)=true) (UZ:W.isFn K (.ref Rx)=true)
  (SV:W.findIn K (.ref JA) "pieces"=some (some (.ref Qt))) (SW:K.lookup Qt=some ⟨Ww,Wu,.func (W.fnOf "pieces" "Shop.pieces" (bP dP) (bL dP) (aK dP) .none Uv Uw Ux Uu RH Uy),Wv⟩) (SX:W.codeIn K RH "Shop.pieces"=true) (Q9:W.keepIn K (.ref Qt)=true) (SY:W.isFn K (.ref Qt)=true)
  (Qg:VQ K JA)
  (QD:W.findIn K (.ref JA) "ready"=some none)
  (R3:W.findIn K (.ref JA) "orders"=some none)
  (HE:W.nsIn K mainGlobals "LONGEST_NAME"=some (some (.int 8 Ic)))
  (Ib:W.nsIn K mainGlobals "MOST_CELL"=some (some (.int 99 Jg)))
  (GO:W.nsIn K mainGlobals "MOST_PATTERN_DEEP"=some (some (.int 3 GZ)))
  (IM:W.nsIn K mainGlobals "MOST_GAP"=some (some (.int 9999 JJ)))
  (GR:W.nsIn K mainGlobals "MOST_PIECE_CELLS"=some (some (.int 12 Hi)))
  (Je:W.nsIn K mainGlobals "MOST_SIZE"=some (some (.int 10000 Jj)))
  (Iz:W.nsIn K mainGlobals "MOST_PILE"=some (some (.int 64 Ji)))
  (Iy:W.nsIn K mainGlobals "MOST_KEPT"=some (some (.int 16 Jh)))
  (Ia:W.nsIn K mainGlobals "MANY_ARGS"=some (some (.int 4 Jf)))
  (GW:W.nsIn K mainGlobals "MOST_TRIED_SIZE"=some (some (.int 5 Hm)))
  (GY:W.nsIn K mainGlobals "BENEATH_HOLES"=some (some (.int 1 HQ)))
  (Hr:W.nsIn K mainGlobals "MOST_PIECES"=some (some (.int 16 Iu)))
  (Ij:W.nsIn K mainGlobals "TRIED_SIZE"=some (some (.int 3 IH)))
  (Hg:W.nsIn K mainGlobals "MOST_IN_LEAF"=some (some (.ref Jz))) (Hh:KTD.tabLook (KTD.datLooks λb=>K.lookup b) (λb=>K.lookup b) Jz TL=true)
  (GH:W.nsIn K mainGlobals "TREES_IN_BRANCH"=some (some (.ref IF))) (GI:KTD.tabLook (KTD.datLooks λb=>K.lookup b) (λb=>K.lookup b) IF TB=true)
  (Hf:W.nsIn K mainGlobals "MARK_LENGTHS"=some (some (.ref Hz))) (HF:KTD.tabLook (KTD.datLooks λb=>K.lookup b) (λb=>K.lookup b) Hz TM=true)
  (Hq:W.nsIn K mainGlobals "FILLED_FROM"=some (some (.ref JR))) (Hs:KTD.tabLook (KTD.datLooks λb=>K.lookup b) (λb=>K.lookup b) JR TF=true)
  (IA:W.nsIn K mainGlobals "MOST_TOLD"=some (some (.ref Kc))) (IB:KTD.tabLook (KTD.datLooks λb=>K.lookup b) (λb=>K.lookup b) Kc Zb=true)
  (GM:W.nsIn K mainGlobals "INSTRUCTIONS"=some (some (.ref Jy))) (JK:gK K (.tup Zm) (.ref Jy)=true)
  (IP:W.nsIn K mainGlobals "STRAIGHT"=some (some (.ref Ks))) (Ku:gK K (.tup STR) (.ref Ks)=true)
  (KH:W.nsIn K mainGlobals "WAYS"=some (some (.ref Lo))) (Lp:gK K (.tup WAY) (.ref Lo)=true)
  (Ii:W.nsIn K mainGlobals "TRIED_NUMS"=some (some (.ref J3))) (J9:gK K (.tup TRN) (.ref J3)=true)
  (J4:W.nsIn K mainGlobals "BASIC"=some (some (.ref Lb))) (Lc:o6 K BAS Lb=true)
  (JH:K.lookup Hz=some Wx) (JC:KTD.tabLook KTD.flatLooks (λb=>K.lookup b) Hz ([("hole",.int 2),("gap",.int 3),("slot",.int 2)]:List (Str × PyData))=true) (JI:KTD.hashesOf (λb=>K.lookup b) Hz=([("hole",.int 2),("gap",.int 3),("slot",.int 2)]:List (Str × PyData)).map λp=>(PySem.strKind l.prog w).hash p.1)
  (Hl:W.nsIn K mainGlobals "Fault"=some (some (.ref JO)))
  (JG:W.nsIn K mainGlobals "Broken"=some (some (.ref Jb)))
  (XF:W.findIn K (.ref JO) "__init__"=some (some (.ref UU))) (WV:K.lookup UU=some ⟨Yo,Ym,.func (W.fnOf "__init__" "Fault.__init__" (bP dN) (bL dN) (aK dN) .none Xd Xe Xf Xc V5 Xg),Yn⟩) (WW:W.codeIn K V5 "Fault.__init__"=true) (WX:W.keepIn K (.ref UU)=true)
  (WY:uc K JO UU) (WZ:vO K JO "place")
  (Xh:W.findIn K (.ref Jb) "__init__"=some (some (.ref Ud))) (V6:K.lookup Ud=some ⟨XZ,XX,.func (W.fnOf "__init__" "Broken.__init__" (bP dB) (bL dB) (aK dB) .none WQ WR WT WO Vn WU),XY⟩) (V7:W.codeIn K Vn "Broken.__init__"=true) (V8:W.keepIn K (.ref Ud)=true)
  (V9:uc K Jb Ud) (Wa:vO K Jb "trial")
  (Ky:yK K JO)
  (JY:yK K Jb)
  (Ha:W.exmOne K (.ref JO) (.ref JO)=some true)
  (Hj:W.exmOne K (.ref Jb) (.ref Jb)=some true)
  (LH:W.nsIn K mainGlobals "len"=some none)
  (Ka:W.nsIn K mainGlobals "isinstance"=some none)
  (LG:W.nsIn K mainGlobals "int"=some none)
  (Lq:W.nsIn K mainGlobals "bool"=some none)
  (LJ:W.nsIn K mainGlobals "str"=some none)
  (Le:W.nsIn K mainGlobals "tuple"=some none)
  (Lr:W.nsIn K mainGlobals "list"=some none)
  (Ld:W.nsIn K mainGlobals "range"=some none)
  (LF:W.nsIn K mainGlobals "all"=some none)
  (Kv:W.nsIn K mainGlobals "reversed"=some none)
  (Kg:W.nsIn K mainGlobals "enumerate"=some none)
  (LK:W.nsIn K mainGlobals "sum"=some none)
  (LI:W.nsIn K mainGlobals "set"=some none) :
  ∃ fd:FuncData,(∀ (s:Shared) (v:Value),BindsTo s fd ⟨[v],[]⟩ [("_law_script",v)])/\∀ base:Heap,K.In base->base.Ns mainGlobals mg->PD l.prog w K mg base U1 20 fa fd ["_law_script"] (vC K):=by
 have M:∀ {n:Str} {v:Value},W.nsIn K mainGlobals n=some (some v)->mg n=some v:=W.mg_of X G;have N:∀ {n:Str},W.nsIn K mainGlobals n=some none->mg n=none:=W.mg_none_of X G;have e:=hfa.symm.trans DD.Lk.m;cases e
 let T:Txt l.prog w K mg :=
  {toDfs:=DD,
   Ja:=f5,Jc:=W.fnOf "need_size" "need_size" (bP eV) (bL eV) (aK eV) (.ref v5) kV5 dc5 pm5 an5 cd5 ct5,Kf:=v5,KM:=q5,Jd:=⟨⟨_,_,_,_,_,_,_,_,_,rfl,l5,c5⟩,k5,⟨_,_,e5,rfl⟩⟩,KJ:=M a5,
   JV:=f26,JW:=_,Kh:=f6 (st:=gX) l26 c26 k26,K4:=M a26,
   Gz:=GG,Jt:=M Jt,
   Hd:=PV,He:=W.fnOf "__init__" "Machine.__init__" (bP bV) (bL bV) (aK bV) .none Rt Ru Rv Rr Qq Rw,Iw:=f6 (st:=bV) Qx Qy Qz,
   WL:=⟨Vo,Qw,QA,Vp⟩,
   Hx:=Qj,HC:=W.fnOf "take" "Machine.take" (bP dE) (bL dE) (aK dE) .none TR TU TV TQ Rg TX,JF:=f6 (st:=dE) RJ RK QG,
   Qi:=⟨RI,RM,QG⟩,
   HV:=Qk,HX:=W.fnOf "push" "Machine.push" (bP dC) (bL dC) (aK dC) .none TZ T3 T4 TY Rh T7,JD:=f6 (st:=dC) RP RQ QH,
   PF:=⟨RO,RS,QH⟩,
   Io:=Qs,Iq:=W.fnOf "way" "Machine.way" (bP dO) (bL dO) (aK dO) .none Uq Ur Us Up RG Ut,JS:=f6 (st:=dO) SN SQ QU,
   UQ:=⟨SM,SR,QU⟩,
   Hw:=P4,HB:=W.fnOf "finish" "Machine.finish" (bP cN) (bL cN) (aK cN) .none So Sq Ss Sn QJ Su,IK:=f6 (st:=cN) QW QX Qn,
   Tf:=⟨QV,QY,Qn⟩,
   Hv:=P5,HA:=W.fnOf "change" "Machine.change" (bP cM) (bL cM) (aK cM) .none Sw Sx Sy Sv QK Sz,IJ:=f6 (st:=cM) Q0 Q3 Qo,
   Tg:=⟨QZ,Q4,Qo⟩,
   HW:=Ql,HY:=W.fnOf "step" "Machine.step" (bP dD) (bL dD) (aK dD) .none T9 Ua Ub T8 Ri Uc,JE:=f6 (st:=dD) RV RW QI,
   Uo:=⟨RU,RX,QI⟩,
   Pu:=Pu,
   Si:=Si,
   Sj:=Sj,
   Th:=Th,
   Qu:=Qu,
   PR:=PR,
   QO:=QO,
   Sk:=Sk,
   GP:=JA,KG:=M KG,
   HN:=Qd,HP:=W.fnOf "__init__" "Shop.__init__" (bP dF) (bL dF) (aK dF) (.ref Qv) Tn To Tp Tj QT Tq,Jm:=Qv,Iv:=⟨⟨_,_,_,_,_,_,_,_,_,rfl,Rk,Rl⟩,Rm,⟨_,_,Ro,rfl⟩⟩,
   Yb:=⟨Xq,Rj,Rn,Xr⟩,
   Hy:=P6,HD:=W.fnOf "has_piece" "Shop.has_piece" (bP bY) (bL bY) (aK bY) .none SE SH SI SD QL SJ,IL:=f6 (st:=bY) Q6 Q7 Qp,
   Ti:=⟨Q5,Q8,Qp⟩,
   Jx:=Rx,JB:=W.fnOf "put" "Shop.put" (bP eX) (bL eX) (aK eX) .none VL VM VN VJ Uh VO,Kt:=f6 (st:=eX) UX UY Tt,
   Wm:=⟨UW,UZ,Tt⟩,
   Ip:=Qt,Ir:=W.fnOf "pieces" "Shop.pieces" (bP dP) (bL dP) (aK dP) .none Uv Uw Ux Uu RH Uy,JT:=f6 (st:=dP) SW SX Q9,
   Sl:=⟨SV,SY,Q9⟩,
   Qg:=Qg,
   QD:=QD,
   R3:=R3,
   Ic:=Ic,HE:=M HE,
   Jg:=Jg,Ib:=M Ib,
   GZ:=GZ,GO:=M GO,
   JJ:=JJ,IM:=M IM,
   Hi:=Hi,GR:=M GR,
   Jj:=Jj,Je:=M Je,
   Ji:=Ji,Iz:=M Iz,
   Jh:=Jh,Iy:=M Iy,
   Jf:=Jf,Ia:=M Ia,
   Hm:=Hm,GW:=M GW,
   HQ:=HQ,GY:=M GY,
   Iu:=Iu,Hr:=M Hr,
   IH:=IH,Ij:=M Ij,
   HU:=Jz,Hg:=M Hg,Hh:=λh x=>OX x Hh,
   GV:=IF,GH:=M GH,GI:=λh x=>OX x GI,
   Hu:=Hz,Hf:=M Hf,HF:=λh x=>OX x HF,
   Im:=JR,Hq:=M Hq,Hs:=λh x=>OX x Hs,
   JN:=Kc,IA:=M IA,IB:=λh x=>OX x IB,
   Hc:=Jy,GM:=M GM,GF:=JK,
   J0:=Ks,IP:=M IP,KR:=Ku,
   K9:=Lo,KH:=M KH,Ly:=Lp,
   Jo:=J3,Ii:=M Ii,Kx:=J9,
   Kw:=Lb,J4:=M J4,La:=Lc,
   Ke:=⟨⟨_,JH⟩,λh x=>⟨_,W.kt_tab_in l.prog w x JC (by decide +kernel) JI,rfl⟩⟩,
   GC:=JO,Hl:=M Hl,
   Ht:=Jb,JG:=M JG,
   IG:=UU,HZ:=W.fnOf "__init__" "Fault.__init__" (bP dN) (bL dN) (aK dN) .none Xd Xe Xf Xc V5 Xg,KS:=f6 (st:=dN) WV WW WX,IE:=WY,Lj:=WZ,
   Kd:=Ud,JX:=W.fnOf "__init__" "Broken.__init__" (bP dB) (bL dB) (aK dB) .none WQ WR WT WO Vn WU,KF:=f6 (st:=dB) V6 V7 V8,Li:=V9,KI:=Wa,
   Ky:=Ky,
   JY:=JY,
   Ha:=Ha,
   Hj:=Hj,
   GQ:=N LH,
   GJ:=N Ka,
   LA:=N LG,
   Lz:=N Lq,
   LB:=N LJ,
   Jq:=N Le,
   Jl:=N Lr,
   Jp:=N Ld,
   K5:=N LF,
   KU:=N Kv,
   KL:=N Kg,
   LO:=N LK,
   LN:=N LI }
 obtain ⟨_,_,_,_,_,_,_,_,_,e,_⟩:=DD.Lk.f.ex;exact ⟨_,λs v=>by rw [e];exact .of_eq rfl,λbase _ _=>chain T⟩
theorem walk {q:Program} {loose:List Str} {XP:(Str->Option Value)->Heap->Prop} {YP:World->Heap->Prop} {d:DefRec} {K:Params->W.Frag} (hn:l.most=some 63) (hdf:d.params.defaults=[])
  (hY:∀ (w:World) (h:Heap),YP w h->(K w.params).In h)
  (F:∀ (w:World) (mg:Str->Option Value) (fa:Addr) (h:Heap),(K w.params).In h->h.Ns mainGlobals mg->mg d.name=some (.ref fa) ->
   ∃ fd:FuncData,(∀ (s:Shared) (u:Value),BindsTo s fd ⟨[u],[]⟩ [("_law_script",u)])/\∀ base:Heap,(K w.params).In base->base.Ns mainGlobals mg->PD l.prog w (K w.params) mg base U1 20 fa fd ["_law_script"] (vC (K w.params))) :
  W.WalkO q loose XP YP l.row.toRowW d [] (λf vs=>PySem.call f vs) :=
 L2.Y5 (n:=63) (k:=20) (x:="_law_script") (CX:=λ_=>U1) (sp:=λw=>vC (K w.params)) hn (by decide) hdf ⟨rfl,by decide,by decide⟩ hY F (λ_ _ a ns hl hO hS=>⟨a,ns,rfl,Fm hO hS,λ_=>rfl⟩) λ_ _ _ _ _ z=>z
end My
open PySem PySem.W PyProof.Rows
set_option maxRecDepth 100000 in
set_option maxHeartbeats 0 in
theorem PySem.Challenge.cw_piecelay_k23_whole_broken_holds : PySem.Challenge.rw_piecelay_k23_whole_broken.Holds := by
 w_on;refine holds_law My.said λsaid=>?_
 refine holds_open (q:=My.view) (loose:=My.loose) (Xt:=My.xt) (XP:=XL My.view []) (Yf:=Hook.obs (kHook My.k0.heap_1 My.kas My.kas_ok)) (Ya:=Hook.val (kHook My.k0.heap_1 My.kas My.kas_ok)) (YP:=Hook.says (kHook My.k0.heap_1 My.kas My.kas_ok)) (N:=My.NN) My.left (Hook.of (kHook My.k0.heap_1 My.kas My.kas_ok)) (Hook.keeps (kHook My.k0.heap_1 My.kas My.kas_ok)) (λs e=>xl_of s (Bool.and_eq_true_iff.mp e).1) XL.keeps (by rfl) (by rfl) (by rfl) (λs e=>recFacts_of (Bool.and_eq_true_iff.mp e).2) (by rfl) (by first | assumption | decide +kernel) (by decide +kernel) ⟨rfl,rfl,rfl,rfl,rfl,by decide +kernel⟩ ?hw ?hc
 case hw=>w_witness2
 k_fill
 refine My.walk (l:=PySem.Challenge.rw_piecelay_k23_whole_broken) rfl rfl (λw h Y=>PySem.W.kIn_of Y) ?F
 case F =>
  intro w mg fa h KX G hmg;refine' My.all_mk KX G hmg ?DD ?a5 ?l5 ?c5 ?k5 ?a26 ?l26 ?c26 ?k26 ?e5 ?Jt ?Qw ?Qx ?Qy ?Qz ?QA ?Vo ?Vp ?RI ?RJ ?RK ?QG ?RM ?RO ?RP ?RQ ?QH ?RS ?SM ?SN ?SQ ?QU ?SR ?QV ?QW ?QX ?Qn ?QY ?QZ ?Q0 ?Q3 ?Qo ?Q4 ?RU ?RV ?RW ?QI ?RX ?Pu ?Si ?Sj ?Th ?Qu ?PR ?QO ?Sk ?KG ?Rj ?Rk ?Rl ?Rm ?Rn ?Ro ?Xq ?Xr ?Q5 ?Q6 ?Q7 ?Qp ?Q8 ?UW ?UX ?UY ?Tt ?UZ ?SV ?SW ?SX ?Q9 ?SY ?Qg ?QD ?R3 ?HE ?Ib ?GO ?IM ?GR ?Je ?Iz ?Iy ?Ia ?GW ?GY ?Hr ?Ij ?Hg ?Hh ?GH ?GI ?Hf ?HF ?Hq ?Hs ?IA ?IB ?GM ?JK ?IP ?Ku ?KH ?Lp ?Ii ?J9 ?J4 ?Lc ?JH ?JC ?JI ?Hl ?JG ?XF ?WV ?WW ?WX ?WY ?WZ ?Xh ?V6 ?V7 ?V8 ?V9 ?Wa ?Ky ?JY ?Ha ?Hj ?LH ?Ka ?LG ?Lq ?LJ ?Le ?Lr ?Ld ?LF ?Kv ?Kg ?LK ?LI
  case DD =>
   constructor
   all_goals
    refine' My.df_mk KX G ?a ?l ?c ?k ?b
    case a=>k_is
    case l=>change _=_;k_is
    case c=>k_is
    case k=>k_is
    case b=>exact λus hl=>by first | (match us,hl with | [],_=>rfl) | (match us,hl with | [_],_=>rfl) | (match us,hl with | [_,_],_=>rfl) | (match us,hl with | [_,_,_],_=>rfl) | (match us,hl with | [_,_,_,_],_=>rfl) | (match us,hl with | [_,_,_,_,_],_=>rfl) | (match us,hl with | [_,_,_,_,_,_],_=>rfl)
  case a5 | a26=>change _=_;k_is
  case l5 | l26=>change _=_;k_is
  case c5 | c26 | k5 | k26=>k_is
  case e5 | Jt | Qw | Qx | Qy | Qz | RI | RJ | RK | QG | RO | RP | RQ | QH | SM | SN | SQ | QU | QV | QW | QX | Qn | QZ | Q0 | Q3 | Qo | RU | RV | RW | QI | KG | Rj | Rk | Rl | Rm | Ro | Q5 | Q6 | Q7 | Qp | UW | UX | UY | Tt | SV | SW | SX | Q9 | HE | Ib | GO | IM | GR | Je | Iz | Iy | Ia | GW | GY | Hr | Ij | Hg | GH | Hf | Hq | IA | GM | IP | KH | Ii | J4 | JH | Hl | JG | XF | WV | WW | WX | Xh | V6 | V7 | V8 | LH | Ka | LG | Lq | LJ | Le | Lr | Ld | LF | Kv | Kg | LK | LI=>k_is
  case QA | Vo | Vp | RM | RS | SR | QY | Q4 | RX | Si | Sj | Th | Qu | PR | QO | Sk | Rn | Xq | Xr | Q8 | UZ | SY | QD | R3 | JI | Ha | Hj=>first | rfl | kernel_rfl | decide +kernel
  case Pu | Qg | WY | V9=>refine ⟨?_,?_,?_,?_⟩ <;> (first | rfl | kernel_rfl | decide +kernel)
  case Hh | GI | HF | Hs | IB | JK | Ku | Lp | J9 | Lc | JC=>first | rfl | decide +kernel
  case WZ | Wa=>refine ⟨?_,?_,?_,?_,?_⟩ <;> (first | rfl | kernel_rfl | decide +kernel)
  case Ky | JY=>refine ⟨?_,?_,?_,?_,?_,?_,?_,?_⟩ <;> (first | rfl | kernel_rfl | decide +kernel)
