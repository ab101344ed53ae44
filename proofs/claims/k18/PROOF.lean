import PyProof.Rows.All
import Lean
import KE.KTops
import KE.KRevSl
import KE.KFromBytes
import KE.KTryMore
import KE.KItem
import KE.KUnpack
import KE.KRevIter
import PySem.Challenge.RW_piecelay_k18_whole_laid_once
set_option Elab.async false
set_option linter.all false
set_option maxRecDepth 100000
set_option maxHeartbeats 0
set_option compiler.extract_closed false
abbrev qe:=List (PySem.Addr×PySem.Obj)
abbrev qf:=PySem.Value->PySem.Shared->Prop
abbrev qs:=PySem.W.Frag
abbrev zl:=List PySem.Value
abbrev zp:=PySem.Str->Option PySem.Value
abbrev vc:=List Int
abbrev vn:=List PySem.Str
abbrev yy:=List PySem.Addr
local macro_rules|`(⋯)=>`(by first|decide +kernel|lia)
abbrev tB:=@List.length_map
abbrev M1:=@List.length_append
abbrev PC:=@if_neg
abbrev SN:=@List.getElem?_eq_getElem
abbrev SO:=@PySem.wpAny_bind
abbrev SQ:=@PySem.Heap.get?_push_of_some
abbrev SR:=@List.getElem?_map
abbrev SV:=@if_pos
abbrev SW:=@Bool.false_ne_true
abbrev SX:=@List.length_cons
abbrev SY:=@Nat.le_refl
abbrev S0:=@List.mem_cons
abbrev S1:=@of_decide_eq_true
abbrev S2:=@Bool.and_eq_true
abbrev S3:=@decide_eq_false
abbrev S4:=@List.mem_of_getElem?
abbrev S5:=@of_decide_eq_false
abbrev S6:=@List.getElem?_eq_some_iff
abbrev S7:=@List.size_toArray
abbrev S8:=@List.map_cons
abbrev S9:=@decide_eq_true
abbrev Tc:=@PySem.wpAny_pure
abbrev Td:=@List.getD_eq_getElem?_getD
abbrev Te:=@PySem.Heap.lt_size
abbrev Tf:=@Ne.symm
abbrev Tg:=@PySem.F.plainAttrs_list
abbrev Th:=@List.mem_cons_of_mem
abbrev Ti:=@List.not_mem_nil
abbrev Tj:=@List.map_append
abbrev Tn:=@List.mem_cons_self
abbrev To:=@List.append_nil
abbrev Tp:=@List.mem_singleton
abbrev Tq:=@List.mem_append
abbrev Tt:=@Option.map_eq_some_iff
abbrev Tu:=@congrArg
abbrev Tv:=@Nat.lt_of_lt_of_le
abbrev Tw:=@Nat.ne_of_lt
abbrev Tz:=@Nat.le_trans
abbrev TH:=@decide_eq_true_eq
abbrev TJ:=@List.append_assoc
abbrev TN:=@PySem.Heap.get?_push_size
abbrev TQ:=@Bool.and_false
abbrev TR:=@Option.bind_some
abbrev TU:=@PySem.F.slot_list_append
abbrev TV:=@List.flatten_cons
abbrev TX:=@Bool.and_true
abbrev TY:=@Option.some.inj
abbrev TZ:=@PySem.F.type_list_append
abbrev T3:=@PySem.Heap.get?_push_at
abbrev T4:=@List.length_take
abbrev T5:=@List.mem_map
abbrev T6:=@Int.emod_lt_of_pos
abbrev T7:=@PySem.Heap.size_push
abbrev T8:=@List.length_nil
abbrev T9:=@or_false
abbrev Ua:=@Int.emod_eq_of_lt
abbrev Ub:=@Int.emod_nonneg
abbrev Uc:=@PySem.PassesOwn.never
abbrev Ud:=@List.length_reverse
abbrev Ue:=@List.getElem?_append_right
abbrev Ug:=@List.take_add_one
abbrev Uh:=@Option.bind_eq_some_iff
abbrev Ui:=@PySem.wpAny_setField_rec
abbrev Uj:=@List.mem_append_right
abbrev Uk:=@Nat.zero_le
abbrev Ul:=@PySem.wpAny_field
abbrev Um:=@List.filter_cons
abbrev Uo:=@PySem.wpAny_callSpecial?_slot
abbrev Up:=@List.map_map
abbrev Uq:=@PyProof.Rows.callWith_type1
abbrev Ur:=@Nat.ne_of_gt
abbrev Us:=@PySem.F.slot_list_extend
abbrev Ut:=@Int.le_refl
abbrev Uu:=@PySem.wpAny_truthy_bool
abbrev Uv:=@PySem.wpAny_pyIter_list
abbrev Uw:=@Bool.false_or
abbrev Ux:=@PySem.F.type_list_extend
abbrev Uy:=@PySem.wpAny_call_entry
abbrev Uz:=@Bool.or_eq_false_iff
abbrev UA:=@Bool.true_and
abbrev UB:=@PySem.wpAny_seqItems
abbrev UC:=@List.getElem?_eq_none
abbrev UD:=@List.take_append_drop
abbrev UE:=@List.all_eq_true
abbrev UG:=@Nat.le_add_right
abbrev UH:=@List.dropLast_concat
abbrev UI:=@PySem.F.plainAttrs_list
abbrev UJ:=@Int.toNat_natCast
abbrev UK:=@PySem.F.slot_list_pop
abbrev UL:=@PySem.mem_of_lookup
abbrev UM:=@List.replicate_succ
abbrev UN:=@Nat.le_of_lt
abbrev UO:=@List.map_nil
abbrev UP:=@Nat.lt_irrefl
abbrev UQ:=@List.lookup_cons
abbrev UR:=@List.take_length
abbrev US:=@List.take_zero
abbrev UT:=@List.getElem?_append_left
abbrev UU:=@List.nil_append
abbrev UW:=@List.find?_cons
abbrev UX:=@List.forIn_cons
abbrev UY:=@PySem.F.slot_zip_next
abbrev UZ:=@PySem.F.type_list_pop
abbrev U0:=@Nat.pow_le_pow_right
abbrev U1:=@List.flatten_append
abbrev U3:=@List.length_drop
abbrev U4:=@Nat.succ_le_succ
abbrev U5:=@List.take_of_length_le
abbrev U6:=@List.mem_filterMap
abbrev U7:=@PySem.wpAny_Call_Name_kw
abbrev U8:=@Nat.lt_of_le_of_lt
abbrev U9:=@PyProof.Rows.F.plain_set_update_loop
abbrev Va:=@List.filter_append
abbrev Vb:=@PySem.wpAny_passesOwn
abbrev Vc:=@PySem.builtinLookup_eq_fast
abbrev Vd:=@List.any_cons
abbrev Ve:=@PySem.F.slot_tuple_iterator_next
abbrev Vf:=@List.sum_cons
abbrev Vg:=@PySem.wpAny_newObj_type
abbrev Vh:=@List.mem_of_mem_take
abbrev Vi:=@PySem.sizeLine_eq
abbrev Vj:=@Bool.false_and
abbrev Vk:=@PySem.F.called_set
abbrev Vl:=@beq_eq_false_iff_ne
abbrev Vm:=@List.filterMap_cons
abbrev Vn:=@PyProof.Rows.slot_tuple_getitem
abbrev Vo:=@PySem.wpAny_holding
abbrev Vp:=@PySem.wpAny_onRaise
abbrev Vq:=@PySem.wpAny_attempt
abbrev Vr:=@List.nodup_cons
abbrev Vs:=@PySem.wpAny_nextOf_list_item
abbrev Vt:=@List.drop_append_of_le_length
abbrev Vu:=@List.length_range
abbrev Vv:=@List.reverse_cons
abbrev Vw:=@PySem.codeAny_mono
abbrev Vx:=@List.length_singleton
abbrev Vy:=@List.any_map
abbrev Vz:=@Nat.add_le_add
abbrev VA:=@List.mem_append_left
abbrev VB:=@PySem.wpAny_mono
abbrev VC:=@Nat.lt_succ_self
abbrev VD:=@PySem.wpAny_standAt
abbrev VE:=@if_true
abbrev VF:=@Array.length_toList
abbrev VG:=@List.map_congr_left
abbrev VH:=@List.of_mem_zip
abbrev VI:=@List.foldl_cons
abbrev VJ:=@PySem.typeLookup_type
abbrev VL:=@List.getElem?_eq_none_iff
abbrev VM:=@List.getElem?_zip_eq_some
abbrev VN:=@List.drop_eq_getElem_cons
abbrev VO:=@PyProof.Rows.F.entry_set_update_loop
abbrev VP:=@Bool.not_eq_false'
abbrev VQ:=@PySem.F.slot_list_append
abbrev VR:=@PySem.F.type_list_append
abbrev VS:=@List.mem_range
abbrev VT:=@PySem.call_meets
abbrev VU:=@List.length_eq_zero_iff
abbrev VW:=@List.ext_getElem?
abbrev VX:=@PySem.F.args_zip_next_1
abbrev VY:=@Bool.eq_false_iff
abbrev VZ:=@Nat.le_succ_of_le
abbrev V0:=@Nat.le_succ
abbrev V1:=@PySem.Calls.callWith_builtin
abbrev V2:=@List.range_succ_eq_map
abbrev V3:=@List.drop_of_length_le
abbrev V4:=@Prod.ext
abbrev V5:=@PySem.Heap.IsList.push
abbrev V6:=@PySem.F.entry_zip_next
abbrev V7:=@PySem.wpAny_pyIter_zip
abbrev V8:=@List.mem_flatMap
abbrev V9:=@List.drop_append
abbrev Wa:=@List.any_eq_true
abbrev Wb:=@PyProof.Rows.IsTup.new
abbrev Wc:=@PySem.Heap.get?_update_self
abbrev Wd:=@Classical.choose_spec
abbrev We:=@List.length_filter_le
abbrev Wf:=@List.mem_iff_getElem?
abbrev Wg:=@PySem.wpAny_execs_nil
abbrev Wh:=@PySem.wpAny_rule
abbrev Wi:=@Bool.eq_iff_iff
abbrev Wj:=@Nat.le_of_eq
abbrev Wk:=@Option.map_some
abbrev Wl:=@List.all_map
abbrev Wm:=@List.range_succ
abbrev Wn:=@Array.getElem_of_mem
abbrev Wo:=@List.mem_of_mem_drop
abbrev Wq:=@Int.natCast_add
abbrev Ws:=@PySem.isSubtype_type
abbrev Wt:=@PySem.wpAny_letGo
abbrev Wu:=@PySem.SeqAt.EqAt.int_str
abbrev Wv:=@PySem.SeqAt.EqAt.str_int
abbrev Ww:=@PyProof.Rows.assignInOrder_cons
abbrev Wx:=@PySem.Calls.spliced_cons
abbrev Wz:=@PySem.F.args_tuple_add_2
abbrev WA:=@Bool.false_eq_true
abbrev WB:=@PySem.W.kia_one
abbrev WC:=@Bool.and_self
abbrev WD:=@List.map_take
abbrev WE:=@List.any_eq_false
abbrev WG:=@PySem.F.entry_tuple_add
abbrev WH:=@Nat.lt_succ_of_lt
abbrev WI:=@PySem.F.slot_list_index
abbrev WJ:=@PySem.Heap.get?_push_ne
abbrev WK:=@List.Sublist.refl
abbrev WL:=@Bool.not_eq_true'
abbrev WM:=@beq_iff_eq
abbrev WN:=@if_false
abbrev WO:=@Nat.lt_trans
abbrev WQ:=@Nat.zero_add
abbrev WR:=@PySem.callType_new
abbrev WT:=@Nat.pow_succ
section
namespace LT
open PySem PySem.W PyProof.Rows
noncomputable def ran(p:Program)(w:World)(a:Nat)(b:Option Value):Nat->SharedT->Thread->Option SharedT
 |0,_,_=>none
 |k+1,s,t=>bif through t then some s else bif Fast.tw6613529449190102663 a b t then
   (Fast.tw10156331382660048174 (Fast.tw11892475500146522536 Fast.tw14364793385576792824) p w s t).bind λx=>ran p w a b k x.1 x.2
  else none
theorem JK{p:Program}{w:World}{a:Nat}{b:Option Value}(k:Nat):∀{s c:SharedT}{t:Thread},ran p w a b k s t=some c->topRun treeTable p w a b k s.abs t=some c.abs:=by
 induction k with
 |zero=>intro s c t h;cases h
 |succ k f =>
  intro s c t h;unfold ran at h;rw[<- Fast.te6613529449190102663,<- Fast.te10156331382660048174,<- Fast.te11892475500146522536,<- Fast.te14364793385576792824]at h;unfold topRun;cases d:through t
  ·cases e:stepOk a b t
   ·rw[d,e]at h;cases h
   ·rw[d,e]at h;obtain⟨x,g,i⟩:=Uh.mp (show(stepT (denote treeTable) p w s t).bind _=some c from h);rw[stepT_spec (s':=x.1) (t':=x.2) g];exact f i
  ·rw[d]at h;cases h;rfl
noncomputable def FH(P:Params):BT:=((boot_heap P).objs.toList.foldl (λ(x:BT×Nat) o=>(x.1.ins x.2 o,x.2+1)) (BT.nil,0)).1
theorem FI:∀P,absHeap (FH P) 11 {}=boot_heap P:=λP=>by kernel_rfl
noncomputable abbrev boot(P:Params)(os:OsState):SharedT:=⟨FH P,11,{},#[],boot_drawn,boot_toks,os⟩
theorem FJ(P:Params)(os:OsState):(boot P os).abs=⟨boot_heap P,#[],boot_drawn,boot_toks,os⟩:=by show(⟨absHeap (FH P) 11 {},#[],boot_drawn,boot_toks,os⟩:Shared)=_;rw[FI]
noncomputable def KL(p q:Program)(loose:vn)(a:Shared->Bool)(P:Params)(s:Shared) :=
 (staticsOk (Fast.tw5923862056798008813 p.main.body) (boot_heap P) s.heap&&namesBound p s.heap&&gensDone s&&laidKept (boot_heap P) s.heap,Fast.tw4187177175401517315 q loose (Fast.tw5923862056798008813 p.main.body) a true s)
theorem Kc:∀P:Params,((boot_heap P).isNs mainGlobals&&(#[]:Array GenState).size==0,(boot_heap P).objs.size,(boot_heap P).nsMap mainGlobals "__annotations__")=(true,11,some (.ref 6)):=λP=>by kernel_rfl
theorem left{p q:Program}{loose:vn}{c:Shared->Bool}{α:Type}{g:Shared->α}{i:World->α}{N:Nat}(e:opening p=plainProg p.main.scope.names)(j:Nat.ble 600 N=true)(f:∀s,fenceModules? p s=some s)
  (h:∀(w:World)(os:OsState),(ran p w 11 (some (.ref 6)) N (boot w.params os) (topStub p)).map (λs=>(KL p q loose c w.params s.abs,g s.abs))=some ((true,openGood q loose),i w)):LeftO p q loose c g i N:=λw=>by
 obtain⟨⟨l,n,d,k,os⟩,e,o⟩:=Tt.mp (boot_open e j f w);obtain⟨rfl,rfl,rfl,rfl⟩:l=boot_heap w.params/\n=Array.mk []/\d=boot_drawn/\k=boot_toks:=by simpa using o
 obtain⟨a,u,b⟩:=Tt.mp (h w os);have r:=JK N u;rw[FJ]at r;obtain⟨b,v⟩:=Prod.mk.inj b;unfold KL at b;rw[<- Fast.te4187177175401517315,<- Fast.te5923862056798008813]at b;obtain⟨x,y⟩:=Prod.mk.inj (show(staticsOk (importedModules p.main.body) (boot_heap w.params) a.abs.heap&&namesBound p a.abs.heap&&gensDone a.abs&&laidKept (boot_heap w.params) a.abs.heap,openSeen q loose (importedModules p.main.body) c true a.abs)=(true,openGood q loose) from b);obtain⟨z1,z2,z3⟩:_/\_/\_:=by simpa only[Prod.mk.injEq]using Kc w.params
 have t:topFrom treeTable p w N ⟨boot_heap w.params,Array.mk [],boot_drawn,boot_toks,os⟩=some a.abs:=by unfold topFrom;dsimp only;rw[z1,z2,z3,r];show(match staticsOk (importedModules p.main.body) (boot_heap w.params) a.abs.heap&&namesBound p a.abs.heap&&gensDone a.abs&&laidKept (boot_heap w.params) a.abs.heap with|true=>_|false=>_)=_;rw[x]
 unfold openEnds;rw[e];show(topFrom treeTable p w N _).map _=_;rw[t];exact Tu some (V4 y v)
end LT
namespace LT
section
universe u1 u2 u3 u4 u5 u6 u7 u8 u9
variable{A:Type u2}{B:Type u3}{C:Type u4}{D:Type u5}{E:Type u6}{F:Type u7}{R:Type u8}
noncomputable def M0(x:A×B×C×D×E×F×R):A×B×C:=match x with | (a,b,c,_)=>(a,b,c)
noncomputable def lot5(x:A×B×C×D×E×F×R):A×B:=match x with | (a,b,_)=>(a,b)
noncomputable def lot6(x:A×B×C×D×E×F×R):C:=match x with | (_,_,c,_)=>c
theorem lot1_of{S:Type i}{o:Option S}{f:S->A×B×C×D×E×F×R}{a:A}{b:B}{c:C}(h:o.map (λs=>lot5 (f s))=some (a,b))(d:o.map (λs=>lot6 (f s))=some c):o.map (λs=>M0 (f s))=some (a,b,c):=by
 cases o with
 |none=>cases h
 |some s =>have e:((f s).1,(f s).2.1)=(a,b):=TY h;have g:(f s).2.2.1=c:=TY d;cases e;cases g;rfl
noncomputable def lot2(x:A×B×C×D×E×F×R):D×E×R:=match x with | (_,_,_,d,e,_,r)=>(d,e,r)
noncomputable def lot3(x:A×B×C×D×E×F×R):F:=match x with | (_,_,_,_,_,f,_)=>f
theorem lots{S:Type p}{V:Type q}{o:Option S}{f:S->A×B×C×D×E×F×R}{y:A×B×C×D×E×F×R}{st:S->Bool}{ob:S->V}{v:V}(c:o.map (λs=>M0 (f s))=some (y.1,y.2.1,y.2.2.1))(e:o.map (λs=>lot2 (f s))=some (y.2.2.2.1,y.2.2.2.2.1,y.2.2.2.2.2.2))
  (g:o.map (λs=>lot3 (f s))=some y.2.2.2.2.2.1) (h:o.map (λs=>(st s,ob s))=some (true,v)):o.map (λs=>((st s,f s),ob s))=some ((true,y),v):=by
 cases o with
 |none=>cases c
 |some s =>have a:((f s).1,(f s).2.1,(f s).2.2.1)=(y.1,y.2.1,y.2.2.1):=TY c;have b:((f s).2.2.2.1,(f s).2.2.2.2.1,(f s).2.2.2.2.2.2)=(y.2.2.2.1,y.2.2.2.2.1,y.2.2.2.2.2.2):=TY e;have i:(f s).2.2.2.2.2.1=y.2.2.2.2.2.1:=TY g;have d:(st s,ob s)=(true,v):=TY h;have j:f s=y:=V4 (Tu (λz=>z.1) a) (V4 (Tu (λz=>z.2.1) a) (V4 (Tu (λz=>z.2.2) a) (V4 (Tu (λz=>z.1) b) (V4 (Tu (λz=>z.2.1) b) (V4 i (Tu (λz=>z.2.2) b))))));have l:st s=true:=Tu (λz=>z.1) d;have n:ob s=v:=Tu (λz=>z.2) d;show some ((st s,f s),ob s)=some ((true,y),v);rw[l,n,j]
end
end LT
namespace My
open PySem
noncomputable def top(i:Nat):Stmt:=PySem.Challenge.pw_piecelay_k18_whole_laid_once.main.body.getD i (.Pass ⟨0,0,0,0⟩)
end My
end
section
open PySem PySem.W PyProof.Rows
section
local macro_rules | `(tactic|o_head $H:term)=>`(tactic| (have _hook:=$H;assumption))
theorem My.k0(h:PySem.Challenge.rw_piecelay_k18_whole_laid_once.row.Holds):PySem.Challenge.rw_piecelay_k18_whole_laid_once.row.Holds:=by
 k_head
end
namespace My
noncomputable def view:Program:={PySem.Challenge.pw_piecelay_k18_whole_laid_once with main:={PySem.Challenge.pw_piecelay_k18_whole_laid_once.main with body:=[top 1,top 2,top 3,top 4,top 5,top 6,top 7,top 8,top 9,top 10,top 11,top 13,top 14,top 15,top 16,top 17,top 18,top 20,top 22,top 23,top 24,top 25,top 26,top 27,top 28,top 29,top 30,top 31,top 33,top 34,top 35,top 36,top 37,top 38,top 39,top 40,top 41,top 42,top 43,top 44,top 45,top 46,top 48,top 50,top 51,top 52,top 53,top 54,top 55,top 56,top 57,top 58,top 59,top 60,top 61,top 62,top 63,top 64,top 65,top 66,top 67,top 68,top 69,top 70,top 71,top 72,top 74,top 75,top 76,top 77,top 78,top 79,top 80,top 81,top 82,top 83,top 85,top 86,top 87,top 88,top 89,top 91,top 92,top 93,top 94,top 95,top 96,top 97,top 98,top 100,top 101,top 102,top 103,top 104,top 105,top 106,top 107,top 108,top 109,top 110,top 111,top 112,top 113,top 114,top 115,top 116,top 117,top 118,top 119]}}
noncomputable abbrev PRG:Program:=PySem.Challenge.pw_piecelay_k18_whole_laid_once
noncomputable abbrev loose:List Str:=["need_size","MOST_IN_LEAF","TREES_IN_BRANCH","MOST_TOLD","run","MARK_LENGTHS","FILLED_FROM","BASIC"]
noncomputable abbrev xt(s:Shared):Bool:=xlAt view [] s&&recOk (RowW.records (OpenRow.toRowW (OpenLaw.row PySem.Challenge.rw_piecelay_k18_whole_laid_once))) s
noncomputable abbrev kas:List Addr:=[2,3,15,22,23,24,25,28,35,36,37,40,47,48,49,52,59,60,61,64,71,72,73,76,83,84,85,88,95,96,97,100,107,108,109,112,119,120,121,124,131,132,133,136,143,145,146,148,149,150,151,152,155,157,158,160,161,162,164,165,167,168,169,172,173,174,175,177,178,180,181,182,185,186,187,188,189,191,192,194,195,196,198,199,201,202,203,206,207,208,210,211,213,214,215,217,218,220,221,222,224,225,227,228,229,230,231,232,233,234,235,236,237,238,239,240,241,242,243,244,245,246,247,248,249,252,253,254,256,257,259,260,261,263,264,266,267,268,270,271,273,274,282,284,285,287,288,289,291,292,294,295,296,298,299,301,302,303,305,306,308,309,310,312,313,315,316,317,319,320,322,323,324,326,327,329,330,331,332,333,334,335,338,340,341,343,344,345,346,348,349,351,352,353,355,356,358,359,360,361,362,363,364,365,366,367,368,369,370,371,372,373,374,375,376,377,378,379,380,381,382,383,384,385,386,387,388,389,390,391,392,393,394,395,396,397,398,399,400,401,402,403,405,406,408,409,410,413,414,415,417,418,420,421,422,425,426,427,430,431,432,434,435,437,438,439,441,442,444,445,446,449,450,451,453,454,456,457,458,461,462,463,465,466,468,469,470,472,473,475,476,477,479,480,482,483,484,486,487,489,490,491,493,494,496,497,498,499,500,502,503,505,506,507,509,510,512,513,514,516,517,519,520,521,523,524,526,527,528,531,532,533,535,536,538,539,540,543,544,545,548,549,550,552,553,555,556,557,560,561,562,564,565,567,568,569,571,572,574,575,576,579,580,581,584,585,586,588,589,591,592,593,595,596,598,599,600,602,603,605,606,607,610,611,612,615,616,617,619,620,622,623,624,626,627,629,630,631,633,634,636,637,638,640,641,643,644,645,647,648,650,651,652,654,655,657,658,659,661,662,664,665,666,668,669,671,672,673,676,677,678,680,681,683,684,685,687,688,690,691,692,695,696,697,699,700,702,703,704,707,708,709,711,712,714,715,716,719,720]
theorem kas_ok:∀P,kas=(My.k0.heap_1 P).map (·.1):=λ_=>by kernel_rfl
noncomputable abbrev hk:Hook:=kHook My.k0.heap_1 kas kas_ok
noncomputable abbrev NN:Nat:=9000
noncomputable abbrev Gh(w:World)(os:OsState):=LT.ran PRG w 11 (some (.ref 6)) NN (LT.boot w.params os) (topStub PRG)
noncomputable abbrev zy(P:Params)(s:SharedT):Bool:=staticsOk (Fast.tw5923862056798008813 PRG.main.body) (boot_heap P) s.abs.heap&&namesBound PRG s.abs.heap&&gensDone s.abs&&laidKept (boot_heap P) s.abs.heap
noncomputable abbrev Ka(s:SharedT):=Fast.tw4187177175401517315 view loose (Fast.tw5923862056798008813 PRG.main.body) xt true s.abs
noncomputable abbrev BG:=openGood view loose
abbrev Hq(w:World)(os:OsState):Prop:=(Gh w os).map (λs=>LT.lot5 (Ka s))=some (BG.1,BG.2.1)
abbrev Hr(w:World)(os:OsState):Prop:=(Gh w os).map (λs=>LT.lot6 (Ka s))=some BG.2.2.1
abbrev Hm(w:World)(os:OsState):Prop:=(Gh w os).map (λs=>LT.lot2 (Ka s))=some (BG.2.2.2.1,BG.2.2.2.2.1,BG.2.2.2.2.2.2)
abbrev Hn(w:World)(os:OsState):Prop:=(Gh w os).map (λs=>LT.lot3 (Ka s))=some BG.2.2.2.2.2.1
abbrev Ho(w:World)(os:OsState):Prop:=(Gh w os).map (λs=>(zy w.params s,Hook.obs hk s.abs))=some (true,Hook.val hk w)
set_option maxHeartbeats 0 in
theorem ra5:∀(w:World)(os:OsState),Hq (w.withFollow "special-get-raises" false) os:=λw os=>by unfold Hq;kernel_rfl
set_option maxHeartbeats 0 in
theorem rb5:∀(w:World)(os:OsState),Hq (w.withFollow "special-get-raises" true) os:=λw os=>by unfold Hq;kernel_rfl
set_option maxHeartbeats 0 in
theorem ra6:∀(w:World)(os:OsState),Hr (w.withFollow "special-get-raises" false) os:=λw os=>by unfold Hr;kernel_rfl
set_option maxHeartbeats 0 in
theorem rb6:∀(w:World)(os:OsState),Hr (w.withFollow "special-get-raises" true) os:=λw os=>by unfold Hr;kernel_rfl
set_option maxHeartbeats 0 in
theorem ra2:∀(w:World)(os:OsState),Hm (w.withFollow "special-get-raises" false) os:=λw os=>by unfold Hm;kernel_rfl
set_option maxHeartbeats 0 in
theorem rb2:∀(w:World)(os:OsState),Hm (w.withFollow "special-get-raises" true) os:=λw os=>by unfold Hm;kernel_rfl
set_option maxHeartbeats 0 in
theorem ra3:∀(w:World)(os:OsState),Hn (w.withFollow "special-get-raises" false) os:=λw os=>by unfold Hn;kernel_rfl
set_option maxHeartbeats 0 in
theorem rb3:∀(w:World)(os:OsState),Hn (w.withFollow "special-get-raises" true) os:=λw os=>by unfold Hn;kernel_rfl
set_option maxHeartbeats 0 in
theorem ra4:∀(w:World)(os:OsState),Ho (w.withFollow "special-get-raises" false) os:=λw os=>by unfold Ho;kernel_rfl
set_option maxHeartbeats 0 in
theorem rb4:∀(w:World)(os:OsState),Ho (w.withFollow "special-get-raises" true) os:=λw os=>by unfold Ho;kernel_rfl
theorem left:LeftO PRG view loose xt (Hook.obs hk) (Hook.val hk) NN :=
 LT.left (by rfl) ⋯ (λs=>by rfl) λw os=>LT.lots (LT.lot1_of (byRow2 "special-get-raises" (P:=λw=>Hq w os) (λw=>ra5 w os) (λw=>rb5 w os) w) (byRow2 "special-get-raises" (P:=λw=>Hr w os) (λw=>ra6 w os) (λw=>rb6 w os) w)) (byRow2 "special-get-raises" (P:=λw=>Hm w os) (λw=>ra2 w os) (λw=>rb2 w os) w) (byRow2 "special-get-raises" (P:=λw=>Hn w os) (λw=>ra3 w os) (λw=>rb3 w os) w) (byRow2 "special-get-raises" (P:=λw=>Ho w os) (λw=>ra4 w os) (λw=>rb4 w os) w)
end My
end
section
namespace My
open PySem PySem.W PyProof.Rows
noncomputable abbrev lw:=PySem.Challenge.rw_piecelay_k18_whole_laid_once
noncomputable abbrev lpr:=lw.row.prog
theorem sd1:namesResolve lpr=true:=by kernel_rfl
theorem sd2:(namesMeet lpr lpr.main.body λ_ n=>attrL n)=true:=by kernel_rfl
theorem sd3:looksOpen lpr=true:=by unfold looksOpen;rw[sd1,sd2];kernel_rfl
theorem said:OpenLaw.wellSaid lw=true:=by unfold OpenLaw.wellSaid OpenRow.wellSaid OpenRow.partSaid;rw[sd3];kernel_rfl
end My
namespace L2
open PySem PySem.Spec PyProof.Rows
noncomputable abbrev Key:=Sum Int Str
noncomputable def wB:Key->Value->Bool
 | .inl k,v=>Value.isInt k v
 | .inr x,v=>Value.isStrOf x v
noncomputable def NP(w:World):Key->Int
 | .inl k=>hashInt k
 | .inr x=>hashStr w x
theorem fK:∀{k:Key}{v:Value},wB k v=true->(∃i t,k=Sum.inl i/\v=Value.int i t)\/(∃x t,k=Sum.inr x/\v=Value.str x t)
 | .inl i,v,h=>by obtain⟨t,e⟩:=Value.isInt_shape (k:=i) (v:=v) h;exact .inl ⟨i,t,rfl,e⟩
 | .inr x,v,h=>by obtain⟨t,e⟩:=Value.isStrOf_shape (x:=x) (v:=v) h;exact .inr ⟨x,t,rfl,e⟩
theorem Ek(i:Int)(t:Tok):wB (.inl i) (.int i t)=true:=by simp[wB,Value.isInt]
theorem El(x:Str)(t:Tok):wB (.inr x) (.str x t)=true:=by simp[wB,Value.isStrOf]
theorem Lx(a b:Int):decide ((Sum.inl a:Key)=Sum.inl b)=(a==b):=by
 by_cases e:a=b
 ·subst e;simp
 ·have h:¬ (Sum.inl a:Key)=Sum.inl b:=λq=>e (Sum.inl.inj q);rw[S3 h];exact(Vl.mpr e).symm
theorem LA(a b:Str):decide ((Sum.inr a:Key)=Sum.inr b)=decide (a=b):=by
 by_cases e:a=b
 ·subst e;simp
 ·have h:¬ (Sum.inr a:Key)=Sum.inr b:=λq=>e (Sum.inr.inj q);rw[S3 h,S3 e]
theorem Ly(a:Int)(b:Str):decide ((Sum.inl a:Key)=Sum.inr b)=false:=S3 (λq=>nomatch q)
theorem Lz(a:Str)(b:Int):decide ((Sum.inr a:Key)=Sum.inl b)=false:=S3 (λq=>nomatch q)
noncomputable def f7(prog:Program)(w:World):PySem.KeyKind prog w Key where
 is:=wB
 hash:=NP w
 inj:=λv a b g f=>by
  rcases fK g with⟨i,t,rfl,rfl⟩|⟨x,t,rfl,rfl⟩
  ·rcases fK f with⟨j,u,rfl,e⟩|⟨y,u,rfl,e⟩
   ·injection e with c _;rw[c]
   ·exact nomatch e
  ·rcases fK f with⟨j,u,rfl,e⟩|⟨y,u,rfl,e⟩
   ·exact nomatch e
   ·injection e with c _;rw[c]
 byValue:=λk v h=>by rcases fK h with⟨i,t,rfl,rfl⟩|⟨x,t,rfl,rfl⟩<;>rfl
 pyHash:=λd h=>by
  rcases fK d with⟨i,t,rfl,rfl⟩|⟨x,t,rfl,rfl⟩
  ·exact wpAny_pyHash_int h
  ·exact wpAny_pyHash_str h
 eqBool:=λl d h=>by
  rcases fK l with⟨i,t,rfl,rfl⟩|⟨x,t,rfl,rfl⟩
  ·rcases fK d with⟨j,u,rfl,rfl⟩|⟨y,u,rfl,rfl⟩
   ·rw[Lx]at h;exact wpAny_eqBool_int h
   ·rw[Ly]at h;exact Wu i t y u _ _ _ _ h
  ·rcases fK d with⟨j,u,rfl,rfl⟩|⟨y,u,rfl,rfl⟩
   ·rw[Lz]at h;exact Wv x t j u _ _ _ _ h
   ·rw[LA]at h;exact wpAny_eqBool_str h
 «strs»:=λk x t v h=>by
  rcases fK h with⟨i,u,rfl,e⟩|⟨y,u,rfl,e⟩
  ·exact nomatch e
  ·injection e with c _;subst c;cases v<;>rfl
theorem Ao(prog:Program)(w:World)(i:Int)(t:Tok):(f7 prog w).is (.inl i) (.int i t)=true:=Ek i t
theorem Ap(prog:Program)(w:World)(x:Str)(t:Tok):(f7 prog w).is (.inr x) (.str x t)=true:=El x t
inductive V where
 |W3|bl (b:Bool)|int (i:Int)|str (x:Str)|ZV (b:Array UInt8)|flt (b:UInt64)|ref (a:Addr)|ty (n:String)
 deriving DecidableEq
def RelV:V->Value->Prop
 | .W3,u=>u=Value.none
 | .bl b,u=>u=Value.bool b
 | .int i,u=>∃t,u=Value.int i t
 | .str x,u=>∃t,u=Value.str x t
 | .ZV b,u=>∃t,u=Value.bytes b t
 | .flt b,u=>∃t,u=Value.float b t
 | .ref a,u=>u=Value.ref a
 | .ty n,u=>u=Value.type n
abbrev Vals:List V->List Value->Prop:=Paired RelV
theorem Vals.length(r:Vals a b):a.length=b.length:=Paired.length r
theorem Vals.get:∀{a:List V}{b:zl}{i:Nat}{x:V},Vals a b->a[i]?=some x->∃u,b[i]?=some u/\RelV x u
 |_,_,_,_,.nil,e=>by simp at e
 |_,_,0,_,.cons r _,e=>by simp at e;subst e;exact⟨_,rfl,r⟩
 |_,_,i+1,x,.cons _ t,e=>by obtain⟨u,c,d⟩:=Vals.get (i:=i) (x:=x) t (by simpa using e);exact⟨u,by simpa using c,d⟩
theorem Vals.set(r:RelV x u):∀{a:List V}{b:zl}(i:Nat),Vals a b->Vals (a.set i x) (b.set i u)
 |_,_,_,.nil=>.nil
 |_,_,0,.cons _ t=>.cons r t
 |_,_,i+1,.cons q t=>.cons q (Vals.set r i t)
theorem Vals.append:∀{a b:List V}{c d:zl},Vals a c->Vals b d->Vals (a++b) (c++d)
 |_,_,_,_,.nil,s=>s
 |_,_,_,_,.cons r t,s=>.cons r (Vals.append t s)
theorem Vals.take:∀{a:List V}{b:zl}(n:Nat),Vals a b->Vals (a.take n) (b.take n)
 |_,_,0,_=>.nil
 |_,_,_+1,.nil=>.nil
 |_,_,n+1,.cons r t=>.cons r (Vals.take n t)
theorem Vals.drop:∀{a:List V}{b:zl}(n:Nat),Vals a b->Vals (a.drop n) (b.drop n)
 |_,_,0,r=>r
 |_,_,_+1,.nil=>.nil
 |_,_,n+1,.cons _ t=>Vals.drop n t
def Ym:Option V->Option Value->Prop
 |some v,some u=>RelV v u
 |none,none=>True
 |_,_=>False
def KV{κ:Type}:List (κ×V)->List (κ×Value)->Prop:=Paired λ(p:κ×V)(q:κ×Value)=>p.1=q.1/\RelV p.2 q.2
noncomputable def kV:Key->V
 | .inl i=>.int i
 | .inr x=>.str x
inductive HO where
 |lst (xs:List V)
 |tup (xs:List V)
 |dK (kvs:List (Key×V))|dT (kvs:List (List Key×V))
 |set (S:Int->Bool) (n:Nat)
 |ins (C dx:Addr) (fs:List (Str×V))
 |own (x:Addr)
 |xd (fs:List (Str×V))
 |met (f x:Addr)
 |rng (lo hi:Int)
 |frz (o:Obj) (u:HO)
 |tbl (ps:Array Value)
 |ext (φ:Heap->Prop)
noncomputable abbrev Hp:=Addr->Option HO
noncomputable def upd(H:Hp)(a:Addr)(o:HO):Hp:=λb=>if b=a then some o else H b
theorem aF:upd H a o a=some o:=by unfold upd;rw[SV rfl]
theorem aR(h:b≠a):upd H a o b=H b:=by unfold upd;rw[PC h]
theorem aN{H:Hp}(h:H a=some o)(c:H b=none):a≠b:=by intro e;subst e;rw[h]at c;cases c
section
variable(P:Program)(w:World)
def Xk(H:Hp)(h:Heap)(a:Addr):HO->Prop
 | .lst d=>d.length<=sizeLine/\∃(b:zl)(n:Nat),Vals d b/\h.get? a=some {cls:=.type "list",data:=.seq b.toArray n}
 | .tup d=>d.length<=sizeLine/\∃b:List Value,Vals d b/\IsTup h a b.toArray
 | .dK c=>c.length<=sizeLine/\(a==sysModules)=false/\∃i,KV c i/\h.DictOf (f7 P w) a i
 | .dT c=>c.length<=sizeLine/\(a==sysModules)=false/\∃d:List (List Key×Addr×Value),
   Paired (λ(p:List Key×V)(q:List Key×Addr×Value)=>p.1=q.1/\H q.2.1=some (.tup (p.1.map kV))/\RelV p.2 q.2.2) c d /\
   ∃o j s,h.get? a=some o/\o.ExactDict/\o.data=.dict j s/\j.toList=d.map (entryOfKey (tupleKind (f7 P w)))/\(d.map (·.1)).Nodup
 | .set S n=>h.SetOf (intKind P w) a S n
 | .ins C g fs=>H g=some (.own a)/\fs.length<=1000/\g≠a/\h.get? a=some (W.instObj C g) /\
   ∃e,h.Ns1 g e/\(∀f,Ym (fs.lookup f) (e f))/\PySem.Within e (fs.map (·.1))
 | .own _=>∃o,h.get? a=some o
 | .xd fs=>∃e,h.Ns1 a e/\∀f,Ym (fs.lookup f) (e f)
 | .rng lo y=>∃t u v,h.get? a=some {cls:=.type "range",data:=.fields #[.int lo t,.int y u,.int 1 v]}
 | .frz o u=>h.get? a=some o/\Xk H h a u
 | .tbl z=>h.get? a=some {cls:=.none,data:=.fields z}
 | .met f x=>h.get? a=some (W.methodObj (.ref f) (.ref x))
 | .ext φ=>φ h/\(∃o,h.get? a=some o)/\∀l r:Heap,φ l->(∀o,l.get? a=some o->r.get? a=some o)->φ r
def Yn(H:Hp)(h:Heap):Prop:=∀a o,H a=some o->Xk P w H h a o
end
section
theorem Xk.lt(x:Xk P w H h a o):a<h.objs.size:=by
 cases o with
 |lst c=>obtain⟨_,_,_,_,e⟩:=x;exact Te e
 |tup c=>obtain⟨_,_,_,p⟩:=x;exact p.lt
 |dK b=>obtain⟨_,_,_,_,o,_,_,e,_⟩:=x;exact Te e
 |dT b=>obtain⟨_,_,_,_,o,_,_,e,_⟩:=x;exact Te e
 |set S n=>obtain⟨o,_,_,_,e,_⟩:=x;exact Te e
 |ins C d fs=>obtain⟨_,_,_,e,_⟩:=x;exact Te e
 |own y=>obtain⟨_,e⟩:=x;exact Te e
 |xd fs=>obtain⟨_,⟨_,_,_,e,_⟩,_⟩:=x;exact Te e
 |rng lo g=>obtain⟨_,_,_,e⟩:=x;exact Te e
 |frz ob u=>obtain⟨e,_⟩:=x;exact Te e
 |tbl i=>exact Te (show h.get? a=some _ from x)
 |met f y=>exact Te (show h.get? a=some _ from x)
 |ext φ=>obtain⟨_,⟨_,e⟩,_⟩:=x;exact Te e
theorem Paired.mapP:∀{c:List α}{d:List β},Paired F c d->(∀a b,F a b->G a b)->Paired G c d
 |_,_,.nil,_=>.nil
 |_,_,.cons r t,f=>.cons (f _ _ r) (Paired.mapP t f)
theorem Xk.stay{s:Heap}(x:Xk P w H h a o)(k:∀b u,(b=a\/H b=some (.own a))->h.get? b=some u->s.get? b=some u)
  (J:∀b,H b=some (.own a)->G b=some (.own a)) (L:∀b l,H b=some (.tup l)->G b=some (.tup l)):Xk P w G s a o:=by
 induction o with
 |lst l=>obtain⟨z,j,n,r,e⟩:=x;exact⟨z,j,n,r,k _ _ (.inl rfl) e⟩
 |tup l=>obtain⟨z,j,r,ob,e,c⟩:=x;exact⟨z,j,r,ob,k _ _ (.inl rfl) e,c⟩
 |dK A=>obtain⟨z,y,M,r,ob,g,i,e,c⟩:=x;exact⟨z,y,M,r,ob,g,i,k _ _ (.inl rfl) e,c⟩
 |dT A =>obtain⟨z,y,l,r,ob,g,i,e,c⟩:=x;exact⟨z,y,l,Paired.mapP r λp q z=>⟨z.1,L _ _ z.2.1,z.2.2⟩,ob,g,i,k _ _ (.inl rfl) e,c⟩
 |set S n=>obtain⟨ob,g,i,t,e,c⟩:=x;exact⟨ob,g,i,t,k _ _ (.inl rfl) e,c⟩
 |ins C T fs =>obtain⟨d,z,N,e,B,⟨E,g,i,O,c⟩,r⟩:=x;exact⟨J _ d,z,N,k _ _ (.inl rfl) e,B,⟨E,g,i,k _ _ (.inr d) O,c⟩,r⟩
 |own y=>obtain⟨ob,e⟩:=x;exact⟨ob,k _ _ (.inl rfl) e⟩
 |xd fs=>obtain⟨B,⟨E,g,i,e,c⟩,r⟩:=x;exact⟨B,⟨E,g,i,k _ _ (.inl rfl) e,c⟩,r⟩
 |rng lo U=>obtain⟨t,u,v,e⟩:=x;exact⟨t,u,v,k _ _ (.inl rfl) e⟩
 |frz ob u Q=>obtain⟨e,q⟩:=x;exact⟨k _ _ (.inl rfl) e,Q q⟩
 |tbl I =>have e:h.get? a=some {cls:=.none,data:=.fields I}:=x;show s.get? a=some {cls:=.none,data:=.fields I};exact k a _ (.inl rfl) e
 |met f y =>have e:h.get? a=some (W.methodObj (.ref f) (.ref y)):=x;show s.get? a=some (W.methodObj (.ref f) (.ref y));exact k a _ (.inl rfl) e
 |ext φ=>obtain⟨p,⟨o,e⟩,st⟩:=x;exact⟨st _ _ p λo q=>k _ _ (.inl rfl) q,⟨o,k _ _ (.inl rfl) e⟩,st⟩
theorem Yn.lt(x:Yn P w H h)(e:H a=some o):a<h.objs.size:=(x a o e).lt
theorem Yn.fresh{P:Program}{w:World}{H:Hp}{h:Heap}{a:Addr}(x:Yn P w H h)(e:h.objs.size<=a):H a=none:=by
 cases q:H a with
 |none=>rfl
 |some u=>exact absurd (Tv (x.lt q) e) (UP _)
theorem Yn.kept{h':Heap}(x:Yn P w H h)(k:∀b u,h.get? b=some u->h'.get? b=some u):Yn P w H h':=λa o e =>
 (x a o e).stay (λb u _ q=>k b u q) (λ_ q=>q) λ_ _ q=>q
theorem Yn.laid{P:Program}{w:World}{H:Hp}{h h':Heap}{a:Addr}{o:HO}(x:Yn P w H h)(k:∀b u,h.get? b=some u->h'.get? b=some u)(i:h.objs.size<=a)(d:Xk P w (upd H a o) h' a o):Yn P w (upd H a o) h':=λb u e=>by
 have f:=x.fresh i;by_cases g:b=a
 ·subst g;rw[aF]at e;cases e;exact d
 ·rw[aR g]at e;exact(x b u e).stay (λc v _ q=>k c v q) (λc q=>by rw[aR (aN q f)];exact q) λc j q=>by rw[aR (aN q f)];exact q
end
def Rd(H:Hp)(a:Addr)(u:HO):Prop:=H a=some u\/∃o,H a=some (.frz o u)
theorem Rd.ok(r:Rd H a u)(x:Yn P w H h):Xk P w H h a u:=by
 rcases r with r|⟨o,r⟩
 ·exact x a u r
 ·obtain⟨_,q⟩:=x a _ r;exact q
def Mut:Option HO->Prop
 |some (.lst _)=>True
 |some (.dK _)=>True
 |some (.dT _)=>True
 |some (.set _ _)=>True
 |some (.ins _ _ _)=>True
 |some (.ext _)=>True
 |_=>False
section
theorem Yn.write{g:Heap}(ok:Yn P w H h)(i:Mut (H x))(p:e=x\/H e=some (.own x))(k:∀b u,b≠e->h.get? b=some u->g.get? b=some u)(n:∃u,g.get? e=some u)
  (o:Xk P w (upd H x s) g x s):Yn P w (upd H x s) g:=λb u q=>by
 have d:∀c y,H c=some (.own y)->c≠x:=λc y r z=>by subst z;rw[r]at i;exact i
 have f:∀c j,H c=some (.tup j)->c≠x:=λc j r z=>by subst z;rw[r]at i;exact i
 by_cases l:b=x
 ·subst l;rw[aF]at q;cases q;exact o
 ·rw[aR l]at q;by_cases a:b=e
  ·have t:H b=some (.own x):=by
    rcases p with z|z
    ·exact absurd (a.trans z) l
    ·rw[a];exact z
   rw[q]at t;cases t;obtain⟨v,A⟩:=n;exact⟨v,by rw[a];exact A⟩
  ·refine(ok b u q).stay (λc v hc r=>k c v ?_ r) (λc r=>by rw[aR (d c b r)];exact r) λc j r=>by rw[aR (f c j r)];exact r
   rcases hc with rfl|hc
   ·exact a
   ·rintro rfl;rcases p with z|z
    ·exact d c b hc z
    ·rw[hc]at z;cases z;exact l rfl
end
structure Un(fs ex:yy)(H H':Hp)(h h':Heap):Prop where
 keep:∀b o,h.get? b=some o->H b=none->b∉fs->b∉ex->h'.get? b=some o
 slot:∀b o,h.get? b=some o->H b=none->b∈fs->b∉ex->∃sl,h'.get? b=some {o with slots:=sl}
 free:∀b o,h.get? b=some o->H b=none->b∉ex->H' b=none
 there:∀b o,h.get? b=some o->b∉ex->∃o',h'.get? b=some o'
 tups:∀b xs,H b=some (.tup xs)->H' b=some (.tup xs)
 Zf:∀b o u,H b=some (.frz o u)->H' b=some (.frz o u)
 Zp:∀b ps,H b=some (.tbl ps)->∃more,H' b=some (.tbl (ps++more))
section
theorem Un.any(u:Un fs ex H f h d)(q:h.get? b=some ob)(n:H b=none)(a:b∉ex):∃e,d.get? b=some {ob with slots:=e}:=by
 by_cases c:b∈fs
 ·exact u.slot b ob q n c a
 ·exact⟨ob.slots,u.keep b ob q n c a⟩
theorem Un.kept{h h':Heap}(k:∀b u,h.get? b=some u->h'.get? b=some u):Un fs ex H H h h' :=
 ⟨λb ob q _ _ _=>k b ob q,λb ob q _ _ _=>⟨ob.slots,k b ob q⟩,λ_ _ _ n _=>n,λb ob q _=>⟨ob,k b ob q⟩,λ_ _ q=>q,λ_ _ _ q=>q,λ_ a q=>⟨#[],by rw[q];simp⟩⟩
theorem Un.refl:Un fs ex H H h h:=Un.kept λ_ _ q=>q
theorem Un.laid{fs ex:yy}{H:Hp}{h h':Heap}{a:Addr}{o:HO}(k:∀b u,h.get? b=some u->h'.get? b=some u)(d:h.objs.size<=a)(c:H a=none):Un fs ex H (upd H a o) h h' where
 keep:=λb u q _ _ _=>k b u q
 slot:=λb u q _ _ _=>⟨u.slots,k b u q⟩
 free:=λb u q n _=>by rw[aR (Tw (Tv (Te q) d))];exact n
 there:=λb u q _=>⟨u,k b u q⟩
 tups:=λb e q=>by rw[aR (aN q c)];exact q
 Zf:=λb u e q=>by rw[aR (aN q c)];exact q
 Zp:=λb f q=>⟨#[],by rw[aR (aN q c),q];simp⟩
theorem Un.write{h d:Heap}(c:Mut (H x))(l:e=x\/H e=some (.own x))(k:∀b u,b≠e->h.get? b=some u->d.get? b=some u)(f:∃u,d.get? e=some u):Un fs ex H (upd H x o) h d:=by
 have i:∀b,H b=none->b≠x:=λb n z=>by subst z;rw[n]at c;exact c
 have j:∀b,H b=none->b≠e:=λb n z=>by
  subst z;rcases l with r|r
  ·exact i b n r
  ·rw[n]at r;cases r
 have g:∀b u,H b=some u->¬ Mut (some u)->b≠x:=λb u q p z=>by subst z;rw[q]at c;exact p c
 refine⟨λb u q n _ _=>k b u (j b n) q,λb u q n _ _=>⟨u.slots,k b u (j b n) q⟩,λb u q n _=>by rw[aR (i b n)];exact n,λb u q _=>?_,
  λb s q=>by rw[aR (g b _ q λz=>z)];exact q,λb u s q=>by rw[aR (g b _ q λz=>z)];exact q,λb t q=>⟨#[],by rw[aR (g b _ q λz=>z),q];simp⟩⟩
 by_cases a:b=e
 ·subst a;exact f
 ·exact⟨u,k b u a q⟩
end
noncomputable def trk(h:Heap)(H:Hp):List Addr:=(List.range h.objs.size).filter λa=>(H a).isSome
noncomputable def xH(h:Heap)(H:Hp):Heap:=W.hideAll h (trk h H)
theorem Eg(h:Heap)(H:Hp):(xH h H).objs.size=h.objs.size:=W.hideAll_size _ _
theorem Gn{h:Heap}(e:h.get? b=some o)(n:H b=none):(xH h H).get? b=some o :=
 W.hideAll_get _ e λa=>by have q:(H b).isSome=true:=(List.mem_filter.mp a).2;rw[n]at q;simp at q
theorem Jl(e:(xH h H).get? b=some o):h.get? b=some o/\H b=none:=by
 have a:h.get? b=some o:=W.of_hideAll (trk h H) e;refine⟨a,?_⟩
 cases q:H b with
 |none=>rfl
 |some x =>have c:b∈trk h H:=List.mem_filter.mpr ⟨VS.mpr (Te a),by simp[q]⟩;have z:(xH h H).get? b=none:=W.hideAll_none (trk h H) c;rw[z]at e;cases e
structure Mod(K:qs)(mg:zp)(base:Heap):Prop where
 kin:K.In base
 glob:base.Ns mainGlobals mg
 blt:∃mb,base.Ns builtinsNs mb/\∀x:Str,x≠"__name__"->mb x=bootBuiltins x
 nolimit:base.NoLimit
structure Cx where
 prog:Program
 w:World
 K:W.Frag
 mg:Str->Option Value
 base:Heap
 A:Around
 N:List Str
 s₀:Shared
 H₀:Hp
 env:Env
 outer:List Env
 stack:List Env
 ex:List Addr
 fn:Str->Bool
 calm:Bool
 pn:List (Addr×Obj)
 xe:Value->Shared->Prop
noncomputable def frs(l:List Env):List Addr:=l.filterMap (·.frame)
noncomputable abbrev Cx.fs(X:Cx):List Addr:=frs X.outer
def Vis(a:Scope)(x:Str):Prop:=a.names.lookup x=some .local\/a.names.lookup x=some .cell\/a.names.lookup x=some .free
def Loc(a:Scope)(x:Str):Prop:=a.names.lookup x=some .local\/a.names.lookup x=some .cell
def NB(env:Env)(h:Heap)(m:zp)(x:Str)(u:Value):Prop :=
 (env.kindOf x=some .local/\m x=some u)\/((env.kindOf x=some .cell\/env.kindOf x=some .free)/\∃c,env.cells.lookup x=some c/\h.IsCell c (some u))
structure Cx.Ok(X:Cx):Prop where
 mod:Mod X.K X.mg X.base
 kind:X.env.scope.kind=.function
 glob:X.env.globals=mainGlobals
 blt:X.env.builtins=builtinsNs
 above:X.s₀.heap.objs.size<=X.env.locals
 inj:∀x y c,X.env.cells.lookup x=some c->X.env.cells.lookup y=some c->x=y
 has:∀x,(X.env.kindOf x=some .cell\/X.env.kindOf x=some .free)->∃c,X.env.cells.lookup x=some c
 cab:∀x c,X.fn x=true->X.env.cells.lookup x=some c->X.s₀.heap.objs.size<=c
 hd:X.calm=true->X.A.handled=none
 frames:X.A.frames=some X.stack
 stk:X.stack=X.outer\/(X.stack=X.env::X.outer/\X.env.frame=some X.env.locals)
 exf:∀b∈X.ex,b≠X.env.locals/\∀x c,X.env.cells.lookup x=some c->c≠b
 bs:∀b o,X.base.get? b=some o->X.s₀.heap.get? b=some o/\X.H₀ b=none
 bsz:X.base.objs.size<=X.s₀.heap.objs.size
 noex:∀b o,X.base.get? b=some o->b∉X.ex
 exfs:∀b∈X.ex,b∉X.fs
 YD:X.s₀.heap.FunFrames X.base X.outer
 frf:∀b∈X.fs,X.H₀ b=none
structure Inv(X:Cx)(pins:qe)(σ:List (Option V))(H:Hp)(s:Shared):Prop where
 ok:X.Ok
 os:s.os=X.s₀.os
 bare:AllBare s.gens
 base:Un X.fs X.ex X.H₀ H X.s₀.heap s.heap
 loc:∃m,s.heap.Ns X.env.locals m/\∀(i:Nat)(x:Str)(v:V),X.N[i]?=some x->σ[i]?=some (some v)->Vis X.env.scope x->∃u,RelV v u/\NB X.env s.heap m x u
 cell:∀x c,X.env.cells.lookup x=some c->∃v,s.heap.IsCell c v
 free:H X.env.locals=none
 Yc:∀x c,X.env.cells.lookup x=some c->H c=none
 pin:∀p∈X.pn++pins,s.heap.get? p.1=some p.2/\H p.1=none/\p.1≠X.env.locals/\p.1∉X.fs/\∀v,p.2.data≠.cell v
 hok:Yn X.prog X.w H s.heap
 len:σ.length=X.N.length
section
theorem Cx.Ok.nofr{X:Cx}(ok:X.Ok)(e:X.base.get? b=some o):b∉X.fs:=λa=>by have:=(ok.YD.mem a).1;rw[e]at this;cases this
theorem Inv.bs(I:Inv X a c H s):∀b o,X.base.get? b=some o->s.heap.get? b=some o/\H b=none:=λb o e =>
 ⟨I.base.keep b o (I.ok.bs b o e).1 (I.ok.bs b o e).2 (I.ok.nofr e) (I.ok.noex b o e),I.base.free b o (I.ok.bs b o e).1 (I.ok.bs b o e).2 (I.ok.noex b o e)⟩
theorem Inv.bk(I:Inv X a c H s):∀b o,X.base.get? b=some o->s.heap.get? b=some o:=λb o e=>(I.bs b o e).1
theorem Inv.mod(I:Inv X a b H s):Mod X.K X.mg X.base:=I.ok.mod
theorem Inv.X7(I:Inv X a b H s):X.K.In s.heap:=I.ok.mod.kin.keeps I.bk
theorem Inv.lt(I:Inv X a c H s):X.env.locals<s.heap.objs.size:=let⟨_,b,_⟩:=I.loc;b.lt
theorem Inv.sz(I:Inv X a b H s):X.s₀.heap.objs.size<=s.heap.objs.size:=Tz I.ok.above (UN I.lt)
theorem Inv.nofs{X:Cx}{b:qe}{c:List (Option V)}{H:Hp}{s:Shared}(I:Inv X b c H s){a:Addr}(h:s.heap.objs.size<=a):a∉X.fs:=λd=>by obtain⟨_,o,e,_⟩:=I.ok.YD.mem d;exact absurd (Tv (Te e) (Tz I.sz h)) (UP _)
theorem Inv.cne(I:Inv X d h H s):∀x c,X.env.cells.lookup x=some c->c≠X.env.locals:=λx c e z=>by obtain⟨v,o,f,g⟩:=I.cell x c e;obtain⟨m,⟨i,j,l,a,b,_⟩,_⟩:=I.loc;rw[z,a]at f;cases f;rw[b]at g;cases g
theorem Inv.YD(I:Inv X f t H s):s.heap.FunFrames X.base X.outer:=by
 have all:∀(l:List Env),(∀b∈frs l,b∈X.fs)->X.s₀.heap.FunFrames X.base l->s.heap.FunFrames X.base l:=by
  intro l
  induction l with
  |nil=>intro _ _;trivial
  |cons env r h =>intro g i;obtain⟨hk,⟨L,o,a,j,n,p⟩,q⟩:=i;have c:L∈X.fs:=g L (by unfold frs;rw[Vm,a];exact Tn);obtain⟨u,e⟩:=I.base.slot L o n (I.ok.frf L c) c λz=>I.ok.exfs L z c;exact⟨hk,⟨L,_,a,j,e,p⟩,h (λb d=>g b (by unfold frs;rw[Vm,a];exact Th _ d)) q⟩
 exact all X.outer (λ_ d=>d) I.ok.YD
theorem Inv.stack(I:Inv X a d H s):s.heap.FunFrames X.base X.stack:=by
 rcases I.ok.stk with e|⟨e,b⟩
 ·rw[e];exact I.YD
 ·rw[e];obtain⟨m,c,_⟩:=I.loc;refine .cons (by rw[I.ok.kind];decide) b c ?_ I.YD;exact Heap.get?_none_of_le (Tz I.ok.bsz I.ok.above)
theorem Inv.Zg(I:Inv X c f H s):∀b∈frs X.stack,b∈X.env.locals::X.fs:=λb a=>by
 rcases I.ok.stk with e|⟨e,d⟩
 ·rw[e]at a;exact Th _ a
 ·rw[e]at a;unfold frs at a;rw[Vm,d]at a;exact a
theorem Inv.ZW(I:Inv X a d H s):∀b∈frs X.stack,H b=none:=λb hb=>by
 rcases S0.mp (I.Zg b hb)with e|hb
 ·rw[e];exact I.free
 ·obtain⟨_,o,c,_⟩:=I.ok.YD.mem hb;exact I.base.free b o c (I.ok.frf b hb) λz=>I.ok.exfs b z hb
theorem Inv.step{X:Cx}{f:qe}{σ:List (Option V)}{H E:Hp}{s:Shared}{B:Heap}{g':Array GenState}{d':Drawn}{ch:yy}(I:Inv X f σ H s)
  (g:∀b∈ch,(b∈X.ex\/X.s₀.heap.objs.size<=b)/\b≠X.env.locals/\(∀x c,X.env.cells.lookup x=some c->c≠b)/\∀p∈X.pn++f,p.1≠b)
  (keep:∀b o,b≠X.env.locals->b∉X.fs->b∉ch->s.heap.get? b=some o->H b=none->B.get? b=some o)
  (slot:∀b o,b≠X.env.locals->b∈X.fs->b∉ch->s.heap.get? b=some o->H b=none->∃Q,B.get? b=some {o with slots:=Q}) (free:∀b o,b∉ch->s.heap.get? b=some o->H b=none->E b=none)
  (there:∀b o,b∉ch->s.heap.get? b=some o->∃J,B.get? b=some J)
  (tups:∀b A,H b=some (.tup A)->E b=some (.tup A)) (Zf:∀b o u,H b=some (.frz o u)->E b=some (.frz o u)) (Zp:∀b O,H b=some (.tbl O)->∃L,E b=some (.tbl (O++L)))
  (ns:∀m,s.heap.Ns X.env.locals m->B.Ns X.env.locals m) (T:Yn X.prog X.w E B) (hg:AllBare g') :
  Inv X f σ E {s with heap:=B,gens:=g',drawn:=d',toks:=t'}:=by
 have M:∀b o,X.s₀.heap.get? b=some o->b≠X.env.locals:=λb o e=>Tw (Tv (Te e) I.ok.above)
 have t:∀b o,X.s₀.heap.get? b=some o->b∉X.ex->b∉ch:=λb o e a C=>by
  rcases(g b C).1 with z|z
  ·exact a z
  ·exact absurd (Tv (Te e) z) (UP _)
 have h:∀x c,X.env.cells.lookup x=some c->∀v,s.heap.IsCell c v->B.IsCell c v:=λx c e v ⟨o,G,U⟩=>by
  have j:c∉ch:=λz=>(g c z).2.2.1 x c e rfl;by_cases hc:c∈X.fs
  ·obtain⟨Q,q⟩:=slot c o (I.cne x c e) hc j G (I.Yc x c e);exact⟨_,q,U⟩
  ·exact⟨o,keep c o (I.cne x c e) hc j G (I.Yc x c e),U⟩
 refine⟨I.ok,I.os,hg,⟨λb o e n C a=>?_,λb o e n C a=>?_,λb o e n a=>?_,λb o e a=>?_,λb A e=>tups b A (I.base.tups b A e),λb o A e=>Zf b o A (I.base.Zf b o A e),λb O e=>?_⟩,?_,λx c e=>?_,?_,λx c e=>?_,λp hp=>?_,T,I.len⟩
 ·exact keep b o (M b o e) C (t b o e a) (I.base.keep b o e n C a) (I.base.free b o e n a)
 ·obtain⟨Q,y⟩:=I.base.slot b o e n C a;obtain⟨Y,N⟩:=slot b _ (M b o e) C (t b o e a) y (I.base.free b o e n a);exact⟨Y,N⟩
 ·obtain⟨J,y⟩:=I.base.there b o e a;exact free b J (t b o e a) y (I.base.free b o e n a)
 ·obtain⟨J,y⟩:=I.base.there b o e a;exact there b J (t b o e a) y
 ·obtain⟨m1,y⟩:=I.base.Zp b O e;obtain⟨m2,N⟩:=Zp b _ y;exact⟨m1++m2,by rw[N,Array.append_assoc]⟩
 ·obtain⟨m,hn,hl⟩:=I.loc;refine⟨m,ns m hn,λi x v y N e3=>?_⟩;obtain⟨u,r,l⟩:=hl i x v y N e3;refine⟨u,r,?_⟩;rcases l with l|⟨k,c,e,z⟩
  ·exact .inl l
  ·exact .inr ⟨k,c,e,h x c e _ z⟩
 ·obtain⟨v,z⟩:=I.cell x c e;exact⟨v,h x c e v z⟩
 ·obtain⟨m,⟨o,_,_,G,_⟩,_⟩:=I.loc;exact free _ o (λz=>(g _ z).2.1 rfl) G I.free
 ·obtain⟨v,o,G,U⟩:=I.cell x c e;exact free c o (λz=>(g c z).2.2.1 x c e rfl) G (I.Yc x c e)
 ·obtain⟨e,n,ne,nf,d⟩:=I.pin p hp;have j:p.1∉ch:=λz=>(g p.1 z).2.2.2 p hp rfl;exact⟨keep p.1 p.2 ne nf j e n,free p.1 p.2 j e n,ne,nf,d⟩
theorem Inv.un(I:Inv X a l H s)(u:Un X.fs [] H i s.heap h')(d:Yn X.prog X.w i h'):Inv X a l i {s with heap:=h',toks:=t'}:=by
 obtain⟨m,⟨o,v,x,j,r⟩,_⟩:=id I.loc;obtain⟨y,p⟩:=u.any j I.free (by simp)
 exact I.step (g':=s.gens) (d':=s.drawn) (ch:=[]) (λ_ z=>nomatch z) (λb o _ f _ e n=>u.keep b o e n f (by simp)) (λb o _ f _ e n=>u.slot b o e n f (by simp)) (λb o _ e n=>u.free b o e n (by simp)) (λb o _ e=>u.there b o e (by simp)) u.tups u.Zf u.Zp (λA q=>by
  obtain⟨B,g,h,c,t⟩:=q;rw[j]at c;cases c;exact⟨_,g,h,p,t⟩) d I.bare
theorem Inv.call(I:Inv X a v H s)(u:Un (frs X.stack) ch H q s.heap h')(h:Yn X.prog X.w q h')(y:AllBare g')
  (f:∀b∈ch,(b∈X.ex\/X.s₀.heap.objs.size<=b)/\b≠X.env.locals/\(∀x c,X.env.cells.lookup x=some c->c≠b)/\∀p∈X.pn++a,p.1≠b) :
  Inv X a v q {s with heap:=h',gens:=g',drawn:=d',toks:=t'}:=by
 obtain⟨m,⟨o,E,G,t,r⟩,_⟩:=id I.loc;obtain⟨J,i⟩:=u.any t I.free λz=>(f _ z).2.1 rfl
 exact I.step (ch:=ch) f (λb o i A d e n=>u.keep b o e n (λz=>(S0.mp (I.Zg b z)).elim i A) d) (λb o _ _ d e n=>u.any e n d) (λb o d e n=>u.free b o e n d) (λb o d e=>u.there b o e d) u.tups u.Zf u.Zp (λL B=>by
  obtain⟨M,j,l,g,C⟩:=B;rw[t]at g;cases g;exact⟨_,j,l,i,C⟩) h y
theorem Inv.turned{h:Heap}(I:Inv X d j H s)(k:∀b o,b≠a->s.heap.get? b=some o->h.get? b=some o)(l:H a=none)(i:a≠X.env.locals)
  (t:a∈X.ex\/X.s₀.heap.objs.size<=a) (w:∀x c,X.env.cells.lookup x=some c->c≠a) (y:∀p∈X.pn++d,p.1≠a):Inv X d j H {s with heap:=h,toks:=t'}:=by
 have g:∀b u,H b=some u->b≠a:=λb u e z=>by rw[z,l]at e;cases e
 refine I.step (g':=s.gens) (d':=s.drawn) (ch:=[a]) (λb A=>?_) (λb o _ _ f e _=>k b o (λz=>f (by simp[z])) e) (λb o _ _ f e _=>⟨o.slots,k b o (λz=>f (by simp[z])) e⟩) (λ_ _ _ _ n=>n)
  (λb o f e=>⟨o,k b o (λz=>f (by simp[z])) e⟩) (λ_ _ e=>e) (λ_ _ _ e=>e) (λb J e=>⟨#[],by rw[e];simp⟩) (λm B=>?_) (λb u e=>?_) I.bare
 ·have e:b=a:=by simpa using A
  subst e;exact⟨t,i,w,y⟩
 ·obtain⟨o,C,E,G,r⟩:=B;exact⟨o,C,E,k _ o (Tf i) G,r⟩
 ·refine(I.hok b u e).stay (λc v f q=>k c v ?_ q) (λ_ q=>q) λ_ _ q=>q;rcases f with z|z
  ·rw[z];exact g b u e
  ·exact g c _ z
theorem Inv.tok(I:Inv X a b H s)(t:Nat):Inv X a b H {s with toks:=t}:=I.un (h':=s.heap) (t':=t) Un.refl I.hok
theorem Inv.kept{h':Heap}(I:Inv X a c H s)(k:∀b u,s.heap.get? b=some u->h'.get? b=some u):Inv X a c H {s with heap:=h',toks:=t'}:=I.un (Un.kept k) (I.hok.kept k)
theorem Inv.laid{X:Cx}{c:qe}{f:List (Option V)}{H:Hp}{s:Shared}{h':Heap}{a:Addr}{o:HO}{t':Nat}(I:Inv X c f H s)(k:∀b u,s.heap.get? b=some u->h'.get? b=some u)(d:s.heap.objs.size<=a)(e:Xk X.prog X.w (upd H a o) h' a o) :
  Inv X c f (upd H a o) {s with heap:=h',toks:=t'}:=I.un (Un.laid k d (I.hok.fresh d)) (I.hok.laid k d e)
theorem Inv.write{d:Heap}(I:Inv X a i H s)(g:Mut (H x))(h:e=x\/H e=some (.own x))(k:∀b u,b≠e->s.heap.get? b=some u->d.get? b=some u)(c:∃u,d.get? e=some u)
  (f:Xk X.prog X.w (upd H x o) d x o):Inv X a i (upd H x o) {s with heap:=d,toks:=j}:=I.un (Un.write g h k c) (I.hok.write g h k c f)
theorem Inv.ZX(I:Inv X a b H s)(h:∀p∈c,s.heap.get? p.1=some p.2/\H p.1=none/\p.1≠X.env.locals/\p.1∉X.fs/\∀v,p.2.data≠.cell v):Inv X c b H s :=
 ⟨I.ok,I.os,I.bare,I.base,I.loc,I.cell,I.free,I.Yc,λp d=>(Tq.mp d).elim (λz=>I.pin p (VA _ z)) (h p),I.hok,I.len⟩
theorem Av{N:vn}(c:N.Nodup){i j:Nat}{x:Str}(a:N[i]?=some x)(b:N[j]?=some x):i=j:=by obtain⟨f,d⟩:=S6.mp a;obtain⟨g,e⟩:=S6.mp b;exact(List.getElem_inj c).mp (d.trans e.symm)
theorem xf(I:Inv X U σ H s)(hN:X.N.Nodup)(Y:X.N[i]?=some x)(t:Loc X.env.scope x)(r:RelV v u)
  (h:∀s',Inv X U (σ.set i (some v)) H s'->(∃a,Heap.SameBut a s.heap s'.heap/\(a=X.env.locals\/X.env.cells.lookup x=some a))->Q () s') (hf:X.fn x=true\/X.env.scope.names.lookup x=some .local:=by first|exact .inl rfl|exact .inr rfl|assumption):wpAny M A (storeName X.env x u) Q E s:=by
 obtain⟨m,hn,hl⟩:=id I.loc;have hcls:(X.env.scope.kind==.class||(X.env.scope.kind==.module&&X.env.locals != X.env.globals))=false:=by rw[I.ok.kind];rfl
 have G:i<σ.length:=by rw[I.len];exact(S6.mp Y).1
 have cne:=I.cne
 have g:∀{a:Addr}{T:Heap},(∃o,s.heap.get? a=some o/\H a=none)->Heap.SameBut a s.heap T->Yn X.prog X.w H T:=λ{a T} ha f b ob e=>by
  obtain⟨_,_,B⟩:=ha;refine(I.hok b ob e).stay (λc w' hc q=>(f.2 c ?_).trans q) (λ_ q=>q) λ_ _ q=>q;rintro rfl;rcases hc with rfl|hc
  ·rw[B]at e;cases e
  ·rw[B]at hc;cases hc
 rcases t with hk|hk
 ·refine wpAny_storeName_local hk hn (λT hn' f=>?_) hcls;obtain⟨oL,_,_,hoL,_⟩:=id hn;refine h _ ⟨I.ok,I.os,I.bare,⟨λb o e n J t=>?_,λb o e n J t=>?_,I.base.free,λb o e t=>?_,I.base.tups,I.base.Zf,I.base.Zp⟩,⟨_,hn',λj y v' l C e3=>?_⟩,λy c e=>?_,I.free,I.Yc,λp hp=>?_,g ⟨oL,hoL,I.free⟩ f,by simpa using I.len⟩ ⟨_,f,.inl rfl⟩
  ·exact(f.2 b (Tw (Tv (Te e) I.ok.above))).trans (I.base.keep b o e n J t)
  ·obtain⟨sl,l⟩:=I.base.slot b o e n J t;exact⟨sl,(f.2 b (Tw (Tv (Te e) I.ok.above))).trans l⟩
  ·obtain⟨o',l⟩:=I.base.there b o e t;exact⟨o',(f.2 b (Tw (Tv (Te e) I.ok.above))).trans l⟩
  ·by_cases L:j=i
   ·subst L;rw[Y]at l;cases l;rw[List.getElem?_set_self G]at C;cases C;exact⟨u,r,.inl ⟨hk,by simp⟩⟩
   ·rw[List.getElem?_set_ne (Tf L)]at C;obtain⟨u',r',q⟩:=hl j y v' l C e3;refine⟨u',r',?_⟩;rcases q with⟨k,e⟩|⟨k,c,e,z⟩
    ·refine .inl ⟨k,?_⟩;have:y≠x:=λe=>L (Av hN l (e▸Y));simp[this,e]
    ·exact .inr ⟨k,c,e,z.sameBut f (cne y c e)⟩
  ·obtain⟨w',z⟩:=I.cell y c e;exact⟨w',z.sameBut f (cne y c e)⟩
  ·obtain⟨e,n,ne,nf,d⟩:=I.pin p hp;exact⟨(f.2 p.1 ne).trans e,n,ne,nf,d⟩
 ·have O:X.fn x=true:=by
   rcases hf with z|z
   ·exact z
   ·rw[z]at hk;cases hk
  obtain⟨c,hc⟩:=I.ok.has x (.inl hk);obtain⟨w',z⟩:=I.cell x c hc;refine wpAny_storeName_cell I.ok.kind hk hc z (λT hc' f=>?_);obtain⟨oc,hoc,hocd⟩:=id z;refine h {s with heap:=T} ⟨I.ok,I.os,I.bare,⟨λb o e n J t=>?_,λb o e n J t=>?_,I.base.free,λb o e t=>?_,I.base.tups,I.base.Zf,I.base.Zp⟩,⟨m,hn.sameBut f (Tf (cne x c hc)),λj y v' l C e3=>?_⟩,λy c' e=>?_,I.free,I.Yc,λp hp=>?_,g ⟨oc,hoc,I.Yc x c hc⟩ f,by simpa using I.len⟩ ⟨c,f,.inr hc⟩
  ·exact(f.2 b (Tw (Tv (Te e) (I.ok.cab x c O hc)))).trans (I.base.keep b o e n J t)
  ·obtain⟨sl,l⟩:=I.base.slot b o e n J t;exact⟨sl,(f.2 b (Tw (Tv (Te e) (I.ok.cab x c O hc)))).trans l⟩
  ·obtain⟨o',l⟩:=I.base.there b o e t;exact⟨o',(f.2 b (Tw (Tv (Te e) (I.ok.cab x c O hc)))).trans l⟩
  ·by_cases L:j=i
   ·subst L;rw[Y]at l;cases l;rw[List.getElem?_set_self G]at C;cases C;exact⟨u,r,.inr ⟨.inl hk,c,hc,hc'⟩⟩
   ·rw[List.getElem?_set_ne (Tf L)]at C;obtain⟨u',r',q⟩:=hl j y v' l C e3;refine⟨u',r',?_⟩;rcases q with q|⟨k,c',e,z'⟩
    ·exact .inl q
    ·refine .inr ⟨k,c',e,z'.sameBut f ?_⟩;rintro rfl;exact L (Av hN l (I.ok.inj _ _ _ e hc▸Y))
  ·by_cases hcc:c'=c
   ·subst hcc;exact⟨_,hc'⟩
   ·obtain⟨w2,z2⟩:=I.cell y c' e;exact⟨w2,z2.sameBut f hcc⟩
  ·obtain⟨e,n,ne,nf,d⟩:=I.pin p hp;refine⟨(f.2 p.1 ?_).trans e,n,ne,nf,d⟩;intro q;rw[q,hoc]at e;have q':oc=p.2:=TY e;exact d w' (by rw[<- q'];exact hocd)
theorem mT(I:Inv X a c H s)(d:X.N.Nodup)(e:X.N[i]?=some x)(f:Loc X.env.scope x)(r:RelV v u)
  (h:∀b,Inv X a (c.set i (some v)) H b->Q () b) (g:X.fn x=true\/X.env.scope.names.lookup x=some .local:=by first|exact .inl rfl|exact .inr rfl|assumption):wpAny M A (storeName X.env x u) Q E s :=
 xf I d e f r (λb j _=>h b j) g
theorem Inv.call'{d:Shared}(I:Inv X a i H s)(j:d.os=s.os)(u:Un (frs X.stack) ch H h s.heap d.heap)(f:Yn X.prog X.w h d.heap)(l:AllBare d.gens)
  (g:∀b∈ch,(b∈X.ex\/X.s₀.heap.objs.size<=b)/\b≠X.env.locals/\(∀x c,X.env.cells.lookup x=some c->c≠b)/\∀p∈X.pn++a,p.1≠b):Inv X a i h d:=by
 obtain⟨t,n,o,q,r⟩:=d;have e:r=s.os:=j;subst e;exact I.call (g':=n) (t':=q) (d':=o) u f l g
end
abbrev XK:=Value->Option Addr->Hp->Prop
noncomputable abbrev St:=List (Option V)
abbrev VK:=V->Hp->Prop
abbrev TE:=St->Hp->VK->Prop
abbrev TT:=St->Hp->(Bool->Hp->Prop)->Prop
abbrev TA:=St->Hp->(List V->Hp->Prop)->Prop
structure jF where
 nx:St->Hp->Prop
 rt:VK
 bk:St->Hp->Prop:=λ_ _=>False
 ct:St->Hp->Prop:=λ_ _=>False
abbrev TS:=jF->St->Hp->Prop
def EP(X:Cx)(a:qe)(c:St)(Q:VK)(u:Value)(d:Shared):Prop:=∃v b,Inv X a c b d/\RelV v u/\Q v b
def TP(X:Cx)(a:qe)(d:St)(Q:Bool->Hp->Prop)(b:Bool)(e:Shared):Prop:=∃c,Inv X a d c e/\Q b c
def AP(X:Cx)(a:qe)(d:St)(Q:List V->Hp->Prop)(e:zl)(f:Shared):Prop:=∃b c,Inv X a d c f/\Vals b e/\Q b c
def SP(X:Cx)(b:qe)(D:jF)(f:Flow)(d:Shared):Prop :=
 match f with
 | .next=>∃a c,Inv X b a c d/\D.nx a c
 | .brk=>∃a c,Inv X b a c d/\D.bk a c
 | .cont=>∃a c,Inv X b a c d/\D.ct a c
 | .ret u=>∃v a c,Inv X b a c d/\RelV v u/\D.rt v c
def PE(X:Cx)(e:Expr)(t:TE):Prop :=
 ∀(a:qe)(s:Shared)(b:St)(H:Hp)(Q:VK),Inv X a b H s->t b H Q->wpAny (model X.prog X.w) X.A (eval e X.env) (EP X a b Q) X.xe s
def PT(X:Cx)(e:Expr)(t:TT):Prop :=
 ∀(a:qe)(s:Shared)(b:St)(H:Hp)(Q:Bool->Hp->Prop),Inv X a b H s->t b H Q->wpAny (model X.prog X.w) X.A (isTrue e X.env (eval e X.env)) (TP X a b Q) X.xe s
def PW(X:Cx)(e:Expr)(t:TT):Prop :=
 ∀(b:Sem Value)(a:qe)(s:Shared)(c:St)(H:Hp)(Q:Bool->Hp->Prop),Inv X a c H s->t c H Q->wpAny (model X.prog X.w) X.A (isTrue e X.env b) (TP X a c Q) X.xe s
theorem PW.pt(h:PW X e t):PT X e t:=h _
def PA(X:Cx)(d:List Expr)(t:TA):Prop :=
 ∀(b:Pos)(a:qe)(s:Shared)(c:St)(H:Hp)(Q:List V->Hp->Prop),Inv X a c H s->t c H Q->wpAny (model X.prog X.w) X.A (spliced (backTo b (starEach d X.env))) (AP X a c Q) X.xe s
def PS(X:Cx)(st:Stmt)(t:TS):Prop :=
 ∀(a:qe)(s:Shared)(b:St)(H:Hp)(D:jF),Inv X a b H s->t D b H->wpAny (model X.prog X.w) X.A (exec st X.env) (SP X a D) X.xe s
def Zq(X:Cx)(st:List Stmt)(t:TS):Prop :=
 ∀(a:qe)(s:Shared)(b:St)(H:Hp)(D:jF),Inv X a b H s->t D b H->wpAny (model X.prog X.w) X.A (execs st X.env) (SP X a D) X.xe s
theorem W9{α:Type}{t:Sem α}{Q b:α->Shared->Prop}{E:qf}(h:wpAny M A t Q E s)(c:∀a s,Q a s->b a s):wpAny M A t b E s:=VB h c λ_ _ x=>x
section
variable{X:Cx}
noncomputable def fR(i:Nat):TE:=λa H Q=>∃v,a[i]?=some (some v)/\Q v H
noncomputable def tC(v:V):TE:=λ_ H Q=>Q v H
theorem LW(j:X.N[i]?=some x)(n:Vis X.env.scope x)(d:(x==("__debug__":Str))=false:=by decide)(f:(x==("__classdict__":Str))=false:=by decide):PE X (.Name x o) (fR i):=by
 intro b s p H Q I h;obtain⟨v,e,h⟩:=h;obtain⟨m,q,t⟩:=I.loc;obtain⟨u,r,l⟩:=t i x v j e n;have fin:EP X b p Q u s:=⟨v,H,I,r,h⟩
 rcases l with⟨hk,w⟩|⟨hk,c,g,a⟩
 ·exact wpAny_Name (wpAny_loadName_local I.ok.kind hk q w fin) d
 ·rcases hk with hk|hk
  ·exact wpAny_Name (wpAny_loadName_cell I.ok.kind hk g a fin) d
  ·exact wpAny_Name (wpAny_loadName_free I.ok.kind hk g a fin f) d
theorem aD{i j a}:PE X (.Constant (.int i) j a) (tC (.int i)):=λ_ _ _ H _ I h=>wpAny_Constant_int ⟨.int i,H,I.tok _,⟨_,rfl⟩,h⟩
theorem dU{b j a}:PE X (.Constant (.bool b) j a) (tC (.bl b)):=λ_ _ _ H _ I h=>Constant_bool ⟨.bl b,H,I,rfl,h⟩
theorem jH{j a}:PE X (.Constant .none j a) (tC .W3):=λ_ _ _ H _ I h=>Constant_none ⟨.W3,H,I,rfl,h⟩
theorem aI{x j a}:PE X (.Constant (.str x) j a) (tC (.str x)):=λ_ _ _ H _ I h=>Calls.Constant_str ⟨.str x,H,I.tok _,⟨_,rfl⟩,h⟩
def Gl(X:Cx)(x:Str):Prop:=X.env.kindOf x=some .globalImplicit
theorem oK{E:qf}{a:qe}{s:Shared}{c:St}{H:Hp}{x:Str}{u:Value}{b:Pos}{Q:qf}(I:Inv X a c H s)(d:Gl X x)(e:X.mg x=some u)(h:Q u s)
  (f:(x==("__debug__":Str))=false:=by decide):wpAny (model X.prog X.w) X.A (eval (.Name x b) X.env) Q E s :=
 Calls.Name_function_global I.ok.kind d (Calls.loadGlobal_global (by rw[I.ok.glob];exact I.mod.glob.keeps I.bk) e h) f
theorem lF{E:qf}{a:qe}{s:Shared}{c:St}{H:Hp}{x:Str}{u:Value}{b:Pos}{Q:qf}(I:Inv X a c H s)(d:Gl X x)(e:X.mg x=none)(f:bootBuiltins x=some u)(h:Q u s)
  (g:x≠"__name__":=by decide) (i:(x==("__debug__":Str))=false:=by decide):wpAny (model X.prog X.w) X.A (eval (.Name x b) X.env) Q E s:=by
 obtain⟨n,j,l⟩:=I.mod.blt;exact Calls.Name_function_global I.ok.kind d (Calls.loadGlobal_builtin (by rw[I.ok.glob];exact I.mod.glob.keeps I.bk) e (by rw[I.ok.blt];exact j.keeps I.bk) ((l x g).trans f) h) i
theorem bO(a:Gl X x)(b:X.mg x=some u)(r:RelV v u)(c:(x==("__debug__":Str))=false:=by decide):PE X (.Name x d) (tC v) :=
 λ_ _ _ H _ I h=>oK I a b ⟨v,H,I,r,h⟩ c
theorem gS(a:Gl X x)(b:X.mg x=none)(c:bootBuiltins x=some u)(r:RelV v u)(d:x≠"__name__":=by decide)(e:(x==("__debug__":Str))=false:=by decide):PE X (.Name x f) (tC v) :=
 λ_ _ _ H _ I h=>lF I a b c ⟨v,H,I,r,h⟩ d e
variable{ta tb:TE}
noncomputable def Nk(t u:TT):TT:=λa H Q=>t a H λc b=>if c=true then u a b Q else Q false b
noncomputable def tOr(t u:TT):TT:=λa H Q=>t a H λc b=>if c=true then Q true b else u a b Q
noncomputable def Mp(t:TT):TT:=λa H Q=>t a H λc b=>Q (!c) b
theorem m4(d:PT X a f):PW X (.BoolOp .And [a] g) f:=by
 intro j b s i H Q I h;refine isTrue_and (W9 (d b s i H Q I h) λc l e=>?_)
 cases c with
 |true=>exact isTrue_and_nil e
 |false=>exact e
theorem eV(d:PT X a f):PW X (.BoolOp .Or [a] g) f:=by
 intro j b s i H Q I h;refine isTrue_or (W9 (d b s i H Q I h) λc l e=>?_)
 cases c with
 |false=>exact isTrue_or_nil e
 |true=>exact e
theorem pU(n:PT X a o)(p:PW X (.BoolOp .And (b::rest) e) f):PW X (.BoolOp .And (a::b::rest) e) (Nk o f):=by
 intro q d s g H Q I h;refine isTrue_and (W9 (n d s g H _ I h) λc r ⟨i,j,l⟩=>?_)
 cases c with
 |true=>exact p q d r g i Q j l
 |false=>exact⟨i,j,l⟩
theorem fH(n:PT X a o)(p:PW X (.BoolOp .Or (b::rest) e) f):PW X (.BoolOp .Or (a::b::rest) e) (tOr o f):=by
 intro q d s g H Q I h;refine isTrue_or (W9 (n d s g H _ I h) λc r ⟨i,j,l⟩=>?_)
 cases c with
 |true=>exact⟨i,j,l⟩
 |false=>exact p q d r g i Q j l
theorem cI(d:PT X a e):PT X (.UnaryOp .Not a f) (Mp e):=by intro b s g H Q I h;exact isTrue_not (d b s g H (λc i=>Q (!c) i) I h)
noncomputable def KR(ta tb:TE):TE:=λa H Q=>ta a H λx b=>∃c,x=.bl c/\if c=true then tb a b Q else Q (.bl false) b
noncomputable def Np(ta tb:TE):TE:=λa H Q=>ta a H λx b=>∃c,x=.bl c/\if c=true then Q (.bl true) b else tb a b Q
noncomputable def KW(ta:TE):TE:=λa H Q=>ta a H λx b=>∃c,x=.bl c/\Q (.bl (!c)) b
theorem j8{op}(h:PE X a t):PE X (.BoolOp op [a] c) t:=λb s d H Q I e=>BoolOp_one (h b s d H Q I e)
theorem kG(l:PE X a ta)(n:PE X (.BoolOp .And (b::rest) f) tb):PE X (.BoolOp .And (a::b::rest) f) (KR ta tb):=by
 intro d s g H Q I h;refine BoolOp_and (W9 (l d s g H _ I h) λv o ⟨x,i,j,p,e⟩=>?_);obtain⟨c,rfl,e⟩:=e;cases p;refine Uu ?_
 cases c with
 |true=>exact n d o g i Q j e
 |false=>exact⟨.bl false,i,j,rfl,e⟩
theorem GZ(l:PE X a ta)(n:PE X (.BoolOp .Or (b::rest) f) tb):PE X (.BoolOp .Or (a::b::rest) f) (Np ta tb):=by
 intro d s g H Q I h;refine BoolOp_or (W9 (l d s g H _ I h) λv o ⟨x,i,j,p,e⟩=>?_);obtain⟨c,rfl,e⟩:=e;cases p;refine Uu ?_
 cases c with
 |false=>exact n d o g i Q j e
 |true=>exact⟨.bl true,i,j,rfl,e⟩
theorem LV(e:PE X a ta):PE X (.UnaryOp .Not a f) (KW ta):=by intro b s g H Q I h;refine UnaryOp_ (W9 (e b s g H _ I h) λv n ⟨x,i,j,l,d⟩=>?_);obtain⟨c,rfl,d⟩:=d;cases l;exact not_of (Uu ⟨.bl (!c),i,j,rfl,d⟩)
noncomputable def tIf(t:TT)(ta tb:TE):TE:=λa H Q=>t a H λc b=>if c=true then ta a b Q else tb a b Q
theorem gF(n:PT X c o)(p:PE X a ta)(q:PE X b tb):PE X (.IfExp c a b r) (tIf o ta tb):=by
 intro e s f H Q I h;refine wpAny_IfExp (W9 (n e s f H _ I h) λd g ⟨i,j,l⟩=>?_)
 cases d with
 |true=>exact p e g f i Q j l
 |false=>exact q e g f i Q j l
end
def W2(K:qs)(H:Hp)(a:Addr)(c:List V):Prop :=
 Rd H a (.lst c) \/
  ∃(o:Obj)(b:Array Value)(n:Nat),K.lookup a=some o/\o.cls=.type "list"/\o.dict=none/\o.data=.seq b n/\b.size<=sizeLine/\Vals c b.toList
def Xo(K:qs)(H:Hp)(a:Addr)(c:List V):Prop :=
 Rd H a (.tup c) \/
  ∃(o:Obj)(b:Array Value)(n:Nat),K.lookup a=some o/\o.cls=.type "tuple"/\o.data=.seq b n/\b.size<=sizeLine/\Vals c b.toList
noncomputable def ND:Value->Option V
 | .none=>some .W3
 | .bool b=>some (.bl b)
 | .int i _=>some (.int i)
 | .str x _=>some (.str x)
 | .bytes b _=>some (.ZV b)
 | .float b _=>some (.flt b)
 | .ref a=>some (.ref a)
 | .type n=>some (.ty n)
 |_=>none
theorem RelV.abs(r:RelV x u):ND u=some x:=by
 cases x with
 |W3=>cases r;rfl
 |bl _=>cases r;rfl
 |int _=>obtain⟨t,rfl⟩:=r;rfl
 |str _=>obtain⟨t,rfl⟩:=r;rfl
 |ZV _=>obtain⟨t,rfl⟩:=r;rfl
 |flt _=>obtain⟨t,rfl⟩:=r;rfl
 |ref _=>cases r;rfl
 |ty _=>cases r;rfl
theorem RelV.inj(r:RelV x u)(q:RelV y u):x=y:=TY (r.abs.symm.trans q.abs)
theorem Vals.inj:∀{a b:List V}{c:zl},Vals a c->Vals b c->a=b
 |_,_,_,.nil,.nil=>rfl
 |_,_,_,.cons r t,.cons d e=>by rw[r.inj d,Vals.inj t e]
section
variable{K:qs}
theorem W2.of(h:H a=some (.lst b)):W2 K H a b:=.inl (.inl h)
theorem Xo.of(h:H a=some (.tup b)):Xo K H a b:=.inl (.inl h)
theorem Inv.list{X:Cx}{c:qe}{f:St}{H:Hp}{s:Shared}{a:Addr}{d:List V}(I:Inv X c f H s)(h:W2 X.K H a d):∃b:List Value,Vals d b/\PlainL s.heap a b.toArray/\d.length<=sizeLine:=by
 rcases h with h|⟨o,b,n,hk,g,i,j,l,r⟩
 ·obtain⟨z,b,n,r,e⟩:=h.ok I.hok;exact⟨b,r,⟨_,n,e,rfl,rfl,rfl⟩,z⟩
 ·refine⟨b.toList,r,⟨o,n,I.X7 a o hk,g,i,by simpa using j⟩,?_⟩;have e:=r.length;simp only[VF]at e;lia
theorem Inv.tuple{X:Cx}{c:qe}{f:St}{H:Hp}{s:Shared}{a:Addr}{d:List V}(I:Inv X c f H s)(h:Xo X.K H a d):∃b:List Value,Vals d b/\IsTup s.heap a b.toArray/\d.length<=sizeLine:=by
 rcases h with h|⟨o,b,n,hk,g,i,j,r⟩
 ·obtain⟨z,b,r,p⟩:=h.ok I.hok;exact⟨b,r,p,z⟩
 ·refine⟨b.toList,r,⟨o,I.X7 a o hk,g,n,by simpa using i⟩,?_⟩;have e:=r.length;simp only[VF]at e;lia
theorem Inv.list_inj{X:Cx}{b:qe}{p:St}{H:Hp}{s:Shared}{a:Addr}{g i:List V}(I:Inv X b p H s)(h:W2 X.K H a g)(q:W2 X.K H a i):g=i:=by
 obtain⟨f,r,⟨o,n,e,_,_,d⟩,_⟩:=I.list h;obtain⟨c,t,⟨v,w,j,_,_,l⟩,_⟩:=I.list q;rw[e]at j;cases j;rw[d]at l;injection l with u _;have:f=c:=by simpa using Tu Array.toList u
 subst this;exact r.inj t
theorem Inv.Y8{X:Cx}{b:qe}{p:St}{H:Hp}{s:Shared}{a:Addr}{g i:List V}(I:Inv X b p H s)(h:Xo X.K H a g)(q:Xo X.K H a i):g=i:=by
 obtain⟨f,r,⟨o,e,_,n,d⟩,_⟩:=I.tuple h;obtain⟨c,t,⟨v,j,_,w,l⟩,_⟩:=I.tuple q;rw[e]at j;cases j;rw[d]at l;injection l with u _;have:f=c:=by simpa using Tu Array.toList u
 subst this;exact r.inj t
end
abbrev Cx.YY(X:Cx)(E:qf):Cx:={X with xe:=E}
noncomputable abbrev Cx.nox(X:Cx):Cx:=X.YY λ_ _=>False
theorem Cx.Ok.YY{X:Cx}(ok:X.Ok)(E:qf):(X.YY E).Ok :=
 ⟨ok.mod,ok.kind,ok.glob,ok.blt,ok.above,ok.inj,ok.has,ok.cab,ok.hd,ok.frames,ok.stk,ok.exf,ok.bs,ok.bsz,ok.noex,ok.exfs,ok.YD,ok.frf⟩
theorem Cx.Ok.X4{X:Cx}(ok:(X.YY E).Ok):X.Ok :=
 ⟨ok.mod,ok.kind,ok.glob,ok.blt,ok.above,ok.inj,ok.has,ok.cab,ok.hd,ok.frames,ok.stk,ok.exf,ok.bs,ok.bsz,ok.noex,ok.exfs,ok.YD,ok.frf⟩
section
theorem Inv.YY{X:Cx}{a:qe}{b:St}{H:Hp}{s:Shared}(I:Inv X a b H s)(E:qf):Inv (X.YY E) a b H s:=⟨I.ok.YY E,I.os,I.bare,I.base,I.loc,I.cell,I.free,I.Yc,I.pin,I.hok,I.len⟩
theorem Inv.X4{X:Cx}{a:qe}{b:St}{H:Hp}{s:Shared}{E:qf}(I:Inv (X.YY E) a b H s):Inv X a b H s:=⟨I.ok.X4,I.os,I.bare,I.base,I.loc,I.cell,I.free,I.Yc,I.pin,I.hok,I.len⟩
theorem SP.X4{X:Cx}(h:SP (X.YY E) c D f d):SP X c D f d:=by
 cases f with
 |next=>obtain⟨a,b,I,q⟩:=h;exact⟨a,b,I.X4,q⟩
 |brk=>obtain⟨a,b,I,q⟩:=h;exact⟨a,b,I.X4,q⟩
 |cont=>obtain⟨a,b,I,q⟩:=h;exact⟨a,b,I.X4,q⟩
 |ret u=>obtain⟨v,a,b,I,r,q⟩:=h;exact⟨v,a,b,I.X4,r,q⟩
theorem Zq.nox{X:Cx}{st:List Stmt}(h:Zq X.nox st t):Zq X st t:=λa s b H D I c =>
 VB (h a s b H D (I.YY _) c) (λ_ _ q=>q.X4) λ_ _ z=>False.elim z
end
section
variable{t u:TS}{te:TE}
noncomputable def DT:TS:=λD a H=>D.nx a H
noncomputable def a6(t u:TS):TS:=λD a H=>t {D with nx:=u D} a H
theorem aO:Zq X [] DT:=λ_ _ a H _ I h=>Wg ⟨a,H,I,h⟩
variable{st:Stmt}
theorem aC{X:Cx}{rest:List Stmt}(c:PS X st t)(d:Zq X rest u):Zq X (st::rest) (a6 t u):=by
 intro a s e H D I h;refine wpAny_execs_cons (W9 (c a s e H {D with nx:=u D} I h) λf g q=>?_)
 cases f with
 |next =>obtain⟨b,i,j,q⟩:=q;exact d a g b i D j q
 |ret v=>exact q
 |brk=>exact q
 |cont=>exact q
theorem aX{X:Cx}(b:PS X st t):Zq X [st] t:=by
 intro a s c H D I h;refine wpAny_execs_cons (W9 (b a s c H D I h) λf d q=>?_)
 cases f with
 |next=>exact Wg q
 |ret v=>exact q
 |brk=>exact q
 |cont=>exact q
noncomputable def KS:TS:=λD a H=>D.ct a H
theorem AQ:PS X (.Continue a) KS:=λ_ _ b H _ I h=>wpAny_Continue ⟨b,H,I,h⟩
theorem Inv.quiet{X:Cx}{a:qe}{b:St}{H:Hp}{s:Shared}(I:Inv X a b H s):interactive X.env=false:=by simp[interactive,I.ok.kind]
noncomputable def nK(te:TE):TS:=λD a H=>te a H λ_ b=>D.nx a b
theorem bK{a:Pos}(d:PE X e te)(f:swapsWith e none a.line X.env=pure false:=by rfl):PS X (.Expr e a) (nK te):=by intro b s c H D I h;exact wpAny_Expr_any (W9 (d b s c H _ I h) λv l ⟨x,g,i,n,j⟩=>⟨c,g,i,j⟩) I.quiet f
noncomputable def E1(te:TE):TS:=λD a H=>te a H D.rt
theorem kI(c:PE X e te):PS X (.Return (some e) d) (E1 te):=by intro a s b H D I h;exact wpAny_Return_some (W9 (c a s b H _ I h) λv l ⟨x,f,g,i,j⟩=>⟨x,b,f,g,i,j⟩)
noncomputable def Nq:TS:=λD _ H=>D.rt .W3 H
theorem Dx:PS X (.Return none a) Nq:=λ_ _ b H _ I h=>wpAny_Return_none ⟨.W3,b,H,I,rfl,h⟩
noncomputable def md(c:TT)(t u:TS):TS:=λD a H=>c a H λb d=>if b=true then t D a d else u D a d
theorem bA(n:PT X c o)(p:Zq X a t)(q:Zq X b u):PS X (.If c a b r) (md o t u):=by
 intro e s f H D I h;refine wpAny_If (W9 (n e s f H _ I h) λd g ⟨i,j,l⟩=>?_)
 cases d with
 |true=>exact p e g f i D j l
 |false=>exact q e g f i D j l
noncomputable def Mo:TS:=λ_ _ _=>False
theorem cZ{X:Cx}:PS X st Mo:=λ_ _ _ _ _ _ h=>h.elim
end
abbrev TG:=V->St->Hp->(St->Hp->Prop)->Prop
abbrev TGs:=List V->St->Hp->(St->Hp->Prop)->Prop
def PG(X:Cx)(a:Expr)(t:TG):Prop :=
 ∀(b:qe)(s:Shared)(d:St)(H:Hp)(v:V)(u:Value)(Q:St->Hp->Prop),Inv X b d H s->RelV v u->t v d H Q ->
  wpAny (model X.prog X.w) X.A (assign a X.env u) (λ_ f=>∃c e,Inv X b c e f/\Q c e) X.xe s
def PGs(X:Cx)(g:List Expr)(t:TGs):Prop :=
 ∀(a:qe)(s:Shared)(c:St)(H:Hp)(d:List V)(e:zl)(Q:St->Hp->Prop),Inv X a c H s->Vals d e->t d c H Q ->
  wpAny (model X.prog X.w) X.A (assignInOrder ((assignEach g X.env).map (·.2)) e) (λ_ h=>∃b f,Inv X a b f h/\Q b f) X.xe s
abbrev Lg:=V->V->V->Hp->(Hp->Prop)->Prop
def K2(X:Cx)(t:Lg):Prop :=
 ∀(a:qe)(s:Shared)(b:St)(H:Hp)(o i v:V)(c d u:Value)(Q:Hp->Prop),Inv X a b H s->RelV o c->RelV i d->RelV v u->t o i v H Q ->
  wpAny (model X.prog X.w) X.A (setItem c d u) (λ_ f=>∃e,Inv X a b e f/\Q e) X.xe s
abbrev TIp:=V->V->Hp->VK->Prop
def PIp(X:Cx)(op:Operator)(t:TIp):Prop :=
 ∀(a:qe)(s:Shared)(b:St)(H:Hp)(x y:V)(v u:Value)(Q:VK),Inv X a b H s->RelV x v->RelV y u->t x y H Q ->
  wpAny (model X.prog X.w) X.A (inplaceOp op v u) (EP X a b Q) X.xe s
section
variable{X:Cx}
noncomputable def dE(i:Nat):TG:=λv a H Q=>Q (a.set i (some v)) H
theorem f9(b:X.N.Nodup)(c:X.N[i]?=some x)(d:Loc X.env.scope x)(e:X.fn x=true\/X.env.scope.names.lookup x=some .local:=by first|exact .inl rfl|exact .inr rfl|assumption):PG X (.Name x f) (dE i):=by intro a s j H v u Q I r h;exact wpAny_assign_Name (mT I b c d r (λl g=>⟨_,H,g,h⟩) e)
noncomputable def F8:TGs:=λa b H Q=>a=[]/\Q b H
noncomputable def nv(t:TG)(u:TGs):TGs:=λb c H Q=>∃v r,b=v::r/\t v c H λa d=>u r a d Q
theorem dH:PGs X [] F8:=by intro a s b H c d Q I r h;obtain⟨e,h⟩:=h;subst e;cases r;exact assignInOrder_nil ⟨b,H,I,h⟩
theorem bB(d:PG X e t)(f:PGs X b u)
  (g:(assignEach (e::b) X.env).map (·.2)=assign e X.env::(assignEach b X.env).map (·.2):=by rfl):PGs X (e::b) (nv t u):=by
 intro a s i H w x Q I r h;obtain⟨v,y,j,h⟩:=h;subst j
 cases r with
 |cons r l =>rw[g];refine Ww (W9 (d a s i H _ _ _ I r h) λ_ n ⟨c,o,p,q⟩=>?_);exact f a n c o _ _ Q p l q
noncomputable def Ee(K:qs)(n:Nat)(t:TGs):TG:=λv c H Q=>∃a b,v=.ref a/\Xo K H a b/\b.length=n/\t b c H Q
theorem fX(l:X.calm=true)(h:PGs X d t)
  (p:(assignEach d X.env).length=n:=by rfl) (f:(assignEach d X.env).findIdx? (·.1)=none:=by rfl):PG X (.Tuple d k q) (Ee X.K n t):=by
 intro c s i H v u Q I r g;obtain⟨a,w,x,y,z,g⟩:=g;subst x;cases r;obtain⟨A,j,B,J⟩:=I.tuple y;refine assign_Tuple_tuple (I.ok.hd l) B (by simp[p,<- z,j.length]) f λC E=>?_;have G:Inv X c i H {s with heap:=C}:=I.kept (t':=s.toks) λb o e=>E b o (Tw (Te e)) e;exact h c _ i H w _ Q G (by simpa using j) g
noncomputable def NJ(to b:TE)(t:Lg):TG:=λv a H Q=>to a H λo c=>b a c λi d=>t o i v d λe=>Q a e
theorem yt(f:PE X o to)(g:PE X i j)(l:K2 X t)
  (n:∀v,assign (.Subscript o i c) X.env v=(do
   let b <- holding [v] (eval o X.env);let d <- holding [v,b] (eval i X.env)
   standAt c
   holding [v,b,d] (setItem b d v)
   release [v,b,d] []):=by intro _;rfl):PG X (.Subscript o i c) (NJ to j t):=by
 intro a s e H v u Q I r h;rw[n];refine SO (Vo (W9 (f a s e H _ I h) λb p ⟨x,q,w,z,A⟩=>?_));refine SO (Vo (W9 (g a p e q _ w A) λd B ⟨y,C,E,G,J⟩=>?_));refine SO (VD (SO (Vo (W9 (l a B e C x y v b d u _ E z G r J) λ_ O ⟨L,M,N⟩=>?_))));exact wpAny_release ⟨e,L,M,N⟩
noncomputable def rH(b:TE)(g:TG):TS:=λD a H=>b a H λx c=>g x a c D.nx
theorem gY{b:Pos}(f:PE X e i)(j:PG X c g)(l:swapsWithSole [c] e b.line X.env=pure false:=by rfl)(n:swappedStores [c] e X.env=pure none:=by rfl)
  (o:(assignEach [c] X.env).map (·.2)=[assign c X.env]:=by rfl):PS X (.Assign [c] e b) (rH i g):=by
 intro a s d H D I h;refine wpAny_Assign_stores (W9 (f a s d H _ I h) λv p ⟨x,r,t,u,w⟩=>?_) l n;rw[o];exact W9 (j a p d r x v _ t u w) λ_ y q=>q
theorem tX{a:Pos}(d:X.N.Nodup)(f:X.N[i]?=some x)(g:Loc X.env.scope x)(j:PE X e l)(n:swapsWith e (some (.Name x b)) a.line X.env=pure false:=by rfl)(o:X.fn x=true\/X.env.scope.names.lookup x=some .local:=by first|exact .inl rfl|exact .inr rfl|assumption) :
  PS X (.Assign [.Name x b] e a) (rH l (dE i)):=by
 intro c s p H D I h;refine wpAny_Assign_Name (W9 (j c s p H _ I h) λv z ⟨y,q,r,t,u⟩=>?_) n;exact mT r d f g t (λA w=>⟨_,q,w,u⟩) o
noncomputable def Mq(i j:Nat)(b:TA):TS:=λD a H=>b a H λc d=>∃v w,c=[v,w]/\D.nx ((a.set i (some v)).set j (some w)) d
theorem nR{r:Pos}{t u d}(Y:X.calm=true)(G:X.N.Nodup)(hi:X.N[i]?=some x)(hj:X.N[j]?=some y)(z:i≠j)
  (J:X.env.scope.names.lookup x=some .local) (L:X.env.scope.names.lookup y=some .local) (ha:PA X [a,b] ta)
  (hw:swappedStores [.Tuple [.Name x M,.Name y O] t pt] (.Tuple [a,b] u d) X.env=pure (some [x,y]))
  (hs:swapsWithSole [.Tuple [.Name x M,.Name y O] t pt] (.Tuple [a,b] u d) r.line X.env=pure false:=by rfl) :
  PS X (.Assign [.Tuple [.Name x M,.Name y O] t pt] (.Tuple [a,b] u d) r) (Mq i j ta):=by
 intro c s Q H D I h;rw[exec_Assign_arm];refine SO (VD ?_);rw[hs];refine SO (Tc ?_);rw[PC ⋯];refine SO (Tuple_ (W9 (ha _ c s Q H _ I h) λus g ⟨vs,T,I1,r1,B⟩=>?_));obtain⟨v,w,e1,B⟩:=B;subst e1
 obtain⟨l,n,rfl,rv,C⟩:∃l n,us=[l,n]/\RelV v l/\RelV w n:=by
  cases r1 with
  |cons p q =>
   cases q with
   |cons p' q' =>cases q';exact⟨_,_,rfl,p,p'⟩
 refine Vg ?_ (by show 2<=sizeLine;decide);have I2:Inv X c Q T {g with heap:=g.heap.push {cls:=.type "tuple",data:=.seq [l,n].toArray}}:=I1.kept (t':=g.toks) λb o e=>SQ _ e;rw[hw];refine SO (Tc ?_);show wpAny (model X.prog X.w) X.A (do rule "assign.swapped-stores";let f <- unpackItems (.ref g.heap.objs.size) 2 none;assignInOrder [λv=>bindName X.env y v,λv=>bindName X.env x v] f.reverse;pure Flow.next) _ _ _;refine SO (Wh (SO (unpackItems_tuple (items:=#[l,n]) (I.ok.hd Y) (Wb g.heap _) λh' E=>?_)));have I3:=I2.kept (h':=h') (t':=g.toks) λb o e=>E b o (Tw (Te e)) e;show wpAny _ _ (assignInOrder [λv=>bindName X.env y v,λv=>bindName X.env x v] [n,l] >>= λ_=>pure Flow.next) _ _ _;refine SO (Ww (wpAny_bindName (mT I3 G hj (.inl L) C (λs2 I4=>?_) (.inr L))));refine Ww (wpAny_bindName (mT I4 G hi (.inl J) rv (λs3 U=>assignInOrder_nil (Tc ?_)) (.inr J)));rw[List.set_comm _ _ (Tf z)]at U;exact⟨_,T,U,B⟩
noncomputable def NV(i:Nat)(b:TE)(c:TIp):TS:=λD a H=>∃x,a[i]?=some (some x)/\b a H λy d=>c x y d λz e=>D.nx (a.set i (some z)) e
theorem yz(t:X.N.Nodup)(n:X.N[i]?=some x)(g:Loc X.env.scope x)(B:PE X e C)(E:PIp X op G)(J:X.fn x=true\/X.env.scope.names.lookup x=some .local:=by first|exact .inl rfl|exact .inr rfl|assumption) :
  PS X (.AugAssign (.Name x o) op e L) (NV i C G):=by
 intro a s p H D I h;obtain⟨v,M,h⟩:=h;obtain⟨m,O,Q⟩:=I.loc;have j:Vis X.env.scope x:=by rcases g with k|k;exact .inl k;exact .inr (.inl k)
 obtain⟨u,r,l⟩:=Q i x v n M j;refine wpAny_AugAssign_Name ?_
 have q:wpAny (model X.prog X.w) X.A (eval e X.env) (λw d=>wpAny (model X.prog X.w) X.A (inplaceOp op u w) (λr f=>wpAny (model X.prog X.w) X.A (storeName X.env x r) (λ_=>SP X a D .next) X.xe f) X.xe d) X.xe s:=by refine W9 (B a s p H _ I h) λw T ⟨y,U,Y,r1,q1⟩=>?_;refine W9 (E a T p U v y u w _ Y r r1 q1) λz s2 ⟨zv,H2,I2,r2,q2⟩=>?_;exact mT I2 t n g r2 (λs3 I3=>⟨_,H2,I3,q2⟩) J
 rcases l with⟨hk,hm⟩|⟨hk,c,hc,b⟩
 ·exact wpAny_loadName_local I.ok.kind hk O hm q
 ·rcases hk with hk|hk
  ·exact wpAny_loadName_cell I.ok.kind hk hc b q
  ·rcases g with k|k
   ·have:X.env.scope.names.lookup x=some .free:=hk;rw[k]at this;cases this
   ·have:X.env.scope.names.lookup x=some .free:=hk;rw[k]at this;cases this
def Nl(to e f:TE)(a:V->V->Hp->VK->Prop)(d:TIp)(b:Lg):TS:=λD c H=>to c H λo g=>e c g λi h=>a o i h λx j=>f c j λy l=>d x y l λz n=>b o i z n λp=>D.nx c p
def ME(X:Cx)(t:V->V->Hp->VK->Prop):Prop :=
 ∀(a:qe)(s:Shared)(b:St)(H:Hp)(o i:V)(c d:Value)(Q:VK),Inv X a b H s->RelV o c->RelV i d->t o i H Q ->
  wpAny (model X.prog X.w) X.A (getItem c d) (EP X a b Q) X.xe s
theorem Dw(w:PE X o to)(x:PE X i y)(z:ME X g)(A:PE X e B)(C:PIp X op l)(E:K2 X j)
  (G:∀c d b,augStore i c d b=(do holding [b,c,d] (setItem c d b);release [b,c,d] [];pure .next):=by intros;rfl):PS X (.AugAssign (.Subscript o i p) op e J) (Nl to y B g l j):=by
 intro a s f H D I h;refine wpAny_AugAssign_SubscriptAny (W9 (w a s f H _ I h) λc L ⟨q,M,N,r,O⟩=>?_) G;refine W9 (x a L f M _ N O) λd Q ⟨t,T,U,u,Y⟩=>?_;refine W9 (z a Q f T q t c d _ U r u Y) λn s3 ⟨x3,H3,I3,r3,q3⟩=>?_;refine W9 (A a s3 f H3 _ I3 q3) λv s4 ⟨x4,H4,I4,r4,q4⟩=>?_;refine W9 (C a s4 f H4 x3 x4 n v _ I4 r3 r4 q4) λb s5 ⟨x5,H5,I5,r5,q5⟩=>?_;exact W9 (E a s5 f H5 q t x5 c d b _ I5 r u r5 q5) λ_ s6 ⟨H6,I6,q6⟩=>⟨f,H6,I6,q6⟩
noncomputable def ipI(f:Int->Int->Int):TIp:=λx y H Q=>∃i j,x=.int i/\y=.int j/\Q (.int (f i j)) H
theorem sY:PIp X .Add (ipI λi j=>i+j):=by intro a s f H x y v u Q I b c h;obtain⟨i,j,d,e,q⟩:=h;subst d;subst e;obtain⟨t,rfl⟩:=b;obtain⟨g,rfl⟩:=c;exact iadd_int ⟨.int _,H,I.tok _,⟨_,rfl⟩,q⟩
theorem Lv:PIp X .Sub (ipI λi j=>i - j):=by intro a s f H x y v u Q I b c h;obtain⟨i,j,d,e,q⟩:=h;subst d;subst e;obtain⟨t,rfl⟩:=b;obtain⟨g,rfl⟩:=c;exact isub_int ⟨.int _,H,I.tok _,⟨_,rfl⟩,q⟩
end
section
def uI(c:TT)(h:TS):TS:=λD a H=>∃W:Nat->St->Hp->Prop,(∃m,W m a H)/\∀m a H,W m a H ->
 c a H λb e=>if b=true then ∃N:St->Hp->Prop,(∀d f,N d f->∃g,g<m/\W g d f)/\h {D with nx:=N,ct:=N,bk:=D.nx} a e else D.nx a e
theorem tY{X:Cx}(x:PassesOwn (model X.prog X.w) X.A X.env X.xe)(G:PT X c J)(L:Zq X body M):PS X (.While c body [] O) (uI J M):=by
 intro a s Q H D I h;obtain⟨W,⟨T,U⟩,g⟩:=h;refine wpAny_While (codeAny_whileLoop (λn Y=>∃i y,Inv X a i y Y/\W n i y) ?_ T ⟨Q,H,I,U⟩);rintro n s1 ⟨e,z,I1,w1⟩;refine Vb x (W9 (G a s1 e z _ I1 (g n e z w1)) λb s2 ⟨B,C,l⟩=>?_)
 cases b with
 |true =>
  obtain⟨N,E,l⟩:=l;rw[SV rfl];refine Vb x (W9 (L a s2 e B _ C l) λf s3 o=>?_)
  cases f with
  |next =>obtain⟨d,j,p,q⟩:=o;obtain⟨r,t,u⟩:=E d j q;exact⟨r,t,d,j,p,u⟩
  |cont =>obtain⟨d,j,p,q⟩:=o;obtain⟨r,t,u⟩:=E d j q;exact⟨r,t,d,j,p,u⟩
  |brk=>exact o
  |ret v=>exact o
 |false =>rw[PC SW];exact Wg ⟨e,B,C,l⟩
end
structure It where
 go:Nat->Hp->Prop
 YZ:Nat->Hp->V->Hp->Prop
 stop:Nat->Hp->Prop
def uN(X:Cx)(a:qe)(H:Hp)(b:Addr):Prop :=
 H b=none/\b≠X.env.locals/\b∉X.fs/\(b∈X.ex\/X.s₀.heap.objs.size<=b)/\(∀x c,X.env.cells.lookup x=some c->c≠b)/\∀p∈X.pn++a,p.1≠b
theorem Inv.YL{X:Cx}{a:qe}{g:St}{H f:Hp}{s:Shared}{b:Addr}(I:Inv X a g H s)(d:s.heap.objs.size<=b)(h:f b=none):uN X a f b:=by
 refine⟨h,Ur (Tv I.lt d),I.nofs d,.inr (Tz I.sz d),λx c e z=>?_,λp i z=>?_⟩
 ·obtain⟨v,q⟩:=I.cell x c e;exact absurd (Tv q.lt (by rw[z];exact d)) (UP _)
 ·exact absurd (Tv (Te (I.pin p i).1) (by rw[z];exact d)) (UP _)
structure pj(P:Program)(w:World)(K:qs)(tg:Expr)(J:It)(fp:yy)(it:Addr)(tn:Nat->Heap->Prop):Prop where
 mem:it∈fp
 obj:∀i h,tn i h->∀b∈fp,∃o,h.get? b=some o/\∀v,o.data≠.cell v
 keep:∀i h h',tn i h->(∀b∈fp,∀o,h.get? b=some o->h'.get? b=some o)->tn i h'
 item:∀(X:Cx),X.prog=P->X.w=w->X.K=K->X.calm=true->∀(i:Nat)(pins:qe)(s:Shared)(σ:St)(H:Hp)(E:qf),Inv X pins σ H s->(∀b∈fp,uN X pins H b)->tn i s.heap->J.go i H ->
  wpAny (model P w) X.A (pyNext (.ref it)) (λr s1=>∃u,r=some u /\
   wpAny (model P w) X.A (letOwnedTupleGo tg (.ref it) u) (λ_ s2=>∃x H',Inv X pins σ H' s2/\RelV x u/\J.YZ i H x H'/\tn (i+1) s2.heap/\∀b∈fp,H' b=none) E s1) E s
 done:∀(X:Cx),X.prog=P->X.w=w->X.K=K->X.calm=true->∀(i:Nat)(pins:qe)(s:Shared)(σ:St)(H:Hp)(E:qf),Inv X pins σ H s->(∀b∈fp,uN X pins H b)->tn i s.heap->J.stop i H ->
  wpAny (model P w) X.A (pyNext (.ref it)) (λr s1=>r=none/\Inv X pins σ H s1) E s
 self:∀(A:Around)(i:Nat)(s:Shared)(Q:qf)(E:qf),tn i s.heap->Q (.ref it) s->wpAny (model P w) A (pyIter (.ref it)) Q E s
abbrev TI:=St->Hp->(It->Hp->Prop)->Prop
def PIE(X:Cx)(a:qe)(i:St)(j:Expr)(R:It->Hp->Prop)(c:Value)(e:Shared):Prop :=
 ∃(f:Addr)(g:yy)(h:Nat->Heap->Prop)(J:It)(d:Hp),c=.ref f/\Inv X a i d e/\pj X.prog X.w X.K j J g f h/\h 0 e.heap/\(∀b∈g,uN X a d b)/\R J d
def PI(X:Cx)(c iter:Expr)(d:TI):Prop :=
 ∀(a:qe)(s:Shared)(b:St)(H:Hp)(R:It->Hp->Prop),Inv X a b H s->d b H R ->
  wpAny (model X.prog X.w) X.A (eval iter X.env) (λv e=>wpAny (model X.prog X.w) X.A (pyIter v) (PIE X a b c R) X.xe e) X.xe s
theorem wq{s:Shared}(b:s.heap.get? c=some o)(d:o.cls=.type n)(e:o.data=.fields f)
  (g:["enumerate","zip","dict_itemiterator","dict_reverseitemiterator","odict_iterator","itertools.zip_longest","itertools.pairwise"].contains n=false) (a:Q () s):wpAny M A (letOwnedTupleGo i (.ref c) u) Q E s:=by
 unfold letOwnedTupleGo
 cases i<;>first
  |exact Tc a
  | (cases u<;>first
    |exact Tc a
    | (refine SO (wpAny_load b ?_)
       rw[d,e];show wpAny M A (if (["enumerate","zip","dict_itemiterator","dict_reverseitemiterator","odict_iterator","itertools.zip_longest","itertools.pairwise"].contains n&&f[0]?==some (rawInt _))=true then _ else _) Q E s;rw[PC (by intro h;rw[g,Vj]at h;cases h)];exact Tc a))
noncomputable def Itl(K:qs)(a:Addr):It :=
 ⟨λi H=>∃b x,W2 K H a b/\b[i]?=some x,λi H x c=>c=H/\∀b,W2 K H a b->b[i]?=some x,λi H=>∃b,W2 K H a b/\b.length<=i⟩
noncomputable def Itt(K:qs)(a:Addr):It :=
 ⟨λi H=>∃b x,Xo K H a b/\b[i]?=some x,λi H x c=>c=H/\∀b,Xo K H a b->b[i]?=some x,λi H=>∃b,Xo K H a b/\b.length<=i⟩
noncomputable def Itr(lo:Int)(n:Nat):It:=⟨λi _=>i<n,λi H x a=>a=H/\x=.int (lo+i),λi _=>n<=i⟩
variable{K:qs}
theorem E4(a g:Addr):pj P w K tg (Itl K a) [g] g (λi h=>h.IsListIter g a i) where
 mem:=by simp
 obj:=λi h st b j=>by
  have e:b=g:=by simpa using j
  subst e;obtain⟨o,e,c,d⟩:=st;exact⟨o,e,λv z=>by rw[d]at z;cases z⟩
 keep:=λi h n st k=>st.at λo e=>k g (by simp) o e
 item:=by intro X t y A T i f s U H E I q st B;subst t y A;obtain⟨Y,x,r,C⟩:=B;obtain⟨G,J,p,hz⟩:=I.list r;obtain⟨u,hu,ru⟩:=J.get C;obtain⟨L,M,f2,N,O,Q⟩:=q g (by simp);refine wpAny_pyNext_list_item st p.isList (x:=u) (by simpa using hu) λn l sb=>?_;have I1:Inv X f U H {s with heap:=n}:=I.turned (t':=s.toks) (λb o j e=>(sb.2 b j).trans e) L M N O Q;obtain⟨o,e,c,d⟩:=id l;exact⟨u,rfl,wq (s:={s with heap:=n}) e c d ⋯ ⟨x,H,I1,ru,⟨rfl,λys hy=>by rw[I.list_inj hy r];exact C⟩,l,λb j=>(q b j).1⟩⟩
 done:=by intro X t y A T i f s U H E I q st B;subst t y A;obtain⟨Y,r,C⟩:=B;obtain⟨G,J,p,hz⟩:=I.list r;obtain⟨L,M,f2,N,O,Q⟩:=q g (by simp);have hl:=J.length;exact wpAny_pyNext_list_end (I.ok.hd T) st p.isList (by simp;lia) λn eb=>⟨rfl,I.turned (t':=s.toks) (λb o j e=>eb b o j e) L M N O Q⟩
 self:=λ_ _ _ _ _ st h=>wpAny_pyIter_listiter st h
theorem CH(a g:Addr):pj P w K tg (Itt K a) [g] g (λi h=>h.IsTupleIter g a i) where
 mem:=by simp
 obj:=λi h st b j=>by
  have e:b=g:=by simpa using j
  subst e;obtain⟨o,e,c,d⟩:=st;exact⟨o,e,λv z=>by rw[d]at z;cases z⟩
 keep:=λi h q st k=>st.at λo e=>k g (by simp) o e
 item:=by intro X y A B T i f s U H E I r st C;subst y A B;obtain⟨Y,x,t,G⟩:=C;obtain⟨l,J,p,hz⟩:=I.tuple t;obtain⟨u,hu,ru⟩:=J.get G;obtain⟨L,M,f2,N,O,Q⟩:=r g (by simp);refine wpAny_pyNext_tuple_item st (show s.heap.IsTuple a l.toArray from p) (x:=u) (by simpa using hu) λq n sb=>?_;have I1:Inv X f U H {s with heap:=q}:=I.turned (t':=s.toks) (λb o j e=>(sb.2 b j).trans e) L M N O Q;obtain⟨o,e,c,d⟩:=id n;exact⟨u,rfl,wq (s:={s with heap:=q}) e c d ⋯ ⟨x,H,I1,ru,⟨rfl,λys hy=>by rw[I.Y8 hy t];exact G⟩,n,λb j=>(r b j).1⟩⟩
 done:=by intro X y A B T i f s U H E I r st C;subst y A B;obtain⟨Y,t,G⟩:=C;obtain⟨l,J,p,hz⟩:=I.tuple t;obtain⟨L,M,f2,N,O,Q⟩:=r g (by simp);have hl:=J.length;exact wpAny_pyNext_tuple_end (I.ok.hd T) st (show s.heap.IsTuple a l.toArray from p) (by simp;lia) λq eb=>⟨rfl,I.turned (t':=s.toks) (λb o j e=>eb b o j e) L M N O Q⟩
 self:=λ_ _ _ _ _ st h=>wpAny_pyIter_tupleiter st h
theorem CG{K:PySem.W.Frag}(a:Addr)(lo:Int)(n:Nat):pj P w K U (Itr lo n) [a] a (λi h=>IsRangeIter h a (lo+(i:Nat)*1) ((n:Int) - (i:Nat)) 1) where
 mem:=by simp
 obj:=λi h st b d=>by
  have e:b=a:=by simpa using d
  subst e
  exact⟨_,st,λv z=>by
   have L:Data.fields _=Data.cell v:=z;cases L⟩
 keep:=λi h g st k=>k a (by simp) _ st
 item:=by intro X l p q r i c s G H E I j st u;subst l p q;obtain⟨x,y,M,A,B,C⟩:=j a (by simp);have W:=Walks.range (prog:=X.prog) (w:=X.w) (I.ok.hd r) a lo 1 n;refine W.item i s _ _ u st λv g J N f O=>?_;obtain⟨t,rfl⟩:=N;have Q:Inv X c G H {s with heap:=g,toks:=J}:=I.turned (λb o d e=>O b o (by simpa using d) e) x y A B C;refine⟨_,rfl,wq (s:={s with heap:=g,toks:=J}) (n:="range_iterator") f rfl rfl ⋯ ⟨.int (lo+i),H,Q,⟨t,?_⟩,⟨rfl,rfl⟩,f,λb d=>(j b d).1⟩⟩;rw[Int.mul_one]
 done:=by intro X l p q r i c s G H E I j st u;subst l p q;obtain⟨x,y,M,A,B,C⟩:=j a (by simp);exact wpAny_pyNext_range_end (I.ok.hd r) st (by have:n<=i:=u;lia) λg T=>⟨rfl,I.turned (t':=s.toks) (λb o d e=>T b o d e) x y A B C⟩
 self:=λ_ _ _ _ _ st h=>wpAny_pyIter_rangeiter st h
section
noncomputable def wt(K:qs)(c:TE):TI:=λd H R=>c d H λx b=>∃a,x=.ref a/\(∃e,W2 K b a e)/\R (Itl K a) b
noncomputable def IW(K:qs)(c:TE):TI:=λd H R=>c d H λx b=>∃a,x=.ref a/\(∃e,Xo K b a e)/\R (Itt K a) b
theorem fM(g:PE X l i):PI X z l (wt X.K i):=by
 intro c s j H R I h;refine W9 (g c s j H _ I h) λv d ⟨x,n,f,r,t⟩=>?_;obtain⟨a,e,⟨A,u⟩,q⟩:=t;subst e;cases r;obtain⟨w,B,p,C⟩:=f.list u;refine Uv p.isList ?_;refine⟨d.heap.objs.size,[d.heap.objs.size],_,_,n,rfl,f.kept (t':=d.toks) λb o e=>SQ _ e,E4 a _,⟨_,TN _ rfl,rfl,rfl⟩,λb y=>?_,q⟩;have e:b=d.heap.objs.size:=by simpa using y
 subst e;exact f.YL (SY _) (f.hok.fresh (SY _))
theorem kH(i:PE X l j):PI X z l (IW X.K j):=by
 intro c s n H R I h;refine W9 (i c s n H _ I h) λv d ⟨x,r,f,t,u⟩=>?_;obtain⟨a,e,⟨A,w⟩,q⟩:=u;subst e;cases t;obtain⟨g,B,p,C⟩:=f.tuple w;refine wpAny_pyIter_tuple (show d.heap.IsTuple a g.toArray from p) ?_;refine⟨d.heap.objs.size,[d.heap.objs.size],_,_,r,rfl,f.kept (t':=d.toks) λb o e=>SQ _ e,CH a _,⟨_,TN _ rfl,rfl,rfl⟩,λb y=>?_,q⟩;have e:b=d.heap.objs.size:=by simpa using y
 subst e;exact f.YL (SY _) (f.hok.fresh (SY _))
theorem Ht{X:Cx}{h:Expr}{c:qe}{d:St}{H:Hp}{s:Shared}{R:It->Hp->Prop}{E:qf}{lo a:Int}{t u v:Tok}{f:Nat}(I:Inv X c d H s)(i:-(2 ^ 62)<=lo)(j:lo<2 ^ 62)(l:-(2 ^ 62)<=a)(n:a<2 ^ 62)
  (q:R (Itr lo (a - lo).toNat) H):wpAny (model X.prog X.w) X.A (pyIter (.ref s.heap.objs.size)) (PIE X c d h R) E {s with heap:=s.heap.push {cls:=.type "range",data:=.fields #[.int lo t,.int a u,.int 1 v]},toks:=f}:=by
 refine wpAny_pyIter_range (IsRange.new ..) (small_one i j l n) ?_;have g:Inv X c d H {s with heap:=s.heap.push {cls:=.type "range",data:=.fields #[.int lo t,.int a u,.int 1 v]},toks:=f}:=I.kept λb o e=>SQ _ e
 refine⟨(s.heap.push {cls:=.type "range",data:=.fields #[.int lo t,.int a u,.int 1 v]}).objs.size,[(s.heap.push {cls:=.type "range",data:=.fields #[.int lo t,.int a u,.int 1 v]}).objs.size],_,_,H,rfl,
  g.kept (t':=f) λb o e=>SQ _ e,CG _ lo (a - lo).toNat,?_,λb p=>?_,q⟩
 ·have r:lo+((0:Nat):Int)*1=lo:=by simp
  have x:(((a - lo).toNat:Nat):Int) - ((0:Nat):Int)=Builtin.Range.rangeSize lo a 1:=by rw[rangeSize_one];split<;>lia
  show IsRangeIter _ _ (lo+((0:Nat):Int)*1) ((((a - lo).toNat:Nat):Int) - ((0:Nat):Int)) 1;rw[r,x];exact TN _ rfl
 ·have e:b=(s.heap.push {cls:=.type "range",data:=.fields #[.int lo t,.int a u,.int 1 v]}).objs.size:=by simpa using p
  subst e;exact g.YL (SY _) (g.hok.fresh (SY _))
noncomputable def Gq(a:TA):TI:=λb H R=>a b H λc d=>∃j:Int,c=[.int j]/\-(2 ^ 62)<=j/\j<2 ^ 62/\R (Itr 0 j.toNat) d
theorem iG(f:Gl X "range")(g:X.mg "range"=none)(i:PA X [a] l)(n:starEach [a] X.env=[(false,eval a X.env)]:=by rfl):PI X y (.Call (.Name "range" p) [a] [] c) (Gq l):=by
 intro b s o H R I h;refine Call_ (lF I f g boot_range (Uq (W9 (i c b s o H _ I h) λz A ⟨B,C,u,v,d⟩=>?_) n rfl));obtain⟨j,e,d,w,q⟩:=d;subst e
 cases v with
 |cons r x =>cases x;obtain⟨t,rfl⟩:=r;exact call_range_1 (Ht u ⋯ ⋯ d w (by simpa using q))
def Bk(f:TI)(g:TG)(h:TS):TS:=λD a H=>f a H λJ j=>∃W:Nat->Nat->St->Hp->Prop,(∃m,W 0 m a j)/\∀i m a H,W i m a H ->
 (J.stop i H/\D.nx a H)\/(J.go i H/\∃N:St->Hp->Prop,(∀b c,N b c->∃e,e<m/\W (i+1) e b c)/\∀x c,J.YZ i H x c->g x a c λd l=>h {D with nx:=N,ct:=N,bk:=D.nx} d l)
noncomputable def tV(a:yy)(h:Heap):List (Addr×Obj):=a.filterMap λb=>(h.get? b).map λo=>(b,o)
theorem lG{h:Heap}(a:b∈c)(e:h.get? b=some o):(b,o)∈tV c h:=U6.mpr ⟨b,a,by rw[e];rfl⟩
theorem Et(a:p∈tV c h):p.1∈c/\h.get? p.1=some p.2:=by
 obtain⟨b,d,e⟩:=U6.mp a
 cases q:h.get? b with
 |none=>rw[q]at e;cases e
 |some o =>rw[q]at e;have f:(b,o)=p:=TY e;subst f;exact⟨d,q⟩
theorem Inv.pinned{X:Cx}{a:qe}{f:St}{H:Hp}{s:Shared}{c:yy}(I:Inv X a f H s)(i:∀b∈c,uN X a H b)(j:∀b∈c,∃o,s.heap.get? b=some o/\∀v,o.data≠.cell v):Inv X (a++tV c s.heap) f H s :=
 I.ZX λp l=>(Tq.mp l).elim (λz=>I.pin p (Uj _ z)) λz=>by obtain⟨g,e⟩:=Et z;obtain⟨n,q,r,_⟩:=i p.1 g;obtain⟨o,h,d⟩:=j p.1 g;rw[e]at h;cases h;exact⟨e,n,q,r,d⟩
theorem Inv.Yo{X:Cx}{a c:qe}{b:St}{H:Hp}{s:Shared}(I:Inv X (a++c) b H s):Inv X a b H s:=I.ZX λp d=>I.pin p (Uj _ (VA _ d))
theorem iD{X:Cx}(C:PassesOwn (model X.prog X.w) X.A X.env X.xe)(hc:X.calm=true)(hi:PI X tg iter wi)(hg:PG X tg g)(j:Zq X body tb)
  (hs:∀x,foldedSetIterable iter X.env x=pure x:=by intro _;rfl):PS X (.For tg iter body [] pos) (Bk wi g tb):=by
 intro a s σ H D I h;refine wpAny_For (W9 (hi a s σ H _ I h) λv s1 h1=>W9 h1 λitv s2 h2=>?_) hs;obtain⟨it,E,tn,J,H2,e,I2,T,U,f2,W,⟨m0,w0⟩,G⟩:=h2;subst e;have zy:∀{y:Hp},(∀b∈E,y b=none)->∀b∈E,uN X a y b:=λhn b j=>⟨hn b j,(f2 b j).2⟩
 refine codeAny_forLoop_any (λn s'=>∃i l y,Inv X a l y s'/\tn i s'.heap/\(∀b∈E,y b=none)/\W i n l y) ?_ m0 ⟨0,σ,H2,I2,U,λb j=>(f2 b j).1,w0⟩;rintro n s3 ⟨i,p,Q,I3,L,M,w3⟩;rcases G i n p Q w3 with⟨stop,qn⟩|⟨go,N,hN,step⟩
 ·refine Vb C (W9 (T.done X rfl rfl rfl hc i a s3 p Q X.xe I3 (zy M) L stop) λr s4 ⟨Y,I4⟩=>?_);subst Y;exact Wg ⟨p,Q,I4,qn⟩
 ·refine Vb C (W9 (T.item X rfl rfl rfl hc i a s3 p Q X.xe I3 (zy M) L go) λr s4 ⟨u,Y,h4⟩=>?_);subst Y;refine Vb C (W9 h4 λ_ s5 ⟨x,H5,I5,r5,y5,B,fr5⟩=>?_);have I5':=I5.pinned (zy fr5) (T.obj _ _ B);refine Vb C (W9 (hg _ s5 p H5 x u _ I5' r5 (step x H5 y5)) λ_ s6 ⟨σ6,H6,I6,q6⟩=>?_);refine Vb C (W9 (j _ s6 σ6 H6 _ I6 q6) λf s7 z=>?_)
  have again:∀{c:St}{q:Hp},Inv X (a++tV E s5.heap) c q s7->N c q->∃m,m<n/\∃i l y,Inv X a l y s7/\tn i s7.heap/\(∀b∈E,y b=none)/\W i m l y:=λ{c q} t O=>by obtain⟨m',hm,w7⟩:=hN c q O;refine⟨m',hm,i+1,c,q,t.Yo,T.keep _ _ _ B λb j o e=>(t.pin (b,o) (Uj _ (Uj _ (lG j e)))).1,λb j=>?_,w7⟩;obtain⟨o,e,d⟩:=T.obj _ _ B b j;exact(t.pin (b,o) (Uj _ (Uj _ (lG j e)))).2.1
  cases f with
  |next=>obtain⟨c,q,t,O⟩:=z;exact again t O
  |cont=>obtain⟨c,q,t,O⟩:=z;exact again t O
  |brk=>obtain⟨c,q,t,z⟩:=z;exact⟨c,q,t.Yo,z⟩
  |ret v=>obtain⟨x7,c,q,t,r7,z⟩:=z;exact⟨x7,c,q,t.Yo,r7,z⟩
end
theorem sS{K:PySem.W.Frag}{a:Addr}{xs:List V}{g:TG}{l:TS}{D:jF}{b:St}{H:Hp}(Pv:Nat->St->Hp->Prop)(o:Pv 0 b H)(r:∀i b H,i<=xs.length->Pv i b H->W2 K H a xs)
  (s:∀i x b H,xs[i]?=some x->Pv i b H->g x b H λc j=>l {D with nx:=Pv (i+1),ct:=Pv (i+1),bk:=D.nx} c j) (t:∀b H,Pv xs.length b H->D.nx b H) :
  ∃W:Nat->Nat->St->Hp->Prop,(∃m,W 0 m b H)/\∀i m b H,W i m b H ->
   ((Itl K a).stop i H/\D.nx b H)\/((Itl K a).go i H/\∃N:St->Hp->Prop,(∀d f,N d f->∃n,n<m/\W (i+1) n d f)/\∀x f,(Itl K a).YZ i H x f->g x b f λc j=>l {D with nx:=N,ct:=N,bk:=D.nx} c j):=by
 refine⟨λi m b H=>m=xs.length - i/\i<=xs.length/\Pv i b H,⟨xs.length,by simp,Uk _,o⟩,?_⟩;rintro i m b H ⟨rfl,u,p⟩;have q:=r i b H u p;by_cases h:i<xs.length
 ·refine .inr ⟨⟨xs,xs[i],q,by simp[h]⟩,Pv (i+1),λd f v=>⟨xs.length - (i+1),⋯,rfl,h,v⟩,λx f y=>?_⟩;obtain⟨e,y⟩:=y;subst e;exact s i x b _ (y xs q) p
 ·have e:i=xs.length:=by lia
  subst e;exact .inl ⟨⟨xs,q,SY _⟩,t b H p⟩
theorem rN{K:PySem.W.Frag}{a:Addr}{xs:List V}{g:TG}{l:TS}{D:jF}{b:St}{H:Hp}(Pv:Nat->St->Hp->Prop)(o:Pv 0 b H)(r:∀i b H,i<=xs.length->Pv i b H->Xo K H a xs)
  (s:∀i x b H,xs[i]?=some x->Pv i b H->g x b H λc j=>l {D with nx:=Pv (i+1),ct:=Pv (i+1),bk:=D.nx} c j) (t:∀b H,Pv xs.length b H->D.nx b H) :
  ∃W:Nat->Nat->St->Hp->Prop,(∃m,W 0 m b H)/\∀i m b H,W i m b H ->
   ((Itt K a).stop i H/\D.nx b H)\/((Itt K a).go i H/\∃N:St->Hp->Prop,(∀d f,N d f->∃n,n<m/\W (i+1) n d f)/\∀x f,(Itt K a).YZ i H x f->g x b f λc j=>l {D with nx:=N,ct:=N,bk:=D.nx} c j):=by
 refine⟨λi m b H=>m=xs.length - i/\i<=xs.length/\Pv i b H,⟨xs.length,by simp,Uk _,o⟩,?_⟩;rintro i m b H ⟨rfl,u,p⟩;have q:=r i b H u p;by_cases h:i<xs.length
 ·refine .inr ⟨⟨xs,xs[i],q,by simp[h]⟩,Pv (i+1),λd f v=>⟨xs.length - (i+1),⋯,rfl,h,v⟩,λx f y=>?_⟩;obtain⟨e,y⟩:=y;subst e;exact s i x b _ (y xs q) p
 ·have e:i=xs.length:=by lia
  subst e;exact .inl ⟨⟨xs,q,SY _⟩,t b H p⟩
theorem mX{lo:Int}{n:Nat}{g:TG}{j:TS}{D:jF}{a:St}{H:Hp}(Pv:Nat->St->Hp->Prop)(o:Pv 0 a H)
  (q:∀i a H,i<n->Pv i a H->g (.int (lo+i)) a H λb h=>j {D with nx:=Pv (i+1),ct:=Pv (i+1),bk:=D.nx} b h) (r:∀a H,Pv n a H->D.nx a H) :
  ∃W:Nat->Nat->St->Hp->Prop,(∃m,W 0 m a H)/\∀i m a H,W i m a H ->
   ((Itr lo n).stop i H/\D.nx a H)\/((Itr lo n).go i H/\∃N:St->Hp->Prop,(∀c d,N c d->∃l,l<m/\W (i+1) l c d)/\∀x d,(Itr lo n).YZ i H x d->g x a d λb h=>j {D with nx:=N,ct:=N,bk:=D.nx} b h):=by
 refine⟨λi m a H=>m=n - i/\i<=n/\Pv i a H,⟨n,by simp,Uk _,o⟩,?_⟩;rintro i m a H ⟨rfl,t,p⟩;by_cases f:i<n
 ·refine .inr ⟨f,Pv (i+1),λc d s=>⟨n - (i+1),⋯,rfl,f,s⟩,λx d y=>?_⟩;obtain⟨e,y⟩:=y;subst e y;exact q i a _ f p
 ·have e:i=n:=by lia
  subst e;exact .inl ⟨SY _,r a H p⟩
theorem uM(Pv:St->Hp->Prop)(μ:St->Hp->Nat)(h:Pv a H)
  (i:∀a H,Pv a H->c a H λb e=>if b=true then j {D with nx:=λd f=>Pv d f/\μ d f<μ a H,ct:=λd f=>Pv d f/\μ d f<μ a H,bk:=D.nx} a e else D.nx a e)
  (mono:∀a H Q g,(∀b e,Q b e->g b e)->c a H Q->c a H g):uI c j D a H:=by
 refine⟨λm a H=>m=μ a H/\Pv a H,⟨_,rfl,h⟩,?_⟩;rintro m a H ⟨rfl,p⟩;refine mono a H _ _ (λb e q=>?_) (i a H p)
 cases b with
 |true=>exact⟨_,λd f ⟨n,l⟩=>⟨_,l,rfl,n⟩,q⟩
 |false=>exact q
abbrev R2:=V->V->Hp->VK->Prop
def XG(X:Cx)(f:Value->Value->Sem Value)(r:R2):Prop :=
 ∀(a:qe)(s:Shared)(b:St)(H:Hp)(x y:V)(v u:Value)(Q:VK),Inv X a b H s->RelV x v->RelV y u->r x y H Q ->
  wpAny (model X.prog X.w) X.A (f v u) (EP X a b Q) X.xe s
def UnR(X:Cx)(f:Value->Sem Value)(r:V->Hp->VK->Prop):Prop :=
 ∀(a:qe)(s:Shared)(b:St)(H:Hp)(x:V)(v:Value)(Q:VK),Inv X a b H s->RelV x v->r x H Q ->
  wpAny (model X.prog X.w) X.A (f v) (EP X a b Q) X.xe s
def km(X:Cx)(f:Value)(r:List V->Hp->VK->Prop):Prop :=
 ∀(a:qe)(s:Shared)(b:St)(H:Hp)(c:List V)(d:zl)(Q:VK),Inv X a b H s->Vals c d->r c H Q ->
  wpAny (model X.prog X.w) X.A (call f d) (EP X a b Q) X.xe s
def NC(X:Cx)(r:V->Hp->(Bool->Hp->Prop)->Prop):Prop :=
 ∀(a:qe)(s:Shared)(b:St)(H:Hp)(x:V)(v:Value)(Q:Bool->Hp->Prop),Inv X a b H s->RelV x v->r x H Q ->
  wpAny (model X.prog X.w) X.A (truthy v) (TP X a b Q) X.xe s
noncomputable def XT(r:R2)(b c:TE):TE:=λa H Q=>b a H λx d=>c a d λy e=>r x y e Q
def tUn(r:V->Hp->VK->Prop)(a:TE):TE:=λb H Q=>a b H λx c=>r x c Q
def rI(C:Int->Int->Prop)(g:Int->Int->V):R2:=λx y H Q=>∃i j,x=.int i/\y=.int j/\C i j/\Q (g i j) H
noncomputable def ZZ(g:Int->Int->V):R2:=λx y H Q=>∃i j,x=.int i/\y=.int j/\Q (g i j) H
def rU(g:Int->V):V->Hp->VK->Prop:=λx H Q=>∃i,x=.int i/\Q (g i) H
section
theorem Lj{X:Cx}{a b:Expr}{n o:TE}(p:PE X a n)(q:PE X b o){c:qe}{s:Shared}{d:St}{H:Hp}{R:V->V->Hp->Prop}(I:Inv X c d H s)
  (h:n d H λx l=>o d l λy e=>R x y e) {Q:qf} {f:Value->Value->Sem Value}
  (r:∀v u j x y e,Inv X c d e j->RelV x v->RelV y u->R x y e->wpAny (model X.prog X.w) X.A (f v u) Q X.xe j) :
  wpAny (model X.prog X.w) X.A (eval a X.env) (λv g=>wpAny (model X.prog X.w) X.A (eval b X.env) (λu i=>wpAny (model X.prog X.w) X.A (f v u) Q X.xe i) X.xe g) X.xe s:=by
 refine W9 (p c s d H _ I h) λv t ⟨x,l,z,B,C⟩=>?_;refine W9 (q c t d l _ z C) λu j ⟨y,e,E,G,J⟩=>?_;exact r v u j x y e E B G J
theorem bF(d:XG X (binaryOp op) r)(e:PE X a f)(g:PE X b i):PE X (.BinOp a op b j) (XT r f i):=by intro c s l H Q I h;exact wpAny_BinOp (Lj e g I h λv u n x y o p t w q=>d c n l o x y v u Q p t w q)
theorem Dt(d:UnR X (unaryOp op) r)(e:PE X a f):PE X (.UnaryOp op a g) (tUn r f):=by intro b s c H Q I h;exact UnaryOp_ (W9 (e b s c H _ I h) λv i ⟨x,j,l,n,o⟩=>d b i c j x v Q l n o)
theorem opI{X:Cx}{f:Value->Value->Sem Value}{C:Int->Int->Prop}{g:Int->Int->Int}
  (rule:∀(i j:Int)(t u:Tok)(s:Shared)(Q:qf)(E:qf),C i j->Q (.int (g i j) s.toks) {s with toks:=s.toks+1}->wpAny (model X.prog X.w) X.A (f (.int i t) (.int j u)) Q E s) :
  XG X f (rI C λi j=>.int (g i j)):=by
 intro a s l H x y v u Q I b c h;obtain⟨i,j,rfl,rfl,d,q⟩:=h;obtain⟨t,rfl⟩:=b;obtain⟨e,rfl⟩:=c;exact rule i j t e s _ _ d ⟨.int (g i j),H,I.tok _,⟨_,rfl⟩,q⟩
theorem M5{X:Cx}{f:Value->Value->Sem Value}{g:Int->Int->Int}
  (rule:∀(i j:Int)(t u:Tok)(s:Shared)(Q:qf)(E:qf),Q (.int (g i j) s.toks) {s with toks:=s.toks+1}->wpAny (model X.prog X.w) X.A (f (.int i t) (.int j u)) Q E s) :
  XG X f (ZZ λi j=>.int (g i j)):=by
 intro a s e H x y v u Q I b c h;obtain⟨i,j,rfl,rfl,q⟩:=h;obtain⟨t,rfl⟩:=b;obtain⟨d,rfl⟩:=c;exact rule i j t d s _ _ ⟨.int (g i j),H,I.tok _,⟨_,rfl⟩,q⟩
theorem Jo{X:Cx}{f:Value->Value->Sem Value}{g:Int->Int->Bool}
  (rule:∀(i j:Int)(t u:Tok)(s:Shared)(Q:qf)(E:qf),Q (.bool (g i j)) s->wpAny (model X.prog X.w) X.A (f (.int i t) (.int j u)) Q E s) :
  XG X f (ZZ λi j=>.bl (g i j)):=by
 intro a s e H x y v u Q I b c h;obtain⟨i,j,rfl,rfl,q⟩:=h;obtain⟨t,rfl⟩:=b;obtain⟨d,rfl⟩:=c;exact rule i j t d s _ _ ⟨.bl (g i j),H,I,rfl,q⟩
def K1(i j:Int):Prop:=0<j/\j<1073741824
def NA(i j:Int):Prop:=0<=j/\j<=1000000/\i.natAbs<2 ^ 64
def CMul(i j:Int):Prop:=(-(2 ^ 64)<i/\i<2 ^ 64)\/(-(2 ^ 64)<j/\j<2 ^ 64)
theorem CMul.ok(h:CMul i j):IntMulOk i j:=by
 rcases h with⟨a,b⟩|⟨a,b⟩
 ·exact .of_left (intBits_le_64 a b)
 ·exact .of_right (intBits_le_64 a b)
theorem cJ:XG X (binaryOp .Add) (ZZ λi j=>.int (i+j)):=M5 λ_ _ _ _ _ _ _ q=>add_int q
theorem nQ:XG X (binaryOp .Sub) (ZZ λi j=>.int (i - j)):=M5 λ_ _ _ _ _ _ _ q=>sub_int q
theorem nP:XG X (binaryOp .Mult) (rI CMul λi j=>.int (i*j)):=opI λ_ _ _ _ _ _ _ a q=>mul_int q a.ok
theorem oQ:XG X (binaryOp .FloorDiv) (rI K1 λi j=>.int (i / j)):=opI λi j _ _ _ _ _ a q=>by have b:(0:Int)<j:=a.1;have c:j<1073741824:=a.2;exact floordiv_int ⋯ (by rw[Int.fdiv_eq_ediv_of_nonneg i ⋯];exact q) (.inl (PyProof.noPylong_small ⋯))
theorem fI:XG X (binaryOp .Mod) (rI (λ_ j=>0<j) λi j=>.int (i%j)):=opI λi j _ _ _ _ _ a q=>by have b:(0:Int)<j:=a;exact mod_int' ⋯ (by rw[Int.fmod_eq_emod_of_nonneg i ⋯];exact q)
theorem yp:XG X (binaryOp .Pow) (rI NA λi j=>.int (i ^ j.toNat)):=opI λ_ _ _ _ _ _ _ a q=>pow_int_small a.1 a.2.1 a.2.2 q
theorem unI{X:Cx}{f:Value->Sem Value}{g:Int->Int}
  (rule:∀(i:Int)(t:Tok)(s:Shared)(Q:qf)(E:qf),Q (.int (g i) s.toks) {s with toks:=s.toks+1}->wpAny (model X.prog X.w) X.A (f (.int i t)) Q E s) :
  UnR X f (rU λi=>.int (g i)):=by
 intro a s c H x v Q I b h;obtain⟨i,rfl,q⟩:=h;obtain⟨t,rfl⟩:=b;exact rule i t s _ _ ⟨.int (g i),H,I.tok _,⟨_,rfl⟩,q⟩
theorem zD:UnR X (unaryOp .USub) (rU λi=>.int (-i)):=unI λ_ _ _ _ _ q=>neg_int q
end
noncomputable def Ni:V->V->Bool
 | .W3,.W3=>true | .W3,.int _=>true | .int _,.W3=>true | .W3,.bl _=>true | .bl _,.W3=>true | .W3,.str _=>true | .str _,.W3=>true
 | .int _,.int _=>true | .bl _,.bl _=>true | .str _,.str _=>true | .ZV _,.ZV _=>true
 | .int _,.str _=>true | .str _,.int _=>true | .bl _,.str _=>true | .str _,.bl _=>true
 |_,_=>false
noncomputable def rEq:R2:=λx y H Q=>Ni x y=true/\Q (.bl (decide (x=y))) H
noncomputable def rNe:R2:=λx y H Q=>Ni x y=true/\Q (.bl (!decide (x=y))) H
theorem C0:decide (V.int i=V.int j)=(i==j):=by rw[Wi];simp
theorem FQ:decide (V.bl i=V.bl j)=(i==j):=by rw[Wi];simp
theorem C1:decide (V.str i=V.str j)=(i==j):=by rw[Wi];simp
theorem CZ:decide (V.ZV i=V.ZV j)=(i.toList==j.toList):=by rw[Wi];cases i;cases j;simp
section
variable{b:Expr}{ta tb tc:TE}
theorem cV{X:Cx}{a:qe}{c:St}{H:Hp}{s:Shared}{Q:VK}{k d:Bool}(I:Inv X a c H s)(q:Q (.bl k) H)(e:k=d):EP X a c Q (.bool d) s:=by subst e;exact⟨.bl k,H,I,rfl,q⟩
theorem cE:XG X (compareOp .Eq) rEq:=by
 intro f s g H x y v u Q I e a h;obtain⟨d,q⟩:=h
 cases x with
 |W3 =>
  cases e
  cases y with
  |W3=>cases a;exact PySem.EqNone.eq_none_none (cV I q (by simp))
  |bl j=>cases a;exact PySem.EqNone.eq_none_bool (cV I q (by simp))
  |int j=>obtain⟨c,rfl⟩:=a;exact PySem.EqNone.eq_none_int (cV I q (by simp))
  |str j=>obtain⟨c,rfl⟩:=a;exact PySem.EqNone.eq_none_str (cV I q (by simp))
  |_=>exact absurd (show false=true from d) SW
 |bl i =>
  cases e
  cases y with
  |W3=>cases a;exact PySem.EqNone.eq_bool_none (cV I q (by simp))
  |bl j=>cases a;exact eq_bool (cV I q FQ)
  |str j=>obtain⟨c,rfl⟩:=a;exact PySem.EqMixed.eq_bool_str (cV I q (by simp))
  |_=>exact absurd (show false=true from d) SW
 |int i =>
  obtain⟨t,rfl⟩:=e
  cases y with
  |W3=>cases a;exact PySem.EqNone.eq_int_none (cV I q (by simp))
  |int j=>obtain⟨c,rfl⟩:=a;exact eq_int (cV I q C0)
  |str j=>obtain⟨c,rfl⟩:=a;exact PySem.EqMixed.eq_int_str (cV I q (by simp))
  |_=>exact absurd (show false=true from d) SW
 |str i =>
  obtain⟨t,rfl⟩:=e
  cases y with
  |W3=>cases a;exact PySem.EqNone.eq_str_none (cV I q (by simp))
  |bl j=>cases a;exact PySem.EqMixed.eq_str_bool (cV I q (by simp))
  |int j=>obtain⟨c,rfl⟩:=a;exact PySem.EqMixed.eq_str_int (cV I q (by simp))
  |str j=>obtain⟨c,rfl⟩:=a;exact eq_str (cV I q C1)
  |_=>exact absurd (show false=true from d) SW
 |ZV i =>
  obtain⟨t,rfl⟩:=e
  cases y with
  |ZV j=>obtain⟨c,rfl⟩:=a;exact W.eq_bytes (cV I q CZ)
  |_=>exact absurd (show false=true from d) SW
 |_=>cases y<;>exact absurd (show false=true from d) SW
theorem lU:XG X (compareOp .NotEq) rNe:=by
 intro f s g H x y v u Q I e a h;obtain⟨d,q⟩:=h
 cases x with
 |W3 =>
  cases e
  cases y with
  |W3=>cases a;exact PySem.EqNone.ne_none_none (cV I q (by simp))
  |bl j=>cases a;exact PySem.EqNone.ne_none_bool (cV I q (by simp))
  |int j=>obtain⟨c,rfl⟩:=a;exact PySem.EqNone.ne_none_int (cV I q (by simp))
  |str j=>obtain⟨c,rfl⟩:=a;exact PySem.EqNone.ne_none_str (cV I q (by simp))
  |_=>exact absurd (show false=true from d) SW
 |bl i =>
  cases e
  cases y with
  |W3=>cases a;exact PySem.EqNone.ne_bool_none (cV I q (by simp))
  |bl j=>cases a;exact ne_bool (cV I q (Tu not FQ))
  |str j=>obtain⟨c,rfl⟩:=a;exact PySem.EqMixed.ne_bool_str (cV I q (by simp))
  |_=>exact absurd (show false=true from d) SW
 |int i =>
  obtain⟨t,rfl⟩:=e
  cases y with
  |W3=>cases a;exact PySem.EqNone.ne_int_none (cV I q (by simp))
  |int j=>obtain⟨c,rfl⟩:=a;exact ne_int (cV I q (Tu not C0))
  |str j=>obtain⟨c,rfl⟩:=a;exact PySem.EqMixed.ne_int_str (cV I q (by simp))
  |_=>exact absurd (show false=true from d) SW
 |str i =>
  obtain⟨t,rfl⟩:=e
  cases y with
  |W3=>cases a;exact PySem.EqNone.ne_str_none (cV I q (by simp))
  |bl j=>cases a;exact PySem.EqMixed.ne_str_bool (cV I q (by simp))
  |int j=>obtain⟨c,rfl⟩:=a;exact PySem.EqMixed.ne_str_int (cV I q (by simp))
  |str j=>obtain⟨c,rfl⟩:=a;exact ne_str (cV I q (Tu not C1))
  |_=>exact absurd (show false=true from d) SW
 |ZV i =>
  obtain⟨t,rfl⟩:=e
  cases y with
  |ZV j=>obtain⟨c,rfl⟩:=a;exact W.ne_bytes (cV I q (Tu not CZ))
  |_=>exact absurd (show false=true from d) SW
 |_=>cases y<;>exact absurd (show false=true from d) SW
theorem kT:XG X (compareOp .Lt) (ZZ λi j=>.bl (decide (i<j))):=Jo λ_ _ _ _ _ _ _ q=>lt_int q
theorem lS:XG X (compareOp .LtE) (ZZ λi j=>.bl (decide (i<=j))):=Jo λ_ _ _ _ _ _ _ q=>le_int q
theorem kn:XG X (compareOp .Gt) (ZZ λi j=>.bl (decide (j<i))):=Jo λ_ _ _ _ _ _ _ q=>gt_int q
theorem wI:XG X (compareOp .GtE) (ZZ λi j=>.bl (decide (j<=i))):=Jo λ_ _ _ _ _ _ _ q=>ge_int q
theorem yn:XG X (compareOp .Is) (λx y H Q=>y=.W3/\Q (.bl (decide (x=.W3))) H):=by
 intro a s e H x y v u Q I c d h;obtain⟨rfl,q⟩:=h;cases d;refine is_none_gen (cV I q ?_)
 cases x<;>first
  | (cases c;rfl)
  | (obtain⟨t,rfl⟩:=c;rfl)
theorem Js:XG X (compareOp .IsNot) (λx y H Q=>y=.W3/\Q (.bl (!decide (x=.W3))) H):=by
 intro a s e H x y v u Q I c d h;obtain⟨rfl,q⟩:=h;cases d;refine isnot_none_gen (cV I q ?_)
 cases x<;>first
  | (cases c;rfl)
  | (obtain⟨t,rfl⟩:=c;rfl)
theorem XG.or(h:XG X f r)(g:XG X f i):XG X f (λx y H Q=>r x y H Q\/i x y H Q):=by
 intro a s c H x y v u Q I d e q;rcases q with q|q
 ·exact h a s c H x y v u Q I d e q
 ·exact g a s c H x y v u Q I d e q
theorem iT(b:Expr)(h:op≠.In:=by decide)(a:op≠.NotIn:=by decide):behindInMarks op b=false:=by
 have c:(op==CmpOp.In)=false:=by cases op<;>first|rfl|exact absurd rfl h
 have d:(op==CmpOp.NotIn)=false:=by cases op<;>first|rfl|exact absurd rfl a
 cases b<;>simp[behindInMarks,c,d]
theorem fL(d:XG X (compareOp op) r)(e:PE X a ta)(f:PE X b tb)(g:behindInMarks op b=false):PE X (.Compare a [op] [b] i) (XT r ta tb):=by intro c s j H Q I h;exact wpAny_Compare1 (Lj e f I h λv u l x y n o p t q=>d c l j n x y v u Q o p t q) g
noncomputable def DV(t:TE):TT:=λa H Q=>t a H λx c=>∃k,x=.bl k/\Q k c
theorem JI(g:XG X (compareOp op) r)(i:PE X a ta)(j:PE X b tb)(l:behindInMarks op b=false):PT X (.Compare a [op] [b] n) (DV (XT r ta tb)):=by
 intro d s f H Q I h
 refine wpAny_isTrue_Compare1 (W9 (i d s f H _ I h) λv o ⟨x,p,q,t,w⟩=>W9 (j d o f p _ q w) λu A ⟨y,B,C,E,G⟩ =>
  W9 (g d A f B x y v u _ C t E G) λc O ⟨z,J,L,M,k,e,N⟩=>?_) l
 subst e;cases M;exact Uu ⟨J,L,N⟩
noncomputable def zA(r d:R2)(ta tb tc:TE):TE:=λa H Q=>ta a H λx e=>tb a e λy f=>r x y f λz c=>∃k,z=.bl k /\
 (if k=true then tc a c λg h=>d y g h Q else Q (.bl false) c)
theorem AK(q:XG X (compareOp op) r)(j:XG X (compareOp g) t)(w:PE X a ta)(A:PE X b tb)(B:PE X c tc)
  (C:lastMarks [op,g] [b,c]=false:=by with_unfolding_all rfl):PE X (.Compare a [op,g] [b,c] E) (zA r t ta tb tc):=by
 intro f s i H Q I h
 refine Compare_chain (W9 (w f s i H _ I h) λv G ⟨x,J,L,M,N⟩=>chain_link (W9 (A f G i J _ L N) λu O ⟨y,T,U,l,Y⟩ =>
  W9 (q f O i T x y v u _ U M l Y) λd s3 ⟨z,n,o,r3,k,e,p⟩=>?_)) C
 subst e;cases r3;refine Uu ?_
 cases k with
 |false=>exact ite_ff ⟨.bl false,n,o,rfl,p⟩
 |true=>exact ite_tt (chain_last (W9 (B f s3 i n _ o p) λw' s4 ⟨z',H4,I4,r4,q4⟩=>j f s4 i H4 y z' u w' Q I4 l r4 q4))
theorem oT(q:XG X (compareOp op) r)(j:XG X (compareOp g) t)(w:PE X a ta)(A:PE X b tb)(B:PE X c tc)
  (C:lastMarks [op,g] [b,c]=false:=by with_unfolding_all rfl):PT X (.Compare a [op,g] [b,c] E) (DV (zA r t ta tb tc)):=by
 intro f s i H Q I h
 refine isTrue_chain (W9 (w f s i H _ I h) λv G ⟨x,J,L,M,N⟩=>test_link (W9 (A f G i J _ L N) λu O ⟨y,T,U,l,Y⟩ =>
  W9 (q f O i T x y v u _ U M l Y) λd s3 ⟨z,n,o,r3,k,e,p⟩=>?_)) C
 subst e;cases r3;refine Uu ?_
 cases k with
 |false =>obtain⟨k',e',q'⟩:=p;cases e';exact ite_ff ⟨n,o,q'⟩
 |true =>refine ite_tt (test_last (W9 (B f s3 i n _ o p) λw' s4 ⟨z',H4,I4,r4,q4⟩=>W9 (j f s4 i H4 y z' u w' _ I4 l r4 q4) λd' s5 ⟨z2,H5,I5,r5,k2,e2,q5⟩=>?_));subst e2;cases r5;exact Uu ⟨H5,I5,q5⟩
def zI(K:qs)(x:V)(H:Hp)(k:Bool):Prop :=
 match x with
 | .W3=>k=false
 | .bl b=>k=b
 | .int i=>k=(i != 0)
 | .str y=>y.length<=sizeLine/\k=((y.length:Int) != 0)
 | .ZV y=>y.size<=sizeLine/\k=((y.size:Int) != 0)
 | .ref p=>(∃a,W2 K H p a/\k=!a.isEmpty)\/(∃a,Xo K H p a/\k=!a.isEmpty)\/∃c,H p=some (.dK c)/\k=!c.isEmpty
 |_=>False
theorem BH{κ:Type}{a:List (κ×V)}{c:List (κ×Value)}(r:KV a c):(!c.isEmpty)=!a.isEmpty:=by cases r<;>rfl
theorem sZ(r:Vals c a):(!a.toArray.isEmpty)=!c.isEmpty:=by cases r<;>simp
theorem nN:(sizeLine:Nat)<2 ^ 63:=by rw[Vi];decide
theorem Mt:NC X (λx H Q=>∃k,zI X.K x H k/\Q k H):=by
 intro u s C H x v Q I g h;obtain⟨k,e,q⟩:=h;have E:=nN;have G:sizeLine=16777216:=Vi
 cases x with
 |W3 =>cases g;have a:k=false:=e;subst a;exact truthy_none ⟨H,I,q⟩
 |bl b =>cases g;have a:k=b:=e;subst a;exact Uu ⟨H,I,q⟩
 |int i =>obtain⟨t,rfl⟩:=g;have a:k=(i != 0):=e;subst a;exact PySem.P.truthy_int ⟨H,I,q⟩
 |str y =>obtain⟨t,rfl⟩:=g;obtain⟨A,a⟩:y.length<=sizeLine/\k=((y.length:Int) != 0):=e;subst a;exact PySem.P.truthy_str ⋯ ⟨H,I.tok _,q⟩
 |ZV y =>obtain⟨t,rfl⟩:=g;obtain⟨A,a⟩:y.size<=sizeLine/\k=((y.size:Int) != 0):=e;subst a;exact W.truthy_bytes ⋯ ⟨H,I.tok _,q⟩
 |ref p =>
  cases g;have a:(∃f,W2 X.K H p f/\k=!f.isEmpty)\/(∃f,Xo X.K H p f/\k=!f.isEmpty)\/∃c,H p=some (.dK c)/\k=!c.isEmpty:=e;rcases a with⟨f,j,a⟩|⟨f,j,a⟩|⟨c,j,a⟩
  ·subst a;obtain⟨n,r,o,z⟩:=I.list j;have d:=r.length;exact wpAny_truthy_list o.isList (by simp only[S7];lia) ⟨H,I.tok _,by rw[sZ r];exact q⟩
  ·subst a;obtain⟨n,r,o,z⟩:=I.tuple j;have d:=r.length;exact truthy_tuple o (by simp only[S7];lia) ⟨H,I.tok _,by rw[sZ r];exact q⟩
  ·subst a;obtain⟨z,B,l,r,m⟩:c.length<=sizeLine/\(p==sysModules)=false/\∃l,KV c l/\s.heap.DictOf (f7 X.prog X.w) p l:=I.hok p _ j;have d:c.length=l.length:=Paired.length r;exact wpAny_truthy_dict B m ⋯ ⟨H,I.tok _,by rw[BH r];exact q⟩
 |_=>exact(show False from e).elim
theorem bL(g:PE X a ta)(i:∀c,isTrue a X.env c=(do let v <- c;standAt a.pos;holding [v] (truthy v))) :
  PT X a (λe H Q=>ta e H λx f=>∃k,zI X.K x f k/\Q k f):=by
 intro d s e H Q I h;exact isTrue_plain (W9 (g d s e H _ I h) λv j ⟨x,l,n,o,p⟩=>Mt d j e l x v Q n o p) (i _)
theorem i6(r:Vals [x] a):∃u,a=[u]/\RelV x u:=by
 cases r with
 |cons c d=>cases d;exact⟨_,rfl,c⟩
theorem Nv(r:Vals [x,y] c):∃u a,c=[u,a]/\RelV x u/\RelV y a:=by
 cases r with
 |cons d e =>
  cases e with
  |cons f g=>cases g;exact⟨_,_,rfl,d,f⟩
end
structure ZH(h:Heap)(x dx C:Addr)(mA:zp):Prop where
 obj:h.get? x=some (W.instObj C dx)
 ns:h.Ns1 dx mA
 ne:dx≠x
theorem Em{h:Heap}(n:h.Ns1 f g):∃c,h.get? f=some c/\∀name,W.lookIn name c=some (g name):=by
 obtain⟨o,d,s,i,j,hk,_,l⟩:=n;refine⟨o,i,λname=>?_⟩;have e:=l name;unfold nsFind findBy at e;rw[<- Array.find?_toList]at e;unfold W.lookIn;rw[j];dsimp only;split
 ·rename_i y q;rw[q]at e;exact Tu some e
 ·rename_i q;rw[q]at e
  have a:d.toList.any (·.refKey)=false:=by rw[WE];intro y p;obtain⟨z,t,b⟩:=hk y (Array.mem_toList_iff.mp p);simp[DictEntry.refKey,b]
  have r:¬ d.toList.any (·.refKey)=true:=by rw[a];exact SW
  rw[PC r];exact Tu some e
theorem ZH.look(I:ZH h x b C c):∃a,W.InstAt h x (W.instObj C b) C (some a)/\∀name,W.lookIn name a=some (c name) :=
 let⟨a,d,e⟩:=Em I.ns
 ⟨a,⟨I.obj,rfl,rfl,d⟩,e⟩
section
variable{K:qs}
theorem IQ{s:Shared}(X:K.In s.heap)(I:ZH s.heap x j C c)(d:W.plainGet K C name=true)(e:W.hasDictIn K C=true)
  (f:W.findIn K (.ref C) name=some none) (g:c name=some v) (a:W.handedIn v=true) (h:Q v {s with toks:=s.toks+1}) :
  wpAny (model prog w) A (getAttr (.ref x) name b) Q E s:=by
 obtain⟨l,J,i⟩:=I.look;exact W.get_value X J (W.plainGet_of d).1 (W.findObj_own e f rfl (by rw[i,g])) a h
theorem Gb{s:Shared}(X:K.In s.heap)(I:ZH s.heap x j C b)(a:W.plainGet K C name=true)
  (c:W.findIn K (.ref C) name=some (some (.ref f))) (d:W.isFn K (.ref f)=true) (e:b name=none) (h:Q (.ref f,[.ref x]) s) :
  wpAny (model prog w) A (getMethod (.ref x) name l) Q E s:=by
 obtain⟨g,J,i⟩:=I.look;exact W.method_fn X J (W.plainGet_of a).1 (W.plainGet_of a).2 c (WM.mp d) (by show(W.lookIn name g).map (·.isSome)=some false;rw[i,e];rfl) h
theorem Kb{s:Shared}(X:K.In s.heap)(I:ZH s.heap x e C n)
  (o:W.findIn K (.ref C) "__setattr__"=some (some (.builtin "object.__setattr__"))) (p:W.plainOver K C=true) (q:W.takerIn K C name=some none) (t:W.hasDictIn K C=true)
  (u:PySem.Within n z) (B:z.length<=sizeLine)
  (h:∀f,ZH f x e C (λy=>if y=name then some v else n y)->Heap.SameBut e s.heap f->Q () {s with heap:=f,toks:=s.toks+2}) :
  wpAny (model prog w) A (setAttr (.ref x) name v) Q E s:=by
 obtain⟨N,J,O⟩:=I.look;refine W.set_plain X J o (W.osa_open (s:={s with toks:=s.toks+1}) (r:=none) X J p q λb=>?_);obtain⟨T,G,g⟩:=W.any_some t;have H:s.heap.get? x=some ⟨.ref C,some e,.plain,#[]⟩:=I.obj;refine SO (Tc (SO (SO (wpAny_loadPart H (SO (W.Looks.here (s:={s with toks:=s.toks+1}) (W.looks_clsIn X G) ?_))))));rw[g];refine Tc (a:=some e) (SO (Tc (SO ?_)));refine wpAny_nsSet1 (s:={s with toks:=s.toks+1}) I.ns λf c d=>?_;obtain⟨oD,L,M,i,j,l⟩:=c.count (PySem.Within.cons name v u);refine SO (wpAny_lookBehind i (by rw[j];exact pastItsLine_dict (Tz l (by rw[SX];lia))) ?_);exact Tc (h _ ⟨(d.2 _ (Tf I.ne)).trans I.obj,c,I.ne⟩ d)
theorem GB{A:Around}{s:Shared}(X:K.In s.heap)(c:W.makesIn K C=true)
  (e:W.findIn K (.ref C) "__init__"=some (some (.ref f))) (i:W.typeIn K (.ref f)=some (.type "function"))
  (h:codeAny (model prog w) (A.under (.builtin "type.__call__" ⟨.ref C::a,b⟩)) (.call (.ref f) ⟨.ref (s.heap.objs.size+1)::a,b⟩) (W.InitBack (s.heap.objs.size+1) R)
   {s with heap:=(s.heap.push W.emptyDict).push (W.instObj C s.heap.objs.size)}) :
  codeAny (model prog w) A (.call (.ref C) ⟨a,b⟩) R s:=by
 obtain⟨j,g,d,t,os⟩:=s;exact W.make_core (W.makes_of X c) (W.looks_findIn X e) (λself=>W.bind_fn X self i) (.inl rfl) h
end
noncomputable def lI(f:Str)(v:V):List (Str×V)->List (Str×V)
 |[]=>[(f,v)]
 | (g,x)::r=>if g=f then (g,v)::r else (g,x)::lI f v r
theorem qE(f g:Str)(v:V):∀fs:List (Str×V),(lI f v fs).lookup g=if g=f then some v else fs.lookup g
 |[]=>by
  show List.lookup g [(f,v)]=_;by_cases h:g=f
  ·have a:(g==f)=true:=WM.mpr h;simp only[List.lookup,a,SV h]
  ·have a:(g==f)=false:=Vl.mpr h;simp only[List.lookup,a,PC h]
 | (k,x)::r=>by
  have b:=qE f g v r;rw[show lI f v ((k,x)::r)=(if k=f then (k,v)::r else (k,x)::lI f v r) from rfl];by_cases hk:k=f
  ·rw[SV hk];by_cases h:g=k
   ·have a:(g==k)=true:=WM.mpr h;simp only[List.lookup,a,SV (h.trans hk)]
   ·have a:(g==k)=false:=Vl.mpr h;simp only[List.lookup,a,PC (λe:g=f=>h (e.trans hk.symm))]
  ·rw[PC hk];by_cases h:g=k
   ·have a:(g==k)=true:=WM.mpr h;simp only[List.lookup,a,PC (λe:g=f=>hk (h.symm.trans e))]
   ·have a:(g==k)=false:=Vl.mpr h;simp only[List.lookup,a];exact b
theorem pJ(f:Str)(v:V):∀fs:List (Str×V),f∈(lI f v fs).map (·.1)/\∀g,g∈fs.map (·.1)->g∈(lI f v fs).map (·.1)
 |[]=>⟨by simp[lI],λg h=>by simp at h⟩
 | (k,x)::r=>by
  obtain⟨a,b⟩:=pJ f v r;rw[show lI f v ((k,x)::r)=(if k=f then (k,v)::r else (k,x)::lI f v r) from rfl];by_cases hk:k=f
  ·rw[SV hk];subst hk;exact⟨by simp,λg h=>by simpa using h⟩
  ·rw[PC hk];refine⟨?_,λg h=>?_⟩
   ·rw[S8];exact Th _ a
   ·rw[S8]at h ⊢;rcases S0.mp h with e|e
    ·exact S0.mpr (.inl e)
    ·exact Th _ (b g e)
theorem qD(f:Str)(v:V):∀fs:List (Str×V),(lI f v fs).length<=fs.length+1
 |[]=>by simp[lI]
 | (k,x)::r=>by
  have a:=qD f v r;rw[show lI f v ((k,x)::r)=(if k=f then (k,v)::r else (k,x)::lI f v r) from rfl];by_cases hk:k=f
  ·rw[SV hk,SX,SX];lia
  ·rw[PC hk,SX,SX];lia
theorem Ym.some_of(r:Ym (some v) o):∃u,o=some u/\RelV v u:=by
 cases o with
 |none=>exact(show False from r).elim
 |some u=>exact⟨u,rfl,r⟩
theorem Ym.none_of(r:Ym none o):o=none:=by
 cases o with
 |none=>rfl
 |some u=>exact(show False from r).elim
theorem Ef(r:RelV v u):W.handedIn u=true:=by
 cases v with
 |W3=>cases (show u=Value.none from r);rfl
 |bl b=>cases (show u=Value.bool b from r);rfl
 |int i=>obtain⟨t,e⟩:=(show ∃t,u=Value.int i t from r);cases e;rfl
 |str x=>obtain⟨t,e⟩:=(show ∃t,u=Value.str x t from r);cases e;rfl
 |ZV b=>obtain⟨t,e⟩:=(show ∃t,u=Value.bytes b t from r);cases e;rfl
 |flt b=>obtain⟨t,e⟩:=(show ∃t,u=Value.float b t from r);cases e;rfl
 |ref a=>cases (show u=Value.ref a from r);rfl
 |ty n=>cases (show u=Value.type n from r);rfl
section
theorem xJ(c:Yn P w H h)(e:H a=some (.ins C g fs)):∃b,ZH h a g C b/\(∀f,Ym (fs.lookup f) (b f))/\PySem.Within b (fs.map (·.1))/\fs.length<=1000/\H g=some (.own a):=by
 obtain⟨d,z,i,ob,b,n,r,q⟩:=(show Xk P w H h a (.ins C g fs) from c a _ e)
 exact⟨b,⟨ob,n,i⟩,r,q,z,d⟩
end
structure Y9(K:qs)(C:Addr):Prop where
 pg:W.plainGet K C Str.empty=true
 hd:W.hasDictIn K C=true
 po:W.plainOver K C=true
 sa:W.findIn K (.ref C) "__setattr__"=some (some (.builtin "object.__setattr__"))
theorem Y9.get(c:Y9 K C)(f:Str):W.plainGet K C f=true:=c.pg
def Xg(K:qs)(C:Addr)(f:Str):Prop:=W.findIn K (.ref C) f=some none
theorem Xg.taker(n:Xg K C f):W.takerIn K C f=some none:=by unfold W.takerIn;rw[show W.findIn K (.ref C) f=some none from n];rfl
structure Meth(K:qs)(C:Addr)(m:Str)(f:Addr):Prop where
 at_:W.findIn K (.ref C) m=some (some (.ref f))
 fn:W.isFn K (.ref f)=true
 kp:W.keepIn K (.ref f)=true
section
theorem BE{X:Cx}{d:qe}{g:St}{H:Hp}{s:Shared}{a C p:Addr}{fs:List (Str×V)}{f:Str}{v:V}{A:Around}{E:qf}{b:Bool}{Q:qf}(I:Inv X d g H s)(e:H a=some (.ins C p fs))(c:Y9 X.K C)(n:Xg X.K C f)(l:fs.lookup f=some v)
  (h:∀u i,Inv X d g H i->RelV v u->Q u i):wpAny (model X.prog X.w) A (getAttr (.ref a) f b) Q E s:=by
 obtain⟨q,O,r,_,_,_⟩:=xJ I.hok e;obtain⟨u,t,j⟩:=Ym.some_of (v:=v) (o:=q f) (by rw[<- l];exact r f);exact IQ I.X7 O (c.get f) c.hd n t (Ef j) (h u _ (I.tok _) j)
theorem sT{X:Cx}{b:qe}{d:St}{H:Hp}{s:Shared}{a C f:Addr}{fs:List (Str×V)}{A:Around}{E:qf}{m:Str}{g:Addr}{i:Sem Bool}{Q:Value×List Value->Shared->Prop}(I:Inv X b d H s)(e:H a=some (.ins C f fs))(c:Y9 X.K C)(k:Meth X.K C m g)(l:fs.lookup m=none)
  (h:Q (.ref g,[.ref a]) s):wpAny (model X.prog X.w) A (getMethod (.ref a) m i) Q E s:=by
 obtain⟨j,O,r,_,_,_⟩:=xJ I.hok e;have n:j m=none:=Ym.none_of (by rw[<- l];exact r m);exact Gb I.X7 O (c.get m) k.at_ k.fn n h
theorem Ct{X:Cx}{d:qe}{l:St}{H:Hp}{s:Shared}{a C i:Addr}{fs:List (Str×V)}{f:Str}{A:Around}{E:qf}{y:V}{u:Value}{Q:Unit->Shared->Prop}(I:Inv X d l H s)(e:H a=some (.ins C i fs))(c:Y9 X.K C)(n:Xg X.K C f)(hl:fs.length<1000)(G:RelV y u)
  (h:∀p,Inv X d l (upd H a (.ins C i (lI f y fs))) p->Q () p):wpAny (model X.prog X.w) A (setAttr (.ref a) f u) Q E s:=by
 obtain⟨t,O,r,v,_,B⟩:=xJ I.hok e;have J:(fs.map (·.1)).length<=sizeLine:=by rw[tB,Vi];lia
 refine Kb I.X7 O c.sa c.po n.taker c.hd v J λL j M=>h _ ?_;have N:∃o,L.get? i=some o:=let⟨o,_,_,T,_⟩:=j.ns;⟨o,T⟩;refine I.write (x:=a) (e:=i) (by rw[e];exact True.intro) (.inr B) (λb q U z=>(M.2 b U).trans z) N ?_;refine⟨by rw[aR O.ne];exact B,?_,O.ne,j.obj,_,j.ns,λg=>?_,λg Y=>?_⟩
 ·have:=qD f y fs;lia
 ·show Ym ((lI f y fs).lookup g) (if g=f then some u else t g);rw[qE];by_cases q:g=f
  ·rw[SV q,SV q];exact G
  ·rw[PC q,PC q];exact r g
 ·by_cases q:g=f
  ·rw[q];exact(pJ f y fs).1
  ·refine(pJ f y fs).2 g (v g λz=>Y ?_);show(if g=f then some u else t g)=none;rw[PC q];exact z
theorem Inv.made{X:Cx}{c:qe}{d:St}{H:Hp}{s:Shared}{C:Addr}(I:Inv X c d H s):Inv X c d (upd (upd H s.heap.objs.size (.own (s.heap.objs.size+1))) (s.heap.objs.size+1) (.ins C s.heap.objs.size []))
  {s with heap:=(s.heap.push W.emptyDict).push (W.instObj C s.heap.objs.size)}:=by
 have f:(s.heap.push W.emptyDict).get? s.heap.objs.size=some W.emptyDict:=TN s.heap rfl
 have h:((s.heap.push W.emptyDict).push (W.instObj C s.heap.objs.size)).get? (s.heap.objs.size+1)=some (W.instObj C s.heap.objs.size):=by
  have:=TN (s.heap.push W.emptyDict) (o:=W.instObj C s.heap.objs.size) rfl
  rwa [T7]at this
 have i:(s.heap.push W.emptyDict).Ns s.heap.objs.size (λ_=>none):=⟨W.emptyDict,#[],_,f,rfl,(λe j=>absurd j (by simp)),λ_=>rfl⟩
 have l:=I.laid (a:=s.heap.objs.size) (o:=.own (s.heap.objs.size+1)) (h':=s.heap.push W.emptyDict) (t':=s.toks) (λb u q=>SQ _ q) (SY _) ⟨_,f⟩;refine l.laid (a:=s.heap.objs.size+1) (o:=.ins C s.heap.objs.size []) (t':=s.toks) (λb u q=>SQ _ q) (Wj (T7 _ _)) ?_;have g:s.heap.objs.size≠s.heap.objs.size+1:=Tw (VC _);refine⟨by rw[aR g,aF],Uk _,g,h,λ_=>none,(Heap.Ns1.of_empty i).at λo q=>SQ _ q,λ_=>True.intro,λy n=>absurd rfl n⟩
theorem Iu(b:attributeBase e f env (eval e env)=eval e env)
  (h:wpAny (model prog w) A (eval e env) (λo a=>wpAny (model prog w) A (getAttr o f true) Q E a) E s):wpAny (model prog w) A (eval (.Attribute e f c) env) Q E s :=
 Attribute_any_ h (by rw[arm_eval_Attribute,b])
end
noncomputable def rJ(K:qs)(c:TE)(f:Str):TE:=λd H Q=>c d H λx b=>∃a C e fs v,x=.ref a/\b a=some (.ins C e fs)/\Y9 K C/\Xg K C f/\fs.lookup f=some v/\Q v b
noncomputable def Ng(K:qs)(e g:TE)(f:Str):TS:=λD b H=>g b H λy h=>e b h λx c=>∃a C d fs,x=.ref a/\c a=some (.ins C d fs)/\Y9 K C/\Xg K C f/\fs.length<1000 /\
 D.nx b (upd c a (.ins C d (lI f y fs)))
section
theorem gM(d:PE X e g)(i:attributeBase e f X.env (eval e X.env)=eval e X.env):PE X (.Attribute e f j) (rJ X.K g f):=by intro b s o H Q I h;refine Iu i (W9 (d b s o H _ I h) λu A ⟨x,p,r,t,a,C,B,fs,v,ex,w,c,n,l,q⟩=>?_);subst ex;obtain rfl:u=Value.ref a:=t;exact BE r w c n l λE G y z=>⟨v,p,y,z,q⟩
theorem lH{e:Pos}(j:PE X o p)(r:PE X b t)(v:swapsWith b (some (.Attribute o f g)) e.line X.env=pure false):PS X (.Assign [.Attribute o f g] b e) (Ng X.K p t f):=by intro d s i H D I h;refine plainObj_wpAny_Assign_Attribute (W9 (r d s i H _ I h) λu w ⟨y,z,A,B,q⟩=>W9 (j d w i z _ A q) λE O ⟨x,Q,G,J,a,C,T,fs,ex,L,c,n,l,M⟩=>?_) v;subst ex;obtain rfl:E=Value.ref a:=J;exact Ct G L c n l B λU N=>⟨i,_,N,M⟩
end
structure Xm(k:Nat)(A:Around):Prop where
 hd:A.handled=none
 dp:A.depth+3*k+5<recursionLimit
 un:A.units+16*k+200<cLine
theorem Xm.mono(r:Xm k A)(h:j<=k):Xm j A:=⟨r.hd,by have:=r.dp;lia,by have:=r.un;lia⟩
theorem Xm.deeper(r:Xm (k+1) A)(env:Env):Xm k (A.deeper env) :=
 ⟨r.hd,by have:=r.dp;show A.depth+1+3*k+5<_;lia,by have:=r.un;show A.units+3+16*k+200<_;lia⟩
theorem BL{A:Around}:(A.under (.builtin "type.__call__" ⟨.ref C::a,b⟩)).depth=A.depth+1:=by
 first|rfl|simp[Around.under,Code.weight,Code.isCreation,Code.isGuard,Code.isCaller,Code.frames,Code.isFrame,guardIds]
theorem BM{A:Around}:(A.under (.builtin "type.__call__" ⟨.ref C::a,b⟩)).units=A.units+1:=by
 first|rfl|simp[Around.under,Code.cUnits,Code.frames,Code.isFrame]
theorem Xm.make(r:Xm (k+1) A)(C:Addr)(a:zl)(b:List (Str×Value)):Xm k (A.under (.builtin "type.__call__" ⟨.ref C::a,b⟩)) :=
 ⟨r.hd,by have:=r.dp;rw[BL];lia,by have:=r.un;rw[BM];lia⟩
theorem Xm.depth(r:Xm k A):A.depth<recursionLimit:=by have:=r.dp;lia
theorem Xm.units(r:Xm k A):A.units+64<cLine:=by have:=r.un;lia
noncomputable def dR:TA:=λ_ H Q=>Q [] H
noncomputable def bU(b:TE)(c:TA):TA:=λa H Q=>b a H λx d=>c a d λe f=>Q (x::e) f
section
variable{t:TA}
theorem a7:PA X [] dR:=λ_ _ _ _ H Q I h=>Calls.spliced_nil ⟨[],H,I,.nil,h⟩
theorem cO(f:PE X e g)(i:PA X c t)(j:starEach (e::c) X.env=(false,eval e X.env)::starEach c X.env:=by rfl):PA X (e::c) (bU g t):=by intro b a s d H Q I h;rw[j];show wpAny _ _ (spliced ((false,eval e X.env)::backTo b (starEach c X.env))) _ _ s;refine Wx (W9 (f a s d H _ I h) λu l ⟨x,n,o,p,q⟩=>?_);exact W9 (i b a l d n _ o q) λA B ⟨r,v,w,y,z⟩=>⟨x::r,v,w,.cons p y,z⟩
noncomputable def CA(t:TA):TE:=λc H Q=>t c H λa b=>a.length<=sizeLine/\∀p,b p=none->Q (.ref p) (upd b p (.tup a))
noncomputable def EZ(t:TA):TE:=λc H Q=>t c H λa b=>a.length<=sizeLine/\∀p,b p=none->Q (.ref p) (upd b p (.lst a))
theorem aU{i}(h:PA X j t):PE X (.Tuple j i d) (CA t):=by intro a s l H Q I n;refine wpAny_Tuple_spliced (W9 (h d a s l H _ I n) λo c ⟨p,f,g,r,z,q⟩=>⟨by rw[<- r.length];exact z,?_⟩);have v:f c.heap.objs.size=none:=g.hok.fresh (SY _);refine⟨.ref c.heap.objs.size,upd f c.heap.objs.size (.tup p),g.laid (t':=c.toks) (λb u e=>SQ _ e) (SY _) ?_,rfl,q _ v⟩;exact⟨z,o,r,⟨_,TN _ rfl,rfl,_,rfl⟩⟩
theorem bQ(h:PA X i t):PE X (.List i d) (EZ t):=by intro a s j H Q I l;refine wpAny_List_spliced (W9 (h d a s j H _ I l) λn c ⟨o,f,g,r,z,q⟩=>⟨by rw[<- r.length];exact z,?_⟩);have p:f c.heap.objs.size=none:=g.hok.fresh (SY _);refine⟨.ref c.heap.objs.size,upd f c.heap.objs.size (.lst o),g.laid (t':=c.toks) (λb u e=>SQ _ e) (SY _) ?_,rfl,q _ p⟩;exact⟨z,n,0,r,TN _ rfl⟩
end
abbrev Sp:=List V->Hp->VK->XK->Prop
abbrev CXT:=List Env->Hp->Shared->XK->Value->Shared->Prop
structure ZI(P:Program)(w:World)(K:qs)(mg:zp)(base:Heap)(A:Around)(outer:List Env)(s:Shared)(H:Hp):Prop where
 frames:A.frames=some outer
 mod:Mod K mg base
 bs:∀b o,base.get? b=some o->s.heap.get? b=some o/\H b=none
 bsz:base.objs.size<=s.heap.objs.size
 YD:s.heap.FunFrames base outer
 frf:∀b∈frs outer,H b=none
 hok:Yn P w H s.heap
 bare:AllBare s.gens
def CE(outer:List Env)(P:Program)(w:World)(H:Hp)(s:Shared)(Q:VK)(u:Value)(a:Shared):Prop :=
 ∃v b,a.os=s.os/\AllBare a.gens/\Un (frs outer) [] H b s.heap a.heap/\Yn P w b a.heap/\RelV v u/\Q v b
def CR(b:CXT)(outer:List Env)(P:Program)(w:World)(H:Hp)(s:Shared)(Q:VK)(E:XK)(r:Result)(a:Shared):Prop :=
 match r with
 | .ok (.ret u)=>CE outer P w H s Q u a
 | .ok _=>False
 | .error e=>b outer H s E e a
structure Xj(P:Program)(w:World)(K:qs)(mg:zp)(base:Heap)(CX:CXT)(k:Nat)(f:Addr)(fd:FuncData)(ps:vn)(sp:Sp):Prop where
 len:∀vs H Q E,sp vs H Q E->vs.length=ps.length
 run:∀(A:Around)(outer:List Env)(s:Shared)(H:Hp)(args:Args)(us:zl)(vs:List V)(Q:VK)(E:XK),Xm k A->ZI P w K mg base A outer s H->BindsTo s fd args (ps.zip us)->Vals vs us->sp vs H Q E ->
  codeAny (model P w) A (.call (.ref f) args) (CR CX outer P w H s Q E) s
theorem Xj.mono(F:Xj P w K mg base a j f b c d)(h:j<=k) :
  Xj P w K mg base a k f b c d:=⟨F.len,λA outer s H args e g Q E i=>F.run A outer s H args e g Q E (i.mono h)⟩
theorem ZI.make(e:ZI P w K mg base A outer s H)(C:Addr)(a:zl)(b:List (Str×Value)) :
  ZI P w K mg base (A.under (.builtin "type.__call__" ⟨.ref C::a,b⟩)) outer s H:=⟨by first|exact e.frames | (simpa[Around.under,Code.envs,Code.isFrame,pushEnvs]using e.frames),e.mod,e.bs,e.bsz,e.YD,e.frf,e.hok,e.bare⟩
section
theorem Inv.env0{X:Cx}{a:qe}{b:St}{H:Hp}{s:Shared}(I:Inv X a b H s):ZI X.prog X.w X.K X.mg X.base X.A X.stack s H :=
 ⟨I.ok.frames,I.ok.mod,I.bs,Tz I.ok.bsz I.sz,I.stack,I.ZW,I.hok,I.bare⟩
theorem Inv.after{X:Cx}{a:qe}{j:St}{H:Hp}{s e:Shared}{Q:VK}{u:Value}(I:Inv X a j H s)(h:CE X.stack X.prog X.w H s Q u e):EP X a j Q u e:=by obtain⟨v,l,os,c,un,f,r,q⟩:=h;obtain⟨n,g,d,t,i⟩:=e;obtain rfl:i=s.os:=os;exact⟨v,l,I.call (h':=n) (g':=g) (d':=d) (t':=t) (ch:=[]) un f c (λb z=>absurd z (by simp)),r,q⟩
end
def lg(a:Sp)(b:List V)(E:XK)(t:TA):TE:=λc H Q=>t c H λd e=>a (d++b) e Q E
def DS(C:Addr)(m:Str)(d:Sp)(e:List V)(E:XK)(f:TE)(t:TA):TE:=λb H Q=>f b H λx c=>∃a g fs,x=.ref a/\c a=some (.ins C g fs)/\fs.lookup m=none /\
 t b c λh i=>d (x::(h++e)) i Q E
def Nn(C:Addr)(c:Sp)(d:List V)(E:XK)(t:TA):TE:=λe H Q=>t e H λf b=>∀x a,b x=none->b a=none->a≠x ->
 c (.ref x::(f++d)) (upd (upd b a (.own x)) x (.ins C a [])) (λv g=>v=.W3/\Q (.ref x) g) E
def Binds(K:qs)(d:FuncData)(b:vn)(c:zl):Prop :=
 ∀(s:Shared)(a:zl),K.In s.heap->(a++c).length=b.length->BindsTo s d ⟨a,[]⟩ (b.zip (a++c))
theorem Binds.all{b:vn}(h:∀a:List Value,a.length=b.length->bindArgs d ⟨a,[]⟩=pure (b.zip a)):Binds K d b []:=λs a _ c=>by rw[To]at c ⊢;exact .of_eq (h a c)
def kz(c:CXT)(X:Cx)(E:XK):Prop:=∀(a:qe)(d:St)(H:Hp)(s:Shared)(e:Value)(b:Shared),Inv X a d H s->c X.stack H s E e b->X.xe e b
section
variable{f C:Addr}
theorem yL{X:Cx}{j:CXT}{k:Nat}{l:FuncData}{g:vn}{n:Sp}{d:List V}{b:zl}{E:XK}{a:qe}{i:St}{H:Hp}{s:Shared}{Q:VK}{us:zl}{vs:List V}(F:Xj X.prog X.w X.K X.mg X.base j k f l g n)(p:Xm k X.A)(q:Binds X.K l g b)(t:Vals d b)(v:kz j X E)
  (I:Inv X a i H s) (r:Vals vs us) (h:n (vs++d) H Q E):wpAny (model X.prog X.w) X.A (call (.ref f) us) (EP X a i Q) X.xe s:=by
 have o:Vals (vs++d) (us++b):=r.append t;have x:(us++b).length=g.length:=by rw[<- o.length];exact F.len _ _ _ _ h
 refine wpAny_call (Vw (F.run X.A X.stack s H ⟨us,[]⟩ (us++b) (vs++d) Q E p I.env0 (q s us I.X7 x) o h) λr y c=>?_)
 cases r with
 |error e=>exact v a i H s e y I c
 |ok z =>
  cases z with
  |ret u=>exact I.after c
  |next=>exact False.elim c
  |brk=>exact False.elim c
  |cont=>exact False.elim c
theorem Ds{X:Cx}(F:Xj X.prog X.w X.K X.mg X.base j k f l n o)(u:Xm k X.A)(v:Gl X x)(y:X.mg x=some (.ref f))(hk:W.keepIn X.K (.ref f)=true)(z:Binds X.K l n B)(G:Vals J B)(L:kz j X E)
  (M:PA X (e::c) t) (d:(x==("__debug__":Str))=false:=by decide) (N:starEach (e::c) X.env=(false,eval e X.env)::starEach c X.env:=by rfl) (g:(backTo a (starEach c X.env)).any (·.1)=false:=by rfl) :
  PE X (.Call (.Name x p) (e::c) [] a) (lg o J E t):=by
 intro b s O H Q I h;refine U7 (oK I v y ?_ d);refine W.callWith_K (h₀:=X.base) I.ok.mod.kin hk (W9 (M a b s O H _ I h) λT U ⟨Y,H1,i,r,q⟩=>⟨i.X7,?_⟩) N g;exact yL F u z G L i r q
theorem AJ{X:Cx}(F:Xj X.prog X.w X.K X.mg X.base c k f d e g)(i:Xm k X.A)(j:Gl X x)(l:X.mg x=some (.ref f))(hk:W.keepIn X.K (.ref f)=true)(n:Binds X.K d e o)(q:Vals r o)(t:kz c X E)
  (a:(x==("__debug__":Str))=false:=by decide):PE X (.Call (.Name x p) [] [] u) (lg g r E dR):=by
 intro b s v H Q I h;refine U7 (oK I j l ?_ a);exact W.callWith_K0 I.X7 hk (yL (us:=[]) F i n q t I .nil h)
theorem jr(G:PE X o J)(c:Y9 X.K C)(p:Meth X.K C m f)(F:Xj X.prog X.w X.K X.mg X.base L k f M N O)(T:Xm k X.A)(U:Binds X.K M N Y)(hd:Vals Yw Y)(hx:kz L X E)(ha:PA X (e::i) t)
  (j:starEach (e::i) X.env=(false,eval e X.env)::starEach i X.env:=by rfl) (n:(backTo b (starEach i X.env)).any (·.1)=false:=by rfl)
  (ht:eval (.Call (.Attribute o m d) (e::i) [] b) X.env=(do
   let v <- eval o X.env
   standAt d.atName
   let(f,first) <- holding [v] (getMethod v m pl)
   callWith b f first (backTo b (starEach (e::i) X.env)) (backToKw b (keywordEach [] X.env))):=by rfl) :
  PE X (.Call (.Attribute o m d) (e::i) [] b) (DS C m O Yw E J t):=by
 intro g s y H Q I h;refine W.methodCall_KW (pl:=pl) (W9 (G g s y H _ I h) λu s1 ⟨x,H1,z,rx,a,dx,fs,ex,ea,l,q⟩=>?_) ht;subst ex;obtain rfl:u=Value.ref a:=rx;refine sT z ea c p l ?_;refine W.callWith_K (first:=[.ref a]) (h₀:=X.base) I.ok.mod.kin p.kp (W9 (ha b g s1 y H1 _ z q) λus s2 ⟨vs,H2,B,r,q2⟩=>⟨B.X7,?_⟩) j n;exact yL (us:=.ref a::us) (vs:=.ref a::vs) F T U hd hx B (.cons rfl r) q2
theorem kW(n:PE X o p)(c:Y9 X.K C)(i:Meth X.K C m f)(F:Xj X.prog X.w X.K X.mg X.base r k f t v y)(z:Xm k X.A)(B:Binds X.K t v G)(J:Vals L G)(M:kz r X E)
  (N:eval (.Call (.Attribute o m d) [] [] b) X.env=(do
   let j <- eval o X.env
   standAt d.atName
   let(f,first) <- holding [j] (getMethod j m O)
   callWith b f first (backTo b (starEach [] X.env)) (backToKw b (keywordEach [] X.env))):=by rfl) :
  PE X (.Call (.Attribute o m d) [] [] b) (DS C m y L E p dR):=by
 intro e s T H Q I h;refine W.methodCall_KW (pl:=O) (W9 (n e s T H _ I h) λu s1 ⟨x,H1,g,U,a,dx,fs,ex,Y,l,q⟩=>?_) N;subst ex;obtain rfl:u=Value.ref a:=U;refine sT g Y c i l ?_;exact W.callWith_K0 (first:=[.ref a]) g.X7 i.kp (yL (us:=[.ref a]) (vs:=[.ref a]) F z B J M g (.cons rfl .nil) q)
structure Mk(K:qs)(C f:Addr):Prop where
 makes:W.makesIn K C=true
 init:W.findIn K (.ref C) "__init__"=some (some (.ref f))
 fn:W.isFn K (.ref f)=true
 kp:W.keepIn K (.ref C)=true
theorem HF{X:Cx}{p:CXT}{k:Nat}{q:FuncData}{j:vn}{t:Sp}{l:List V}{d:zl}{E:XK}{a:qe}{n:St}{H:Hp}{s:Shared}{Q:VK}{c:zl}{o:List V}(M:Mk X.K C f)(F:Xj X.prog X.w X.K X.mg X.base p k f q j t)(B:Xm (k+1) X.A)(G:Binds X.K q j d)(J:Vals l d)
  (L:kz p X E) (I:Inv X a n H s) (r:Vals o c)
  (h:∀x g,H x=none->H g=none->g≠x->t (.ref x::(o++l)) (upd (upd H g (.own x)) x (.ins C g [])) (λv N=>v=.W3/\Q (.ref x) N) E) :
  wpAny (model X.prog X.w) X.A (call (.ref C) c) (EP X a n Q) X.xe s:=by
 have y:=h (s.heap.objs.size+1) s.heap.objs.size (I.hok.fresh (V0 _)) (I.hok.fresh (SY _)) (Tw (VC _));have i:=Inv.made (C:=C) I;have z:Vals (V.ref (s.heap.objs.size+1)::(o++l)) (Value.ref (s.heap.objs.size+1)::(c++d)):=.cons rfl (r.append J)
 have O:(Value.ref (s.heap.objs.size+1)::c++d).length=j.length:=by have e:=z.length;rw[F.len _ _ _ _ y]at e;exact e.symm
 refine wpAny_call (GB (f:=f) I.X7 M.makes M.init (WM.mp M.fn) (Vw (F.run _ X.stack _ _ ⟨Value.ref (s.heap.objs.size+1)::c,[]⟩ (Value.ref (s.heap.objs.size+1)::(c++d)) _ _ E (B.make C c [])
  (i.env0.make C c []) (G _ (Value.ref (s.heap.objs.size+1)::c) i.X7 O) z y) λr T b=>?_))
 cases r with
 |error e=>exact L a n _ _ e T i b
 |ok U =>
  cases U with
  |ret u =>obtain⟨v,Y,I3,rv,ev,q3⟩:=i.after b;subst ev;exact⟨rv,⟨V.ref (s.heap.objs.size+1),Y,I3,rfl,q3⟩⟩
  |next=>exact False.elim b
  |brk=>exact False.elim b
  |cont=>exact False.elim b
theorem Jv{X:Cx}(M:Mk X.K C f)(F:Xj X.prog X.w X.K X.mg X.base j k f l n o)(u:Xm (k+1) X.A)(v:Gl X x)(y:X.mg x=some (.ref C))(z:Binds X.K l n B)(G:Vals J B)(L:kz j X E)
  (N:PA X (e::c) t) (d:(x==("__debug__":Str))=false:=by decide) (O:starEach (e::c) X.env=(false,eval e X.env)::starEach c X.env:=by rfl) (g:(backTo a (starEach c X.env)).any (·.1)=false:=by rfl) :
  PE X (.Call (.Name x p) (e::c) [] a) (Nn C o J E t):=by
 intro b s T H Q I h;refine U7 (oK I v y ?_ d);refine W.callWith_K (h₀:=X.base) I.ok.mod.kin M.kp (W9 (N a b s T H _ I h) λU Y ⟨vs,H1,i,r,q⟩=>⟨i.X7,?_⟩) O g;exact HF M F u z G L i r q
end
def PK(X:Cx)(b:List Keyword)(t:TA):Prop :=
 ∀(c:Pos)(a:qe)(s:Shared)(d:St)(H:Hp)(Q:List V->Hp->Prop),Inv X a d H s->t d H Q->wpAny (model X.prog X.w) X.A (evalAll ((backToKw c (keywordEach b X.env)).map (·.2))) (AP X a d Q) X.xe s
section
variable{fd:FuncData}{ps ks:vn}{sp:Sp}{E:XK}{t tk:TA}
theorem L7:PK X [] dR:=λ_ _ _ _ H Q I h=>wpAny_evalAll_nil ⟨[],H,I,.nil,h⟩
theorem Dv(g:PE X e i)(j:PK X c t):PK X (⟨B,e,d⟩::c) (bU i t):=by intro b a s f H Q I h;show wpAny _ _ (evalAll ((do let v <- eval e X.env;standAt b;pure v)::(backToKw b (keywordEach c X.env)).map (·.2))) _ _ s;refine wpAny_evalAll_cons (SO (W9 (g a s f H _ I h) λu l ⟨x,n,o,p,q⟩=>SO (VD (Tc ?_))));exact W9 (j b a l f n _ o q) λC G ⟨r,w,y,z,A⟩=>⟨x::r,w,y,.cons p z,A⟩
structure Bq(K:qs)(fd:FuncData)(ps ks:vn)(g:List Value->List Value->List Value)(gV:List V->List V->List V):Prop where
 to:∀(s:Shared)(us ws:zl),K.In s.heap->(g us ws).length=ps.length->BindsTo s fd ⟨us,ks.zip ws⟩ (ps.zip (g us ws))
 rel:∀{vs:List V}{us:zl}{zs:List V}{ws:zl},Vals vs us->Vals zs ws->Vals (gV vs zs) (g us ws)
def HR(sp:Sp)(b:List V->List V->List V)(E:XK)(t tk:TA):TE:=λa H Q=>t a H λc d=>tk a d λzs e=>sp (b c zs) e Q E
theorem J9{X:Cx}{n:CXT}{k:Nat}{f:Addr}{g:List Value->List Value->List Value}{i:List V->List V->List V}{a:qe}{j:St}{H:Hp}{s:Shared}{Q:VK}{b c:zl}{l zs:List V}(F:Xj X.prog X.w X.K X.mg X.base n k f fd ps sp)(q:Xm k X.A)(o:Bq X.K fd ps ks g i)(v:kz n X E)
  (I:Inv X a j H s) (r:Vals l b) (x:Vals zs c) (h:sp (i l zs) H Q E):wpAny (model X.prog X.w) X.A (call (.ref f) b (ks.zip c)) (EP X a j Q) X.xe s:=by
 have p:=o.rel r x;have y:(g b c).length=ps.length:=by rw[<- p.length];exact F.len _ _ _ _ h
 refine wpAny_call (Vw (F.run X.A X.stack s H ⟨b,ks.zip c⟩ (g b c) (i l zs) Q E q I.env0 (o.to s b c I.X7 y) p h) λr z d=>?_)
 cases r with
 |error e=>exact v a j H s e z I d
 |ok B =>
  cases B with
  |ret u=>exact I.after d
  |next=>exact False.elim d
  |brk=>exact False.elim d
  |cont=>exact False.elim d
theorem GY{X:Cx}(F:Xj X.prog X.w X.K X.mg X.base y k f fd ps sp)(z:Xm k X.A)(B:Gl X x)(C:X.mg x=some (.ref f))(hk:W.keepIn X.K (.ref f)=true)(G:Bq X.K fd ps ks g J)(L:kz y X E)
  (M:PA X (e::i) t) (j:PK X b tk) (d:(backToKw a (keywordEach b X.env)).all (·.1.isSome)=true:=by rfl) (l:(backToKw a (keywordEach b X.env)).filterMap (·.1)=ks:=by rfl)
  (n:(x==("__debug__":Str))=false:=by decide) (N:starEach (e::i) X.env=(false,eval e X.env)::starEach i X.env:=by rfl)
  (o:((backTo a (starEach (e::i) X.env)).any (·.1)||(backToKw a (keywordEach b X.env)).any (·.1.isNone))=false:=by rfl) :
  PE X (.Call (.Name x p) (e::i) b a) (HR sp J E t tk):=by
 intro c s u H Q I h;refine U7 (oK I B C ?_ n);refine W.callWith_KW (h₀:=X.base) I.ok.mod.kin hk d (W9 (M a c s u H _ I h) λus O ⟨vs,T,U,r,q⟩=>?_) o N;refine W9 (j a c O u T _ U q) λws s2 ⟨zs,H2,v,Y,q2⟩=>⟨v.X7,?_⟩
 rw[l];exact J9 F z G L v r Y q2
end
structure WW(N P:vn)(sc:Scope):Prop where
 kind:sc.kind=.function
 co:sc.isCoroutine=false
 gen:sc.isGenerator=false
 nd:N.Nodup
 pre:N.take P.length=P
 par:∀x∈P,sc.names.lookup x=some .local\/sc.names.lookup x=some .cell
 nofree:∀y∈sc.names,y.2≠.free
theorem WW.Xr{N P:vn}{h:Scope}(a:h.kind=.function:=by rfl)(b:h.isCoroutine=false:=by rfl)(c:h.isGenerator=false:=by rfl)(d:N.Nodup:=by decide +kernel)(e:N.take P.length=P:=by rfl)(f:∀x∈P,h.names.lookup x=some .local\/h.names.lookup x=some .cell:=by decide +kernel)(g:∀y∈h.names,y.2≠.free:=by decide +kernel):WW N P h:=⟨a,b,c,d,e,f,g⟩
variable{kindOf:Str->Option NameKind}
theorem vT:∀{binds:List (Str×Value)}{m:zp},(∀v,(x,v)∉binds)->bindL kindOf binds m x=m x
 |[],_,_=>rfl
 | (n,v)::r,m,h=>by
  unfold bindL;rw[vT λw a=>h w (Th _ a)];split
  ·have:x≠n:=by rintro rfl;exact h v Tn
   simp[this]
  ·rfl
theorem vR:∀{binds:List (Str×Value)}{m:zp},(∀v,(x,v)∉binds)->bindC kindOf binds m x=m x
 |[],_,_=>rfl
 | (n,v)::r,m,h=>by
  unfold bindC;rw[vR λw a=>h w (Th _ a)];split
  ·rfl
  ·have:x≠n:=by rintro rfl;exact h v Tn
   simp[this]
theorem vS:∀{P:vn}{a:zl}{i:Nat}{m:zp},P.Nodup->P[i]?=some x->a[i]?=some v->kindOf x=some .local ->
  bindL kindOf (P.zip a) m x=some v
 |[],_,_,_,_,h,_,_=>by simp at h
 |_::_,[],_,_,_,_,h,_=>by simp at h
 |p::P,w::a,0,m,d,b,c,hk=>by simp at b c;subst b;subst c;show bindL kindOf ((p,w)::P.zip a) m p=_;unfold bindL;rw[vT λv e=>(Vr.mp d).1 (VH e).1,SV hk];simp
 |p::P,w::a,i+1,m,d,b,c,hk=>by show bindL kindOf ((p,w)::P.zip a) m x=_;unfold bindL;exact vS (i:=i) (Vr.mp d).2 (by simpa using b) (by simpa using c) hk
theorem vQ:∀{P:vn}{a:zl}{i:Nat}{m:zp},P.Nodup->P[i]?=some x->a[i]?=some v->kindOf x≠some .local ->
  bindC kindOf (P.zip a) m x=some v
 |[],_,_,_,_,h,_,_=>by simp at h
 |_::_,[],_,_,_,_,h,_=>by simp at h
 |p::P,w::a,0,m,d,b,c,hk=>by simp at b c;subst b;subst c;show bindC kindOf ((p,w)::P.zip a) m p=_;unfold bindC;rw[vR λv e=>(Vr.mp d).1 (VH e).1,PC hk];simp
 |p::P,w::a,i+1,m,d,b,c,hk=>by show bindC kindOf ((p,w)::P.zip a) m x=_;unfold bindC;exact vQ (i:=i) (Vr.mp d).2 (by simpa using b) (by simpa using c) hk
noncomputable def start(N:vn)(a:List V):St:=a.map some++List.replicate (N.length - a.length) none
noncomputable def xr(d:CXT)(P:Program)(w:World)(K:qs)(mg:zp)(base:Heap)(N:vn)(a:Str)(scope:Scope)(f:Addr)(c:Value)(A:Around)(outer:List Env)(s:Shared)(H:Hp)(E:XK):Cx where
 prog:=P
 w:=w
 K:=K
 mg:=mg
 base:=base
 A:=A.deeper (envOfC a scope s.heap.objs.size f c)
 N:=N
 s₀:=s
 H₀:=H
 env:=envOfC a scope s.heap.objs.size f c
 outer:=outer
 stack:=envOfC a scope s.heap.objs.size f c::outer
 ex:=[]
 calm:=true
 fn:=λ_=>true
 pn:=[]
 xe:=λe g=>wpAny (model P w) (A.deeper (envOfC a scope s.heap.objs.size f c)) (leaving (envOfC a scope s.heap.objs.size f c) e) (λ_ b=>d outer H s E e b) (λh b=>d outer H s E h b) g
theorem zW{a:Scope}(h:a.names.lookup x=some .cell):∃c,(cellsFrom n a.names []).lookup x=some c:=by have q:=W.cellsFrom_some a.names n [] (.inl h);exact Option.isSome_iff_exists.mp q
theorem Ei{A:Around}{l:List V}
  (S:WW N t scope) (O:A.handled=none) (j:ZI P w K mg base A outer s H) (hl:l.length=t.length) (r:Vals l L)
  (x:InCallC s s.heap.objs.size (bindL (envOfC g scope s.heap.objs.size f J).kindOf (t.zip L) λ_=>none) (cellsFrom (s.heap.objs.size+1) scope.names []) (bindC (envOfC g scope s.heap.objs.size f J).kindOf (t.zip L) λ_=>none) Q) :
  Inv (xr T P w K mg base N g scope f J A outer s H E) [] (start N l) H Q:=by
 have U:t.length<=N.length:=by have:=Tu List.length S.pre;rw[T4]at this;lia
 obtain⟨G,tk,rfl,hk⟩:=x.done;have o:∀b:Addr,b∉(xr T P w K mg base N g scope f J A outer s H E).ex:=λb z=>absurd (show b∈([]:yy) from z) (by simp)
 refine⟨⟨j.mod,S.kind,rfl,rfl,SY _,λy z c G d=>?_,λy hy=>?_,λy c _ h=>?_,λ_=>O,Around.frames_deeper j.frames,.inr ⟨rfl,rfl⟩,λb z=>absurd z (o b),j.bs,j.bsz,λb _ _=>o b,λb z=>absurd z (o b),j.YD,j.frf⟩,
  rfl,j.bare,Un.kept hk,⟨_,x.toInCall.ns,λi y v G d h3=>?_⟩,λy c h=>⟨_,x.cell y c h⟩,j.hok.fresh (SY _),λy c h=>?_,λp B=>absurd (show p∈([]:qe) from B) (by simp),j.hok.kept hk,?_⟩
 ·exact name_of_addr x.apart (UL G) (UL d)
 ·have hy:scope.names.lookup y=some .cell\/scope.names.lookup y=some .free:=hy;rcases hy with hy|hy
  ·exact zW hy
  ·exact absurd rfl (S.nofree _ (UL hy))
 ·exact UN (x.above y c (UL h))
 ·have I:i<l.length:=by
   unfold start at d;by_cases I:i<l.length
   ·exact I
   ·rw[Ue (by simpa using I)]at d;rw[List.getElem?_replicate]at d;split at d<;>cases d
  have Y:l[i]?=some v:=by
   unfold start at d;rw[UT (by simpa using I),SR]at d
   cases e:l[i]? with
   |none=>rw[e]at d;cases d
   |some a=>rw[e]at d;cases d;rfl
  obtain⟨u,M,rv⟩:=r.get Y
  have B:t[i]?=some y:=by rw[<- S.pre,List.getElem?_take_of_lt ⋯];exact G
  have C:t.Nodup:=by rw[<- S.pre];exact S.nd.sublist (List.take_sublist _ _)
  refine⟨u,rv,?_⟩;rcases S.par y (S4 B)with k|k
  ·exact .inl ⟨k,vS C B M k⟩
  ·obtain⟨c,e⟩:=zW (n:=s.heap.objs.size+1) k;refine .inr ⟨.inl k,c,e,?_⟩;have q:=x.cell y c e;rw[vQ C B M (by show scope.names.lookup y≠_;rw[k];decide)]at q;exact q
 ·exact j.hok.fresh (UN (x.above y c (UL h)))
 ·unfold start;show _=N.length;rw[M1,tB,List.length_replicate];lia
theorem Kr{P:Program}{kV doc:Value}(lk:K.lookup f=some ⟨oc,od,.func (W.fnOf name a d body scope dV kV doc pm an c ct),osl⟩)(C:W.codeIn K c a=true)(S:WW N G scope)
  (len:∀g H Q E,Y g H Q E->g.length=G.length)
  (j:∀(A:Around)(outer:List Env)(s:Shared)(H:Hp)(g:List V)(Q:VK)(E:XK),Xm k (A.deeper (envOfC a scope s.heap.objs.size f c))->Y g H Q E ->
   ∃t,Zq (xr L P w K mg base N a scope f c A outer s H E) body t/\t {nx:=λ_ i=>Q .W3 i,rt:=Q} (start N g) H) :
  Xj P w K mg base L (k+1) f (W.fnOf name a d body scope dV kV doc pm an c ct) G Y:=by
 refine⟨len,λA outer s H args us g Q E M z hb r B=>?_⟩;have hl:=len _ _ _ _ B;have KX:K.In s.heap:=z.mod.kin.keeps λb o e=>(z.bs b o e).1;have O:s.heap.NoLimit:=z.mod.nolimit.keeps λb o e=>(z.bs b o e).1
 have l:∀y∈G.zip us,scope.names.lookup y.1=some .local\/(scope.names.lookup y.1=some .cell/\((cellsFrom (s.heap.objs.size+1) scope.names []).lookup y.1).isSome=true):=λ⟨n,v⟩ hy=>by
  rcases S.par n (VH hy).1 with q|q
  ·exact .inl q
  ·exact .inr ⟨q,W.cellsFrom_some _ _ _ (.inl q)⟩
 refine codeAny_call_function M.depth (KX _ _ lk) rfl S.co S.gen rfl (W.codeRec_of KX C) (hb _ _ _ _ ?_);refine wpAny_newFunctionEnv_cells S.kind l λenv he s1 x=>?_;subst he;refine⟨O.keeps x.toInCall.keep,codeAny_func ?_⟩;obtain⟨t,ht,hq⟩:=j A outer s H g Q E (M.deeper _) B;have I:Inv (xr L P w K mg base N a scope f c A outer s H E) [] (start N g) H s1:=Ei S M.hd z hl r x;refine VB (ht [] s1 (start N g) H _ I hq) (λfl T p=>?_) λe T p=>p
 have fin:∀{h:St}{i:Hp}{v:V}{u:Value},Inv (xr L P w K mg base N a scope f c A outer s H E) [] h i T->RelV v u->Q v i->CE outer P w H s Q u T :=
  λ{h i v u} J U q=>⟨v,i,J.os,J.bare,J.base,J.hok,U,q⟩
 cases fl with
 |ret u =>obtain⟨v,h,i,J,U,q⟩:=p;exact fin J U q
 |next =>obtain⟨h,i,J,q⟩:=p;exact fin (v:=V.W3) (u:=Value.none) J rfl q
 |brk =>obtain⟨_,_,_,q⟩:=p;exact False.elim q
 |cont =>obtain⟨_,_,_,q⟩:=p;exact False.elim q
section
variable{t:TA}{r:List V->Hp->VK->Prop}
def YM(r:List V->Hp->VK->Prop)(t:TA):TE:=λa H Q=>t a H λb c=>r b c Q
theorem aV{X:Cx}{id:String}(i:km X (.builtin id) r)(j:Gl X x)(l:X.mg x=none)(n:bootBuiltins x=some (.builtin id))(o:PA X (e::c) t)(q:x≠"__name__":=by decide)(d:(x==("__debug__":Str))=false:=by decide)
  (u:starEach (e::c) X.env=(false,eval e X.env)::starEach c X.env:=by rfl) (f:(backTo b (starEach c X.env)).any (·.1)=false:=by rfl):PE X (.Call (.Name x p) (e::c) [] b) (YM r t):=by
 intro a s g H Q I h;refine U7 (lF I j l n ?_ q d);exact PyProof.Rows.callWith_builtin1 (W9 (o b a s g H _ I h) λv w ⟨y,z,A,B,C⟩=>i a w g z y v Q A B C) u f
theorem eF(i:km X (.type T) r)(j:Gl X x)(l:X.mg x=none)(n:bootBuiltins x=some (.type T))(o:PA X (e::c) t)(q:x≠"__name__":=by decide)(d:(x==("__debug__":Str))=false:=by decide)
  (u:starEach (e::c) X.env=(false,eval e X.env)::starEach c X.env:=by rfl) (f:(backTo b (starEach c X.env)).any (·.1)=false:=by rfl):PE X (.Call (.Name x p) (e::c) [] b) (YM r t):=by
 intro a s g H Q I h;refine U7 (lF I j l n ?_ q d);exact Uq (W9 (o b a s g H _ I h) λv w ⟨y,z,A,B,C⟩=>i a w g z y v Q A B C) u f
end
end L2
namespace HT
open PySem PyProof.Rows
section
open PySem.SeqAt
open PySem.AutoSeq1 (wpAny_loadPart')
open PySem.MeetsSeq PySem.MeetsSeq2 PySem.MeetsSeq3
end
section
theorem cat_tup{s:Shared}{d a:zl}(z:IsTup s.heap t d.toArray)(B:IsTup s.heap b a.toArray)(p:d≠[])
  (C:a=[]->Q (.ref t) s) (G:a≠[]->Q (.ref s.heap.objs.size) {s with heap:=s.heap.push {cls:=.type "tuple",data:=.seq (d++a).toArray}})
  (o:d.length+a.length<=sizeLine):wpAny (model prog w) A (binaryOp .Add (.ref t) (.ref b)) Q E s:=by
 obtain⟨⟨cls,q,data,r⟩,j,u,n,v⟩:=id z;obtain⟨⟨x,f,data2,g⟩,c,h,y,i⟩:=id B;simp only at u v h i;subst u v h i;have e:d.toArray++a.toArray=(d++a).toArray:=by simp
 by_cases l:a=[]
 ·exact concat_meets ⟨_,j,rfl⟩ ⟨_,c,rfl⟩ noFill_tuple_add seq_tuple_add F.slot_tuple_add WG (Wz _ _)
   (tuple_addW1 t b d.toArray a.toArray n y q f r g (by simpa using p) (by simp[l])) ⟨j,c,C l⟩
 ·refine concat_meets ⟨_,j,rfl⟩ ⟨_,c,rfl⟩ noFill_tuple_add seq_tuple_add F.slot_tuple_add WG (Wz _ _)
   (tuple_addW2 t b d.toArray a.toArray n y q f r g (by simpa using p) (by simpa using l) (by rw[S7,S7];exact o)) ⟨j,c,?_⟩
  rw[e];exact G l
noncomputable def XD(n d:Nat):Option Int->Nat
 |none=>d
 |some v=>if v<0 then (v+(n:Int)).toNat else min v.toNat n
theorem Zr(n d:Nat):XD n d none=d:=rfl
theorem Yp(n d k:Nat):XD n d (some (k:Int))=min k n:=by show(if (k:Int)<0 then ((k:Int)+(n:Int)).toNat else min (k:Int).toNat n)=min k n;rw[PC ⋯,UJ]
theorem Mh(n d:Nat)(b:d<=n)(o:Option Int):XD n d o<=n:=by
 cases o with
 |none=>exact b
 |some v =>
  show(if v<0 then (v+(n:Int)).toNat else min v.toNat n)<=n;by_cases a:v<0
  ·rw[SV a];lia
  ·rw[PC a];exact Nat.min_le_right _ _
theorem CU(v:Int)(n d:Nat):(if v<0 then max (v+(n:Int)) 0 else min v (n:Int))=((XD n d (some v):Nat):Int):=by
 show(if v<0 then max (v+(n:Int)) 0 else min v (n:Int))=(((if v<0 then (v+(n:Int)).toNat else min v.toNat n):Nat):Int)
 by_cases a:v<0
 ·simp only[SV a];lia
 ·simp only[PC a];lia
theorem By(lo a:Option Int)(n:Nat):Builtin.Slice.sliceAdjust lo a 1 (n:Int)=(((XD n 0 lo:Nat):Int),((XD n n a:Nat):Int)):=by
 have b:¬ ((1:Int)<0):=by lia
 unfold Builtin.Slice.sliceAdjust;simp only[b,WN];refine V4 ?_ ?_
 ·cases lo with
  |none=>rfl
  |some v=>exact CU v n 0
 ·cases a with
  |none=>rfl
  |some v=>exact CU v n n
theorem B4(i j:Nat):Builtin.Slice.slicePlaces (i:Int) (j:Int) 1=j - i:=by
 unfold Builtin.Slice.slicePlaces;have a:(1:Int)>0:=by lia
 simp only[a,VE,Int.ediv_one];split<;>lia
theorem uE(p:IsPart v o)(h:Q o s):wpAny (model prog w) A (Builtin.Slice.slicePartIndex v) Q E s:=by
 cases p with
 |none=>exact slicePart_none h
 |int i t=>exact slicePart_int h
variable{lo:Option Int}
theorem qh{s:Shared}{Q:Int×Int×Nat->Shared->Prop}(f:s.heap.IsSliceOf g d e .none)(i:IsPart d lo)(j:IsPart e c)
  (h:Q (((XD n 0 lo:Nat):Int),1,XD n n c - XD n 0 lo) s):wpAny (model prog w) A (Builtin.Slice.sliceApplied (.ref g) (pure (n:Int))) Q E s:=by
 obtain⟨os,a,l,b⟩:=id f;unfold Builtin.Slice.sliceApplied Builtin.Slice.sliceFields;refine SO (SO (Ul a b (x:=d) rfl (SO (Ul a b (x:=e) rfl (SO (Ul a b (x:=.none) rfl (Tc ?_)))))));refine SO (slicePart_none ?_);show wpAny _ _ (if ((1:Int)==0)=true then _ else _) _ _ s;rw[PC ⋯];refine SO (uE i (SO (uE j (SO (Tc ?_)))));show wpAny _ _ (match Builtin.Slice.sliceAdjust lo c 1 (n:Int)with | (lo,c)=>pure (lo,(1:Int),Builtin.Slice.slicePlaces lo c 1)) _ _ s;rw[By lo c n];show wpAny _ _ (pure (((XD n 0 lo:Nat):Int),(1:Int),Builtin.Slice.slicePlaces ((XD n 0 lo:Nat):Int) ((XD n n c:Nat):Int) 1)) _ _ s;rw[B4];exact Tc h
theorem Hd(a:Array Value)(i k:Nat):((List.range k).filterMap λ(m:Nat)=>a[((i:Int)+(m:Int)*1).toNat]?).toArray=((a.toList.drop i).take k).toArray:=by
 have e:(λ(m:Nat)=>a[((i:Int)+(m:Int)*1).toNat]?)=λm=>a[i+m]?:=by
  funext m
  have:((i:Int)+(m:Int)*1).toNat=i+m:=by lia
  rw[this]
 rw[e];have:=pick_run a i k;rw[List.filterMap_map]at this;have b:((λx=>a[x]?)∘λx=>i+x)=λm=>a[i+m]?:=rfl;rw[b]at this;rw[this]
theorem Yq{s:Shared}(c:IsTup s.heap t a)(j:s.heap.IsSliceOf l n o .none)(p:IsPart n lo)(r:IsPart o b)
  (u:¬ (XD a.size 0 lo=0/\XD a.size a.size b=a.size))
  (h:Q (.ref s.heap.objs.size) {s with heap:=s.heap.push {cls:=.type "tuple",data:=.seq ((a.toList.drop (XD a.size 0 lo)).take (XD a.size a.size b - XD a.size 0 lo)).toArray}})
  (v:a.size<=sizeLine):wpAny (model prog w) A (getItem (.ref t) (.ref l)) Q E s:=by
 have d:sizeOk (.seq ((a.toList.drop (XD a.size 0 lo)).take (XD a.size a.size b - XD a.size 0 lo)).toArray):=by show((a.toList.drop (XD a.size 0 lo)).take (XD a.size a.size b - XD a.size 0 lo)).toArray.size<=sizeLine;rw[S7,T4,U3,VF];lia
 have y:XD a.size a.size b<=a.size:=Mh _ _ (SY _) b;obtain⟨os,e,f,x⟩:=id j;have g:s.TypeIs (.ref l) "slice":=⟨os,e,f⟩
 unfold getItem
 try with_reducible refine Vo ?_
 first|refine SO (Tc ?_)|skip
 refine SO (wpAny_sequenceKey c.typeIs ⋯ ?_)
 refine SO (Uo (name:=Str.ofString "__getitem__") c.typeIs Vn
  (Uy Vn c.typeIs entry_tuple_getitem ?_ (args_tuple_getitem _ _)))
 show wpAny _ _ (Builtin.Tuple.tupleItemsOf (.ref t) >>= _) _ _ s;refine SO (tupleItemsOf_ c ?_);refine SO (wpAny_typeOf g ?_);rw[SV ⋯];refine SO (qh j p r ?_)
 have i:¬ ((((XD a.size 0 lo:Nat):Int)==0&&(1:Int)==1&&(XD a.size a.size b - XD a.size 0 lo)==a.size)=true):=by intro q;rw[S2,S2]at q;have z:((XD a.size 0 lo:Nat):Int)=0:=eq_of_beq q.1.1;have B:XD a.size a.size b - XD a.size 0 lo=a.size:=eq_of_beq q.2;exact u ⟨⋯,⋯⟩
 show wpAny _ _ (if (((XD a.size 0 lo:Nat):Int)==0&&(1:Int)==1&&(XD a.size a.size b - XD a.size 0 lo)==a.size)=true then _ else _) _ _ s;rw[PC i,Hd]
 first
  |exact SO (m:=Builtin.Tuple.tupleExact _) (Vg (Tc ⟨_,rfl,Tc h⟩) d)
  |exact SO (m:=Builtin.Tuple.tupleExact _) (Vg (SO (Tc (Tc ⟨_,rfl,Tc h⟩))) d)
  |exact SO (SO (m:=Builtin.Tuple.tupleExact _) (Vg (Tc (Tc ⟨_,rfl,Tc h⟩)) d))
  |exact SO (SO (m:=Builtin.Tuple.tupleExact _) (Vg (Tc ⟨_,rfl,Tc h⟩) d))
end
end HT
namespace L2
open PySem PySem.Spec PyProof.Rows
abbrev TO:=St->Hp->(Option Int->Hp->Prop)->Prop
def PO(X:Cx)(e:Option Expr)(t:TO):Prop :=
 ∀(a:qe)(s:Shared)(b:St)(H:Hp)(Q:Option Int->Hp->Prop),Inv X a b H s->t b H Q ->
  wpAny (model X.prog X.w) X.A (evalPart e X.env) (λu d=>∃o c,Inv X a b c d/\IsPart u o/\Q o c) X.xe s
noncomputable def zB:TO:=λ_ H Q=>Q none H
noncomputable def uH(t:TE):TO:=λa H Q=>t a H λx b=>∃i,x=.int i/\Q (some i) b
section
variable{X:Cx}{te:TE}{lo hi:Option Expr}{tl th:TO}
theorem oS:PO X none zB:=by intro a s b H Q I h;rw[evalPart_none];exact Tc ⟨none,H,I,.none,h⟩
theorem iV(h:PE X e te):PO X (some e) (uH te):=by intro a s b H Q I c;rw[evalPart_some];refine W9 (h a s b H _ I c) λu l ⟨x,d,f,g,j⟩=>?_;obtain⟨i,rfl,q⟩:=j;obtain⟨t,rfl⟩:=g;exact⟨some i,d,f,.int i t,q⟩
def SlR(X:Cx)(r:V->Option Int->Option Int->Hp->VK->Prop):Prop :=
 ∀(a:qe)(s:Shared)(b:St)(H:Hp)(x:V)(v c d:Value)(lo hi:Option Int)(e:Addr)(Q:VK),Inv X a b H s->RelV x v->s.heap.IsSliceOf e c d .none->IsPart c lo->IsPart d hi->r x lo hi H Q ->
  ∃T id,typeLookup (.type T) "__getitem__"=pure (some (.builtin id))/\s.TypeIs v T/\wpAny (model X.prog X.w) X.A (getItem v (.ref e)) (EP X a b Q) X.xe s
def tSl(r:V->Option Int->Option Int->Hp->VK->Prop)(te:TE)(tl th:TO):TE:=λa H Q=>te a H λx b=>tl a b λl c=>th a c λu d=>r x l u d Q
theorem jw(j:SlR X r)(n:PE X e te)(o:PO X lo tl)(p:PO X hi th):PE X (.Subscript e (.Slice lo hi none p2) t) (tSl r te tl th):=by intro a s d H Q I h;refine Subscript_ (W9 (n a s d H _ I h) λv y ⟨x,z,B,C,E⟩=>?_);refine wpAny_Slice (W9 (o a y d z _ B E) λf G ⟨l,J,L,M,N⟩=>W9 (p a G d J _ L N) λg c ⟨u,i,O,U,Y⟩=>?_);rw[evalPart_none];refine Tc ?_;have I4:Inv X a d i {c with heap:=c.heap.push {cls:=.type "slice",data:=.fields #[f,g,.none]}}:=O.kept (t':=c.toks) λb ob q=>SQ _ q;obtain⟨T,id,hT,ht,hg⟩:=j a {c with heap:=c.heap.push {cls:=.type "slice",data:=.fields #[f,g,.none]}} d i x v f g l u c.heap.objs.size Q I4 C (Heap.IsSliceOf.new ..) M U Y;show wpAny (model X.prog X.w) X.A (subscriptTail e (.Slice lo hi none p2) v (.ref c.heap.objs.size)) (EP X a d Q) X.xe {c with heap:=c.heap.push {cls:=.type "slice",data:=.fields #[f,g,.none]}};exact tail_any (ops:=[.ref c.heap.objs.size,v]) ht hT hg (by with_unfolding_all rfl)
noncomputable def ra(a:List V)(lo hi:Option Int):List V:=(a.drop (HT.XD a.length 0 lo)).take (HT.XD a.length a.length hi - HT.XD a.length 0 lo)
theorem qy(a:List V)(lo hi:Option Int):(ra a lo hi).length<=a.length:=by unfold ra;rw[T4,U3];lia
def L9(K:qs):V->Option Int->Option Int->Hp->VK->Prop:=λx lo hi H Q=>∃a b,x=.ref a/\Xo K H a b /\
 ¬ (HT.XD b.length 0 lo=0/\HT.XD b.length b.length hi=b.length)/\∀p,H p=none->Q (.ref p) (upd H p (.tup (ra b lo hi)))
theorem uD:SlR X (L9 X.K):=by
 intro f s w H x v y z lo hi A Q I j l n p h;obtain⟨a,d,rfl,t,u,q⟩:=h;cases j;obtain⟨e,r,g,i⟩:=I.tuple t;have c:e.toArray.size=d.length:=by rw[S7];exact r.length.symm
 refine⟨"tuple",_,Vn.lookup,g.typeIs,?_⟩;refine HT.Yq g l n p (by rw[c];exact u) ?_ (by rw[c];exact i);rw[c];refine⟨.ref s.heap.objs.size,_,I.laid (t':=s.toks) (o:=.tup (ra d lo hi)) (λb ob q=>SQ _ q) (SY _) ?_,rfl,q _ (I.hok.fresh (SY _))⟩;exact⟨Tz (qy d lo hi) i,_,(r.drop (HT.XD d.length 0 lo)).take (HT.XD d.length d.length hi - HT.XD d.length 0 lo),Wb _ _⟩
noncomputable def KF(K:qs):R2:=λx y H Q=>∃a b d c,x=.ref a/\y=.ref b/\Xo K H a d/\Xo K H b c/\d≠[]/\d.length+c.length<=sizeLine /\
 (c=[]->Q (.ref a) H)/\(c≠[]->∀p,H p=none->Q (.ref p) (upd H p (.tup (d++c))))
theorem Vals.YI(r:Vals a b):b=[]↔a=[]:=by
 cases r with
 |nil=>simp
 |cons _ _=>simp
theorem Do:XG X (binaryOp .Add) (KF X.K):=by intro e s E H x y v u Q I i j h;obtain⟨a,b,l,n,rfl,rfl,p,r,t,f,A,B⟩:=h;cases i;cases j;obtain⟨C,d,p1,_⟩:=I.tuple p;obtain⟨g,c,p2,_⟩:=I.tuple r;refine HT.cat_tup p1 p2 (λz=>t (d.YI.mp z)) (λz=>⟨.ref a,H,I,rfl,A (c.YI.mp z)⟩) (λz=>?_) (by rw[<- d.length,<- c.length];exact f);refine⟨.ref s.heap.objs.size,_,I.laid (t':=s.toks) (o:=.tup (l++n)) (λb ob q=>SQ _ q) (SY _) ?_,rfl,B (λw=>z (c.YI.mpr w)) _ (I.hok.fresh (SY _))⟩;exact⟨by rw[M1];exact f,_,d.append c,Wb _ _⟩
end
noncomputable def ZJ(n:Nat)(i:Int):Option Nat:=if 0<=i then (if i<n then some i.toNat else none)else if -(n:Int)<=i then some (i+n).toNat else none
noncomputable def Z1{α:Type}(a:List α)(i:Int):Option α:=(ZJ a.length i).bind λj=>a[j]?
theorem xM(h:ZJ n i=some j):seqIndex? i n=some j/\j<n/\-(n:Int)<=i/\i<n:=by
 unfold ZJ at h;by_cases b:0<=i
 ·rw[SV b]at h;by_cases a:i<n
  ·rw[SV a]at h;have e:i.toNat=j:=TY h;exact⟨by rw[seqIndex_of b a,e],⋯,⋯,a⟩
  ·rw[PC a]at h;cases h
 ·rw[PC b]at h;by_cases a:-(n:Int)<=i
  ·rw[SV a]at h;have e:(i+n).toNat=j:=TY h;exact⟨by rw[seqIndex_neg ⋯ a,e],⋯,a,⋯⟩
  ·rw[PC a]at h;cases h
theorem CN{α:Type}{a:List α}{v:α}(h:Z1 a i=some v):∃j,seqIndex? i a.length=some j/\a[j]?=some v/\j<a.length/\-(a.length:Int)<=i/\i<a.length:=by
 unfold Z1 at h
 cases e:ZJ a.length i with
 |none=>rw[e]at h;cases h
 |some j =>rw[e]at h;obtain⟨b,c,d,f⟩:=xM e;exact⟨j,b,h,c,d,f⟩
theorem lq{α:Type}{a:List α}{j:Nat}{v:α}(h:a[j]?=some v):Z1 a (j:Int)=some v:=by
 have b:j<a.length:=(S6.mp h).1
 have e:ZJ a.length (j:Int)=some j:=by unfold ZJ;rw[SV ⋯,SV ⋯];simp
 unfold Z1;rw[e];exact h
theorem Fz(a:List α)(v:α):Z1 (a++[v]) (-1)=some v:=by
 have b:(a++[v]).length=a.length+1:=by simp
 have e:ZJ (a++[v]).length (-1)=some a.length:=by unfold ZJ;rw[b,PC ⋯,SV ⋯];congr 1;lia
 unfold Z1;rw[e];show(a++[v])[a.length]?=some v;simp
def Io(b:Expr):Prop:=∀o i,subscripted b false o i=operate [o,i] (getItem o i)
def IxR(X:Cx)(r:R2):Prop :=
 ∀(c a:Expr)(b:qe)(s:Shared)(d:St)(H:Hp)(x y:V)(v u:Value)(Q:VK),Inv X b d H s->RelV x v->RelV y u->r x y H Q ->
  subscripted a false v u=operate [v,u] (getItem v u)->wpAny (model X.prog X.w) X.A (subscriptTail c a v u) (EP X b d Q) X.xe s
def MtR(X:Cx)(id:String)(r:V->List V->Hp->VK->Prop):Prop :=
 ∀(a:qe)(s:Shared)(b:St)(H:Hp)(x:V)(c:List V)(v:Value)(d:zl)(Q:VK),Inv X a b H s->RelV x v->Vals c d->r x c H Q ->
  wpAny (model X.prog X.w) X.A (call (.builtin id) (v::d)) (EP X a b Q) X.xe s
section
variable{a b:Expr}
theorem a8(d:IxR X r)(e:PE X a f)(g:PE X b i)(j:Io b:=by exactλ_ _=>rfl):PE X (.Subscript a b l) (XT r f i):=by intro c s n H Q I h;exact Subscript_ (Lj e g I h λv u o x y p t w z q=>d a b c o n p x y v u Q t w z q (j _ _))
noncomputable def B8(K:qs):R2:=λx y H Q=>∃p c i v,x=.ref p/\y=.int i/\W2 K H p c/\Z1 c i=some v/\Q v H
noncomputable def lZ(K:qs):R2:=λx y H Q=>∃p c i v,x=.ref p/\y=.int i/\Xo K H p c/\Z1 c i=some v/\Q v H
theorem bY:IxR X (B8 X.K):=by
 intro e f c s A H x y v u Q I G J h B;obtain⟨p,xs,i,z,rfl,rfl,L,M,q⟩:=h;cases G;obtain⟨t,rfl⟩:=J;obtain⟨g,r,l,hz⟩:=I.list L;obtain⟨j,d,N,h3,O,T⟩:=CN M;obtain⟨w,C,n⟩:=r.get N;have U:=r.length;have hn:=nN;have fin:EP X c A Q w s:=⟨z,H,I,n,q⟩
 by_cases E:0<=i
 ·have o:i.toNat=j:=by
   rw[seqIndex_of E T]at d;exact TY d
  exact item_listR l.isList E ⋯ (by rw[o];simpa using C) fin B
 ·have o:(i+(g.toArray.size:Int)).toNat=j:=by
   rw[seqIndex_neg ⋯ O]at d;rw[S7,<- U];exact TY d
  exact subscriptTail_builtinR (x:=w) l.isList.typeIs slot_list_getitem.lookup
   (wpAny_getItem_list_neg (Q:=λr Y=>r=w/\EP X c A Q r Y) l.isList ⋯ (by rw[S7]<;>lia) ⋯ (by rw[o];simpa using C) ⟨rfl,fin⟩) B
theorem a9:IxR X (lZ X.K):=by
 intro d e c s g H x y v u Q I n o h A;obtain⟨p,O,i,z,rfl,rfl,B,C,q⟩:=h;cases n;obtain⟨t,rfl⟩:=o;obtain⟨E,r,l,T⟩:=I.tuple B;obtain⟨j,G,J,U,Y,h5⟩:=CN C;obtain⟨w,L,f⟩:=r.get J;have M:=r.length;have hn:=nN;have fin:EP X c g Q w s:=⟨z,H,I,f,q⟩
 exact subscriptTail_builtinR (x:=w) l.typeIs slot_tuple_getitem.lookup
  (getItem_tuple (j:=j) (Q:=λr N=>r=w/\EP X c g Q r N) l ⋯ ⋯ (by rw[S7,<- M];exact G) (by simpa using L) ⟨rfl,fin⟩) A
theorem BN(c:zl)(n j:Nat)(u:Value):Obj.mapSeq (·.setIfInBounds j u) {cls:=.type "list",data:=.seq c.toArray n}={cls:=.type "list",data:=.seq (c.set j u).toArray n}:=by simp[Obj.mapSeq]
theorem Inv.lst{X:Cx}{d:qe}{g:St}{H:Hp}{s:Shared}{p:Addr}{f:List V}(I:Inv X d g H s)(h:H p=some (.lst f)) :
  ∃(c:zl)(n:Nat),Vals f c/\s.heap.get? p=some {cls:=.type "list",data:=.seq c.toArray n}/\f.length<=sizeLine:=by
 obtain⟨z,c,n,r,e⟩:=I.hok p _ h;exact⟨c,n,r,e,z⟩
theorem Inv.lstUpd{X:Cx}{d:qe}{l:St}{H:Hp}{s:Shared}{p:Addr}{v i:List V}{g c:zl}{n j:Nat}{f:Obj->Obj}(I:Inv X d l H s)(h:H p=some (.lst v))
  (w:s.heap.get? p=some {cls:=.type "list",data:=.seq g.toArray n}) (o:f {cls:=.type "list",data:=.seq g.toArray n}={cls:=.type "list",data:=.seq c.toArray j}) (r:Vals i c) (y:i.length<=sizeLine) (t:Nat) :
  Inv X d l (upd H p (.lst i)) {s with heap:=s.heap.update p f,toks:=t}:=by
 have e:(s.heap.update p f).get? p=some {cls:=.type "list",data:=.seq c.toArray j}:=by rw[Wc f w (by rw[o]<;>rfl),o]
 refine I.write (x:=p) (e:=p) (by rw[h];trivial) (.inl rfl) (λb u z q=>(Heap.get?_update_other _ _ (Tf z)).trans q) ⟨_,e⟩ ?_;exact⟨y,c,j,r,e⟩
def Nc:V->V->V->Hp->(Hp->Prop)->Prop:=λo i v H Q=>∃p c k j,o=.ref p/\i=.int k/\H p=some (.lst c)/\ZJ c.length k=some j/\Q (upd H p (.lst (c.set j v)))
theorem o9:K2 X Nc:=by
 intro c s A H o i v M N u Q I B C E h;obtain⟨p,G,k,j,rfl,rfl,l,J,q⟩:=h;cases B;obtain⟨t,rfl⟩:=C;obtain⟨d,n,r,f,L⟩:=I.lst l;obtain⟨e,O,w,x⟩:=xM J;have g:=r.length;have T:=nN
 have y:Inv X c A (upd H p (.lst (G.set j v))) {s with heap:=s.heap.update p (Obj.mapSeq (·.setIfInBounds j u))} :=
  I.lstUpd l f (BN d n j u) (r.set E j) (by rw[List.length_set];exact L) s.toks
 by_cases z:0<=k
 ·have hk:k.toNat=j:=by
   rw[seqIndex_of z x]at e;exact TY e
  exact W.ki_setAt f z ⋯ (by rw[S7,<- g];exact x) (by rw[hk];exact⟨_,y,q⟩)
 ·have hk:(k+(d.toArray.size:Int)).toNat=j:=by
   rw[seqIndex_neg ⋯ w]at e;rw[S7,<- g];exact TY e
  exact W.ki_setBack f ⋯ (by rw[S7,<- g];exact w) ⋯ (by rw[hk];exact⟨_,y,q⟩)
theorem zo(lo c:Option Int)(n:Nat):(sliceBounds lo c none n).1=((HT.XD n 0 lo:Nat):Int)/\(sliceBounds lo c none n).2.1=((HT.XD n n c:Nat):Int)/\(sliceBounds lo c none n).2.2=1:=by
 refine⟨?_,?_,rfl⟩
 ·cases lo with
  |none=>simp[sliceBounds,HT.XD]
  |some i =>
   simp only[sliceBounds,HT.XD,Option.getD_none,show(1:Int)>0 by decide,VE];by_cases h:i<0
   ·simp only[h,VE]<;>lia
   ·simp only[h,WN]<;>lia
 ·cases c with
  |none=>simp[sliceBounds,HT.XD]
  |some i =>
   simp only[sliceBounds,HT.XD,Option.getD_none,show(1:Int)>0 by decide,VE];by_cases h:i<0
   ·simp only[h,VE]<;>lia
   ·simp only[h,WN]<;>lia
theorem vG(c:zl)(lo d:Option Int):slicePick c.toArray lo d none=((c.drop (HT.XD c.length 0 lo)).take (HT.XD c.length c.length d - HT.XD c.length 0 lo)).toArray:=by obtain⟨e,f,g⟩:=zo lo d c.toArray.size;unfold slicePick;rw[e,f,g];simp only[sliceRange_one,pick_run,S7]<;>rfl
def JJ(K:qs):V->Option Int->Option Int->Hp->VK->Prop:=λx lo d H Q=>∃a c,x=.ref a/\W2 K H a c/\∀p,H p=none->Q (.ref p) (upd H p (.lst (ra c lo d)))
theorem zm:SlR X (JJ X.K):=by intro f s w H x v y z lo e A Q I i j l n h;obtain⟨a,c,rfl,p,q⟩:=h;cases i;obtain⟨t,r,g,u⟩:=I.list p;have d:=r.length;refine⟨"list",_,slot_list_getitem.lookup,g.isList.typeIs,?_⟩;refine wpAny_getItem_list_slice g.isList j l n .none (by simp) ?_ (by rw[S7]<;>lia);rw[vG,<- d];refine⟨.ref s.heap.objs.size,_,I.laid (t':=s.toks) (o:=.lst (ra c lo e)) (λb ob q=>SQ _ q) (SY _) ?_,rfl,q _ (I.hok.fresh (SY _))⟩;exact⟨Tz (qy c lo e) u,_,0,(r.drop (HT.XD c.length 0 lo)).take (HT.XD c.length c.length e - HT.XD c.length 0 lo),TN _ rfl⟩
noncomputable def nr:V->Bool
 | .W3=>true
 | .bl _=>true
 | .int _=>true
 | .str _=>true
 |_=>false
noncomputable def eqV:V->V->Bool
 | .W3,.W3=>true
 | .bl a,.bl b=>a==b
 | .bl a,.int b=>(if a then 1 else 0)==b
 | .int a,.bl b=>a==(if b then 1 else 0)
 | .int a,.int b=>a==b
 | .str a,.str b=>a==b
 |_,_=>false
theorem Lp(e:RelV y u)(c:RelV x v)(g:nr y=true)(f:nr x=true):SeqAt.EqAt A s u v (eqV y x):=by
 cases y with
 |W3 =>
  cases e
  cases x with
  |W3=>cases c;exact SeqAt.EqAt.same _
  |bl b=>cases c;exact SeqAt.EqAt.none_bool b
  |int b=>obtain⟨t,rfl⟩:=c;exact SeqAt.EqAt.none_int b t
  |str b=>obtain⟨t,rfl⟩:=c;exact SeqAt.EqAt.none_str b t
  |_=>exact absurd (show false=true from f) SW
 |bl a =>
  cases e
  cases x with
  |W3=>cases c;exact SeqAt.EqAt.bool_none a
  |bl b=>cases c;exact SeqAt.EqAt.bool_bool a b
  |int b=>obtain⟨t,rfl⟩:=c;exact SeqAt.EqAt.bool_int a b t
  |str b=>obtain⟨t,rfl⟩:=c;exact SeqAt.EqAt.bool_str a b t
  |_=>exact absurd (show false=true from f) SW
 |int a =>
  obtain⟨d,rfl⟩:=e
  cases x with
  |W3=>cases c;exact SeqAt.EqAt.int_none a d
  |bl b=>cases c;exact SeqAt.EqAt.int_bool a d b
  |int b=>obtain⟨t,rfl⟩:=c;exact SeqAt.EqAt.int_int a d b t
  |str b=>obtain⟨t,rfl⟩:=c;exact Wu a d b t
  |_=>exact absurd (show false=true from f) SW
 |str a =>
  obtain⟨d,rfl⟩:=e
  cases x with
  |W3=>cases c;exact SeqAt.EqAt.str_none a d
  |bl b=>cases c;exact SeqAt.EqAt.str_bool a d b
  |int b=>obtain⟨t,rfl⟩:=c;exact Wv a d b t
  |str b=>obtain⟨t,rfl⟩:=c;exact SeqAt.EqAt.str_str a d b t
  |_=>exact absurd (show false=true from f) SW
 |_=>exact absurd (show false=true from g) SW
noncomputable def ZK(x:V)(u:Value):Bool:=match u with
 | .none=>eqV .W3 x
 | .bool b=>eqV (.bl b) x
 | .int i _=>eqV (.int i) x
 | .str z _=>eqV (.str z) x
 |_=>false
theorem FU(r:RelV y u)(f:nr y=true):ZK x u=eqV y x:=by
 cases y with
 |W3=>cases r;rfl
 |bl b=>cases r;rfl
 |int i=>obtain⟨t,rfl⟩:=r;rfl
 |str z=>obtain⟨t,rfl⟩:=r;rfl
 |_=>exact absurd (show false=true from f) SW
theorem om:∀{c:List V}{d:zl},Vals c d->c.all nr=true->d.any (ZK x)=c.any λy=>eqV y x
 |_,_,.nil,_=>rfl
 |y::c,u::d,.cons r t,f=>by rw[List.all_cons,S2]at f;rw[Vd,Vd,FU r f.1,om t f.2]
theorem my(e:RelV x v)(g:nr x=true):∀{c:List V}{d:zl},Vals c d->c.all nr=true->∀u∈d,SeqAt.EqAt A s u v (ZK x u)
 |_,_,.nil,_=>λu hu=>by cases hu
 |y::c,u::d,.cons r t,f=>λh hu=>by
  rw[List.all_cons,S2]at f;rcases S0.mp hu with rfl|hu
  ·rw[FU r f.1];exact Lp r e f.1 g
  ·exact my e g t f.2 h hu
noncomputable def inV(x:V)(c:List V):Bool:=c.any λy=>eqV y x
noncomputable def rIn(K:qs)(d:Bool):R2:=λx y H Q=>∃p c,y=.ref p/\(W2 K H p c\/Xo K H p c)/\nr x=true/\c.all nr=true/\Q (.bl (if d then !inV x c else inV x c)) H
theorem fA:XG X (compareOp .In) (rIn X.K false):=by
 intro f s n H x y v u Q I g j h;obtain⟨p,o,rfl,hq,i,fs,q⟩:=h;cases j;rcases hq with hq|hq
 ·obtain⟨c,r,d,l⟩:=I.list hq;refine SeqAt.in_listAt (ZK x) d.isList (λw e=>my g i r fs w (by simpa using e)) ⟨.bl _,H,I,rfl,?_⟩;rw[show c.toArray.any (ZK x)=c.any (ZK x) by simp,om r fs];exact q
 ·obtain⟨c,r,d,l⟩:=I.tuple hq;refine SeqAt.in_tupleAt (ZK x) d (λw e=>my g i r fs w (by simpa using e)) ⟨.bl _,H,I,rfl,?_⟩;rw[show c.toArray.any (ZK x)=c.any (ZK x) by simp,om r fs];exact q
theorem yo:XG X (compareOp .NotIn) (rIn X.K true):=by
 intro f s n H x y v u Q I g j h;obtain⟨p,o,rfl,hq,i,fs,q⟩:=h;cases j;rcases hq with hq|hq
 ·obtain⟨c,r,d,l⟩:=I.list hq;refine SeqAt.notIn_listAt (ZK x) d.isList (λw e=>my g i r fs w (by simpa using e)) ⟨.bl _,H,I,rfl,?_⟩;rw[show c.toArray.any (ZK x)=c.any (ZK x) by simp,om r fs];exact q
 ·obtain⟨c,r,d,l⟩:=I.tuple hq;refine SeqAt.notIn_tupleAt (ZK x) d (λw e=>my g i r fs w (by simpa using e)) ⟨.bl _,H,I,rfl,?_⟩;rw[show c.toArray.any (ZK x)=c.any (ZK x) by simp,om r fs];exact q
theorem aQ:km X (.builtin "len") (λi H Q=>∃p d,i=[.ref p]/\(W2 X.K H p d\/Xo X.K H p d)/\Q (.int d.length) H):=by
 intro j s o H i t Q I r h;obtain⟨p,d,rfl,hq,q⟩:=h;obtain⟨u,rfl,l⟩:=i6 r;cases l;have v:=nN;rcases hq with hq|hq
 ·obtain⟨e,f,g,n⟩:=I.list hq;have c:=f.length;exact Calls.call_len_list g.isList (by simp only[S7]<;>lia) ⟨.int d.length,H,I.tok _,⟨s.toks+1,by rw[S7,c]⟩,q⟩
 ·obtain⟨e,f,g,n⟩:=I.tuple hq;have c:=f.length;exact len_tuple g (by simp only[S7]<;>lia) ⟨.int d.length,H,I.tok _,⟨s.toks+1,by rw[S7,c]⟩,q⟩
theorem xn:km X (.builtin "len") (λc H Q=>∃z,c=[.str z]/\z.length<=sizeLine/\Q (.int z.length) H):=by intro d s e H c f Q I r h;obtain⟨z,rfl,g,q⟩:=h;obtain⟨u,rfl,t,rfl⟩:=i6 r;have i:=nN;exact len_str ⋯ ⟨.int z.length,H,I.tok _,⟨_,rfl⟩,q⟩
theorem xo:km X (.type "list") (λC H Q=>∃p f,C=[.ref p]/\(W2 X.K H p f\/Xo X.K H p f)/\∀l,H l=none->Q (.ref l) (upd H l (.lst f))):=by
 intro j s G H C L Q I r h;obtain⟨p,f,rfl,hq,q⟩:=h;obtain⟨u,rfl,J⟩:=i6 r;cases J
 have fin:∀(c:zl),Vals f c->f.length<=sizeLine->∀(d:Heap)(g:Nat),(∀b E,s.heap.get? b=some E->d.get? b=some E) ->
   d.get? s.heap.objs.size=some {cls:=.type "list",dict:=none,data:=.seq c.toArray g,slots:=#[]}->EP X j G Q (.ref s.heap.objs.size) {s with heap:=d}:=λc i t d g v e =>
  ⟨.ref s.heap.objs.size,_,I.laid (t':=s.toks) v (SY _) (show Xk X.prog X.w _ d _ (.lst f) from ⟨t,c,g,i,e⟩),rfl,q _ (I.hok.fresh (SY _))⟩
 rcases hq with hq|hq
 ·obtain⟨c,i,y,t⟩:=I.list hq;have x:=i.length;obtain⟨o,z,A,n,B⟩:=y.isList;exact call_list_seq p (.inl rfl) z A B (λd g v e=>fin c i t d g v e) (by simp only[S7]<;>lia)
 ·obtain⟨c,i,y,t⟩:=I.tuple hq;have x:=i.length;obtain⟨o,z,A,n,B⟩:=y;exact call_list_seq p (.inr rfl) z A B (λd g v e=>fin c i t d g v e) (by simp only[S7]<;>lia)
theorem dD:km X (.type "tuple") (λt H Q=>∃p f,t=[.ref p]/\((W2 X.K H p f/\∀l,H l=none->Q (.ref l) (upd H l (.tup f)))\/(Xo X.K H p f/\Q (.ref p) H))):=by
 intro c s v H t E Q I r h;obtain⟨p,f,rfl,h⟩:=h;obtain⟨u,rfl,A⟩:=i6 r;cases A;rcases h with⟨i,q⟩|⟨i,q⟩
 ·obtain⟨d,j,n,x⟩:=I.list i;have y:=j.length;refine call_tuple_list n.isList (λg B=>?_) (by simp only[S7]<;>lia);have z:Inv X c v H {s with heap:=g}:=I.kept (t':=s.toks) B
  have C:Inv X c v (upd H g.objs.size (.tup f)) {s with heap:=g.push {cls:=.type "tuple",data:=.seq d.toArray}} :=
   z.laid (t':=s.toks) (λb o e=>SQ _ e) (SY _) (show Xk X.prog X.w _ _ _ (.tup f) from ⟨x,d,j,Wb _ _⟩)
  exact⟨.ref g.objs.size,_,C,rfl,q _ (z.hok.fresh (SY _))⟩
 ·obtain⟨d,j,n,x⟩:=I.tuple i;exact call_tuple_same n ⟨.ref p,H,I,rfl,q⟩
def tyV(K:qs)(T:String)(x:V)(H:Hp):Prop:=match x with
 | .str _=>T="str"
 | .int _=>T="int"
 | .ref p=>(T="list"/\∃d,W2 K H p d)\/(T="tuple"/\∃o,K.lookup p=some o/\o.cls=.type "tuple"/\o.dict=none) \/
   (T="dict"/\((∃c,H p=some (.dK c))\/∃c,H p=some (.dT c)))\/(T="set"/\∃S n,H p=some (.set S n))
 |_=>False
theorem Ib{X:Cx}{d:qe}{q:St}{H:Hp}{s:Shared}{T:String}{x:V}{v:Value}(I:Inv X d q H s)(r:RelV x v)(f:tyV X.K T x H) :
  s.TypeIs v T/\∀a,v=.ref a->∃ob,s.heap.get? a=some ob/\ob.dict=none:=by
 cases x with
 |str z =>obtain⟨t,rfl⟩:=r;cases (show T="str" from f);exact⟨typeIs_str s z t,λ_ e=>nomatch e⟩
 |int i =>obtain⟨t,rfl⟩:=r;cases (show T="int" from f);exact⟨typeIs_int s i t,λ_ e=>nomatch e⟩
 |ref p =>
  cases r;rcases f with⟨rfl,A,u⟩|⟨rfl,o,hk,w,g⟩|⟨rfl,hk⟩|⟨rfl,S,n,hk⟩
  ·obtain⟨y,_,l,_⟩:=I.list u;refine⟨l.isList.typeIs,λa e=>?_⟩;cases e;obtain⟨o,n,e,c,g,_⟩:=l;exact⟨o,e,g⟩
  ·refine⟨⟨o,I.X7 p o hk,w⟩,λa e=>?_⟩;cases e;exact⟨o,I.X7 _ o hk,g⟩
  ·have z:∃o,s.heap.get? p=some o/\o.ExactDict:=by
    rcases hk with⟨h,hk⟩|⟨h,hk⟩
    ·obtain⟨_,_,_,_,o,_,_,e,ex,_⟩:=I.hok p _ hk;exact⟨o,e,ex⟩
    ·obtain⟨_,_,_,_,o,_,_,e,ex,_⟩:=I.hok p _ hk;exact⟨o,e,ex⟩
   obtain⟨o,e,ex⟩:=z;refine⟨⟨o,e,ex.1⟩,λa j=>?_⟩;cases j;exact⟨o,e,ex.2.1⟩
  ·obtain⟨o,_,_,_,e,ex,_⟩:=I.hok p _ hk;refine⟨⟨o,e,ex.1⟩,λa j=>?_⟩;cases j;exact⟨o,e,ex.2.1⟩
 |_=>exact False.elim f
def Mn(K:qs)(T:String)(r:V->List V->Hp->VK->Prop)(to:TE):TE:=λd H Q=>to d H λx c=>tyV K T x c/\r x [] c Q
def tBM(K:qs)(T:String)(r:V->List V->Hp->VK->Prop)(to:TE)(t:TA):TE:=λc H Q=>to c H λx d=>tyV K T x d/\t c d λe f=>r x e f Q
variable{id:String}
theorem mE{X:Cx}{c d:Pos}(p:PlainAttrs T)(slot:Slot T name id)(i:typeOf (.builtin id)=pure (.type "method_descriptor"))(q:MtR X id r)(t:PE X o to)
  (f:attributeBase o name X.env (eval o X.env)=eval o X.env:=by rfl) (g:(c.endLine==d.line)=true:=by rfl):PE X (.Call (.Attribute o name c) [] [] d) (Mn X.K T r to):=by
 intro e s j H Q I h;refine wpAny_Call_method0_late f g (W9 (t e s j H _ I h) λv u ⟨x,w,l,n,y,z⟩=>?_);obtain⟨A,B⟩:=Ib l n y;exact⟨T,id,p,slot,i,A,B,V1 rfl (PySem.evalArgs_none (q e u j w x [] v [] Q l n .nil z))⟩
theorem dW{X:Cx}{g:Pos}(z:PlainAttrs T)(slot:Slot T name id)(p:typeOf (.builtin id)=pure (.type "method_descriptor"))(A:MtR X id r)(B:PE X o to)(C:PA X (e::i) t)
  (j:attributeBase o name X.env (eval o X.env)=eval o X.env:=by rfl)
  (n:((backTo c (starEach (e::i) X.env)).all (λx=>!x.1)&&(backToKw c (keywordEach [] X.env)).all (λx=>x.1.isSome)
   && decide ((e::i).length+([]:List Keyword).length+(if ([]:List Keyword).isEmpty then 0 else 1)<30))=true:=by rfl)
  (l:(g.endLine==c.line)=true:=by rfl) (E:starEach (e::i) X.env=(false,eval e X.env)::starEach i X.env:=by rfl) (f:(backTo c (starEach i X.env)).any (·.1)=false:=by rfl) :
  PE X (.Call (.Attribute o name g) (e::i) [] c) (tBM X.K T r to t):=by
 intro d s q H Q I h;refine wpAny_Call_method_late j n l rfl (W9 (B d s q H _ I h) λv G ⟨x,J,u,w,L,M⟩=>?_);obtain⟨N,O⟩:=Ib u w L;refine⟨T,id,z,slot,p,N,O,?_⟩;have y:=C c d G q J _ u M;rw[E]at y ⊢;refine V1 (by show(false||(backTo c (starEach i X.env)).any (·.1))=false;rw[f]<;>rfl) (Calls.evalArgs_plain ?_);exact W9 y λU Y ⟨vs,H2,I2,r2,q2⟩=>A d Y q H2 x vs v U Q I2 w r2 q2
end
def MtM(X:Cx)(id:String)(r:V->List V->Hp->VK->Prop):Prop :=
 ∀(a:qe)(s:Shared)(b:St)(H:Hp)(x:V)(c:List V)(v:Value)(d:zl)(Q:VK),Inv X a b H s->RelV x v->Vals c d->r x c H Q ->
  wpAny (model X.prog X.w) X.A (call (.builtin id) (v::d)) (EP X a b Q) X.xe s
theorem Vals.one:∀{x:V}{a:zl},Vals [x] a->∃u,a=[u]/\RelV x u
 |_,_,.cons r .nil=>⟨_,rfl,r⟩
theorem Vals.zero:∀{a:zl},Vals [] a->a=[]
 |_,.nil=>rfl
theorem Vals.dropLast(h:Vals a b):Vals a.dropLast b.dropLast:=by
 induction h with
 |nil=>exact .nil
 |cons r t c =>
  cases t with
  |nil=>exact .nil
  |cons q d=>exact .cons r c
theorem Vals.rep(h:Vals a b):∀k:Nat,Vals (List.replicate k a).flatten (List.replicate k b).flatten
 |0=>.nil
 |k+1=>by rw[UM,UM,TV,TV];exact Vals.append h (Vals.rep h k)
theorem BC{α:Type}(l:List α):l.eraseIdx (l.length - 1)=l.dropLast:=by
 induction l with
 |nil=>rfl
 |cons a r c =>
  cases r with
  |nil=>rfl
  |cons b r =>
   have e:(a::b::r).length - 1=((b::r).length - 1)+1:=by have d:(a::b::r).length=r.length+2:=rfl;have f:(b::r).length=r.length+1:=rfl;lia
   rw[e,List.eraseIdx_cons_succ,c]
   all_goals rfl
theorem wj(a:zl):∀(k:Nat)(b:zl),
  List.foldl (λc d=>c++d) b.toArray (List.replicate k a.toArray)=(b++(List.replicate k a).flatten).toArray
 |0,b=>by simp
 |k+1,b=>by
  have e:b.toArray++a.toArray=(b++a).toArray:=by simp
  have f:(b++a)++(List.replicate k a).flatten=b++(List.replicate (k+1) a).flatten:=by rw[UM,TV,TJ]
  rw[<- f,<- wj a k (b++a),<- e,UM,VI]
section
theorem Inv.lset{X:Cx}{a:qe}{d:St}{H:Hp}{s:Shared}{l:Addr}{g c:List V}{b its':zl}{n:Nat}{f:Array Value->Array Value}{h:Nat}(I:Inv X a d H s)(i:H l=some (.lst g))
  (e:s.heap.get? l=some {cls:=.type "list",data:=.seq b.toArray n}) (j:f b.toArray=its'.toArray) (o:Vals c its') (p:c.length<=sizeLine) :
  Inv X a d (upd H l (.lst c)) {s with heap:=s.heap.update l (Obj.mapSeq f),toks:=h}:=by
 have q:=PySem.IsL.update e f;rw[j]at q;refine I.write (x:=l) (e:=l) (by rw[i];exact trivial) (.inl rfl) (λv u r t=>(Heap.get?_update_other s.heap (Obj.mapSeq f) (Tf r)).trans t) ⟨_,q⟩ ?_;exact⟨p,its',_,o,q⟩
theorem Inv.lnew{X:Cx}{a:qe}{d:St}{H:Hp}{s:Shared}{c:List V}{b:zl}{t':Nat}(I:Inv X a d H s)(e:Vals c b)(f:c.length<=sizeLine) :
  Inv X a d (upd H s.heap.objs.size (.lst c)) {s with heap:=s.heap.push {cls:=.type "list",data:=.seq b.toArray},toks:=t'} :=
 I.laid (λ_ _ q=>SQ _ q) (SY _) ⟨f,b,0,e,TN _ rfl⟩
theorem Inv.fresh{X:Cx}{a:qe}{b:St}{H:Hp}{s:Shared}(I:Inv X a b H s):H s.heap.objs.size=none:=I.hok.fresh (SY _)
theorem Inv.Zs{X:Cx}{b:qe}{d:St}{H:Hp}{s:Shared}{l:Addr}{c:List V}(I:Inv X b d H s)(f:H l=some (.lst c)):c.length<=sizeLine/\∃(a:zl)(n:Nat),Vals c a/\c.length=a.length/\s.heap.get? l=some {cls:=.type "list",data:=.seq a.toArray n}:=by obtain⟨z,a,n,r,e⟩:=I.hok l _ f;exact⟨z,a,n,r,r.length,e⟩
theorem Aw(h:n<=sizeLine):Builtin.List.listTooLong n=false:=by unfold Builtin.List.listTooLong;exact S3 ⋯
def ko:V->List V->Hp->VK->Prop:=λx b H Q=>∃l a y,x=.ref l/\b=[y]/\H l=some (.lst a)/\a.length<sizeLine/\Q .W3 (upd H l (.lst (a++[y])))
theorem cC:MtM X "list.append" ko:=by intro b s i H x j v o Q I d f h;obtain⟨l,p,y,rfl,rfl,c,t,q⟩:=h;cases d;obtain⟨u,rfl,g⟩:=f.one;obtain⟨z,a,n,r,w,e⟩:=I.Zs c;refine VT TU ⟨_,e,rfl⟩ F.entry_list_append (F.args_list_append_2 _ _) (PySem.list_append l a.toArray n u (by rw[S7];lia)) ⟨e,?_⟩;refine⟨.W3,_,I.lset (its':=a++[u]) c e (by simp) (r.append (.cons g .nil)) ?_,rfl,q⟩;rw[M1,Vx];lia
def rS:V->List V->Hp->VK->Prop:=λx c H Q=>∃l b a zs,x=.ref l/\c=[.ref b]/\H l=some (.lst a)/\H b=some (.lst zs)/\a.length+zs.length<=sizeLine/\Q .W3 (upd H l (.lst (a++zs)))
theorem gI:MtM X "list.extend" rS:=by
 intro g s B H x C v E Q I j o h;obtain⟨l,b,G,zs,rfl,rfl,i,p,J,q⟩:=h;cases j;obtain⟨u,rfl,t⟩:=o.one;cases t;obtain⟨z,c,n,r,L,e⟩:=I.Zs i;obtain⟨z2,a,w,y,hl2,A⟩:=I.Zs p;have f:c.toArray.size+a.toArray.size<=sizeLine:=by rw[S7,S7];lia
 have d:¬ (!c.toArray.isEmpty&&Builtin.List.listTooLong (c.toArray.size+a.toArray.size))=true:=by rw[Aw f,TQ];exact SW
 refine VT Us ⟨_,e,rfl⟩ F.entry_list_extend (F.args_list_extend_2 _ _)
  (AutoSeq1.list_extend_list_list_0 l c.toArray n b a.toArray w d (by rw[S7];lia) ⋯) ⟨e,A,?_⟩
 refine⟨.W3,_,I.lset (its':=c++a) i e (by simp) (r.append y) ?_,rfl,q⟩;rw[M1];lia
def Hk:V->List V->Hp->VK->Prop:=λx b H Q=>∃l a y,x=.ref l/\b=[]/\H l=some (.lst a)/\a[a.length - 1]?=some y/\Q y (upd H l (.lst a.dropLast))
theorem mB:MtM X "list.pop" Hk:=by
 intro d s w H x A v B Q I g i h;obtain⟨l,C,y,rfl,rfl,f,j,q⟩:=h;cases g;have b:=i.zero;subst b;obtain⟨z,a,n,r,o,e⟩:=I.Zs f;obtain⟨u,p,t⟩:=r.get j
 have c:a.toArray[a.toArray.size - 1]?=some u:=by show a.toArray[a.length - 1]?=some u;rw[<- Array.getElem?_toList,<- o];exact p
 refine VT UK ⟨_,e,rfl⟩ F.entry_list_pop (F.args_list_pop_1 _) (MeetsSeq.list_pop_last l a.toArray n u c (by rw[S7];lia)) ⟨e,?_⟩;refine⟨y,_,I.lset (its':=a.dropLast) f e ?_ r.dropLast ?_,t,q⟩
 ·show a.toArray.eraseIdxIfInBounds (a.toArray.size - 1)=a.dropLast.toArray;rw[S7,List.eraseIdxIfInBounds_toArray,BC]
 ·rw[List.length_dropLast];lia
noncomputable def NT:R2:=λx y H Q=>∃l b a zs,x=.ref l/\y=.ref b/\H l=some (.lst a)/\H b=some (.lst zs)/\a.length+zs.length<=sizeLine/\∀p,H p=none->Q (.ref p) (upd H p (.lst (a++zs)))
theorem LM:XG X (binaryOp .Add) NT:=by
 intro d s w H x y v u Q I f g h;obtain⟨l,b,A,zs,rfl,rfl,i,j,B,q⟩:=h;cases f;cases g;obtain⟨z,c,n,r,C,e⟩:=I.Zs i;obtain⟨z2,a,E,o,hl2,p⟩:=I.Zs j;refine PySem.P.add_list e p ?_ (by rw[S7,S7];lia);have t:c.toArray++a.toArray=(c++a).toArray:=by simp
 rw[t];exact⟨.ref _,_,I.lnew (t':=s.toks) (r.append o) (by rw[M1];lia),rfl,q _ I.fresh⟩
noncomputable def Nb:R2:=λx y H Q=>∃l k a,x=.ref l/\y=.int k/\H l=some (.lst a)/\-(2 ^ 63)<=k/\k<2 ^ 63/\a.length*k.toNat<=sizeLine /\
 ∀p,H p=none->Q (.ref p) (upd H p (.lst (List.replicate k.toNat a).flatten))
theorem Dk{α:Type}(a:List α)(k:Nat):(List.replicate k a).flatten.length=k*a.length:=by
 induction k with
 |zero=>simp
 |succ k b=>rw[UM,TV,M1,b,Nat.succ_mul,Nat.add_comm]
theorem LO:XG X (binaryOp .Mult) Nb:=by
 intro p s N H x y v u Q I A B h;obtain⟨l,k,O,rfl,rfl,C,E,G,w,q⟩:=h;cases A;obtain⟨t,rfl⟩:=B;obtain⟨z,b,n,r,J,e⟩:=I.Zs C;have d:b.toArray.size*k.toNat<=sizeLine:=by rw[S7,<- J];exact w
 have f:¬ b.toArray.size*k.toNat>(2 ^ 63 - 1) / 8:=by
  have:(sizeLine:Nat)<=(2 ^ 63 - 1) / 8:=by decide
  lia
 have g:¬ (!Builtin.List.listFitsIndex k)=true:=by rw[fitsIndex_both E G];exact SW
 have c:¬ Builtin.List.listTooLong (b.toArray.size*k.toNat)=true:=by rw[Aw d];exact SW
 have i:List.foldl (λj o=>j++o) #[] (List.replicate (if b.toArray.isEmpty=true then 0 else k.toNat) b.toArray)=(List.replicate k.toNat b).flatten.toArray:=by
  have L:∀m:Nat,List.foldl (λj o=>j++o) #[] (List.replicate m b.toArray)=(List.replicate m b).flatten.toArray:=λm=>by have:=wj b m [];rw[UU]at this;exact this
  rw[L]
  cases b with
  |nil=>simp
  |cons a Y=>rw[PC (by simp)]
 refine wpAny_binaryOp_repeat_ref (T:="list") (U:="int") ⋯ ⟨_,e,rfl⟩ (λM=>typeIs_int M k t) noFill_list_mul F.fills_int_mul F.slot_int_rmul repeat_list F.slot_int_index.lookup
  (VT F.slot_int_rmul (typeIs_int s k t) F.entry_int_rmul (F.args_int_rmul_2 _ _) (int___rmul___int_list k t l b.toArray n)
   ⟨e,rfl,⟨_,e,rfl⟩,VT F.slot_list_mul ⟨_,e,rfl⟩ F.entry_list_mul (F.args_list_mul_2 _ _) (AutoListH.list___mul___list_int_3 l b.toArray n k t g f c) ⟨e,?_⟩⟩)
 rw[i];exact⟨.ref _,_,I.lnew (t':=s.toks) (r.rep k.toNat) (by rw[Dk,Nat.mul_comm];exact w),rfl,q _ I.fresh⟩
end
section
variable{κ:Type}[DecidableEq κ]
noncomputable def nZ(a:List (κ×V))(k:κ):Option V:=(a.find? λb=>decide (b.1=k)).map (·.2)
noncomputable def AR(a:List (κ×V))(k:κ)(v:V):List (κ×V) :=
 if (a.any λb=>decide (b.1=k))=true then a.map (λb=>if b.1=k then (b.1,v)else b)else a++[(k,v)]
theorem Bo{p:κ×V}(e:p.1=k):nZ (p::r) k=some p.2:=by simp[nZ,UW,e]
theorem Bn{p:κ×V}(e:¬ p.1=k):nZ (p::r) k=nZ r k:=by simp[nZ,UW,e]
theorem Al(a:List (κ×V))(k:κ)(v:V):(AR a k v).length<=a.length+1:=by
 unfold AR;split
 ·rw[tB];lia
 ·rw[M1,SX,T8];lia
theorem KV.val(r:KV a g)(k:κ):Ym (nZ a k) (valueAt g k):=by
 unfold KV at r
 induction r with
 |nil=>exact True.intro
 | @cons p q l c h t i =>
  obtain⟨f,j⟩:=h;by_cases e:p.1=k
  ·have d:q.1=k:=f.symm.trans e;have b:valueAt (q::c) k=some q.2:=by simp[valueAt,UW,d]
   rw[Bo e,b];exact j
  ·have d:¬ q.1=k:=λz=>e (f.trans z);have b:valueAt (q::c) k=valueAt c k:=by simp[valueAt,UW,d]
   rw[Bn e,b];exact i
theorem KV.any(r:KV a c)(k:κ):(a.any λb=>decide (b.1=k))=c.any λb=>decide (b.1=k):=by
 unfold KV at r
 induction r with
 |nil=>rfl
 |cons h t d=>rw[Vd,Vd,d,h.1]
theorem KV.repl(r:KV c d)(k:κ)(f:RelV y u) :
  KV (c.map λa=>if a.1=k then (a.1,y)else a) (d.map λa=>if a.1=k then (a.1,u)else a):=by
 unfold KV at r ⊢
 induction r with
 |nil=>exact .nil
 | @cons p q j l h t g =>
  rw[S8,S8];refine .cons ?_ g;obtain⟨b,i⟩:=h;by_cases e:p.1=k
  ·rw[SV e,SV (b.symm.trans e)];exact⟨b,f⟩
  ·rw[PC e,PC (λz=>e (b.trans z))];exact⟨b,i⟩
theorem KV.put(r:KV a b)(k:κ)(c:RelV y u):KV (AR a k y) (stored b k u):=by
 unfold AR stored;rw[r.any k];by_cases e:(b.any λd=>decide (d.1=k))=true
 ·rw[SV e,SV e];exact r.repl k c
 ·rw[PC e,PC e];exact Paired.snoc r ⟨rfl,c⟩
end
theorem Gw(r:RelV (kV k) u):(f7 P w).is k u=true:=by
 cases k with
 |inl i=>obtain⟨t,e⟩:=(show ∃t,u=Value.int i t from r);subst e;exact Ao P w i t
 |inr x=>obtain⟨t,e⟩:=(show ∃t,u=Value.str x t from r);subst e;exact Ap P w x t
theorem wA:∀{a:List Key}{b:zl},Vals (a.map kV) b->ItemsAre (f7 P w) a b
 |[],_,r=>by rw[UO]at r;cases r;exact .nil
 |k::a,_,r=>by
  rw[S8]at r
  cases r with
  |cons h t=>exact .cons (Gw h) (wA t)
abbrev KT(H:Hp):List (List Key×V)->List (List Key×Addr×Value)->Prop:=Paired λp q=>p.1=q.1/\H q.2.1=some (.tup (p.1.map kV))/\RelV p.2 q.2.2
theorem KT.val(r:KT H a g)(k:List Key):Ym (nZ a k) ((atKey g k).map (·.2)):=by
 induction r with
 |nil=>exact True.intro
 | @cons p q l c h t i =>
  obtain⟨f,_,j⟩:=h;by_cases e:p.1=k
  ·have d:q.1=k:=f.symm.trans e;have b:atKey (q::c) k=some q.2:=by simp[atKey,UW,d]
   rw[Bo e,b];exact j
  ·have d:¬ q.1=k:=λz=>e (f.trans z);have b:atKey (q::c) k=atKey c k:=by simp[atKey,UW,d]
   rw[Bn e,b];exact i
section
theorem KI(ok:Yn P w H h)(e:Rd H a u):Xk P w H h a u:=e.ok ok
theorem FS(ok:Yn P w H h)(e:Rd H a (.dK b)):b.length<=sizeLine/\(a==sysModules)=false/\∃c,KV b c/\h.DictOf (f7 P w) a c :=
 show Xk P w H h a (.dK b) from KI ok e
theorem MM(ok:Yn P w H h)(e:H a=some (.dK b)):b.length<=sizeLine/\(a==sysModules)=false/\∃c,KV b c/\h.DictOf (f7 P w) a c:=FS ok (.inl e)
theorem Gx{b:List Key}(ok:Yn P w H h)(e:H a=some (.tup (b.map kV))):(tupleKind (f7 P w)).is h b a:=by
 obtain⟨_,c,r,o,d,f,n,g⟩:=(show Xk P w H h a (.tup (b.map kV)) from ok a _ e)
 exact⟨o,c.toArray,n,d,f,g,by simpa using wA r⟩
theorem Kq(ok:Yn P w H h)(e:Rd H a (.dT b)):b.length<=sizeLine/\(a==sysModules)=false /\
  ∃c,KT H b c/\h.DictOfH (tupleKind (f7 P w)) a c:=by
 obtain⟨z,y,c,r,o,f,g,i,j,n,s,u⟩:=(show Xk P w H h a (.dT b) from KI ok e)
 refine⟨z,y,c,r,o,f,g,i,j,n,s,λx hx=>?_,u⟩
 have all:∀{l:List (List Key×V)}{m:List (List Key×Addr×Value)},KT H l m->∀x∈m,(tupleKind (f7 P w)).is h x.1 x.2.1:=by
  intro l m q
  induction q with
  |nil=>intro x hx;exact nomatch hx
  | @cons p q A B d t v =>
   intro x hx;rcases S0.mp hx with e|hx
   ·subst e;exact Gx ok (by rw[<- d.1];exact d.2.1)
   ·exact v x hx
 exact all r x hx
end
def Zt(H:Hp)(a:Addr)(y:V)(r:Option V):Prop :=
 (∃c k,Rd H a (.dK c)/\y=kV k/\r=nZ c k)\/∃c k b,Rd H a (.dT c)/\y=.ref b/\H b=some (.tup (k.map kV))/\r=nZ c k
theorem Zt.k{H:Hp}{b:List (Key×V)}{k:Key}(e:H a=some (.dK b)):Zt H a (kV k) (nZ b k):=.inl ⟨b,k,.inl e,rfl,rfl⟩
section
theorem Inv.big{X:Cx}{a:qe}{b:St}{H:Hp}{s:Shared}(I:Inv X a b H s):sysModules<s.heap.objs.size:=by have h:mainGlobals<s.heap.objs.size:=(I.mod.glob.keeps I.bk).lt;exact WO ⋯ h
theorem Ea{X:Cx}{c:qe}{x:St}{H:Hp}{s:Shared}{a:Addr}{y v:V}{u:Value}{A:Around}{E:qf}{Q:qf}(G:A.units+1<cLine)(I:Inv X c x H s)(g:Zt H a y (some v))(B:RelV y u)(h:∀i C,Inv X c x H C->RelV v i->Q i C) :
  wpAny (model X.prog X.w) A (getItem (.ref a) u) Q E s:=by
 rcases g with⟨j,k,e,n,l⟩|⟨j,k,b,e,n,J,l⟩
 ·subst n;obtain⟨z,L,M,d,q⟩:=FS I.hok e;obtain⟨i,r,f⟩:=Ym.some_of (v:=v) (o:=valueAt M k) (by rw[l];exact d.val k);exact wpAny_getItem_of (Gw B) q.mapOf r (h i _ (I.tok _) f)
 ·subst n;cases (show u=Value.ref b from B);obtain⟨z,L,N,d,q⟩:=Kq I.hok e;obtain⟨i,r,f⟩:=Ym.some_of (v:=v) (o:=(atKey N k).map (·.2)) (by rw[l];exact d.val k);obtain⟨p,O,t⟩:=Tt.mp r;refine wpAny_getItem_heap (tupleKind_room_in1 G) (Gx I.hok J) q O ?_;rw[t];exact h i _ (I.tok _) f
theorem IC{X:Cx}{c:qe}{g:St}{H:Hp}{s:Shared}{a:Addr}{d:Heap}{h:Nat}{ob:HO}(I:Inv X c g H s)(i:Mut (H a))(j:Heap.SameBut a s.heap d)(l:∃q,d.get? a=some q)(f:Xk X.prog X.w (upd H a ob) d a ob) :
  Inv X c g (upd H a ob) {s with heap:=d,toks:=h} :=
 I.write (x:=a) (e:=a) i (.inl rfl) (λb q n z=>(j.2 b n).trans z) l f
theorem Lo{d:Heap}{b:List (Key×V)}(z:b.length<=sizeLine)(f:(a==sysModules)=false)(c:KV b e)(g:d.DictOf (f7 P w) a e) :
  Xk P w h d a (.dK b):=⟨z,f,e,c,g⟩
end
def MD(i:Expr):Prop:=∀a b,subscripted i false a b=operate [a,b] (getItem a b)
theorem Kf{id:String}
  (n:typeLookup (.type T) "__getitem__"=pure (some (.builtin id))) (p:MD a)
  (h:wpAny (model prog w) A (eval c env) (λo e=>wpAny (model prog w) A (eval a env) (λi b=>b.TypeIs o T/\wpAny (model prog w) A (getItem o i) Q E b) E e) E s) :
  wpAny (model prog w) A (eval (.Subscript c a q) env) Q E s:=by
 refine Subscript_ (VB h (λo e g=>VB g (λi b d=>?_) λ_ _ x=>x) λ_ _ x=>x);obtain⟨l,d⟩:=d;unfold subscriptTail;refine SO ?_;rw[getitemInPython_of_ne l.not_modules];refine SO (wpAny_specialOf l n ?_)
 have fin:wpAny (model prog w) A (subscripted a false o i) (λr f=>wpAny (model prog w) A (letTemporaryGo c o r >>= λ_=>pure r) Q E f) E b:=by rw[p o i];exact wpAny_operating (VB d (λr f j=>SO (wpAny_letTemporaryGo (Tc j))) λ_ _ x=>x)
 first
  |exact Tc (SO fin)
  |exact SO (Tc (SO fin))
  |exact SO fin
theorem Aa{X:Cx}{c:qe}{h:St}{H:Hp}{s:Shared}{a:Addr}{y:V}{o:Option V}(I:Inv X c h H s)(g:Zt H a y o):s.TypeIs (.ref a) "dict":=by
 rcases g with⟨d,k,e,_,_⟩|⟨d,k,b,e,_,_,_⟩
 ·obtain⟨_,_,i,_,f⟩:=FS I.hok e;exact f.typeIs
 ·obtain⟨_,_,j,_,f⟩:=Kq I.hok e;exact f.typeIs
noncomputable def KU(d e:TE):TE:=λb H Q=>d b H λx f=>e b f λy c=>∃a v,x=.ref a/\Zt c a y (some v)/\Q v c
section
theorem rR{X:Cx}(f:X.A.units+1<cLine)(j:PE X o l)(n:PE X i p)(q:MD i):PE X (.Subscript o i r) (KU l p):=by intro b s d H Q I h;refine Kf F.slot_dict_getitem.lookup q (W9 (j b s d H _ I h) λu t ⟨x,w,z,B,C⟩=>W9 (n b t d w _ z C) λM N ⟨y,E,e,G,a,v,ex,g,J⟩=>?_);subst ex;obtain rfl:u=Value.ref a:=B;exact⟨Aa e g,Ea f e g G λO T L c=>⟨v,E,L,c,J⟩⟩
end
theorem FR(h:Heap)(a:sysModules<h.objs.size):Xk P w H (h.push {cls:=.type "dict",data:=.dict #[]}) h.objs.size (.dK []) :=
 ⟨Uk _,Vl.mpr (Tf (Tw a)),[],.nil,Heap.DictOf.new h⟩
section
end
def Cz:List (TE×TE)->St->Hp->(List (V×V)->Hp->Prop)->Prop
 |[],_,H,Q=>Q [] H
 | (b,c)::r,a,H,Q=>b a H λx d=>c a d λy e=>Cz r a e λf g=>Q ((x,y)::f) g
abbrev VV:List (V×V)->List (Value×Value)->Prop:=Paired λp q=>RelV p.1 q.1/\RelV p.2 q.2
def PPs(X:Cx)(d:Pos)(c:List (Option Expr))(a:List Expr)(e:List (TE×TE)):Prop :=
 ∀(b:qe)(s:Shared)(f:St)(H:Hp)(Q:List (V×V)->Hp->Prop),Inv X b f H s->Cz e f H Q ->
  wpAny (model X.prog X.w) X.A (evalPairs (pairTrees c a X.env d)) (λi j=>∃g h,Inv X b f h j/\VV g i/\Q g h) X.xe s
theorem JG:PPs X b [] [] []:=λa s c H Q I h=>pairTrees_nil_walk ⟨[],H,I,.nil,h⟩
theorem tW(hk:PE X k f)(g:PE X v i)(j:PPs X b l n c) :
  PPs X b (some k::l) (v::n) ((f,i)::c):=λa s d H Q I h =>
 pairTrees_cons_walk (W9 (hk a s d H _ I h) λu o ⟨x,p,q,r,t⟩=>W9 (g a o d p _ q t) λM w ⟨y,z,A,B,C⟩ =>
  W9 (j a w d z _ A C) λN O ⟨E,G,J,e,L⟩=>⟨(x,y)::E,G,J,.cons ⟨r,B⟩ e,L⟩)
noncomputable def pM(b a:List (Key×V)):List (Key×V):=a.foldl (λc d=>AR c d.1 d.2) b
theorem KV.merge:∀{a:List (Key×V)}{d:List (Key×Value)}{b:List (Key×V)}{c:List (Key×Value)},KV a d->KV b c->KV (pM b a) (merged c d):=by
 intro a d b c r;unfold KV at r
 induction r generalizing b c with
 |nil=>intro q;exact q
 | @cons p q i j h t f =>
  intro g
  have e:KV (AR b p.1 p.2) (stored c q.1 q.2):=by have:=g.put p.1 h.2;rw[<- h.1];exact this
  exact f e
theorem nz:∀(b a:List (Key×V)),(pM a b).length<=a.length+b.length
 |[],a=>by show a.length<=a.length+0;lia
 |p::r,a=>by have c:=nz r (AR a p.1 p.2);have d:=Al a p.1 p.2;show(pM (AR a p.1 p.2) r).length<=_;rw[SX];lia
theorem sA:∀{d:List (Key×V)}{f:List (Value×Value)},VV (d.map λg=>(kV g.1,g.2)) f->∃e,Carries (f7 P w) f e/\KV d e
 |[],_,r=>by rw[UO]at r;cases r;exact⟨[],True.intro,.nil⟩
 |p::d,_,r=>by
  rw[S8]at r
  cases r with
  | @cons a b as bs h t =>obtain⟨e,c,q⟩:=sA (P:=P) (w:=w) t;obtain⟨j,i⟩:=b;exact⟨(p.1,i)::e,⟨Gw h.1,rfl,c⟩,.cons ⟨rfl,h.2⟩ q⟩
noncomputable def Nm(b:List (TE×TE)):TE:=λe H Q=>∀p,H p=none->Cz b e (upd H p (.dK [])) λf c=>c p=some (.dK [])/\∃a:List (Key×V),f=a.map (λd=>(kV d.1,d.2))/\a.length<=15/\Q (.ref p) (upd c p (.dK (pM [] a)))
theorem Ju(h:PPs X l b d n)(f:b.all (·.isSome)=true)(u:b.length=d.length)(v:b≠[])
  (p:b.length<=15):PE X (.Dict b d l) (Nm n):=by
 intro g s x H Q I q;have y:=I.hok.fresh (SY s.heap.objs.size);have A:=I.laid (a:=s.heap.objs.size) (o:=.dK []) (h':=s.heap.push {cls:=.type "dict",data:=.dict #[]}) (t':=s.toks) (λ_ _ q=>SQ _ q) (SY _) (FR s.heap I.big);refine wpAny_Dict_walk (knd:=f7 X.prog X.w) f u v p (W9 (h g _ x _ _ A (q _ y)) λws s2 ⟨ps,H2,t,r,e,i,B,lk,C⟩=>?_);subst B;obtain⟨E,c,rk⟩:=sA (P:=X.prog) (w:=X.w) r;obtain⟨z,G,J,L,M⟩:=MM t.hok e;cases L;refine⟨E,c,M,λN j O=>⟨.ref s.heap.objs.size,_,?_,rfl,C⟩⟩
 have T:(pM [] i).length<=sizeLine:=by have U:=nz i [];rw[T8]at U;rw[Vi];lia
 have Y:∃q,N.get? s.heap.objs.size=some q:=let⟨q,_,_,hq,_⟩:=j;⟨q,hq⟩;exact IC t (by rw[e];exact True.intro) O Y (Lo T G (rk.merge .nil) j)
structure M2(X:Cx)(o:Expr)(m:Str)(apos:Pos)(e f:Expr)(cpos:Pos):Prop where
 base:attributeBase o m X.env (eval o X.env)=eval o X.env
 few:((backTo cpos (starEach [e,f] X.env)).all (λx=>!x.1)&&(backToKw cpos (keywordEach [] X.env)).all (λx=>x.1.isSome)
  && decide (([e,f]:List Expr).length+([]:List Keyword).length+(if ([]:List Keyword).isEmpty then 0 else 1)<30))=true
 line:(apos.endLine==cpos.line)=true
 trees:backTo cpos (starEach [e,f] X.env)=[(false,eval e X.env),(false,eval f X.env)]
section
end
end L2
namespace Att
open PySem PySem.W PySem.Calls PyProof.Rows
theorem rd:∀(c:vc)(d:zl),WellAll P h d (c.map WData.int)->IntsAre d c:=by
 intro c
 induction c with
 |nil =>intro d w;rw[UO]at w;cases w;exact .nil
 |cons n c e =>
  intro d w;rw[S8]at w
  cases w with
  |cons a b =>cases a;exact .cons _ _ (e _ b)
theorem ER{l:OpenLaw}(u:l.most=some n)
  (c:l.row.toRowW.claim.pre args=true) (o:WellAll P h e args) :
  ∃a s b,e=[Value.ref a]/\args=[WData.list (b.map WData.int)]/\h.get? a=some {cls:=.type "list",data:=.seq s.toArray}/\IntsAre s b/\b.length<=n:=by
 have p:WShape.hasAll [] args [.list .int]=true:=(pre_splitW c).1;have t:l.pre.holds [] {args:=args}=true:=(pre_splitW c).2;obtain⟨d,r,rfl,v,w⟩:=hasAllW_cons p;obtain rfl:=hasAllW_nil w;obtain⟨C,rfl,x⟩:=hasW_list v;obtain⟨b,rfl⟩:=items_int x
 have f:b.length<=n:=by
  unfold OpenLaw.pre at t
  have i:(WTm.not (.lt (.lit (.int (n:Int))) (.len (.arg 0)))).holds [] {args:=[.list (b.map .int)]}=true:=by have i:=(holds_andW t).1;rw[u]at i;exact i
  have j:=condW_of i (w_not (w_lt w_lit (w_len_list (w_arg rfl))));rw[tB]at j;refine Nat.le_of_not_lt λq=>?_;have y:(n:Int)<((b.length:Nat):Int):=by lia
  first
   | (rw[S9 y]at j;exact absurd j ⋯)
   | (simp at j;lia)
 cases o with
 |cons z A =>
  cases A
  cases z with
  |list B g=>exact⟨_,_,b,rfl,rfl,B,rd b _ g,f⟩
theorem EE(l:OpenLaw)(args:List WData):l.row.toRowW.claim.post args (.bool true) args=true :=
 postW_of (r:=l.row.toRowW) (X:=(true==true))
  (show WShape.has [] (.bool true) .bool=true by first|rfl|decide|simp[WShape.has,WShape.arms,WShape.armsAll])
  (show(WTm.eq .res (.lit (.bool true))).value [] {args:=args,res:=some (.bool true),after:=args}=some (.bool (true==true)) from w_eq_bool (w_res rfl) w_lit) rfl
theorem Zu{l:OpenLaw}{d:DefRec}
  (H:l.most=some n) (u:d.params.defaults=[])
  (call:∀(w:World)(s₀ b:Shared)(mg v:zp)(g:Addr)(o:Obj)(x p doc:Value)(a:Addr)(e:zl)(s:vc),
   Ground q loose [] I w s₀ mg v b.heap->J w b.heap ->
   b.heap.get? g=some o->o.data=.func (docDef d.name d.params d.body d.scope x p doc)->b.heap.CodeRec p d.name->mg d.name=some (.ref g) ->
   b.heap.get? a=some {cls:=.type "list",data:=.seq e.toArray}->IntsAre e s->s.length<=n->b.gens=#[] ->
   codeAny (model l.prog w) callerA (.call (.ref g) ⟨[.ref a],[]⟩) (λr t=>r=.ok (.ret (.bool true))/\OldK b.heap t.heap/\t.os=b.os/\AllBare t.gens) b) :
  WalkO q loose I J l.row.toRowW d [] (λf e=>PySem.call f e):=by
 intro w s₀ b mg v G Y g o x p doc L kV M N y B z O args C as h E Q A T;obtain rfl:L=.none:=Dflts.none B u;obtain rfl:kV=.none:=Dflts.noKw B;obtain⟨a,e,s,rfl,rfl,i,c,j⟩:=ER H h A;refine enter_call (Vw (call w s₀ b mg v g o x p doc a e s G Y M (fd_plain N) y z i c j O) λr t U=>?_);obtain⟨rfl,h2,h3,h4⟩:=U;exact⟨.inl ⟨.bool true,.bool true,[],rfl,λ_=>rfl,.bool true,EE l _,λ_=>⟨List.Pairwise.nil,λ_ hm=>(nomatch hm)⟩⟩,h2,h3,h4⟩
section
end
end Att
namespace L2
open PySem PySem.Spec PyProof.Rows
theorem xj:∀{a:zl}{b:vc},IntsAre a b->Vals (b.map V.int) a
 |_,_,.nil=>.nil
 |_,_,.cons n t h=>.cons ⟨t,rfl⟩ (xj h)
def Im(H:Hp):Prop:=∀b,H b=none\/∃o a,H b=some (.frz o (.lst a))
variable{K:qs}
theorem Gy{c:Shared}{l:zl}
  (KX:K.In c.heap) (t:c.heap.Ns mainGlobals mg) (f:c.heap.Ns builtinsNs mb) (O:∀x:Str,x≠"__name__"->mb x=bootBuiltins x) (y:c.heap.NoLimit) (hg:c.gens=#[])
  (M:c.heap.get? a=some {cls:=.type "list",data:=.seq l.toArray}) (hi:IntsAre l N) (hl:N.length<=sizeLine) (hr:Xm k callerA)
  (F:∀base:Heap,K.In base->base.Ns mainGlobals mg->Xj P w K mg base CX k fa fd [x] sp) (p:∀(s:Shared)(u:Value),BindsTo s fd ⟨[u],[]⟩ [(x,u)])
  (Q:∀H:Hp,Im H->W2 K H a (N.map V.int)->sp [.ref a] H (λv _=>v=.bl true) λ_ _ _=>False)
  (T:∀H e g,CX [] H c (λ_ _ _=>False) e g->False) :
  codeAny (model P w) callerA (.call (.ref fa) ⟨[.ref a],[]⟩) (λr g=>r=.ok (.ret (.bool true))/\OldK c.heap g.heap/\g.os=c.os/\AllBare g.gens) c:=by
 have rv:=xj hi;have A:=hi.length
 have j:∀H:Hp,Im H->W2 K H a (N.map V.int)->Yn P w H c.heap->(∀b,H b≠none->b=a)->(H a≠none->K.lookup a=none) ->
   codeAny (model P w) callerA (.call (.ref fa) ⟨[.ref a],[]⟩) (λr g=>r=.ok (.ret (.bool true))/\OldK c.heap g.heap/\g.os=c.os/\AllBare g.gens) c:=by
  intro H hO hS B hA hK;have Z2:∀{b:Addr}{o:Obj},c.heap.get? b=some o->H b=none->(xH c.heap H).get? b=some o:=λe n=>Gn e n
  have U:∀{b:Addr}{o:Obj}{C:Array DictEntry}{E:Nat},c.heap.get? b=some o->o.data=.dict C E->H b=none:=λ{b o C E} e d=>by
   cases q:H b with
   |none=>rfl
   |some u =>have Y:b=a:=hA b (by rw[q];simp);subst Y;rw[M]at e;cases e;have d':Data.seq l.toArray _=Data.dict C E:=d;cases d'
  have i:∀{b:Addr}{m:zp},c.heap.Ns b m->(xH c.heap H).Ns b m:=λ{b m} ⟨o,C,E,e,d,r⟩=>⟨o,C,E,Z2 e (U e d),d,r⟩
  have G:K.In (xH c.heap H):=λb o e=>Z2 (KX b o e) (by
   cases q:H b with
   |none=>rfl
   |some u =>have Y:b=a:=hA b (by rw[q];simp);subst Y;rw[hK (by rw[q];simp)]at e;cases e)
  have hM:Mod K mg (xH c.heap H):=⟨G,i t,⟨mb,i f,O⟩,let⟨mc,h1,h2⟩:=y;⟨mc,i h1,h2⟩⟩
  have e0:ZI P w K mg (xH c.heap H) callerA [] c H:=⟨rfl,hM,λb o e=>Jl e,Wj (Eg _ _),trivial,λb f=>absurd (show b∈([]:yy) from f) (by simp),B,.of_eq hg⟩
  refine Vw ((F _ G (i t)).run callerA [] c H ⟨[.ref a],[]⟩ [.ref a] [.ref a] _ _ hr e0 (p c (.ref a)) (.cons rfl .nil) (Q H hO hS)) λr g h=>?_
  cases r with
  |error e=>exact(T H e g h).elim
  |ok fl =>
   cases fl with
   |next=>exact False.elim h
   |brk=>exact False.elim h
   |cont=>exact False.elim h
   |ret u =>
    obtain⟨v,H',os,I,un,J,r',q⟩:=h;have q':v=.bl true:=q;subst q';obtain rfl:u=Value.bool true:=r';refine⟨rfl,OldK.of_keep λb o e=>?_,os,I⟩
    cases q:H b with
    |none=>exact un.keep b o e q (by intro z;exact absurd (show b∈([]:yy) from z) (by simp)) (by simp)
    |some u =>
     rcases hO b with z|⟨ob,xs,z⟩
     ·rw[q]at z;cases z
     ·have z2:=un.Zf b ob _ z;obtain⟨e1,_⟩:=B b _ z;obtain⟨e2,_⟩:=J b _ z2;rw[e]at e1;cases e1;exact e2
 cases hk:K.lookup a with
 |some o =>have e:=KX a o hk;rw[M]at e;cases e;refine j (λ_=>none) (λ_=>.inl rfl) (.inr ⟨_,l.toArray,_,hk,rfl,rfl,rfl,by rw[S7,A];exact hl,by simpa using rv⟩) (λb u z=>by have L:(none:Option HO)=some u:=z;cases L) (λb z=>absurd rfl z) λz=>absurd rfl z
 |none =>
  refine j (λb=>if b=a then some (.frz {cls:=.type "list",data:=.seq l.toArray} (.lst (N.map V.int)))else none) (λb=>?_) (.inl (.inr ⟨{cls:=.type "list",data:=.seq l.toArray},SV rfl⟩)) (λb u z=>?_) (λb z=>?_) λ_=>hk
  ·by_cases f:b=a
   ·exact .inr ⟨_,_,SV f⟩
   ·exact .inl (PC f)
  ·by_cases f:b=a
   ·have L:=(SV f).symm.trans z;cases L;subst f;exact⟨M,by rw[tB];exact hl,l,_,rv,M⟩
   ·have L:=(PC f).symm.trans z;cases L
  ·by_cases f:b=a
   ·exact f
   ·exact absurd (PC f) z
theorem walk_of{l:W.OpenLaw}{loose:vn}{J:World->Heap->Prop}{d:DefRec}{K:Params->W.Frag}{CX:World->CXT}{sp:World->Sp}
  (N:l.most=some n) (y:n<=sizeLine) (z:d.params.defaults=[]) (O:Xm k callerA)
  (Q:∀(w:World)(h:Heap),J w h->(K w.params).In h)
  (F:∀(w:World)(mg:zp)(r:Addr)(h:Heap),(K w.params).In h->h.Ns mainGlobals mg->mg d.name=some (.ref r) ->
   ∃A:FuncData,(∀(s:Shared)(u:Value),BindsTo s A ⟨[u],[]⟩ [(x,u)]) /\
    ∀base:Heap,(K w.params).In base->base.Ns mainGlobals mg->Xj l.prog w (K w.params) mg base (CX w) k r A [x] (sp w))
  (B:∀(w:World)(H:Hp)(a:Addr)(t:vc),t.length<=n->Im H->W2 (K w.params) H a (t.map V.int)->sp w [.ref a] H (λv _=>v=.bl true) λ_ _ _=>False)
  (C:∀(w:World)(H:Hp)(s:Shared)(e:Value)(E:Shared),CX w [] H s (λ_ _ _=>False) e E->False) :
  W.WalkO q loose XP J l.row.toRowW d [] (λf L=>PySem.call f L):=by
 refine Att.Zu N z λw s₀ j mg mb r o pm cd doc a L t G Y ho hd U I p i c hg=>?_;have M:=Q w _ Y;obtain⟨A,hb,hF⟩:=F w mg r _ M G.T.g I;exact Gy M G.T.g G.T.b G.T.builtins G.T.nolimit hg p i (Tz c y) O hF hb (λH hO hS=>B w H a t c hO hS) λH e E=>C w H j e E
noncomputable def jO(s:Stmt):Arguments:=match s with
 | .FunctionDef _ a _ _ _ _ _ _ _ _=>a
 |_=>{posonlyargs:=[],args:=[],vararg:=none,kwonlyargs:=[],kw_defaults:=[],kwarg:=none,defaults:=[]}
noncomputable def h8(s:Stmt):List Stmt:=match s with
 | .FunctionDef _ _ b _ _ _ _ _ _ _=>b
 |_=>[]
noncomputable def aK(s:Stmt):Scope:=match s with
 | .FunctionDef _ _ _ _ _ _ a _ _ _=>a
 |_=>{kind:=.function,names:=[],isGenerator:=false,isCoroutine:=false}
noncomputable abbrev Yg:CXT:=λ_ _ _ _ _ _=>False
noncomputable abbrev E0:XK:=λ_ _ _=>False
theorem gW:kz Yg X E0:=λ_ _ _ _ _ _ _ h=>h.elim
structure ZL(K:qs)(x qual:Str)(st:Stmt)(f:Addr)(fd:FuncData):Prop where
 ex:∃(oc:Value)(od:Option Addr)(kV doc pm:Value)(an:Option Addr)(cdv ct:Value)(osl:Array (Option Value)),
  fd=W.fnOf x qual (jO st) (h8 st) (aK st) .none kV doc pm an cdv ct/\K.lookup f=some ⟨oc,od,.func fd,osl⟩/\W.codeIn K cdv qual=true
 kp:W.keepIn K (.ref f)=true
section
variable{K:qs}{st:Stmt}
theorem ZL.ok{P:Program}(F:ZL K x b st f l)(S:WW N i (aK st))(len:∀c H Q E,j c H Q E->c.length=i.length)
  (d:∀(a:Value)(A:Around)(outer:List Env)(s:Shared)(H:Hp)(c:List V)(Q:VK)(E:XK),Xm k (A.deeper (envOfC b (aK st) s.heap.objs.size f a))->j c H Q E ->
   ∃t,Zq (xr Yg P w K mg base N b (aK st) f a A outer s H E).nox (h8 st) t/\t {nx:=λ_ n=>Q .W3 n,rt:=Q} (start N c) H):Xj P w K mg base Yg (k+1) f l i j:=by
 obtain⟨r,u,kV,doc,v,y,a,ct,o,rfl,lk,e⟩:=F.ex;refine Kr lk e S len λA outer s H c Q E p g=>?_;obtain⟨t,h,q⟩:=d a A outer s H c Q E p g;exact⟨t,h.nox,q⟩
theorem ZL.binds{c:vn}(F:ZL K x b st f i)
  (h:∀(kV doc d:Value)(e:Option Addr)(a ct:Value)(g:zl),g.length=c.length->bindArgs (W.fnOf x b (jO st) (h8 st) (aK st) .none kV doc d e a ct) ⟨g,[]⟩=pure (c.zip g)):Binds K i c []:=by
 obtain⟨n,o,kV,doc,d,e,a,ct,j,rfl,lk,l⟩:=F.ex;exact .all (h kV doc d e a ct)
theorem fun_mk{kV doc:Value}(l:K.lookup f=some ⟨h,i,.func (W.fnOf x a (jO st) (h8 st) (aK st) .none kV doc e g b ct),d⟩)
  (c:W.codeIn K b a=true) (k:W.keepIn K (.ref f)=true):ZL K x a st f (W.fnOf x a (jO st) (h8 st) (aK st) .none kV doc e g b ct):=⟨⟨h,i,kV,doc,e,g,b,ct,d,rfl,l,c⟩,k⟩
end
theorem Dc(a:Xm k A):A.units+1<cLine:=U8 (Nat.add_le_add_left (by decide:1<=64) _) a.units
theorem cU(h:n<=1000):n<sizeLine:=U8 h ⋯
section
theorem pv{X:Cx}(i:Nat)(b:X.N[i]?=some x:=by rfl)(c:Vis X.env.scope x:=by first|exact Or.inl rfl|exact Or.inr (Or.inl rfl)|exact Or.inr (Or.inr rfl))(d:(x==("__debug__":Str))=false:=by decide)
  (a:(x==("__classdict__":Str))=false:=by decide):PE X (.Name x e) (fR i):=LW b c d a
end
theorem lD{A B:Prop}(h:B):if false=true then A else B:=by rw[PC SW];exact h
theorem lE{A B:Prop}(h:A):if true=true then A else B:=by rw[SV rfl];exact h
theorem uS{c A B:Prop}[Decidable c](a:c->A)(b:¬ c->B):if c then A else B:=by
 by_cases h:c
 ·rw[SV h];exact a h
 ·rw[PC h];exact b h
def WV(H a:Hp):Prop:=∀b o,H b=some o->a b=some o
theorem WV.refl(H:Hp):WV H H:=λ_ _ h=>h
theorem WV.trans(a:WV H d)(b:WV d e):WV H e:=λc o h=>b c o (a c o h)
theorem WV.free(e:WV H a)(h:a l=Option.none):H l=Option.none:=by
 cases q:H l with
 |none=>rfl
 |some o =>rw[e l o q]at h;cases h
theorem WV.seq(e:WV H b)(h:W2 K H a c):W2 K b a c:=by
 rcases h with(h|⟨o,h⟩)|h
 ·exact .inl (.inl (e _ _ h))
 ·exact .inl (.inr ⟨o,e _ _ h⟩)
 ·exact .inr h
section
variable{κ:Type}[DecidableEq κ]
end
noncomputable def rk(env:Env)(x:Str)(k:NameKind):NameKind :=
 if (k==NameKind.free&&env.scope.kind==.function&&env.kindOf x==some .cell)=true then .cell else k
theorem yF(b:Scope)(env:Env)(x:Str):(relabel b env).names.lookup x=(b.names.lookup x).map (rk env x):=by
 have all:∀l:List (Str×NameKind),(l.map λ(n,k)=>if (k==NameKind.free&&env.scope.kind==.function&&env.kindOf n==some .cell)then (n,NameKind.cell)else (n,k)).lookup x=(l.lookup x).map (rk env x):=by
  intro l
  induction l with
  |nil=>rfl
  |cons p r d =>
   obtain⟨n,k⟩:=p;rw[S8]
   cases a:x==n with
   |true =>
    have e:x=n:=by simpa using a
    subst e;by_cases c:(k==NameKind.free&&env.scope.kind==.function&&env.kindOf x==some .cell)=true
    ·simp[UQ,rk,c]
    ·simp[UQ,rk,c]
   |false =>
    have f:((n,k)::r).lookup x=r.lookup x:=by rw[UQ,a]
    rw[f,<- d];by_cases c:(k==NameKind.free&&env.scope.kind==.function&&env.kindOf n==some .cell)=true
    ·show List.lookup x ((if (k==NameKind.free&&env.scope.kind==.function&&env.kindOf n==some .cell)=true then (n,NameKind.cell)else (n,k))::_)=_;rw[SV c,UQ,a]
    ·show List.lookup x ((if (k==NameKind.free&&env.scope.kind==.function&&env.kindOf n==some .cell)=true then (n,NameKind.cell)else (n,k))::_)=_;rw[PC c,UQ,a]
 exact all b.names
theorem J0:rk env x .free=.cell\/rk env x .free=.free:=by
 unfold rk;split
 ·exact .inl rfl
 ·exact .inr rfl
theorem Me(h:k≠.free):rk env x k=k:=by
 unfold rk;rw[PC];intro c
 have:(k==NameKind.free)=true:=by
  cases q:(k==NameKind.free)with
  |true=>rfl
  |false=>rw[q]at c;simp at c
 exact h (by simpa using this)
noncomputable def MY:Option NameKind->Bool
 |some .free=>true
 |_=>false
noncomputable def MX:Option NameKind->Bool
 |some .free=>true
 |some .cell=>true
 |_=>false
noncomputable def MZ:Option NameKind->Bool
 |some .local=>true
 |_=>false
theorem IZ(h:MY o=true):o=some .free:=by
 cases o with
 |none=>cases h
 |some k=>cases k<;>first|rfl|cases h
theorem IY(h:MX o=true):o=some .cell\/o=some .free:=by
 cases o with
 |none=>cases h
 |some k=>cases k<;>first|exact .inl rfl|exact .inr rfl|cases h
theorem Ja(h:MZ o=true):o=some .local:=by
 cases o with
 |none=>cases h
 |some k=>cases k<;>first|rfl|cases h
noncomputable def iB(N:vn)(ok:Str->Option NameKind)(names:List (Str×NameKind))(a:vn)(b:List Nat)(c:vn):Bool :=
 decide (c=a++b.map λj=>N.getD j "")&&(b.all λj=>decide (j<N.length)&&MY (names.lookup (N.getD j ""))) &&
  names.all λp=>match p.2 with
   | .free=>MX (ok p.1)
   | .cell=>false
   | .local=>MZ (names.lookup p.1)
   |_=>true
structure Blk(N:vn)(ok:Str->Option NameKind)(names:List (Str×NameKind))(own:vn)(fr:List Nat)(N':vn):Prop where
 eN:N'=own++fr.map λj=>N.getD j ""
 fr:∀j∈fr,j<N.length/\names.lookup (N.getD j "")=some .free
 free:∀p∈names,p.2=.free->ok p.1=some .cell\/ok p.1=some .free
 cell:∀p∈names,p.2≠.cell
 loc:∀p∈names,p.2=.local->names.lookup p.1=some .local
theorem FA(h:iB N ok names c d f=true):Blk N ok names c d f:=by
 unfold iB at h;rw[S2,S2]at h;obtain⟨⟨g,i⟩,l⟩:=h;have a:=UE.mp l;refine⟨S1 g,λj n=>?_,λp b e=>?_,λp b e=>?_,λp b e=>?_⟩
 ·have q:=UE.mp i j n;rw[S2]at q;exact⟨S1 q.1,IZ q.2⟩
 ·have q:=a p b;rw[e]at q;exact IY q
 ·have q:=a p b;rw[e]at q;cases q
 ·have q:=a p b;rw[e]at q;exact Ja q
noncomputable def mkS(a:vn)(b:List Nat)(c:St):St:=a.map (λ_=>none)++b.map λj=>(c[j]?).getD none
theorem MJ(q:Scope)(env:Env)(h:∀p∈q.names,p.2=.free->∃c,env.cells.lookup p.1=some c) :
  ∃d,closureFor q env=pure d/\(∀x c,d.lookup x=some c->env.cells.lookup x=some c)/\∀p∈q.names,p.2=.free->d.lookup p.1=env.cells.lookup p.1:=by
 unfold closureFor
 have all:∀(l:List (Str×NameKind))(b:List (Str×Addr)),(∀p∈l,p.2=.free->∃c,env.cells.lookup p.1=some c)->(∀x c,b.lookup x=some c->env.cells.lookup x=some c) ->
   ∃d,(forIn l b λ(p:Str×NameKind)(r:List (Str×Addr))=>(match p with
    | (name,kind)=>if (kind==NameKind.free)=true then (do let a <- cellOf env name;pure (ForInStep.yield ((name,a)::r)))else pure (ForInStep.yield r):Sem (ForInStep (List (Str×Addr)))))=pure d /\
    (∀x c,d.lookup x=some c->env.cells.lookup x=some c)/\(∀p∈l,p.2=.free->d.lookup p.1=env.cells.lookup p.1)/\∀x,b.lookup x=env.cells.lookup x->d.lookup x=env.cells.lookup x:=by
  intro l
  induction l with
  |nil=>intro b _ s;exact⟨b,rfl,s,λp hp=>(by simp at hp),λx e=>e⟩
  |cons p r z =>
   intro b w s;obtain⟨n,k⟩:=p;rw[UX];by_cases hk:k=.free
   ·subst hk;obtain⟨c,u⟩:=w (n,.free) Tn rfl;have y:cellOf env n=pure c:=by unfold cellOf;rw[u]
    obtain⟨d,g,i,j,v⟩:=z ((n,c)::b) (λp hp=>w p (Th _ hp)) (λx A e=>by
     rw[UQ]at e
     cases o:x==n with
     |true =>
      rw[o]at e;have:x=n:=by simpa using o
      subst this;cases e;exact u
     |false=>rw[o]at e;exact s x A e)
    refine⟨d,?_,i,λp hp e=>?_,λx e=>v x ?_⟩
    ·simp only[beq_self_eq_true,VE,y];exact g
    ·rcases S0.mp hp with rfl|hp
     ·exact v n (by rw[UQ];simp[u])
     ·exact j p hp e
    ·rw[UQ]
     cases o:x==n with
     |true =>
      have:x=n:=by simpa using o
      subst this;simp[u]
     |false=>exact e
   ·have B:(k==NameKind.free)=false:=by simpa using hk
    obtain⟨d,g,i,j,v⟩:=z b (λp hp=>w p (Th _ hp)) s;refine⟨d,?_,i,λp hp e=>?_,v⟩
    ·simp only[B,WA,WN];exact g
    ·rcases S0.mp hp with rfl|hp
     ·exact absurd e hk
     ·exact j p hp e
 obtain⟨d,g,i,j,_⟩:=all q.names [] h (λx c e=>by simp at e);refine⟨d,?_,i,j⟩;have f:=Tu (λt:Sem (List (Str×Addr))=>t >>= λC=>pure C) g
 first
  |exact f
  | (simp only[pure_bind]at f;exact f)
  | (refine Eq.trans ?_ f;rfl)
  | (dsimp only at f ⊢;exact f)
noncomputable def Cx.YU(X:Cx)(a:Scope)(b:List (Str×Addr))(C:Addr)(N:vn)(s:Shared)(H:Hp)(c:yy):Cx where
 prog:=X.prog
 w:=X.w
 K:=X.K
 mg:=X.mg
 base:=X.base
 A:=X.A
 N:=N
 s₀:=s
 H₀:=H
 env:=compEnvC a b C X.env
 outer:=X.stack
 stack:=X.stack
 ex:=c
 fn:=λ_=>false
 calm:=X.calm
 pn:=[]
 xe:=λ_ _=>False
section
variable{cl:List (Str×Addr)}
theorem D2{X:Cx}{w:qe}{L:St}{H:Hp}{s:Shared}{g:Scope}{d:vn}{Y:List Nat}{M:vn}{fp:yy}(I:Inv X w L H s)(B:Blk X.N X.env.kindOf g.names d Y M)(hk:g.kind=.function)
  (sub:∀x c,cl.lookup x=some c->X.env.cells.lookup x=some c) (O:∀p∈g.names,p.2=.free->cl.lookup p.1=X.env.cells.lookup p.1)
  (f2:∀b∈fp,uN X w H b) (fo:∀b∈fp,b<s.heap.objs.size) {h1:Heap} {tk:Nat} {C D:Addr} {n:Nat} (Q:D=s.heap.objs.size) (eC:s.heap.objs.size<C)
  (hns:h1.Ns C (λ_=>none)) (h:∀b o,s.heap.get? b=some o->h1.get? b=some o) (hD:h1.get? D=some {cls:=.type "list",data:=.seq ([]:zl).toArray n}) :
  Inv (X.YU g cl C M s H fp) [] (mkS d Y L) (upd H D (.lst [])) {s with heap:=h1,toks:=tk}:=by
 have t:∀x c,cl.lookup x=some c->c<s.heap.objs.size:=λx c e=>by obtain⟨v,q⟩:=I.cell x c (sub x c e);exact q.lt
 have hDn:H D=none:=I.hok.fresh (Wj Q.symm);have kind:∀x,(X.YU g cl C M s H fp).env.kindOf x=(g.names.lookup x).map (rk X.env x):=λx=>yF g X.env x
 refine⟨⟨I.ok.mod,hk,I.ok.glob,I.ok.blt,UN eC,λx y c e1 a=>I.ok.inj x y c (sub x c e1) (sub y c a),λx hx=>?_,(λx c e=>nomatch (show false=true from e)),I.ok.hd,I.ok.frames,.inl rfl,λb E=>⟨?_,λx c e=>?_⟩,I.bs,Tz I.ok.bsz I.sz,λb o e E=>?_,λb E=>?_,I.stack,I.ZW⟩,
  rfl,I.bare,Un.laid h (Wj Q.symm) hDn,⟨_,hns,λi x v e1 a e3=>?_⟩,λx c e=>?_,?_,λx c e=>?_,λp hp=>?_,I.hok.laid h (Wj Q.symm) ⟨Uk _,[],n,.nil,hD⟩,?_⟩
 ·have f:(g.names.lookup x).map (rk X.env x)=some .cell\/(g.names.lookup x).map (rk X.env x)=some .free:=by
   rw[<- kind x];exact hx
  cases q:g.names.lookup x with
  |none=>rw[q]at f;simp at f
  |some k =>
   have J:=UL q;by_cases hf:k=.free
   ·subst hf;show ∃c,cl.lookup x=some c;rw[O _ J rfl];have z:=B.free _ J rfl;exact I.ok.has x z
   ·rw[q]at f;simp only[Wk,Me hf]at f;rcases f with z|z
    ·exact absurd (TY z) (B.cell _ J)
    ·exact absurd (TY z) hf
 ·exact Tw (WO (fo b E) eC)
 ·exact(f2 b E).2.2.2.2.1 x c (sub x c e)
 ·rcases(f2 b E).2.2.2.1 with z|z
  ·exact I.ok.noex b o e z
  ·exact absurd (Tv (Te e) (Tz I.ok.bsz z)) (UP _)
 ·intro z;rcases S0.mp (I.Zg b z)with e|e
  ·exact(f2 b E).2.1 e
  ·exact(f2 b E).2.2.1 e
 ·
  have T:M[i]?=some x:=e1
  have hi:¬ i<d.length:=λz=>by unfold mkS at a;rw[UT (by simpa using z),SR,SN z]at a;cases a
  unfold mkS at a;rw[Ue (by simpa using hi),tB,SR]at a;rw[B.eN,Ue (by simpa using hi),SR]at T
  cases q:Y[i - d.length]? with
  |none=>rw[q]at a;cases a
  |some j =>
   rw[q]at a T;simp only[Wk,Option.some.injEq]at a T;obtain⟨hj,G⟩:=B.fr j (S4 q)
   have ej:X.N[j]?=some x:=by rw[<- T,Td,SN hj];rfl
   have eσ:L[j]?=some (some v):=by
    cases z:L[j]? with
    |none=>rw[z]at a;cases a
    |some o=>rw[z]at a;simp only[Option.getD_some]at a;rw[a]
   rw[T]at G;have J:=UL G;have U:=B.free _ J rfl;obtain⟨m0,hn0,Y0⟩:=I.loc
   have hv:Vis X.env.scope x:=by
    rcases U with z|z
    ·exact .inr (.inl z)
    ·exact .inr (.inr z)
   obtain⟨u,r,l⟩:=Y0 j x v ej eσ hv;refine⟨u,r,?_⟩;rcases l with⟨z,_⟩|⟨_,c,hc,o,ho,hd⟩
   ·have A:X.env.kindOf x=some .cell\/X.env.kindOf x=some .free:=U;rw[z]at A;rcases A with y|y<;>cases y
   ·refine .inr ⟨?_,c,?_,o,h c o ho,hd⟩
    ·rw[kind x,G];rcases J0 (env:=X.env) (x:=x)with y|y
     ·exact .inl (by rw[Wk,y])
     ·exact .inr (by rw[Wk,y])
    ·show cl.lookup x=some c;have z:=O _ J rfl;exact z.trans hc
 ·obtain⟨v,o,ho,hd⟩:=I.cell x c (sub x c e);exact⟨v,o,h c o ho,hd⟩
 ·show upd H D _ C=none;rw[aR (by rw[Q];exact Ur eC)];exact I.hok.fresh (UN eC)
 ·show upd H D _ c=none;rw[aR (by rw[Q];exact Tw (t x c e))];exact I.Yc x c (sub x c e)
 ·exact absurd (show p∈([]:qe) from hp) (by simp)
 ·show(mkS d Y L).length=M.length;rw[B.eN];simp[mkS]
theorem CQ{X:Cx}{a:qe}{g:St}{H:Hp}{s:Shared}{j:Scope}{l:vn}{e:yy}{C:Addr}{f:St}{h:Hp}{i:Shared}(I:Inv X a g H s)(c:∀b∈e,uN X a H b)(J:Inv (X.YU j cl C l s H e) [] f h i):Inv X a g h i :=
 I.call' (ch:=e) J.os J.base J.hok J.bare λb d=>⟨(c b d).2.2.2.1,(c b d).2.1,(c b d).2.2.2.2.1,(c b d).2.2.2.2.2⟩
theorem Inv.young{X:Cx}{a:qe}{h:St}{H:Hp}{s:Shared}{C:Addr}{i:Shared}{l:Hp}{g:St}{j:Heap}(d:Inv X a g l i)(I:Inv X a h H s)(f:i.heap.objs.size<=C)(n:H C=none)(r:Heap.SameBut C s.heap j):Inv X a h H {s with heap:=j} :=
 I.turned (t':=s.toks) (λb o t e=>(r.2 b t).trans e) n (Ur (Tv d.lt f)) (.inr (Tz d.sz f))
  (λx c e z=>by
   obtain⟨v,q⟩:=d.cell x c e;exact absurd (Tv q.lt (by rw[z];exact f)) (UP _))
  (λp u z=>absurd (Tv (Te (d.pin p u).1) (by rw[z];exact f)) (UP _))
end
def Fh(X:Cx)(b:List Expr)(t:TT):Prop :=
 ∀(a:qe)(s:Shared)(d:St)(H:Hp)(Q:Bool->Hp->Prop),Inv X a d H s->t d H Q ->
  wpAny (model X.prog X.w) X.A (forIn b true λc r=>if r=true then do let ok <- isTrue c X.env (eval c X.env);pure (ForInStep.yield ok)else pure (ForInStep.yield r)) (TP X a d Q) X.xe s
noncomputable def i5:TT:=λ_ H Q=>Q true H
theorem jx:Fh X [] i5:=λa s b H Q I h=>wpAny_tests_nil ⟨H,I,h⟩
theorem tU(h:PT X c t):Fh X [c] t:=λa s b H Q I d=>wpAny_tests_one (h a s b H Q I d)
section
theorem xq(J:Nat->Shared->Prop)
  (g:∀n s,J n s->wpAny (model prog w) A (pyNext q) (λr b=>match r with
   |none=>R (.ok .next) b
   |some v=>wpAny (model prog w) A (letOwnedTupleGo a q v) (λ_ d=>wpAny (model prog w) A (assign a env v) (λ_ e =>
     wpAny (model prog w) A (forIn i true λc r=>if r=true then do let ok <- isTrue c env (eval c env);pure (ForInStep.yield ok)else pure (ForInStep.yield r)) (λok s₄ =>
      if ok=true then wpAny (model prog w) A (eval j env) (λx s₅=>wpAny (model prog w) A (call (.builtin "list.append") [l,x]) (λ_ s₆=>∃m,m<n/\J m s₆) (λ_ _=>False) s₅) (λ_ _=>False) s₄
      else ∃m,m<n/\J m s₄) (λ_ _=>False) e) (λ_ _=>False) d) (λ_ _=>False) b) (λ_ _=>False) s)
  (n:Nat) (h:J n s):codeAny (model prog w) A (.compLoop (.ListComp j [⟨a,iter,i,0⟩] scope t) 0 q l env) R s:=by
 refine codeAny_loop rfl J (λn s u=>?_) n h;show wpAny (model prog w) A ((compTurn (.ListComp j [⟨a,iter,i,0⟩] scope t) 0 q l env).onRaise λx=>do noteFrame x env;theTreesLotGoes x) _ _ s;refine wpAny_noted (wpAny_noRaise ?_);rw[compTurn_list];refine SO (VD (SO (W9 (g n s u) λr b f=>?_)))
 cases r with
 |none=>exact Tc f
 |some v =>
  refine SO (W9 f λ_ d o=>SO (W9 o λ_ e p=>SO (W9 p λok s₄ h₄=>?_)))
  cases ok with
  |false=>exact Tc ⟨rfl,h₄⟩
  |true=>exact SO (SO (W9 h₄ λx s₅ h₅=>SO (W9 h₅ λ_ s₆ h₆=>Tc (Tc ⟨rfl,h₆⟩))))
end
def jC(r:TI)(mk:St->St)(g:TG)(s:TT)(t:TE):TE:=λl H Q=>r l H λJ n=>∀D,n D=none->∃W:Nat->Nat->St->Hp->Prop,(∃m,W 0 m (mk l) (upd n D (.lst [])))/\∀i m d e,W i m d e ->
 (J.stop i e/\Q (.ref D) e) \/
 (J.go i e/\∃h:St->Hp->Prop,(∀c f,h c f->∃o,o<m/\W (i+1) o c f)/\∀x f,J.YZ i e x f->g x d f λa u=>s a u λb p =>
  if b=true then t a p λv q=>∃j,q D=some (.lst j)/\j.length<sizeLine/\h a (upd q D (.lst (j++[v])))else h a p)
section
theorem zY{X:Cx}{elt iter tg:Expr}{ifs:List Expr}{q:Scope}{pos:Pos}{own:vn}{fr:List Nat}{Y:vn}{g:TG}{tt:TT}{te:TE}{pins:qe}{σ:St}{H:Hp}{s:Shared}{j:List (Str×Addr)}{f:yy}{it:Addr}{J:It}{tn:Nat->Heap->Prop}{E:qf}{Q:VK}{RR:Value->Addr->Result->Shared->Prop}
  (I:Inv X pins σ H s) (B:Blk X.N X.env.kindOf q.names own fr Y) (hk:q.kind=.function) (hc:X.calm=true)
  (sub:∀x c,j.lookup x=some c->X.env.cells.lookup x=some c) (has:∀p∈q.names,p.2=.free->j.lookup p.1=X.env.cells.lookup p.1)
  (T:pj X.prog X.w X.K tg J f it tn) (st:tn 0 s.heap) (f2:∀b∈f,uN X pins H b)
  (hg:∀j C s H f,PG (X.YU q j C Y s H f) tg g) (ht:∀j C s H f,Fh (X.YU q j C Y s H f) ifs tt) (he:∀j C s H f,PE (X.YU q j C Y s H f) elt te)
  (hw:∀D,H D=none->∃W:Nat->Nat->St->Hp->Prop,(∃m,W 0 m (mkS own fr σ) (upd H D (.lst [])))/\∀i m l t,W i m l t ->
   (J.stop i t/\Q (.ref D) t) \/
   (J.go i t/\∃Nx:St->Hp->Prop,(∀σ'' Xy,Nx σ'' Xy->∃m',m'<m/\W (i+1) m' σ'' Xy)/\∀x Xy,J.YZ i t x Xy->g x l Xy λσ2 H2=>tt σ2 H2 λb H3 =>
    if b=true then te σ2 H3 λv H4=>∃ys,H4 D=some (.lst ys)/\ys.length<sizeLine/\Nx σ2 (upd H4 D (.lst (ys++[v])))else Nx σ2 H3))
  (hRR:∀D C l t s',D=s.heap.objs.size->s.heap.objs.size<=C->Inv (X.YU q j C Y s H f) [] l t s'->Q (.ref D) t->RR (.ref D) C (.ok .next) s') :
  wpAny (model X.prog X.w) X.A (newList []) (λacc L=>wpAny (model X.prog X.w) X.A (newFunctionEnv q X.env.globals j [] X.env.qual none .none (some X.env)) (λcenv s₄ =>
   codeAny (model X.prog X.w) X.A (.compStart (.ListComp elt [⟨tg,iter,ifs,0⟩] q pos) 0 (.ref it) acc {cenv with scope:=relabel q X.env}) (RR acc cenv.locals) s₄) E L) E s:=by
 have fo:∀b∈f,b<s.heap.objs.size:=λb U=>by obtain⟨o,e,_⟩:=T.obj _ _ st b U;exact Te e
 refine Vg (wpAny_newFunctionEnv B.cell (by intro y hy;simp at hy) (λM a h=>?_) hk);dsimp only at a h ⊢;generalize hH2:s.heap.push {cls:=.type "list",dict:=none,data:=.seq ([]:zl).toArray}=G at a h ⊢;have hG:G.objs.size=s.heap.objs.size+1:=by rw[<- hH2,T7]
 have hlt:s.heap.objs.size<G.objs.size:=by rw[hG];exact VC _
 have old:∀b o,s.heap.get? b=some o->M.get? b=some o:=λb o e =>
  h.extBut b o (Tw (WO (Te e) hlt)) (SQ _ (hH2▸SQ _ e))
 have hacc:M.get? s.heap.objs.size=some {cls:=.type "list",data:=.seq ([]:zl).toArray} :=
  h.extBut _ _ (Tw hlt) (SQ _ (hH2▸TN _ rfl))
 obtain⟨W,⟨m0,w0⟩,turn⟩:=hw s.heap.objs.size (I.hok.fresh (SY _));have st₁:tn 0 M:=T.keep _ _ _ st λb _ o e=>old b o e
 have hns':M.Ns G.objs.size (λ_=>none):=by
  have e:(λx=>([]:List (Str×Value)).reverse.lookup x)=(λ_:Str=>(none:Option Value)):=by funext x;rfl
  first
   |exact a
   | (rw[e]at a;exact a)
 have loop:∀L:Shared,L={s with heap:=M,toks:=s.toks+([]:List (Str×Value)).length} ->
   codeAny (model X.prog X.w) X.A (.compLoop (.ListComp elt [⟨tg,iter,ifs,0⟩] q pos) 0 (.ref it) (.ref s.heap.objs.size) (compEnvC q j G.objs.size X.env)) (RR (.ref s.heap.objs.size) G.objs.size) L:=by
  rintro L rfl;have I0:=D2 (tk:=s.toks+([]:List (Str×Value)).length) I B hk sub has f2 fo rfl hlt hns' old hacc
  have zy:∀{ZY:qe}{t:Hp},ZY=[]->(∀b∈f,t b=none)->∀b∈f,uN (X.YU q j G.objs.size Y s H f) ZY t b:=λep hn b U=>by
   subst ep;refine⟨hn b U,Tw (WO (fo b U) hlt),λz=>?_,.inl U,λx c e=>(f2 b U).2.2.2.2.1 x c (sub x c e),λp hp=>absurd (show p∈([]:qe) from hp) (by simp)⟩;rcases S0.mp (I.Zg b z)with e|e
   ·exact(f2 b U).2.1 e
   ·exact(f2 b U).2.2.1 e
  have fr0:∀b∈f,upd H s.heap.objs.size (.lst []) b=none:=λb U=>by rw[aR (Tw (fo b U))];exact(f2 b U).1
  refine xq (λn s'=>∃i l t,Inv (X.YU q j G.objs.size Y s H f) [] l t s'/\tn i s'.heap/\(∀b∈f,t b=none)/\W i n l t) ?_ m0 ⟨0,_,_,I0,st₁,fr0,w0⟩;rintro n s3 ⟨i,σ3,H3,I3,st3,fr3,w3⟩;rcases turn i n σ3 H3 w3 with⟨stop,qn⟩|⟨go,Nx,hN,step⟩
  ·refine W9 (T.done (X.YU q j G.objs.size Y s H f) rfl rfl rfl hc i [] s3 σ3 H3 _ I3 (zy rfl fr3) st3 stop) λr s4 ⟨hr,I4⟩=>?_;subst hr;exact hRR _ _ _ _ _ rfl (UN hlt) I4 qn
  ·refine W9 (T.item (X.YU q j G.objs.size Y s H f) rfl rfl rfl hc i [] s3 σ3 H3 _ I3 (zy rfl fr3) st3 go) λr s4 ⟨u,hr,h4⟩=>?_;subst hr;refine W9 h4 λ_ s5 ⟨x,H5,I5,r5,y5,st5,fr5⟩=>?_;have I5':=I5.pinned (zy rfl fr5) (T.obj _ _ st5);refine W9 (hg j G.objs.size s H f _ s5 σ3 H5 x u _ I5' r5 (step x H5 y5)) λ_ s6 ⟨O,H6,I6,q6⟩=>?_;refine W9 (ht j G.objs.size s H f _ s6 O H6 _ I6 q6) λok s7 ⟨H7,I7,q7⟩=>?_
   have again:∀{s8:Shared}{H8:Hp},Inv (X.YU q j G.objs.size Y s H f) ([]++tV f s5.heap) O H8 s8->Nx O H8 ->
     ∃m,m<n/\∃i l t,Inv (X.YU q j G.objs.size Y s H f) [] l t s8/\tn i s8.heap/\(∀b∈f,t b=none)/\W i m l t:=λ{s8 H8} I8 n8=>by
    obtain⟨m',hm,w8⟩:=hN O H8 n8;refine⟨m',hm,i+1,O,H8,I8.Yo,T.keep _ _ _ st5 λb U o e=>(I8.pin (b,o) (Uj _ (Uj _ (lG U e)))).1,λb U=>?_,w8⟩;obtain⟨o,e,d⟩:=T.obj _ _ st5 b U;exact(I8.pin (b,o) (Uj _ (Uj _ (lG U e)))).2.1
   cases ok with
   |false =>rw[PC SW]at q7 ⊢;exact again I7 q7
   |true =>rw[SV rfl]at q7 ⊢;refine W9 (he j G.objs.size s H f _ s7 O H7 _ I7 q7) λy s8 ⟨v,H8,I8,rv,ys,hD8,hz,nx⟩=>?_;refine W9 (cC (X:=X.YU q j G.objs.size Y s H f) _ s8 O H8 (.ref s.heap.objs.size) [v] (.ref s.heap.objs.size) [y] (λ_ H9=>Nx O H9) I8 rfl (.cons rv .nil) ⟨_,ys,v,rfl,rfl,hD8,hz,nx⟩) λ_ s9 ⟨_,H9,I9,_,n9⟩=>?_;exact again I9 n9
 exact codeAny_compStart_list (loop _ rfl) (T.self _ 0 _ _ _ st₁ (loop _ rfl))
theorem mZ{b:Scope}(G:PI X y iter L)(hk:b.kind=.function)(M:iB X.N X.env.kindOf b.names own fr N'=true)(O:X.calm=true)
  (U:∀c C s H d,PG (X.YU b c C N' s H d) y g) (Y:∀c C s H d,Fh (X.YU b c C N' s H d) f tt) (he:∀c C s H d,PE (X.YU b c C N' s H d) i te)
  (hs:∀x,foldedSetIterable iter X.env x=pure x:=by intro _;rfl):PE X (.ListComp i [⟨y,iter,f,0⟩] b pos) (jC L (mkS own fr) g tt te):=by
 intro a s z H Q I h;have B:=FA M;obtain⟨c,j,sub,l⟩:=MJ b X.env λp hp e=>I.ok.has p.1 (B.free p hp e);rw[eval_ListComp];refine wpAny_comprehension_free (use:=none) rfl hs j hk B.loc (W9 (G a s z H _ I h) λv s1 h1=>W9 h1 λitv s2 h2=>?_);obtain⟨it,d,tn,J,H2,e,n,T,o,E,body⟩:=h2;subst e;refine zY (RR:=λr C=>compPost (model X.prog X.w) X.A X.xe none (EP X a z Q) r C) n B hk O sub l T o E U Y he body ?_;intro D C σ' H' s' eD hC t q;obtain⟨m,hn,_⟩:=t.loc;refine⟨m,hn,λh' u=>⟨.ref D,H',?_,rfl,q⟩⟩;exact Inv.young n (CQ n E t) hC t.free u
theorem j9{c:Scope}{d:Pos}(hi:PI X E iter wi)(hk:c.kind=.function)(hb:iB X.N X.env.kindOf c.names own fr N'=true)(hc:X.calm=true)
  (hg:∀l C s H n,PG (X.YU c l C N' s H n) E g) (ht:∀l C s H n,Fh (X.YU c l C N' s H n) f tt) (he:∀l C s H n,PE (X.YU c l C N' s H n) j te)
  (hN:X.N.Nodup) (hy:X.N[i]?=some y) (hx:X.env.scope.names.lookup y=some .local)
  (G:swapsWith (.ListComp j [⟨E,iter,f,0⟩] c r) (some (.Name y t)) d.line X.env=pure true)
  (hs:∀x,foldedSetIterable iter X.env x=pure x:=by intro _;rfl):PS X (.Assign [.Name y t] (.ListComp j [⟨E,iter,f,0⟩] c r) d) (rH (jC wi (mkS own fr) g tt te) (dE i)):=by
 intro b s σ H D I h;have B:=FA hb;obtain⟨l,L,sub,M⟩:=MJ c X.env λp hp e=>I.ok.has p.1 (B.free p hp e);rw[exec_Assign_Name_used _ _ _ _ G];refine SO (VD (SO ?_));show wpAny _ _ (do let _ <- comprehension (.ListComp j [⟨E,iter,f,0⟩] c r) c X.env _ (newList []) false (eval iter X.env) (some (assign (.Name y t) X.env))) _ _ s
 refine SO (VB (wpAny_comprehension_free (use:=some (assign (.Name y t) X.env)) (Q:=λ_ o=>SP X b D .next o) rfl hs L hk B.loc
  (W9 (hi b s σ H _ I h) λv s1 h1=>W9 h1 λitv s2 h2=>?_)) (λ_ o hq=>Tc (Tc hq)) λ_ _ e=>e)
 obtain⟨it,n,tn,J,H2,e,u,T,O,f2,body⟩:=h2;subst e;refine zY (Q:=λv U=>D.nx (σ.set i (some v)) U) (RR:=λY C=>compPost (model X.prog X.w) X.A X.xe (some (assign (.Name y t) X.env)) (λ_ o=>SP X b D .next o) Y C) u B hk hc sub M T O f2 hg ht he body ?_;intro D' C σ' U o eD hC J' q;have I3:=CQ u f2 J';show wpAny _ _ (assign (.Name y t) X.env (.ref D')) _ _ o;refine wpAny_assign_Name (xf I3 hN hy (.inl hx) (v:=.ref D') rfl (λs4 I4 ⟨a,hsb,ha⟩=>?_) (.inr hx));obtain⟨m,hn,_⟩:=J'.loc
 have hCa:C≠a:=by
  rcases ha with e|e
  ·rw[e];exact Ur (Tv u.lt hC)
  ·obtain⟨v,z⟩:=u.cell _ _ e;exact Ur (Tv z.lt hC)
 refine⟨m,hn.sameBut hsb hCa,λh' hs'=>⟨_,U,?_,q⟩⟩;exact Inv.young u I4 hC J'.free hs'
end
inductive D where
 |W3|bl (b:Bool)|int (i:Int)|str (x:Str)|tup (ds:List D)
 |lst
mutual
def Dat(K:qs)(H:Hp):D->V->Prop
 | .W3,v=>v=.W3
 | .bl b,v=>v=.bl b
 | .int i,v=>v=.int i
 | .str x,v=>v=.str x
 | .tup d,v=>∃a c,v=.ref a/\Xo K H a c/\WU K H d c
 | .lst,v=>∃a c,v=.ref a/\W2 K H a c
def WU(K:qs)(H:Hp):List D->List V->Prop
 |[],a=>a=[]
 |d::b,a=>∃v r,a=v::r/\Dat K H d v/\WU K H b r
end
section
variable{K:qs}{H H':Hp}
theorem Dat.tupI(h:Xo K H a b)(r:WU K H c b):Dat K H (.tup c) (.ref a):=by unfold Dat;exact⟨a,b,rfl,h,r⟩
theorem WU.nil:WU K H [] []:=by unfold WU;rfl
theorem WU.cons(h:Dat K H d v)(r:WU K H b a):WU K H (d::b) (v::a):=by unfold WU;exact⟨v,a,rfl,h,r⟩
theorem Dat.WY(i:Int):Dat K H (.int i) (.int i):=by unfold Dat;rfl
theorem Dat.Xn(x:Str):Dat K H (.str x) (.str x):=by unfold Dat;rfl
theorem Dat.X3(b:Bool):Dat K H (.bl b) (.bl b):=by unfold Dat;rfl
theorem Dat.Y3:Dat K H .W3 .W3:=by unfold Dat;rfl
theorem Dat.lstI(h:W2 K H a b):Dat K H .lst (.ref a):=by unfold Dat;exact⟨a,b,rfl,h⟩
theorem Dat.Xf(h:Dat K H (.tup c) v):∃a b,v=.ref a/\Xo K H a b/\WU K H c b:=by unfold Dat at h;exact h
theorem Dat.W4(h:Dat K H (.int i) v):v=.int i:=by unfold Dat at h;exact h
theorem Dat.Xh(h:Dat K H (.str x) v):v=.str x:=by unfold Dat at h;exact h
theorem Dat.Yh(h:Dat K H (.bl b) v):v=.bl b:=by unfold Dat at h;exact h
theorem Dat.XY(h:Dat K H .W3 v):v=.W3:=by unfold Dat at h;exact h
theorem Dat.ZM(h:Dat K H .lst v):∃a b,v=.ref a/\W2 K H a b:=by unfold Dat at h;exact h
theorem WU.X5(h:WU K H [] a):a=[]:=by unfold WU at h;exact h
theorem WU.Xu(h:WU K H (d::a) b):∃v r,b=v::r/\Dat K H d v/\WU K H a r:=by unfold WU at h;exact h
structure eI(K:qs)(H H':Hp):Prop where
 tup:∀a xs,Xo K H a xs->Xo K H' a xs
 lst:∀a xs,W2 K H a xs->∃ys,W2 K H' a ys
mutual
theorem Dat.mono(g:eI K H H'):∀(d:D){v:V},Dat K H d v->Dat K H' d v
 | .W3,v,h=>by unfold Dat at h ⊢;exact h
 | .bl b,v,h=>by unfold Dat at h ⊢;exact h
 | .int i,v,h=>by unfold Dat at h ⊢;exact h
 | .str x,v,h=>by unfold Dat at h ⊢;exact h
 | .tup c,v,h=>by obtain⟨a,f,e,q,r⟩:=h.Xf;subst e;exact Dat.tupI (g.tup _ _ q) (WU.mono g c r)
 | .lst,v,h=>by obtain⟨a,f,e,q⟩:=h.ZM;subst e;obtain⟨l,j⟩:=g.lst _ _ q;exact Dat.lstI j
theorem WU.mono(g:eI K H H'):∀(a:List D){b:List V},WU K H a b->WU K H' a b
 |[],b,h=>by unfold WU at h ⊢;exact h
 |d::a,b,h=>by obtain⟨v,r,e,c,f⟩:=h.Xu;subst e;exact WU.cons (Dat.mono g d c) (WU.mono g a f)
end
theorem WU.length:∀{b:List D}{a:List V},WU K H b a->b.length=a.length
 |[],a,h=>by rw[h.X5];rfl
 |d::b,a,h=>by obtain⟨v,r,e,f,c⟩:=h.Xu;subst e;rw[SX,SX,WU.length c]
theorem WU.get:∀{a:List D}{b:List V}{i:Nat}{d:D},WU K H a b->a[i]?=some d->∃v,b[i]?=some v/\Dat K H d v
 |[],_,i,d,_,e=>by simp at e
 |d0::a,b,0,d,h,e=>by obtain⟨v,r,c,f,g⟩:=h.Xu;subst c;simp at e;subst e;exact⟨v,rfl,f⟩
 |d0::a,b,i+1,d,h,e=>by obtain⟨v,r,c,f,g⟩:=h.Xu;subst c;obtain⟨u,j,l⟩:=WU.get (i:=i) (d:=d) g (by simpa using e);exact⟨u,by simpa using j,l⟩
theorem WU.XI:∀{b:List D}{a:List V}{i:Nat}{v:V},WU K H b a->a[i]?=some v->∃d,b[i]?=some d/\Dat K H d v
 |[],a,i,v,h,e=>by rw[h.X5]at e;simp at e
 |d0::b,a,0,v,h,e=>by obtain⟨u,r,c,f,g⟩:=h.Xu;subst c;simp at e;subst e;exact⟨d0,rfl,f⟩
 |d0::b,a,i+1,v,h,e=>by obtain⟨u,r,c,f,g⟩:=h.Xu;subst c;obtain⟨d,j,l⟩:=WU.XI (i:=i) (v:=v) g (by simpa using e);exact⟨d,by simpa using j,l⟩
theorem WU.append:∀{f a:List D}{b c:List V},WU K H f b->WU K H a c->WU K H (f++a) (b++c)
 |[],a,b,c,h,g=>by rw[h.X5];exact g
 |d::f,a,b,c,h,g=>by obtain⟨v,r,e,i,j⟩:=h.Xu;subst e;exact WU.cons i (WU.append j g)
end
mutual
noncomputable def W6:D->D->Bool
 | .W3,.W3=>true
 | .bl a,.bl b=>a==b
 | .int a,.int b=>a==b
 | .bl a,.int b=>(if a then 1 else 0)==b
 | .int a,.bl b=>a==(if b then 1 else 0)
 | .str a,.str b=>a==b
 | .tup a,.tup b=>Xq a b
 |_,_=>false
noncomputable def Xq:List D->List D->Bool
 |[],[]=>true
 |a::r,b::q=>W6 a b&&Xq r q
 |_,_=>false
end
mutual
noncomputable def gK:D->Nat
 | .tup a=>WZ a+1
 |_=>0
noncomputable def WZ:List D->Nat
 |[]=>0
 |d::a=>max (gK d) (WZ a)
end
mutual
noncomputable def XC:D->Bool
 | .tup a=>Xe a
 | .lst=>false
 |_=>true
noncomputable def Xe:List D->Bool
 |[]=>true
 |d::a=>XC d&&Xe a
end
noncomputable def eAt(a b:List D)(j:Nat):Bool:=match a[j]?,b[j]? with
 |some x,some y=>W6 x y
 |_,_=>false
theorem sj(n:Nat)(e:Nat->Bool):(List.range (n+1)).all e=(e 0&&(List.range n).all λj=>e (j+1)):=by rw[V2,List.all_cons,Wl];rfl
theorem lC:∀a b:List D,((List.range (min a.length b.length)).all (eAt a b)&&a.length==b.length)=Xq a b
 |[],[]=>by unfold Xq;rfl
 |[],y::b=>by unfold Xq;simp
 |x::a,[]=>by unfold Xq;simp
 |x::a,y::b=>by
  have c:=lC a b;unfold Xq;rw[<- c,SX,SX,Nat.succ_min_succ,sj];have d:eAt (x::a) (y::b) 0=W6 x y:=rfl
  have e:(λj=>eAt (x::a) (y::b) (j+1))=eAt a b:=by
   funext j
   simp[eAt]
  rw[d,e,Bool.and_assoc];congr 2;simp
theorem Ac{a b:List D}(h:a.length=b.length):(List.range a.length).all (eAt a b)=Xq a b:=by have q:=lC a b;rw[<- h,Nat.min_self]at q;rw[<- q];simp
mutual
theorem gC:∀d:D,XC d=true->W6 d d=true
 | .W3,_=>by unfold W6;rfl
 | .bl b,_=>by unfold W6;simp
 | .int i,_=>by unfold W6;simp
 | .str x,_=>by unfold W6;simp
 | .tup a,h=>by unfold W6;unfold XC at h;exact Za a h
 | .lst,h=>by unfold XC at h;cases h
theorem Za:∀a:List D,Xe a=true->Xq a a=true
 |[],_=>by unfold Xq;rfl
 |d::a,h=>by unfold Xe at h;rw[S2]at h;unfold Xq;rw[gC d h.1,Za a h.2];rfl
end
section
mutual
theorem oA{X:Cx}{n:qe}{p:St}{H:Hp}{s:Shared}(I:Inv X n p H s):∀(d e:D){v:V},XC d=true->Dat X.K H d v->Dat X.K H e v->XC e=true->d=e
 | .W3,e,v,l,h,f,g=>by
  have z:=h.XY;subst z
  cases e with
  |W3=>rfl
  |bl b=>exact nomatch f.Yh
  |int i=>exact nomatch f.W4
  |str x=>exact nomatch f.Xh
  |tup o=>obtain⟨_,_,q,_⟩:=f.Xf;exact nomatch q
  |lst=>obtain⟨_,_,q,_⟩:=f.ZM;exact nomatch q
 | .bl b,e,v,l,h,f,g=>by
  have z:=h.Yh;subst z
  cases e with
  |W3=>exact nomatch f.XY
  |bl c=>have q:=f.Yh;injection q with q;rw[q]
  |int i=>exact nomatch f.W4
  |str x=>exact nomatch f.Xh
  |tup o=>obtain⟨_,_,q,_⟩:=f.Xf;exact nomatch q
  |lst=>obtain⟨_,_,q,_⟩:=f.ZM;exact nomatch q
 | .int i,e,v,l,h,f,g=>by
  have z:=h.W4;subst z
  cases e with
  |W3=>exact nomatch f.XY
  |bl c=>exact nomatch f.Yh
  |int j=>have q:=f.W4;injection q with q;rw[q]
  |str x=>exact nomatch f.Xh
  |tup o=>obtain⟨_,_,q,_⟩:=f.Xf;exact nomatch q
  |lst=>obtain⟨_,_,q,_⟩:=f.ZM;exact nomatch q
 | .str x,e,v,l,h,f,g=>by
  have z:=h.Xh;subst z
  cases e with
  |W3=>exact nomatch f.XY
  |bl c=>exact nomatch f.Yh
  |int j=>exact nomatch f.W4
  |str y=>have q:=f.Xh;injection q with q;rw[q]
  |tup o=>obtain⟨_,_,q,_⟩:=f.Xf;exact nomatch q
  |lst=>obtain⟨_,_,q,_⟩:=f.ZM;exact nomatch q
 | .tup o,e,v,l,h,f,g=>by
  obtain⟨a,C,z,q,r⟩:=h.Xf;subst z
  cases e with
  |W3=>exact nomatch f.XY
  |bl c=>exact nomatch f.Yh
  |int j=>exact nomatch f.W4
  |str y=>exact nomatch f.Xh
  |tup t =>obtain⟨E,u,z,w,A⟩:=f.Xf;cases z;have B:=I.Y8 q w;subst B;unfold XC at l g;rw[Zv I o t l r A g]
  |lst=>unfold XC at g;cases g
 | .lst,e,v,l,h,f,g=>by unfold XC at l;cases l
theorem Zv{X:Cx}{c:qe}{o:St}{H:Hp}{s:Shared}(I:Inv X c o H s):∀(f a:List D){g:List V},Xe f=true->WU X.K H f g->WU X.K H a g->Xe a=true->f=a
 |[],a,g,_,h,i,_=>by
  have z:=h.X5;subst z
  cases a with
  |nil=>rfl
  |cons e a=>obtain⟨_,_,q,_⟩:=i.Xu;exact nomatch q
 |d::f,a,g,j,h,i,b=>by
  obtain⟨v,r,z,p,t⟩:=h.Xu;subst z
  cases a with
  |nil=>exact nomatch i.X5
  |cons e a =>obtain⟨u,w,z,l,n⟩:=i.Xu;injection z with z1 z2;subst z1 z2;unfold Xe at j b;rw[S2]at j b;rw[oA I d e j.1 p l b.1,Zv I f a j.2 t n b.2]
end
end
theorem pI(A:Around):A.in1.units=A.units+1:=rfl
section
theorem j4:∀{ds:List D}{j:Nat}{d:D},ds[j]?=some d->gK d<=WZ ds
 |[],_,_,e=>by simp at e
 |d0::ds,0,d,e=>by simp at e;subst e;unfold WZ;exact Nat.le_max_left _ _
 |d0::ds,j+1,d,e=>by have q:=j4 (ds:=ds) (j:=j) (d:=d) (by simpa using e);unfold WZ;exact Tz q (Nat.le_max_right _ _)
theorem gE:∀{ds:List D}{j:Nat}{d:D},Xe ds=true->ds[j]?=some d->XC d=true
 |[],_,_,_,e=>by simp at e
 |d0::ds,0,d,h,e=>by simp at e;subst e;unfold Xe at h;rw[S2]at h;exact h.1
 |d0::ds,j+1,d,h,e=>by unfold Xe at h;rw[S2]at h;exact gE (ds:=ds) (j:=j) (d:=d) h.2 (by simpa using e)
theorem sJ{X:Cx}(n:Nat)
  (all:∀(d e:D)(x y:V)(u w:Value),gK d<=n->XC d=true->XC e=true->Dat X.K H d x->Dat X.K H e y->RelV x u->RelV y w->SeqAt.EqAt A s u w (W6 d e))
  (I:WZ c<=n) (J:Xe c=true) (L:Xe h=true) (M:WU X.K H c f) (N:WU X.K H h g) (z:Vals f a) (B:Vals g b) :
  ∀j (l:j<a.toArray.size) (o:j<b.toArray.size),SeqAt.EqAt A s a.toArray[j] b.toArray[j] (eAt c h j):=by
 intro j l o;have C:j<f.length:=by rw[z.length];simpa using l
 have E:j<g.length:=by rw[B.length];simpa using o
 obtain⟨u,O,Q⟩:=z.get (i:=j) (x:=f[j]) (SN C);obtain⟨w,T,p⟩:=B.get (i:=j) (x:=g[j]) (SN E);obtain⟨d,q,U⟩:=M.XI (i:=j) (v:=f[j]) (SN C);obtain⟨e,G,Y⟩:=N.XI (i:=j) (v:=g[j]) (SN E)
 have z1:a.toArray[j]=u:=by
  have:a[j]?=some u:=O;have r:j<a.length:=by simpa using l
  rw[SN r]at this;simpa using TY this
 have z2:b.toArray[j]=w:=by
  have:b[j]?=some w:=T;have t:j<b.length:=by simpa using o
  rw[SN t]at this;simpa using TY this
 have z3:eAt c h j=W6 d e:=by unfold eAt;rw[q,G]
 rw[z1,z2,z3];exact all d e _ _ u w (Tz (j4 q) I) (gE J q) (gE L G) U Y Q p
theorem AS{X:Cx}{c:qe}{C:St}{H:Hp}{s:Shared}{A:Around}{ds es:List D}{a b:Addr}{h i:List V}(I:Inv X c C H s)(j:A.units<cLine)(n:Nat)
  (all:∀(d e:D)(x y:V)(u w:Value),gK d<=n->XC d=true->XC e=true->Dat X.K H d x->Dat X.K H e y->RelV x u->RelV y w->SeqAt.EqAt A.in1 s u w (W6 d e))
  (E:WZ ds<=n) (G:Xe ds=true) (J:Xe es=true) (l:WU X.K H ds h) (o:WU X.K H es i) (L:Xo X.K H a h) (M:Xo X.K H b i) :
  SeqAt.RcAt A s (.ref a) (.ref b) (Xq ds es)/\SeqAt.RcNeAt A s (.ref a) (.ref b) (!Xq ds es):=by
 obtain⟨f,q,r,_⟩:=I.tuple L;obtain⟨g,t,v,_⟩:=I.tuple M;have z:=sJ (X:=X) (H:=H) (s:=s) n all E G J l o q t;have p:=SeqAt.RcAt.tuples (show s.heap.IsTuple a f.toArray from r) (show s.heap.IsTuple b g.toArray from v) j z;have B:=SeqAt.RcNeAt.tuples (show s.heap.IsTuple a f.toArray from r) (show s.heap.IsTuple b g.toArray from v) j z;have N:f.toArray.size=ds.length:=by rw[S7,<- q.length,l.length]
 have O:g.toArray.size=es.length:=by rw[S7,<- t.length,o.length]
 rw[N,O,lC]at p B;exact⟨p,B⟩
theorem sI{X:Cx}{J:qe}{σ:St}{H:Hp}{s:Shared}(I:Inv X J σ H s):∀(n:Nat)(A:Around)(d e:D)(x y:V)(u w:Value),A.units+n+1<cLine->gK d<=n->XC d=true->XC e=true->Dat X.K H d x->Dat X.K H e y->RelV x u->RelV y w->SeqAt.EqAt A s u w (W6 d e):=by
 intro n
 induction n with
 |zero =>
  intro A d e x y u w q U r h v f C g
  exact base I A d e x y u w ⋯ r h v f C g λE j a b N B Y Q=>by subst Y;unfold gK at U;lia
 |succ n ih =>intro A d e x y u w q U r h v f C g;refine base I A d e x y u w ⋯ r h v f C g λE j a b N B Y Q t1 L T l hne=>?_;subst Y Q;unfold gK at U;unfold XC at r h;have p:=(AS (A:=A) (ds:=E) (es:=j) I ⋯ n (λd e x y u w k1 k2 k3 k4 k5 k6 k7=>ih A.in1 d e x y u w (by rw[pI];lia) k1 k2 k3 k4 k5 k6 k7) ⋯ r h t1 L T l).1;unfold W6;exact .of_refs hne p
where
 base (I:Inv X J σ H s) (A:Around) (d e:D) (x y:V) (u w:Value) (q:A.units<cLine) (r:XC d=true) (h:XC e=true) (v:Dat X.K H d x) (f:Dat X.K H e y) (C:RelV x u) (g:RelV y w)
   (tt:∀(E j:List D)(a b:Addr)(N B:List V),d=.tup E->e=.tup j->WU X.K H E N->WU X.K H j B->Xo X.K H a N->Xo X.K H b B->a≠b->SeqAt.EqAt A s (.ref a) (.ref b) (W6 (.tup E) (.tup j))) :
   SeqAt.EqAt A s u w (W6 d e):=by
  cases d with
  |lst=>unfold XC at r;cases r
  |W3 =>
   have z:=v.XY;subst z;cases C
   cases e with
   |lst=>unfold XC at h;cases h
   |W3=>have z:=f.XY;subst z;cases g;unfold W6;exact SeqAt.EqAt.same _
   |bl b=>have z:=f.Yh;subst z;cases g;unfold W6;exact SeqAt.EqAt.none_bool b
   |int i=>have z:=f.W4;subst z;obtain⟨t,rfl⟩:=g;unfold W6;exact SeqAt.EqAt.none_int i t
   |str i=>have z:=f.Xh;subst z;obtain⟨t,rfl⟩:=g;unfold W6;exact SeqAt.EqAt.none_str i t
   |tup j=>obtain⟨b,B,z,l,L⟩:=f.Xf;subst z;cases g;obtain⟨M,v2,p2,_⟩:=I.tuple l;unfold W6;exact SeqAt.EqAt.none_tuple (show s.heap.IsTuple b M.toArray from p2) q
  |bl c =>
   have z:=v.Yh;subst z;cases C
   cases e with
   |lst=>unfold XC at h;cases h
   |W3=>have z:=f.XY;subst z;cases g;unfold W6;exact SeqAt.EqAt.bool_none c
   |bl b=>have z:=f.Yh;subst z;cases g;unfold W6;exact SeqAt.EqAt.bool_bool c b
   |int i=>have z:=f.W4;subst z;obtain⟨t,rfl⟩:=g;unfold W6;exact SeqAt.EqAt.bool_int c i t
   |str i=>have z:=f.Xh;subst z;obtain⟨t,rfl⟩:=g;unfold W6;exact SeqAt.EqAt.bool_str c i t
   |tup j=>obtain⟨b,B,z,l,L⟩:=f.Xf;subst z;cases g;obtain⟨M,v2,p2,_⟩:=I.tuple l;unfold W6;exact SeqAt.EqAt.bool_tuple c (show s.heap.IsTuple b M.toArray from p2) q
  |int c =>
   have z:=v.W4;subst z;obtain⟨o,rfl⟩:=C
   cases e with
   |lst=>unfold XC at h;cases h
   |W3=>have z:=f.XY;subst z;cases g;unfold W6;exact SeqAt.EqAt.int_none c o
   |bl b=>have z:=f.Yh;subst z;cases g;unfold W6;exact SeqAt.EqAt.int_bool c o b
   |int i=>have z:=f.W4;subst z;obtain⟨t,rfl⟩:=g;unfold W6;exact SeqAt.EqAt.int_int c o i t
   |str i=>have z:=f.Xh;subst z;obtain⟨t,rfl⟩:=g;unfold W6;exact Wu c o i t
   |tup j=>obtain⟨b,B,z,l,L⟩:=f.Xf;subst z;cases g;obtain⟨M,v2,p2,_⟩:=I.tuple l;unfold W6;exact SeqAt.EqAt.int_tuple c o (show s.heap.IsTuple b M.toArray from p2) q
  |str c =>
   have z:=v.Xh;subst z;obtain⟨o,rfl⟩:=C
   cases e with
   |lst=>unfold XC at h;cases h
   |W3=>have z:=f.XY;subst z;cases g;unfold W6;exact SeqAt.EqAt.str_none c o
   |bl b=>have z:=f.Yh;subst z;cases g;unfold W6;exact SeqAt.EqAt.str_bool c o b
   |int i=>have z:=f.W4;subst z;obtain⟨t,rfl⟩:=g;unfold W6;exact Wv c o i t
   |str i=>have z:=f.Xh;subst z;obtain⟨t,rfl⟩:=g;unfold W6;exact SeqAt.EqAt.str_str c o i t
   |tup j=>obtain⟨b,B,z,l,L⟩:=f.Xf;subst z;cases g;obtain⟨M,v2,p2,_⟩:=I.tuple l;unfold W6;exact SeqAt.EqAt.str_tuple c o (show s.heap.IsTuple b M.toArray from p2) q
  |tup E =>
   have q1':=v
   obtain⟨a,N,z,T,t1⟩:=v.Xf;subst z;cases C;obtain⟨us,v1,p1,_⟩:=I.tuple T
   have G:s.heap.IsTuple a us.toArray:=p1
   cases e with
   |lst=>unfold XC at h;cases h
   |W3=>have z:=f.XY;subst z;cases g;unfold W6;exact SeqAt.EqAt.tuple_none G q
   |bl b=>have z:=f.Yh;subst z;cases g;unfold W6;exact SeqAt.EqAt.tuple_bool b G q
   |int i=>have z:=f.W4;subst z;obtain⟨t,rfl⟩:=g;unfold W6;exact SeqAt.EqAt.tuple_int i t G q
   |str i=>have z:=f.Xh;subst z;obtain⟨t,rfl⟩:=g;unfold W6;exact SeqAt.EqAt.tuple_str i t G q
   |tup j =>
    have q2':=f
    obtain⟨b,B,z,l,L⟩:=f.Xf;subst z;cases g
    by_cases O:a=b
    ·subst O
     have Q:=oA I (.tup E) (.tup j) r q1' q2' h
     rw[<- Q,gC _ r]
     exact SeqAt.EqAt.same _
    ·exact tt E j a b N B rfl rfl t1 L T l O
theorem NU{X:Cx}{r:qe}{N:St}{H:Hp}{s:Shared}(I:Inv X r N H s)(n:Nat)(A:Around)(d e:D)(x y:V)(u w:Value)(hu:A.units+n+2<cLine)(O:gK d<=n+1)(G:XC d=true)(o:XC e=true)(v:Dat X.K H d x)(f:Dat X.K H e y)(B:RelV x u)(g:RelV y w) :
  SeqAt.RcAt A s u w (W6 d e)/\SeqAt.RcNeAt A s u w (!W6 d e):=by
 have j:A.units<cLine:=by lia
 cases d with
 |lst=>unfold XC at G;cases G
 |W3 =>
  have z:=v.XY;subst z;cases B
  cases e with
  |lst=>unfold XC at o;cases o
  |W3=>have z:=f.XY;subst z;cases g;unfold W6;exact⟨SeqAt.RcAt.none_none,SeqAt.RcNeAt.none_none⟩
  |bl b=>have z:=f.Yh;subst z;cases g;unfold W6;exact⟨SeqAt.RcAt.none_bool b,SeqAt.RcNeAt.none_bool b⟩
  |int i=>have z:=f.W4;subst z;obtain⟨t,rfl⟩:=g;unfold W6;exact⟨SeqAt.RcAt.none_int i t,SeqAt.RcNeAt.none_int i t⟩
  |str i=>have z:=f.Xh;subst z;obtain⟨t,rfl⟩:=g;unfold W6;exact⟨SeqAt.RcAt.none_str i t,SeqAt.RcNeAt.none_str i t⟩
  |tup C=>obtain⟨b,J,z,q,E⟩:=f.Xf;subst z;cases g;obtain⟨p,L,p2,_⟩:=I.tuple q;unfold W6;exact⟨SeqAt.RcAt.none_tuple (show s.heap.IsTuple b p.toArray from p2) j,SeqAt.RcNeAt.none_tuple (show s.heap.IsTuple b p.toArray from p2) j⟩
 |bl c =>
  have z:=v.Yh;subst z;cases B
  cases e with
  |lst=>unfold XC at o;cases o
  |W3=>have z:=f.XY;subst z;cases g;unfold W6;exact⟨SeqAt.RcAt.bool_none c,SeqAt.RcNeAt.bool_none c⟩
  |bl b=>have z:=f.Yh;subst z;cases g;unfold W6;exact⟨SeqAt.RcAt.bool_bool c b,SeqAt.RcNeAt.bool_bool c b⟩
  |int i=>have z:=f.W4;subst z;obtain⟨t,rfl⟩:=g;unfold W6;exact⟨SeqAt.RcAt.bool_int c i t,SeqAt.RcNeAt.bool_int c i t⟩
  |str i=>have z:=f.Xh;subst z;obtain⟨t,rfl⟩:=g;unfold W6;exact⟨SeqAt.RcAt.bool_str c i t,SeqAt.RcNeAt.bool_str c i t⟩
  |tup C=>obtain⟨b,J,z,q,E⟩:=f.Xf;subst z;cases g;obtain⟨p,L,p2,_⟩:=I.tuple q;unfold W6;exact⟨SeqAt.RcAt.bool_tuple c (show s.heap.IsTuple b p.toArray from p2) j,SeqAt.RcNeAt.bool_tuple c (show s.heap.IsTuple b p.toArray from p2) j⟩
 |int c =>
  have z:=v.W4;subst z;obtain⟨h,rfl⟩:=B
  cases e with
  |lst=>unfold XC at o;cases o
  |W3=>have z:=f.XY;subst z;cases g;unfold W6;exact⟨SeqAt.RcAt.int_none c h,SeqAt.RcNeAt.int_none c h⟩
  |bl b=>have z:=f.Yh;subst z;cases g;unfold W6;exact⟨SeqAt.RcAt.int_bool c h b,SeqAt.RcNeAt.int_bool c h b⟩
  |int i=>have z:=f.W4;subst z;obtain⟨t,rfl⟩:=g;unfold W6;exact⟨SeqAt.RcAt.int_int c h i t,SeqAt.RcNeAt.int_int c h i t⟩
  |str i=>have z:=f.Xh;subst z;obtain⟨t,rfl⟩:=g;unfold W6;exact⟨SeqAt.RcAt.int_str c h i t,SeqAt.RcNeAt.int_str c h i t⟩
  |tup C=>obtain⟨b,J,z,q,E⟩:=f.Xf;subst z;cases g;obtain⟨p,L,p2,_⟩:=I.tuple q;unfold W6;exact⟨SeqAt.RcAt.int_tuple c h (show s.heap.IsTuple b p.toArray from p2) j,SeqAt.RcNeAt.int_tuple c h (show s.heap.IsTuple b p.toArray from p2) j⟩
 |str c =>
  have z:=v.Xh;subst z;obtain⟨h,rfl⟩:=B
  cases e with
  |lst=>unfold XC at o;cases o
  |W3=>have z:=f.XY;subst z;cases g;unfold W6;exact⟨SeqAt.RcAt.str_none c h,SeqAt.RcNeAt.str_none c h⟩
  |bl b=>have z:=f.Yh;subst z;cases g;unfold W6;exact⟨SeqAt.RcAt.str_bool c h b,SeqAt.RcNeAt.str_bool c h b⟩
  |int i=>have z:=f.W4;subst z;obtain⟨t,rfl⟩:=g;unfold W6;exact⟨SeqAt.RcAt.str_int c h i t,SeqAt.RcNeAt.str_int c h i t⟩
  |str i=>have z:=f.Xh;subst z;obtain⟨t,rfl⟩:=g;unfold W6;exact⟨SeqAt.RcAt.str_str c h i t,SeqAt.RcNeAt.str_str c h i t⟩
  |tup C=>obtain⟨b,J,z,q,E⟩:=f.Xf;subst z;cases g;obtain⟨p,L,p2,_⟩:=I.tuple q;unfold W6;exact⟨SeqAt.RcAt.str_tuple c h (show s.heap.IsTuple b p.toArray from p2) j,SeqAt.RcNeAt.str_tuple c h (show s.heap.IsTuple b p.toArray from p2) j⟩
 |tup Q =>
  obtain⟨a,xs,z,M,T⟩:=v.Xf;subst z;cases B;obtain⟨U,v1,p1,_⟩:=I.tuple M;have l:s.heap.IsTuple a U.toArray:=p1
  cases e with
  |lst=>unfold XC at o;cases o
  |W3=>have z:=f.XY;subst z;cases g;unfold W6;exact⟨SeqAt.RcAt.tuple_none l j,SeqAt.RcNeAt.tuple_none l j⟩
  |bl b=>have z:=f.Yh;subst z;cases g;unfold W6;exact⟨SeqAt.RcAt.tuple_bool b l j,SeqAt.RcNeAt.tuple_bool b l j⟩
  |int i=>have z:=f.W4;subst z;obtain⟨t,rfl⟩:=g;unfold W6;exact⟨SeqAt.RcAt.tuple_int i t l j,SeqAt.RcNeAt.tuple_int i t l j⟩
  |str i=>have z:=f.Xh;subst z;obtain⟨t,rfl⟩:=g;unfold W6;exact⟨SeqAt.RcAt.tuple_str i t l j,SeqAt.RcNeAt.tuple_str i t l j⟩
  |tup C =>obtain⟨b,J,z,q,E⟩:=f.Xf;subst z;cases g;unfold gK at O;unfold XC at G o;unfold W6;exact AS (A:=A) (ds:=Q) (es:=C) I j n (λd e x y u w Y k2 k3 k4 k5 k6 k7=>sI I n A.in1 d e x y u w (by rw[pI];lia) Y k2 k3 k4 k5 k6 k7) ⋯ G o T E M q
theorem Nf{X:Cx}{h:qe}{M:St}{H:Hp}{s:Shared}(I:Inv X h M H s)(n:Nat)(A:Around)(f g:List D)(a b:Addr)(r t:List V)(hu:A.units+n+2<cLine)(N:WZ f<=n)(O:Xe f=true)(Q:Xe g=true)(T:W2 X.K H a r)(U:W2 X.K H b t)(v:WU X.K H f r)(B:WU X.K H g t) :
  SeqAt.RcAt A s (.ref a) (.ref b) (Xq f g)/\SeqAt.RcNeAt A s (.ref a) (.ref b) (!Xq f g):=by
 have i:A.units<cLine:=by lia
 obtain⟨l,C,p1,_⟩:=I.list T;obtain⟨o,E,p2,_⟩:=I.list U;have q:l.toArray.size=f.length:=by rw[S7,<- C.length,v.length]
 have G:o.toArray.size=g.length:=by rw[S7,<- E.length,B.length]
 have J:=sJ (X:=X) (H:=H) (s:=s) (A:=A.in1) n (λd e x y u w Y k2 k3 k4 k5 k6 k7=>sI I n A.in1 d e x y u w (by rw[pI];lia) Y k2 k3 k4 k5 k6 k7) N O Q v B C E;by_cases j:f.length=g.length
 ·have c:l.toArray.size=o.toArray.size:=by rw[q,G,j]
  have p:=SeqAt.RcAt.lists p1.isList p2.isList c i J;have L:=SeqAt.RcNeAt.lists p1.isList p2.isList c i J;rw[q,Ac j]at p L;exact⟨p,L⟩
 ·have c:(l.toArray.size != o.toArray.size)=true:=by rw[q,G];simpa using j
  have z:Xq f g=false:=by
   rw[<- lC];have:(f.length==g.length)=false:=by simpa using j
   rw[this,TQ]
  rw[z];exact⟨SeqAt.RcAt.lists_lengths p1.isList p2.isList c i,SeqAt.RcNeAt.lists_lengths p1.isList p2.isList c i⟩
noncomputable def M9(K:qs)(a:Bool):R2:=λx y H Q=>∃d e,Dat K H d x/\Dat K H e y/\XC d=true/\XC e=true/\gK d<=20/\Q (.bl (if a then !W6 d e else W6 d e)) H
theorem GV{X:Cx}(b:Xm k X.A):XG X (compareOp .NotEq) (M9 X.K true):=by
 intro a s o H x y v u Q I c f h;obtain⟨d,e,g,i,j,l,p,q⟩:=h;have n:X.A.units+19+2<cLine:=by have:=b.un;lia
 exact(NU I 19 X.A d e x y v u n ⋯ j l g i c f).2 _ _ _ _ ⟨.bl _,H,I,rfl,q⟩
noncomputable def Hi(K:qs)(e:Bool):R2:=λx y H Q=>∃a b f g c d,x=.ref a/\y=.ref b/\W2 K H a f/\W2 K H b g/\WU K H c f/\WU K H d g/\Xe c=true/\Xe d=true/\WZ c<=20/\Q (.bl (if e then !Xq c d else Xq c d)) H
theorem ym{X:Cx}(d:Xm k X.A):XG X (compareOp .Eq) (Hi X.K false):=by
 intro c s E H x y v u Q I e f h;obtain⟨a,b,g,i,j,l,ex,n,o,p,r,t,w,z,B,q⟩:=h;subst ex n;cases e;cases f;have C:X.A.units+20+2<cLine:=by have:=d.un;lia
 exact(Nf I 20 X.A j l a b g i C B w z o p r t).1 _ _ _ _ ⟨.bl _,H,I,rfl,q⟩
theorem GW{X:Cx}(d:Xm k X.A):XG X (compareOp .NotEq) (Hi X.K true):=by
 intro c s E H x y v u Q I e f h;obtain⟨a,b,g,i,j,l,ex,n,o,p,r,t,w,z,B,q⟩:=h;subst ex n;cases e;cases f;have C:X.A.units+20+2<cLine:=by have:=d.un;lia
 exact(Nf I 20 X.A j l a b g i C B w z o p r t).2 _ _ _ _ ⟨.bl _,H,I,rfl,q⟩
noncomputable def tyD:D->String
 | .W3=>"NoneType"
 | .bl _=>"bool"
 | .int _=>"int"
 | .str _=>"str"
 | .tup _=>"tuple"
 | .lst=>"list"
noncomputable def rf(d:D)(T:String):Bool:=tyD d==T||(tyD d=="bool"&&T=="int")
theorem fU{X:Cx}(hk:∀d:D,W.kitOne X.K (.type (tyD d)) (.type T)=some (rf d T)) :
  km X (.builtin "isinstance") (λA H Q=>∃x d,A=[x,.ty T]/\Dat X.K H d x/\Q (.bl (rf d T)) H):=by
 intro j s B H A G Q I r h;obtain⟨x,d,e,q,h⟩:=h;subst e;obtain⟨u,c,e,f,C⟩:=Nv r;subst e;cases (show c=Value.type T from C);have fin:∀l,EP X j B Q (.bool (rf d T)) {s with toks:=l}:=λl=>⟨.bl _,H,I.tok l,rfl,h⟩
 have g:=hk d
 cases d with
 |W3=>have z:=q.XY;subst z;cases f;exact WB W.kitx_none I.X7 True.intro g (λz=>nomatch z) fin
 |bl b=>have z:=q.Yh;subst z;cases f;exact WB W.kitx_bool I.X7 True.intro g (λz=>nomatch z) fin
 |int i=>have z:=q.W4;subst z;obtain⟨t,rfl⟩:=f;exact WB W.kitx_int I.X7 True.intro g (λz=>nomatch z) fin
 |str y=>have z:=q.Xh;subst z;obtain⟨t,rfl⟩:=f;exact WB W.kitx_str I.X7 True.intro g (λz=>nomatch z) fin
 |tup J =>obtain⟨a,E,z,n,_⟩:=q.Xf;subst z;cases f;obtain⟨p,_,⟨o,v,w,_⟩,_⟩:=I.tuple n;exact WB W.kitx_tuple I.X7 ⟨o,v,w⟩ g (λz=>nomatch z) fin
 |lst =>obtain⟨a,E,z,n⟩:=q.ZM;subst z;cases f;obtain⟨p,_,⟨o,_,v,w,_⟩,_⟩:=I.list n;exact WB W.kitx_list I.X7 ⟨o,v,w⟩ g (λz=>nomatch z) fin
end
def mi(K:qs)(a:Addr)(T:List (Str×KTD.Dat)):Prop:=∀h:Heap,K.In h->KTD.TextTab h a T
section
theorem oR:XG X (compareOp .In) (λx y H Q=>∃k a T,x=.str k/\y=.ref a/\mi X.K a T/\Q (.bl (KTD.inKeys k T)) H):=by intro b s g H x y v u Q I c d h;obtain⟨k,a,T,ex,f,t,q⟩:=h;subst ex f;obtain⟨i,rfl⟩:=c;cases d;exact KTD.in_text (h₀:=s.heap) ⟨t _ I.X7,λ_ _ e=>e⟩ ⟨.bl _,H,I.tok _,rfl,q⟩
noncomputable def Hj(K:qs):R2:=λx y H Q=>∃a k T i,x=.ref a/\y=.str k/\mi K a T/\(T.all λp=>KTD.plain p.2)=true/\KTD.datumAt k T=some (.flat (.int i))/\Q (.int i) H
theorem Gv:IxR X (Hj X.K):=by
 intro l n o s G H x y v u Q I p r h w;obtain⟨a,k,T,i,ex,z,t,A,f,q⟩:=h;subst ex z;obtain⟨J,rfl⟩:=r;cases p;have B:KTD.inKeys k T=true:=by rw[<- KTD.isSome_datumAt,f];rfl
 refine KTD.item_textA (h₀:=s.heap) ⟨t _ I.X7,λ_ _ e=>e⟩ A B ?_ w
 exact c T f λv C=>by obtain⟨E,rfl⟩:=PyProof.V.Flat.int_inv C;exact⟨.int i,H,I.tok _,⟨E,rfl⟩,q⟩
where
 c {h:Heap} {k:Str} {P:Value->Prop} {i:Int}:∀(T:List (Str×KTD.Dat)),KTD.datumAt k T=some (.flat (.int i))->(∀v,PyProof.V.Flat v (.int i)->P v)->KTD.EachL h k P T
  |[],f,_=>by simp[KTD.datumAt]at f
  | (x,d)::T,f,g=>by
   have b:(if decide (k=x)=true then some d else KTD.datumAt k T)=some (.flat (.int i)):=f
   by_cases j:k=x
   ·rw[SV (S9 j)]at b
    cases b
    refine KTD.eachL_hit j ?_
    exact opened g
   ·rw[PC (by simp[j])]at b
    exact KTD.eachL_miss j (c T b g)
 opened {h:Heap} {P:Value->Prop} {i:Int} (g:∀v,PyProof.V.Flat v (.int i)->P v):KTD.Opened h P (.flat (.int i)):=by
  first
   |exact KTD.opened_int λt=>g _ (PyProof.V.Flat.int i t)
   |exactλt=>g _ (PyProof.V.Flat.int i t)
end
section
variable{H H':Hp}
variable{K:qs}
theorem WV.Zn(e:WV H H')(h:Xo K H a b):Xo K H' a b:=by
 rcases h with(h|⟨o,h⟩)|h
 ·exact .inl (.inl (e _ _ h))
 ·exact .inl (.inr ⟨o,e _ _ h⟩)
 ·exact .inr h
theorem WV.grow(e:WV H H'):eI K H H':=⟨λ_ _ h=>e.Zn h,λ_ a h=>⟨a,e.seq h⟩⟩
theorem WV.dat(e:WV H H')(h:Dat K H d v):Dat K H' d v:=Dat.mono e.grow d h
theorem WV.W0(e:WV H H')(h:WU K H a b):WU K H' a b:=WU.mono e.grow a h
theorem aL(h:H p=none)(o:HO):WV H (upd H p o):=λb u q=>by rw[aR (aN q h)];exact q
def Xb(t:Addr)(H H':Hp):Prop:=∀b o,b≠t->H b=some o->H' b=some o
theorem WV.but(e:WV H H'):Xb t H H':=λb o _ h=>e b o h
theorem Xb.trans(a:Xb t H H')(b:Xb t H' d):Xb t H d:=λc o n h=>b c o n (a c o n h)
theorem Xb.upd(a:Xb t H H'):Xb t H (upd H' t o):=λb u n h=>by rw[aR n];exact a b u n h
theorem Xb.Zn(e:Xb t H H')(b:H t=some (.lst zs))(h:Xo K H a c):Xo K H' a c:=by
 rcases h with(h|⟨o,h⟩)|h
 ·exact .inl (.inl (e _ _ (λz=>by rw[z,b]at h;cases h) h))
 ·exact .inl (.inr ⟨o,e _ _ (λz=>by rw[z,b]at h;cases h) h⟩)
 ·exact .inr h
theorem Xb.Yk(e:Xb t H H')(n:a≠t)(h:W2 K H a b):W2 K H' a b:=by
 rcases h with(h|⟨o,h⟩)|h
 ·exact .inl (.inl (e _ _ n h))
 ·exact .inl (.inr ⟨o,e _ _ n h⟩)
 ·exact .inr h
theorem Xb.grow(e:Xb t H H')(d:H t=some (.lst zs))(b:H' t=some (.lst c)):eI K H H' :=
 ⟨λ_ _ h=>e.Zn d h,λa f h=>by
  by_cases n:a=t
  ·subst n;exact⟨c,W2.of b⟩
  ·exact⟨f,e.Yk n h⟩⟩
end
section
variable{K:qs}
theorem Gk(d:D):W.kitOne K (.type (tyD d)) (.type "int")=some (rf d "int"):=by cases d<;>rfl
theorem IV(d:D):W.kitOne K (.type (tyD d)) (.type "bool")=some (rf d "bool"):=by cases d<;>rfl
theorem Gm(d:D):W.kitOne K (.type (tyD d)) (.type "str")=some (rf d "str"):=by cases d<;>rfl
theorem mq(d:D):W.kitOne K (.type (tyD d)) (.type "tuple")=some (rf d "tuple"):=by cases d<;>rfl
theorem xG(d:D):W.kitOne K (.type (tyD d)) (.type "list")=some (rf d "list"):=by cases d<;>rfl
end
def Xp(K:qs)(R:List D->D->Prop):Sp:=λc H Q _=>∃b d,WU K H b c/\R b d/\∀v a,WV H a->Dat K a d v->Q v a
def jR(K:qs)(R:List D->List D->Prop):Sp:=λe H Q _=>∃b c,WU K H b e/\R b c/\∀r d a,WV H a->a r=some (.lst d)->H r=none->WU K a c d->Q (.ref r) a
theorem iP(h:WU K H [a] b):∃u,b=[u]/\Dat K H a u:=by obtain⟨u,r,e,c,h⟩:=h.Xu;have z:=h.X5;subst z e;exact⟨u,rfl,c⟩
theorem iF(h:WU K H [a,b] c):∃u v,c=[u,v]/\Dat K H a u/\Dat K H b v:=by obtain⟨u,r,e,d,h⟩:=h.Xu;obtain⟨v,q,f⟩:=iP h;subst q e;exact⟨u,v,rfl,d,f⟩
theorem vU(h:WU K H [a,b,c] d):∃u v w,d=[u,v,w]/\Dat K H a u/\Dat K H b v/\Dat K H c w:=by obtain⟨u,r,e,f,h⟩:=h.Xu;obtain⟨v,w,q,g⟩:=iF h;subst q e;exact⟨u,v,w,rfl,f,g⟩
theorem pd{a:St}:(a.set j z).set j x=a.set j x:=by rw[List.set_set]
variable{J:It}{item:Nat->V}{σ0:St}
theorem sD{A:TE}{Q:VK}(Ok:Hp->Prop)
  (E:∀i a,Ok a->i<n->J.go i a/\∀x d,J.YZ i a x d->d=a/\x=item i) (stop:∀a,Ok a->J.stop n a) (G:σ0.set j none=σ0)
  (D:Addr) (l:Nat->Hp->Prop) (p0:l 0 (upd H D (.lst []))) (ok:∀i a,i<=n->l i a->Ok a)
  (t:∀i a,i<n->l i a->A (σ0.set j (some (item i))) a λv u=>∃r,u D=some (.lst r)/\r.length<sizeLine/\(∃z,σ0.set j (some (item i))=σ0.set j z)/\l (i+1) (upd u D (.lst (r++[v]))))
  (fin:∀a,l n a->Q (.ref D) a) :
  ∃W:Nat->Nat->St->Hp->Prop,(∃m,W 0 m σ0 (upd H D (.lst [])))/\∀i m f a,W i m f a ->
   (J.stop i a/\Q (.ref D) a) \/
   (J.go i a/\∃w:St->Hp->Prop,(∀c d,w c d->∃B,B<m/\W (i+1) B c d)/\∀x d,J.YZ i a x d->dE j x f d λh I=>i5 h I λb C =>
    if b=true then A h C λv u=>∃r,u D=some (.lst r)/\r.length<sizeLine/\w h (upd u D (.lst (r++[v])))else w h C):=by
 refine⟨λi m f a=>m=n - i/\i<=n/\(∃z,f=σ0.set j z)/\l i a,⟨n,⋯,Uk _,⟨none,G.symm⟩,p0⟩,?_⟩;rintro i m f a ⟨rfl,L,⟨z,rfl⟩,p⟩;have o:=ok i a L p;by_cases s:i<n
 ·obtain⟨g,y⟩:=E i a o s;refine .inr ⟨g,λc d=>(∃z,c=σ0.set j z)/\l (i+1) d,λc d q=>⟨n - (i+1),⋯,rfl,s,q.1,q.2⟩,λx d M=>?_⟩;obtain⟨N,O⟩:=y x d M;subst N O;simp only[dE,i5,VE,pd];exact t i _ s p
 ·have e:i=n:=by lia
  subst e;exact .inl ⟨stop a o,fin a p⟩
theorem Lr(i:Nat)(c:Hp)(h:Xo K c a b)(e:i<b.length):(Itt K a).go i c/\∀x d,(Itt K a).YZ i c x d->d=c/\x=b.getD i .W3:=by refine⟨⟨b,b[i],h,SN e⟩,λx d y=>⟨y.1,?_⟩⟩;have q:=y.2 b h;rw[Td,q];rfl
theorem xD(i:Nat)(c:Hp)(h:W2 K c a b)(e:i<b.length):(Itl K a).go i c/\∀x d,(Itl K a).YZ i c x d->d=c/\x=b.getD i .W3:=by refine⟨⟨b,b[i],h,SN e⟩,λx d y=>⟨y.1,?_⟩⟩;have q:=y.2 b h;rw[Td,q];rfl
theorem Gf(i:Nat)(a:Hp)(c:i<n):(Itr 0 n).go i a/\∀x b,(Itr 0 n).YZ i a x b->b=a/\x=.int i:=by refine⟨c,λx b y=>⟨y.1,?_⟩⟩;have q:=y.2;rw[q];simp
section
def Na(K:qs):V->V->Hp->VK->Prop:=λo i H Q=>∃p a k v,o=.ref p/\i=.int k/\0<=k/\W2 K H p a/\a[k.toNat]?=some v/\Q v H
theorem Ai:ME X (Na X.K):=by intro b s A H o i B C Q I d e h;obtain⟨p,f,k,v,g,j,l,n,c,q⟩:=h;subst g j;cases d;obtain⟨t,rfl⟩:=e;obtain⟨u,r,x,E⟩:=I.list n;obtain⟨w,y,a⟩:=r.get c;have G:=r.length;have z:k.toNat<f.length:=(S6.mp c).1;have L:=nN;exact wpAny_getItem_list x.isList l ⋯ (by simpa using y) ⟨v,H,I,a,q⟩
theorem Jr:XG X (binaryOp .Mult) (rI IntMulOk λi j=>.int (i*j)):=opI λ_ _ _ _ _ _ _ a q=>mul_int q a
end
theorem xK(h:j<n):ZJ n (j:Int)=some j:=by unfold ZJ;rw[SV ⋯,SV ⋯];simp
theorem at0{α:Type}{x:α}{r:List α}:Z1 (x::r) 0=some x:=lq (j:=0) rfl
theorem at1{α:Type}{x y:α}{r:List α}:Z1 (x::y::r) 1=some y:=lq (j:=1) rfl
theorem at2{α:Type}{x y z:α}{r:List α}:Z1 (x::y::z::r) 2=some z:=lq (j:=2) rfl
theorem ix0:ZJ (n+1) 0=some 0:=xK (j:=0) ⋯
theorem ix1:ZJ (n+2) 1=some 1:=xK (j:=1) ⋯
theorem ix2:ZJ (n+3) 2=some 2:=xK (j:=2) ⋯
theorem dO:∀a:List Int,WU K H (a.map D.int) (a.map V.int)
 |[]=>WU.nil
 |n::a=>WU.cons (Dat.WY n) (dO a)
theorem kS:∀a:List Int,Xe (a.map D.int)=true
 |[]=>by unfold Xe;rfl
 |n::a=>by show Xe (D.int n::a.map D.int)=true;unfold Xe;rw[kS a];unfold XC;rfl
theorem ju:∀a:List Int,WZ (a.map D.int)=0
 |[]=>by unfold WZ;rfl
 |n::a=>by show WZ (D.int n::a.map D.int)=0;unfold WZ;rw[ju a];unfold gK;rfl
theorem FT(a:vc):Xq (a.map D.int) []=a.isEmpty:=by
 cases a with
 |nil=>unfold Xq;rfl
 |cons n a=>show Xq (D.int n::a.map D.int) []=false;unfold Xq;rfl
theorem cK(h:n<=1000):n<=sizeLine:=UN (cU h)
def Zb(K:qs)(H:Hp)(a:Addr)(c:vc):Prop:=(∃o,H a=some (.frz o (.lst (c.map V.int)))) \/
 ∃(o:Obj)(b:Array Value)(n:Nat),K.lookup a=some o/\o.cls=.type "list"/\o.dict=none/\o.data=.seq b n/\b.size<=sizeLine/\Vals (c.map V.int) b.toList
theorem Zb.Yk(h:Zb K H a b):W2 K H a (b.map V.int):=by
 rcases h with⟨o,h⟩|h
 ·exact .inl (.inr ⟨o,h⟩)
 ·exact .inr h
theorem Zb.but(h:Zb K H a b)(e:Xb t H c)(d:H t=some (.lst zs)):Zb K c a b:=by
 rcases h with⟨o,h⟩|h
 ·exact .inl ⟨o,e _ _ (λz=>by rw[z,d]at h;cases h) h⟩
 ·exact .inr h
theorem Zb.same(h:Zb K H a b)(e:WV H c):Zb K c a b:=by
 rcases h with⟨o,h⟩|h
 ·exact .inl ⟨o,e _ _ h⟩
 ·exact .inr h
theorem Ml{b:vc}(c:Im H)(h:W2 K H a (b.map V.int)):Zb K H a b:=by
 rcases h with(h|⟨o,h⟩)|h
 ·rcases c a with z|⟨o,d,z⟩
  ·rw[h]at z;cases z
  ·rw[h]at z;cases z
 ·exact .inl ⟨o,h⟩
 ·exact .inr h
def uF(K:qs):Sp:=λd H Q _=>∃(a t:Addr)(e:vc)(m p q:Int)(rest:List V),d=[.ref a,.ref t,.int m]/\Zb K H a e/\H t=some (.lst (.int p::.int q::rest))/\0<=p/\0<m/\m<=1000000 /\
 ∀(r:Int)(b:Hp)(c f:Int),Xb t H b->b t=some (.lst (.int c::.int f::rest))->0<=c->0<=r->r<m->Q (.int r) b
def RE(K:qs)(t:TE)(c:St)(H:Hp)(d:D):Prop:=∀a,WV H a->∀Q:VK,(∀v b,WV a b->Dat K b d v->Q v b)->t c a Q
def RT(t:TT)(d:St)(H:Hp)(b:Bool):Prop:=∀a,WV H a->∀Q:Bool->Hp->Prop,(∀c,WV a c->Q b c)->t d a Q
def RA(K:qs)(t:TA)(d:St)(H:Hp)(e:List D):Prop:=∀a,WV H a->∀Q:List V->Hp->Prop,(∀c b,WV a b->WU K b e c->Q c b)->t d a Q
section
variable{K:qs}
theorem RE.mono(h:RE K t a H d)(e:WV H b):RE K t a b d:=λc s Q q=>h c (e.trans s) Q q
theorem RA.mono(h:RA K a b H c)(e:WV H d):RA K a b d c:=λf s Q q=>h f (e.trans s) Q q
theorem RE.as(h:RE K t a H d)(e:d=b):RE K t a H b:=e▸h
theorem RT.as(h:RT a d H b)(e:b=c):RT a d H c:=e▸h
theorem RE.use(h:RE K t b H d)(q:∀v a,WV H a->Dat K a d v->Q v a):t b H Q:=h H (WV.refl H) Q q
theorem RT.use(h:RT c d H b)(q:∀a,WV H a->Q b a):c d H Q:=h H (WV.refl H) Q q
theorem RA.use(h:RA K c d H e)(q:∀b a,WV H a->WU K a e b->Q b a):c d H Q:=h H (WV.refl H) Q q
theorem aE:RE K (tC (.int i)) a H (.int i):=λb _ Q q=>q _ _ (WV.refl _) (Dat.WY i)
theorem aJ:RE K (tC (.str x)) a H (.str x):=λb _ Q q=>q _ _ (WV.refl _) (Dat.Xn x)
theorem gO:RE K (tC (.bl b)) a H (.bl b):=λc _ Q q=>q _ _ (WV.refl _) (Dat.X3 b)
theorem aB(h:Dat K H d v)(e:σ[k]?=some (some v):=by rfl):RE K (fR k) σ H d:=λa s Q q=>⟨v,e,q _ _ (WV.refl _) (s.dat h)⟩
theorem aG:RA K dR a H []:=λb _ Q q=>q _ _ (WV.refl _) WU.nil
theorem aA(h:RE K t a H d)(r:RA K e a H f):RA K (bU t e) a H (d::f):=λg s Q q =>
 h g s _ λv i b j=>r i (s.trans b) _ λn o c l=>q _ _ (b.trans c) (WU.cons (c.dat j) l)
theorem aZ(h:RA K d e H a)(f:a.length<=1000:=by simp):RE K (CA d) e H (.tup a):=λg s Q q =>
 h g s _ λj l i b=>⟨by rw[<- b.length];exact cK f,λp c=>q _ _ (i.trans (aL c _)) (Dat.tupI (Xo.of aF) ((aL c _).W0 b))⟩
theorem DJ{g:Int->Int}(h:RE K t a H (.int i)):RE K (tUn (rU λi=>.int (g i)) t) a H (.int (g i)):=λb s Q q =>
 h b s _ λv e c d=>⟨i,d.W4,q _ _ c (Dat.WY _)⟩
theorem Cc(c:RE K e a H (.int i))(f:RE K h a H (.int j))(l:∀H,Dat K H d (g i j)):RE K (XT (ZZ g) e h) a H d:=λn s Q q =>
 c n s _ λv o b p=>f o (s.trans b) _ λw u r t=>⟨i,j,p.W4,t.W4,q _ _ (b.trans r) (l _)⟩
theorem Cd(c:RE K e a H (.int i))(f:RE K h a H (.int j))(l:C i j)(n:∀H,Dat K H d (g i j)):RE K (XT (rI C g) e h) a H d:=λo s Q q =>
 c o s _ λv p b r=>f p (s.trans b) _ λw x t u=>⟨i,j,r.W4,u.W4,l,q _ _ (b.trans t) (n _)⟩
theorem dC(b:RE K c a H (.int i))(d:RE K e a H (.int j)):RE K (XT (ZZ λi j=>.int (i+j)) c e) a H (.int (i+j)):=Cc b d λ_=>Dat.WY _
theorem uc(b:RE K c a H (.int i))(d:RE K e a H (.int j)):RE K (XT (ZZ λi j=>.int (i - j)) c e) a H (.int (i - j)):=Cc b d λ_=>Dat.WY _
theorem cP{i:Int}{p:Int->Int->Bool}(b:RE K c a H (.int i))(d:RE K e a H (.int j)):RE K (XT (ZZ λi j=>.bl (p i j)) c e) a H (.bl (p i j)):=Cc b d λ_=>Dat.X3 _
theorem nU(c:RE K d a H (.int i))(f:RE K g a H (.int j)):RE K (XT rEq d g) a H (.bl (decide (i=j))):=λh s Q q =>
 c h s _ λv l b n=>f l (s.trans b) _ λw r o p=>by
  rw[n.W4,p.W4];refine⟨rfl,?_⟩;have e:decide (V.int i=V.int j)=decide (i=j):=by by_cases z:i=j<;>simp[z]
  rw[e];exact q _ _ (b.trans o) (Dat.X3 _)
theorem kJ(c:RE K d a H (.int i))(f:RE K g a H (.int j)):RE K (XT rNe d g) a H (.bl (!decide (i=j))):=λh s Q q =>
 c h s _ λv l b n=>f l (s.trans b) _ λw r o p=>by
  rw[n.W4,p.W4];refine⟨rfl,?_⟩;have e:decide (V.int i=V.int j)=decide (i=j):=by by_cases z:i=j<;>simp[z]
  rw[e];exact q _ _ (b.trans o) (Dat.X3 _)
theorem bN(c:RE K d a H (.str x))(f:RE K g a H (.str y)):RE K (XT rEq d g) a H (.bl (decide (x=y))):=λh s Q q =>
 c h s _ λv i b j=>f i (s.trans b) _ λw o l n=>by
  rw[j.Xh,n.Xh];refine⟨rfl,?_⟩;have e:decide (V.str x=V.str y)=decide (x=y):=by by_cases z:x=y<;>simp[z]
  rw[e];exact q _ _ (b.trans l) (Dat.X3 _)
theorem bC{ds:List D}{k:Nat}(g:RE K h b H (.tup ds))(i:RE K j b H (.int k))(e:ds[k]?=some d):RE K (XT (lZ K) h j) b H d:=λl s Q q =>
 g l s _ λv n c o=>i n (s.trans c) _ λw A f p=>by obtain⟨a,r,t,u,y⟩:=(f.dat o).Xf;obtain⟨x,ex,z⟩:=y.get e;exact⟨a,r,k,x,t,p.W4,u,lq ex,q _ _ (c.trans f) z⟩
theorem fZ(h:RE K t c H (.tup d)):RE K (YM (λe H Q=>∃p b,e=[.ref p]/\(W2 K H p b\/Xo K H p b)/\Q (.int b.length) H) (bU t dR)) c H (.int d.length):=λf s Q q =>
 h f s _ λv r g i=>by obtain⟨a,j,l,n,o⟩:=i.Xf;subst l;refine⟨a,j,rfl,.inr n,?_⟩;rw[<- o.length];exact q _ _ g (Dat.WY _)
theorem cR(h:RE K t a H d):RE K (YM (λb H Q=>∃x d,b=[x,.ty T]/\Dat K H d x/\Q (.bl (rf d T)) H) (bU t (bU (tC (.ty T)) dR))) a H (.bl (rf d T)):=λc s Q q =>
 h c s _ λv g e f=>⟨v,d,rfl,f,q _ _ e (Dat.X3 _)⟩
theorem bJ(h:RA K a b H ds)(e:R ds d):RE K (lg (Xp K R) [] E a) b H d:=λc s Q q =>
 h c s _ λl n f g=>⟨ds,d,by rw[To];exact g,e,λv o i j=>q _ _ (f.trans i) j⟩
theorem jA(h:RE K t b H (.str k))(c:mi K a T):RE K (XT (λx y H Q=>∃k a T,x=.str k/\y=.ref a/\mi K a T/\Q (.bl (KTD.inKeys k T)) H) t (tC (.ref a))) b H (.bl (KTD.inKeys k T)):=λd s Q q =>
 h d s _ λv g e f=>⟨k,a,T,f.Xh,rfl,c,q _ _ e (Dat.X3 _)⟩
theorem AZ(h:RE K t b H (.str k))(c:mi K a T)(d:(T.all λp=>KTD.plain p.2)=true)(e:KTD.datumAt k T=some (.flat (.int i))):RE K (XT (Hj K) (tC (.ref a)) t) b H (.int i):=λf s Q q =>
 h f s _ λv l g j=>⟨a,k,T,i,rfl,j.Xh,c,d,e,q _ _ g (Dat.WY _)⟩
theorem Nh:HT.XD (n+1) 0 (some 1)=1:=by have:=HT.Yp (n+1) 0 1;simpa using this
theorem NH(v:V)(r:List V):ra (v::r) (some 1) none=r:=by unfold ra;rw[SX,Nh,HT.Zr];simp
theorem m6(h:RE K t c H (.tup (u::d))):RE K (tSl (L9 K) t (uH (tC (.int 1))) zB) c H (.tup d):=λe s Q q =>
 h e s _ λv x f g=>by
  obtain⟨a,y,i,j,l⟩:=g.Xf;obtain⟨w,r,n,A,o⟩:=l.Xu;subst i n;refine⟨1,rfl,a,w::r,rfl,j,λz=>?_,λp b=>?_⟩
  ·rw[SX,Nh]at z;exact absurd z.1 ⋯
  ·rw[NH];exact q _ _ (f.trans (aL b _)) (Dat.tupI (Xo.of aF) ((aL b _).W0 o))
theorem fF(e:RE K f d H (.bl b))(g:b=true->RE K h d H (.bl c)):RE K (KR f h) d H (.bl (b&&c)):=λi s Q q =>
 e i s _ λv j a l=>⟨b,l.Yh,by
  cases b with
  |true=>rw[SV rfl];exact g rfl j (s.trans a) _ λw p n o=>q _ _ (a.trans n) o
  |false=>rw[PC SW];exact q _ _ a (Dat.X3 _)⟩
theorem DH(e:RE K f d H (.bl b))(g:b=false->RE K h d H (.bl c)):RE K (Np f h) d H (.bl (b||c)):=λi s Q q =>
 e i s _ λv j a l=>⟨b,l.Yh,by
  cases b with
  |true=>rw[SV rfl];exact q _ _ a (Dat.X3 _)
  |false=>rw[PC SW];exact g rfl j (s.trans a) _ λw p n o=>q _ _ (a.trans n) o⟩
theorem Hy(h:RE K t a H (.bl b)):RE K (KW t) a H (.bl (!b)):=λc s Q q =>
 h c s _ λv f d e=>⟨b,e.Yh,q _ _ d (Dat.X3 _)⟩
theorem mG{i:Int}{p r:Int->Int->Bool}(f:RE K g b H (.int i))(h:RE K l b H (.int j))(n:p i j=true->RE K o b H (.int k)) :
  RE K (zA (ZZ λi j=>.bl (p i j)) (ZZ λi j=>.bl (r i j)) g l o) b H (.bl (p i j&&r j k)):=λt s Q q =>
 f t s _ λv u a x=>h u (s.trans a) _ λw y c e=>by
  refine⟨i,j,x.W4,e.W4,p i j,rfl,?_⟩
  cases d:p i j with
  |true =>simp only[VE,UA];exact n d y (s.trans (a.trans c)) _ λz C A B=>⟨j,k,e.W4,B.W4,q _ _ (a.trans (c.trans A)) (by rw[d];exact Dat.X3 _)⟩
  |false =>simp only[WA,WN,Vj];exact q _ _ (a.trans c) (by rw[d];exact Dat.X3 _)
theorem qJ(h:RT i c H b)(j:b=true->RE K l c H d)(n:b=false->RE K o c H d):RE K (tIf i l o) c H d:=λp s Q q =>
 h p s _ λg a=>by
  cases b with
  |true=>rw[SV rfl];exact j rfl g (s.trans a) _ λw r e f=>q _ _ (a.trans e) f
  |false=>rw[PC SW];exact n rfl g (s.trans a) _ λw r e f=>q _ _ (a.trans e) f
theorem aH(h:RE K t a H (.bl b)):RT (DV t) a H b:=λc s Q q=>h c s _ λv f d e=>⟨b,e.Yh,q _ d⟩
theorem bI(h:RE K t a H (.bl b)):RT (λa H Q=>t a H λx c=>∃k,zI K x c k/\Q k c) a H b:=λd s Q q=>h d s _ λv g e f=>by rw[f.Yh];exact⟨b,rfl,q _ e⟩
theorem bR(h:RT a c H b):RT (Mp a) c H (!b):=λd s Q q=>h d s _ λf e=>q _ e
theorem ug(h:RT e d H b)(f:b=true->RT g d H c):RT (Nk e g) d H (b&&c):=λi s Q q=>h i s _ λj a=>by
 cases b with
 |true=>rw[SV rfl];exact f rfl j (s.trans a) _ λn l=>q _ (a.trans l)
 |false=>rw[PC SW];exact q _ a
theorem dJ(h:RT e d H b)(f:b=false->RT g d H c):RT (tOr e g) d H (b||c):=λi s Q q=>h i s _ λj a=>by
 cases b with
 |true=>rw[SV rfl];exact q _ a
 |false=>rw[PC SW];exact f rfl j (s.trans a) _ λn l=>q _ (a.trans l)
theorem bE{b:jF}(h:RE K t σ H d)(q:∀v a,WV H a->Dat K a d v->b.rt v a):E1 t b σ H:=h.use q
theorem Mg{b:jF}(h:RE K t c H d)(q:∀v a,WV H a->Dat K a d v->b.nx (c.set k (some v)) a):rH t (dE k) b c H:=h.use q
theorem iH(h:RT e c H b)(f:b=true->∀a,WV H a->g d c a)(i:b=false->∀a,WV H a->j d c a):md e g j d c H:=h.use λa s=>by
 cases b with
 |true=>rw[SV rfl];exact f rfl a s
 |false=>rw[PC SW];exact i rfl a s
end
theorem bP:bootBuiltins "len"=some (.builtin "len"):=⋯
theorem cH:bootBuiltins "isinstance"=some (.builtin "isinstance"):=⋯
theorem lB:bootBuiltins "all"=some (.builtin "all"):=⋯
theorem FB:bootBuiltins "any"=some (.builtin "any"):=⋯
theorem FF:bootBuiltins "sum"=some (.builtin "sum"):=⋯
theorem FC:bootBuiltins "int"=some (.type "int"):=⋯
theorem IB:bootBuiltins "bool"=some (.type "bool"):=⋯
theorem FE:bootBuiltins "str"=some (.type "str"):=⋯
theorem fC:bootBuiltins "tuple"=some (.type "tuple"):=⋯
theorem oy:bootBuiltins "list"=some (.type "list"):=⋯
theorem FD:bootBuiltins "range"=some (.type "range"):=⋯
theorem Lk:bootBuiltins "set"=some (.type "set"):=⋯
theorem xl:bootBuiltins "enumerate"=some (.type "enumerate"):=⋯
theorem FG:bootBuiltins "zip"=some (.type "zip"):=⋯
theorem qw:bootBuiltins "reversed"=some (.type "reversed"):=⋯
theorem ue(h:RA K e f H c)(q:∀p b a,WV H a->a p=none->WU K a c b->Q (.ref p) (upd a p (.lst b)))(g:c.length<=1000:=by simp):EZ e f H Q :=
 h.use λb a i d=>⟨by rw[<- d.length];exact cK g,λp j=>q p b a i j d⟩
theorem kP{K:PySem.W.Frag}{e:Hp}{Q:VK}(N:∀i a,WV e a->i<n->J.go i a/\∀x h,J.YZ i a x h->h=a/\x=item i)(stop:∀a,WV e a->J.stop n a)
  (O:σ0.set j none=σ0) (r:List D) (hn:r.length=n) (B:n<=1000) (u:∀i d,r[i]?=some d->RE K T (σ0.set j (some (item i))) e d)
  (fin:∀l c a,e l=none->WV e a->a l=some (.lst c)->WU K a r c->Q (.ref l) a) (l:Addr) (C:e l=none) :
  ∃W:Nat->Nat->St->Hp->Prop,(∃m,W 0 m σ0 (upd e l (.lst [])))/\∀i m w a,W i m w a ->
   (J.stop i a/\Q (.ref l) a) \/
   (J.go i a/\∃E:St->Hp->Prop,(∀q h,E q h->∃I,I<m/\W (i+1) I q h)/\∀x h,J.YZ i a x h->dE j x w h λf U=>i5 f U λb L =>
    if b=true then T f L λv s=>∃c,s l=some (.lst c)/\c.length<sizeLine/\E f (upd s l (.lst (c++[v])))else E f L):=by
 refine sD (λa=>WV e a) N stop O l (λi a=>WV e a/\∃c,a l=some (.lst c)/\WU K a (r.take i) c) ?_ ?_ ?_ ?_
 ·exact⟨aL C _,[],aF,by rw[US];exact WU.nil⟩
 ·intro i a _ p;exact p.1
 ·intro i a hi ⟨A,c,G,y⟩;have z:i<r.length:=by lia
  refine((u i r[i] (SN z)).mono A).use λv s H Y=>?_;have M:=H _ _ G;have lys:c.length=i:=by rw[<- y.length,T4];lia
  refine⟨c,M,cU ⋯,⟨_,rfl⟩,λb o B=>?_,c++[v],aF,?_⟩
  ·rw[aR (aN B C)];exact H _ _ (A _ _ B)
  ·have g:eI K s (upd s l (.lst (c++[v]))):=Xb.grow (t:=l) (Xb.upd (WV.refl s).but) M aF;rw[Ug,SN z];exact WU.append (WU.mono g _ (H.W0 y)) (WU.cons (Dat.mono g _ Y) WU.nil)
 ·intro a ⟨A,c,G,y⟩;rw[U5 ⋯]at y;exact fin l c a C A G y
theorem aT{K:qs}(h:RT f c H b)(g:b=true->∀a,WV H a->i {d with nx:=e d} c a)(j:b=false->∀a,WV H a->e d c a):a6 (md f i DT) e d c H :=
 iH h g j
theorem d6(h:RE K t b H d)(q:∀v a,WV H a->Dat K a d v->c e (b.set k (some v)) a):a6 (rH t (dE k)) c e b H:=h.use q
theorem eE(h:b a H λx c=>d e (a.set k (some x)) c):a6 (rH b (dE k)) d e a H:=h
theorem jg(h:b a H λ_ c=>d e a c):a6 (nK b) d e a H:=h
theorem DK(h:Q v H):tC v a H Q:=h
theorem jM{a:jF}(h:b c H a.rt):E1 b a c H:=h
theorem dI(h:b {a with nx:=c a} d H):a6 b c a d H:=h
theorem pW(h:RE K A p H (.tup cs))(Y:cs.length<=1000)(f:List D)(hl:f.length=cs.length)(B:(mk p).set j none=mk p)
  (g:∀w (i:Nat) c v d,WV H w->cs[i]?=some c->f[i]?=some d->Dat K w c v->RE K C ((mk p).set j (some v)) w d)
  (fin:∀l r b,H l=none->WV H b->b l=some (.lst r)->WU K b f r->Q (.ref l) b):jC (IW K A) mk (dE j) i5 C p H Q:=by
 refine h.use λv4 E x G=>?_;obtain⟨a,t,e,y,z⟩:=G.Xf;subst e;have l4:=z.length;refine⟨a,rfl,⟨t,y⟩,?_⟩;refine kP (K:=K) (Q:=Q) (n:=t.length) (item:=λi=>t.getD i .W3) (λi b s u=>Lr i b (s.Zn y) u) (λb s=>⟨t,s.Zn y,SY _⟩) B f ⋯ ⋯ (λi d u=>?_) (λl r I L M=>fin l r I (x.free L) (x.trans M));have N:i<f.length:=(S6.mp u).1;have o:i<cs.length:=by lia
 obtain⟨O,T,U⟩:=z.get (SN o);have q:=g E i cs[i] O d x (SN o) u U;rw[Td,T];exact q
theorem jQ{a:St}(h:Q (a.set j (some v)) H):dE j v a H Q:=h
theorem rX(M:St->Hp->Prop)(e:∀a b,M a b->d c a b)(h:(∀a b,M a b->d c a b)->f {c with nx:=d c} g H):a6 f d c g H:=h e
theorem iQ(b:∀a H Q E,¬ c a H Q E):Xj P w K mg base d k f e g c :=
 ⟨λa H Q E h=>absurd h (b a H Q E),λA outer s H args i a Q E _ _ _ _ h=>absurd h (b a H Q E)⟩
theorem nT(n:Nat)(h:∀R:List V->Hp->Prop,R [.int n] H->q a H R)(t:n<=1000)(r:(mk a).set j none=mk a)(b:Addr->Nat->Hp->Prop)
  (p0:∀l,H l=none->b l 0 (upd H l (.lst [])))
  (c:∀l i G,H l=none->i<n->b l i G->s ((mk a).set j (some (.int i))) G λv g=>∃d,g l=some (.lst d)/\d.length<sizeLine/\(∃z,(mk a).set j (some (.int i))=(mk a).set j z)/\b l (i+1) (upd g l (.lst (d++[v]))))
  (fin:∀l G,H l=none->b l n G->Q (.ref l) G):jC (Gq q) mk (dE j) i5 s a H Q:=by
 refine h _ ⟨n,rfl,⋯,⋯,λl e=>?_⟩;rw[UJ];exact sD (λ_=>True) (item:=λi=>.int i) (λi o _ f=>Gf i o f) (λo _=>SY _) r l (b l) (p0 l e) (λ_ _ _ _=>trivial) (λi G f p=>c l i G e f p) (λG p=>fin l G e p)
theorem jz(h:a b H λx c=>r [x] c Q):YM r (bU a dR) b H Q:=h
theorem HD(h:RA K c b H [d,e])(q:∀v w a,WV H a->Dat K a d v->Dat K a e w->f g ((b.set i (some v)).set j (some w)) a):a6 (Mq i j c) f g b H :=
 h.use λs l n o=>by obtain⟨v,w,e,p,r⟩:=iF o;exact⟨v,w,e,q v w l n p r⟩
theorem rW(h:RA K v i G es)(n:G l=some (.lst c))(z:c.length<=900)
  (q:∀t f,Xb l G f->f l=some (.lst (c++t))->WU K f es t->w x i f) (y:i[j]?=some (some (.ref l)):=by rfl) (A:es.length<=100:=by simp):a6 (nK (tBM K "list" rS (fR j) (bU (EZ v) dR))) w x i G:=by
 refine⟨_,y,.inl ⟨rfl,_,W2.of n⟩,?_⟩;refine ue h (λp a d o r u=>?_) ⋯;have s:l≠p:=aN (o _ _ n) r;have e:upd d p (.lst a) l=some (.lst c):=by rw[aR s];exact o _ _ n
 have B:=u.length;refine⟨l,p,c,a,rfl,rfl,e,aF,cK ⋯,?_⟩;have b:Xb l (upd d p (.lst a)) (upd (upd d p (.lst a)) l (.lst (c++a))):=Xb.upd (WV.refl _).but;have g:eI K (upd d p (.lst a)) (upd (upd d p (.lst a)) l (.lst (c++a))):=b.grow e aF;exact q a _ ((o.trans (aL r _)).but.trans b) aF (WU.mono g _ ((aL r _).W0 u))
theorem lK(h:RE K f c H (.tup [d,e]))(q:∀v w b,WV H b->Dat K b d v->Dat K b e w->g l ((c.set i (some v)).set j (some w)) b) :
  a6 (rH f (Ee K 2 (nv (dE i) (nv (dE j) F8)))) g l c H :=
 h.use λx n o p=>by obtain⟨a,A,r,s,t⟩:=p.Xf;obtain⟨v,w,u,y,z⟩:=iF t;subst r u;exact⟨a,_,rfl,s,rfl,v,_,rfl,w,_,rfl,rfl,q v w n o y z⟩
noncomputable def qF:Expr->Bool
 | .Starred ..=>false
 |_=>true
theorem EU(h:qF e=true):starEach (e::a) env=(false,eval e env)::starEach a env:=by cases e<;>first|rfl|cases h
theorem aY(a:PE X e b)(c:PA X d t)(h:qF e=true:=by rfl):PA X (e::d) (bU b t):=cO a c (EU h)
theorem uL{bs:List Bool}:Vals (bs.map V.bl) a->a=bs.map Value.bool:=by
 intro h
 induction bs generalizing a with
 |nil=>cases h;rfl
 |cons b bs c =>
  cases h with
  |cons r t=>cases r;rw[c t];rfl
theorem Hs(bs:List Bool)(d:Bool):(List.range bs.length).map (λi=>(bs[i]?).getD d)=bs:=by
 apply List.ext_getElem
 ·simp
 ·intro i a b;simp at a;simp[a]
section
theorem iO{X:Cx}(w:X.calm=true):km X (.builtin "all") (λj H Q=>∃(l:Addr)(bs:List Bool),j=[.ref l]/\W2 X.K H l (bs.map V.bl)/\Q (.bl (bs.all id)) H):=by
 intro n s L H j M Q I r h;obtain⟨l,bs,rfl,y,q⟩:=h;obtain⟨u,rfl,z⟩:=i6 r;cases z;obtain⟨c,B,p,N⟩:=I.list y;have o:=uL B;have d:=p.isList;have f:l<s.heap.objs.size:=by obtain⟨_,e,_⟩:=d;exact Te e
 refine call_all_walk (Uv d ?_)
 refine⟨s.heap.objs.size,[s.heap.objs.size,l],[s.heap.objs.size],c.toArray.size,_,_,λi=>(bs[i]?).getD true,rfl,Walks.list (A:=X.A.in1) (I.ok.hd w) _ l (Tw f) c.toArray,
  ⟨⟨_,TN _ rfl,rfl,rfl⟩,d.push _⟩,λi v O T U C t=>?_,λY E hk=>?_⟩
 ·subst o;have a:(bs.map Value.bool)[i]?=some v:=by simpa using C
  rw[SR]at a
  cases g:bs[i]? with
  |none=>rw[g]at a;cases a
  |some b =>rw[g]at a;cases a;simp only[g,Option.getD_some]at t;exact Uu t
 ·have e:((List.range c.toArray.size).all λi=>(bs[i]?).getD true)=bs.all id:=by
   subst o;rw[S7,tB]
   conv=>rhs;rw[<- Hs bs true]
   rw[Wl];rfl
  rw[e];exact⟨.bl _,H,I.kept (t':=E) λb x e=>hk b x (λG=>by rw[Tp.mp G]at e;exact UP _ (Te e)) (SQ _ e),rfl,q⟩
theorem zS{X:Cx}(w:X.calm=true):km X (.builtin "any") (λj H Q=>∃(l:Addr)(bs:List Bool),j=[.ref l]/\W2 X.K H l (bs.map V.bl)/\Q (.bl (bs.any id)) H):=by
 intro n s L H j M Q I r h;obtain⟨l,bs,rfl,y,q⟩:=h;obtain⟨u,rfl,z⟩:=i6 r;cases z;obtain⟨c,B,p,N⟩:=I.list y;have o:=uL B;have d:=p.isList;have f:l<s.heap.objs.size:=by obtain⟨_,e,_⟩:=d;exact Te e
 refine call_any_walk (Uv d ?_)
 refine⟨s.heap.objs.size,[s.heap.objs.size,l],[s.heap.objs.size],c.toArray.size,_,_,λi=>(bs[i]?).getD false,rfl,Walks.list (A:=X.A.in1) (I.ok.hd w) _ l (Tw f) c.toArray,
  ⟨⟨_,TN _ rfl,rfl,rfl⟩,d.push _⟩,λi v O T U C t=>?_,λY E hk=>?_⟩
 ·subst o;have a:(bs.map Value.bool)[i]?=some v:=by simpa using C
  rw[SR]at a
  cases g:bs[i]? with
  |none=>rw[g]at a;cases a
  |some b =>rw[g]at a;cases a;simp only[g,Option.getD_some]at t;exact Uu t
 ·have e:((List.range c.toArray.size).any λi=>(bs[i]?).getD false)=bs.any id:=by
   subst o;rw[S7,tB]
   conv=>rhs;rw[<- Hs bs false]
   rw[Vy];rfl
  rw[e];exact⟨.bl _,H,I.kept (t':=E) λb x e=>hk b x (λG=>by rw[Tp.mp G]at e;exact UP _ (Te e)) (SQ _ e),rfl,q⟩
end
structure FunD(K:qs)(x qual:Str)(st:Stmt)(f:Addr)(fd:FuncData)(T:Addr)(ds:zl):Prop where
 ex:∃(oc:Value)(od:Option Addr)(kV doc pm:Value)(an:Option Addr)(cdv ct:Value)(osl:Array (Option Value)),
  fd=W.fnOf x qual (jO st) (h8 st) (aK st) (.ref T) kV doc pm an cdv ct/\K.lookup f=some ⟨oc,od,.func fd,osl⟩/\W.codeIn K cdv qual=true
 kp:W.keepIn K (.ref f)=true
 df:∃(o:Obj)(n:Nat),K.lookup T=some o/\o.data=.seq ds.toArray n
section
variable{K:qs}
theorem FunD.ok{P:Program}{st:Stmt}(F:FunD K x b st f l T r)(S:WW N i (aK st))(len:∀c H Q E,j c H Q E->c.length=i.length)
  (d:∀(a:Value)(A:Around)(outer:List Env)(s:Shared)(H:Hp)(c:List V)(Q:VK)(E:XK),Xm k (A.deeper (envOfC b (aK st) s.heap.objs.size f a))->j c H Q E ->
   ∃t,Zq (xr Yg P w K mg base N b (aK st) f a A outer s H E).nox (h8 st) t/\t {nx:=λ_ n=>Q .W3 n,rt:=Q} (start N c) H):Xj P w K mg base Yg (k+1) f l i j:=by
 obtain⟨u,v,kV,doc,y,z,a,ct,o,rfl,lk,e⟩:=F.ex;refine Kr lk e S len λA outer s H c Q E p g=>?_;obtain⟨t,h,q⟩:=d a A outer s H c Q E p g;exact⟨t,h.nox,q⟩
theorem jI(b:RE K c a H (.int i))(d:RE K e a H (.int j))(f:0<j):RE K (XT (rI (λ_ j=>0<j) λi j=>.int (i%j)) c e) a H (.int (i%j)):=Cd b d f λ_=>Dat.WY _
theorem t9(b:RE K c a H (.int i))(d:RE K e a H (.int j))(f:CMul i j):RE K (XT (rI CMul λi j=>.int (i*j)) c e) a H (.int (i*j)):=Cd b d f λ_=>Dat.WY _
theorem yC(b:RE K c a H (.int i))(d:RE K e a H (.int j))(f:K1 i j):RE K (XT (rI K1 λi j=>.int (i / j)) c e) a H (.int (i / j)):=Cd b d f λ_=>Dat.WY _
theorem CW:∀{bs:List Bool}{a:List V},WU K H (bs.map D.bl) a->a=bs.map V.bl
 |[],a,h=>by rw[WU.X5 h];rfl
 |b::bs,a,h=>by obtain⟨v,r,e,c,d⟩:=h.Xu;rw[e,c.Yh,CW d];rfl
theorem Cb(h:RE K t g H (.tup n))(u:n.length<=1000)(bs:List Bool)(w:bs.length=n.length)(x:(mk g).set r none=mk g)
  (f:∀j (i:Nat) c v b,WV H j->n[i]?=some c->bs[i]?=some b->Dat K j c v->RE K y ((mk g).set r (some v)) j (.bl b)) :
  RE K (YM (λz H Q=>∃(l:Addr)(bs:List Bool),z=[.ref l]/\W2 K H l (bs.map V.bl)/\Q (.bl (bs.all id)) H) (bU (jC (IW K t) mk (dE r) i5 y) dR)) g H (.bl (bs.all id)):=λj s Q q =>
 jz (pW (K:=K) (h.mono s) u (bs.map D.bl) (by rw[tB,w]) x (λA i c v d B o a C=>by
  rw[SR]at a
  cases p:bs[i]? with
  |none=>rw[p]at a;cases a
  |some b=>rw[p]at a;cases a;exact f A i c v b (s.trans B) o p C) (λl M N E G I L=>by
  have e:=CW L;subst e;exact⟨l,bs,rfl,W2.of I,q _ _ G (Dat.X3 _)⟩))
theorem CY:∀{b:vn}{a:List V},WU K H (b.map D.str) a->a=b.map V.str
 |[],a,h=>by rw[WU.X5 h];rfl
 |x::b,a,h=>by obtain⟨v,r,e,c,d⟩:=h.Xu;rw[e,c.Xh,CY d];rfl
theorem IF(x y:Str):eqV (.str x) (.str y)=decide (x=y):=by unfold eqV;by_cases h:x=y<;>simp[h]
theorem xI(x:Str):∀a:List Str,inV (.str x) (a.map V.str)=decide (x∈a)
 |[]=>by simp[inV]
 |y::a=>by
  have b:=xI x a;unfold inV at b ⊢;rw[S8,Vd,b,IF];by_cases h:y=x
  ·subst h;simp
  ·have c:¬ x=y:=λz=>h z.symm;simp[h,c]
theorem we(a:vn):(a.map V.str).all nr=true:=by rw[UE];intro v b;obtain⟨y,_,rfl⟩:=T5.mp b;rfl
theorem kg{ys:vn}(d:RE K f b H (.str x))(g:RE K h b H (.tup (ys.map D.str))):RE K (XT (rIn K false) f h) b H (.bl (decide (x∈ys))):=λi s Q q =>
 d i s _ λv j c l=>g j (s.trans c) _ λw u n o=>by obtain⟨a,y,p,r,t⟩:=o.Xf;have e:=CY t;subst e;rw[l.Xh];refine⟨a,_,p,.inr r,rfl,we ys,?_⟩;rw[xI];exact q _ _ (c.trans n) (Dat.X3 _)
theorem EJ{ys:vn}(d:RE K f b H (.str x))(g:RE K h b H (.tup (ys.map D.str))):RE K (XT (rIn K true) f h) b H (.bl (!decide (x∈ys))):=λi s Q q =>
 d i s _ λv j c l=>g j (s.trans c) _ λw u n o=>by obtain⟨a,y,p,r,t⟩:=o.Xf;have e:=CY t;subst e;rw[l.Xh];refine⟨a,_,p,.inr r,rfl,we ys,?_⟩;rw[xI];exact q _ _ (c.trans n) (Dat.X3 _)
theorem yE(c:RE K d a H (.str x))(f:RE K g a H (.str y)):RE K (XT rNe d g) a H (.bl (!decide (x=y))):=λh s Q q =>
 c h s _ λv i b j=>f i (s.trans b) _ λw o l n=>by
  rw[j.Xh,n.Xh];refine⟨rfl,?_⟩;have e:decide (V.str x=V.str y)=decide (x=y):=by by_cases z:x=y<;>simp[z]
  rw[e];exact q _ _ (b.trans l) (Dat.X3 _)
theorem JH(g:Zq X body t)(i:X.xe=(λ_ _=>False):=by rfl):PS X (.Try body (h::r) [] [] j) t:=by
 intro a s l H D I q;have w:=g a s l H D I q;rw[i]at w;refine wpAny_Try_except (VB w (λf d b=>?_) λe d z=>z.elim)
 cases f with
 |next =>obtain⟨c,n,o,p⟩:=b;exact aO a d c n D o p
 |ret u=>exact b
 |brk=>exact b
 |cont=>exact b
theorem GU:XG X (compareOp .LtE) (λx y H Q=>∃i j:Str,x=.str i/\y=.str j/\Q (.bl (!decide (j.cps.toList<i.cps.toList))) H):=by intro a s d H x y v u Q I b c h;obtain⟨i,j,rfl,rfl,q⟩:=h;obtain⟨t,rfl⟩:=b;obtain⟨e,rfl⟩:=c;refine PySem.P.le_str ?_;exact⟨.bl _,H,I,rfl,q⟩
noncomputable def Its(x:Str):It:=⟨λi _=>i<x.cps.size,λi H v a=>a=H/\∃c,x.cps[i]?=some c/\v=.str ⟨#[c]⟩,λi _=>i=x.cps.size⟩
theorem xh{K:PySem.W.Frag}{x:Str}(hn:["enumerate","zip","dict_itemiterator","dict_reverseitemiterator","odict_iterator","itertools.zip_longest","itertools.pairwise"].contains n=false)
  (W:∀A:Around,A.handled=none->Walks P w A a [a] [a] x.cps.size (SignAt x) (λi h=>h.IsStrIter a n x t i))
  (self:∀(A:Around)(i:Nat)(s:Shared)(Q:qf)(E:qf),s.heap.IsStrIter a n x t i->Q (.ref a) s->wpAny (model P w) A (pyIter (.ref a)) Q E s) :
  pj P w K tg (Its x) [a] a (λi h=>h.IsStrIter a n x t i) where
 mem:=by simp
 obj:=λi h st b g=>by
  have e:b=a:=by simpa using g
  subst e;obtain⟨o,e,c,d⟩:=st;exact⟨o,e,λv z=>by rw[d]at z;cases z⟩
 keep:=λi h l st k=>by obtain⟨o,e,r⟩:=st;exact⟨o,k a (by simp) o e,r⟩
 item:=by intro X q y B C i f s σ H E I p st G;subst q y B;obtain⟨L,M,f2,N,O,T⟩:=p a (by simp);refine(W X.A (I.ok.hd C)).item i s _ _ G st λv l U hv j kk=>?_;obtain⟨c,u,hx,rfl⟩:=hv;have I1:Inv X f σ H {s with heap:=l,toks:=U}:=I.turned (λb o g e=>kk b o (by simpa using g) e) L M N O T;obtain⟨o,e,cc,d⟩:=id j;exact⟨_,rfl,wq (s:={s with heap:=l,toks:=U}) e cc d hn ⟨.str ⟨#[c]⟩,H,I1,⟨u,rfl⟩,⟨rfl,c,hx,rfl⟩,j,λb g=>(p b g).1⟩⟩
 done:=by intro X q y B C i f s σ H E I p st G;subst q y B;obtain⟨L,M,f2,N,O,T⟩:=p a (by simp);have Y:i=x.cps.size:=G;subst Y;exact(W X.A (I.ok.hd C)).done s _ _ st λl U eb=>⟨rfl,I.turned (λb o g e=>eb b o (by simpa using g) e) L M N O T⟩
 self:=self
noncomputable def MR(a:TE):TI:=λb H R=>a b H λv c=>∃x,v=.str x/\R (Its x) c
theorem L5(r:PE X l u):PI X g l (MR u):=by
 intro c s j H R I h;refine W9 (r c s j H _ I h) λv a ⟨G,y,d,z,B⟩=>?_;obtain⟨x,e,q⟩:=B;subst e;obtain⟨t,rfl⟩:=z
 have fin:∀(o:Obj)(n:String),pj X.prog X.w X.K g (Its x) [a.heap.objs.size] a.heap.objs.size (λi h=>h.IsStrIter a.heap.objs.size n x t i)->(a.heap.push o).IsStrIter a.heap.objs.size n x t 0->PIE X c j g R (.ref a.heap.objs.size) {a with heap:=a.heap.push o}:=by
  intro o n T st;refine⟨a.heap.objs.size,[a.heap.objs.size],_,_,y,rfl,d.kept (t':=a.toks) λb o e=>SQ _ e,T,st,λb C=>?_,q⟩;have e:b=a.heap.objs.size:=by simpa using C
  subst e;exact d.YL (SY _) (d.hok.fresh (SY _))
 cases p:x.cps.all (·<128)
 ·exact wpAny_pyIter_wide p (fin _ "str_iterator" (xh ⋯ (λA f=>Walks.strWide f _ x t) λA i s Q E st q=>wpAny_pyIter_striter_wide st q) ⟨_,TN _ rfl,rfl,rfl⟩)
 ·exact wpAny_pyIter_ascii p (fin _ "str_ascii_iterator" (xh ⋯ (λA f=>Walks.strAscii f _ x t) λA i s Q E st q=>wpAny_pyIter_striter_ascii st q) ⟨_,TN _ rfl,rfl,rfl⟩)
theorem AH:XG X (compareOp .NotIn) (λx y H Q=>∃k a T,x=.str k/\y=.ref a/\mi X.K a T/\Q (.bl (!KTD.inKeys k T)) H):=by intro b s g H x y v u Q I c d h;obtain⟨k,a,T,ex,f,t,q⟩:=h;subst ex f;obtain⟨i,rfl⟩:=c;cases d;exact KTD.notin_text (h₀:=s.heap) ⟨t _ I.X7,λ_ _ e=>e⟩ ⟨.bl _,H,I.tok _,rfl,q⟩
noncomputable def DC(K:qs):R2:=λx y H Q=>∃a k T z,x=.ref a/\y=.str k/\mi K a T/\(T.all λp=>KTD.plain p.2)=true/\KTD.datumAt k T=some (.flat (.str z))/\Q (.str z) H
theorem Jc:IxR X (DC X.K):=by
 intro i j l s E H x y v u Q I o p h r;obtain⟨a,k,T,z,ex,w,t,A,f,q⟩:=h;subst ex w;obtain⟨G,rfl⟩:=p;cases o;have B:KTD.inKeys k T=true:=by rw[<- KTD.isSome_datumAt,f];rfl
 refine KTD.item_textA (h₀:=s.heap) ⟨t _ I.X7,λ_ _ e=>e⟩ A B ?_ r;exact c T f λC=>⟨.str z,H,I.tok _,⟨C,rfl⟩,q⟩
where
 c {h:Heap} {k:Str} {P:Value->Prop} {z:Str}:∀(T:List (Str×KTD.Dat)),KTD.datumAt k T=some (.flat (.str z))->(∀t,P (.str z t))->KTD.EachL h k P T
  |[],f,_=>by simp[KTD.datumAt]at f
  | (x,d)::T,f,n=>by
   have b:(if decide (k=x)=true then some d else KTD.datumAt k T)=some (.flat (.str z)):=f
   by_cases g:k=x
   ·rw[SV (S9 g)]at b
    cases b
    exact KTD.eachL_hit g (KTD.opened_str n)
   ·rw[PC (by simp[g])]at b
    exact KTD.eachL_miss g (c T b n)
noncomputable def DU(K:qs)(c d e:TE):TE:=λb H Q=>c b H λx f=>∃a T,x=.ref a/\mi K a T/\d b f λy g=>e b g λz h=>∃k i,y=.str k/\z=.int i/\(∀p∈T,∃j,p.2=.flat (.int j)) /\
 Q (.int (match KTD.datumAt k T with|some (.flat (.int j))=>j|_=>i)) h
theorem wL(ho:PE X o td)(he:PE X e ty)(hf:PE X f tx)(m:M2 X o "get" l e f n):PE X (.Call (.Attribute o "get" l) [e,f] [] n) (DU X.K td ty tx):=by
 intro c s r H Q I h;refine wpAny_Call_method m.base m.few m.line F.plainAttrs_dict F.slot_dict_get F.type_dict_get (W9 (ho c s r H _ I h) λu s1 ⟨x,H1,M,rx,a,T,ex,N,q1⟩=>?_);subst ex;obtain rfl:u=Value.ref a:=rx;have t1:=N _ M.X7;obtain⟨lo,ob,es,ep,w,hex,O,C⟩:=id t1;refine⟨⟨ob,w,hex.1⟩,λb eb=>?_,?_⟩
 ·cases eb;exact⟨ob,w,hex.2.1⟩
 rw[m.trees]
 refine V1 rfl (Calls.evalArgs_plain (Wx (W9 (he c s1 r H1 _ M q1) λiv s2 ⟨y,H2,I2,ry,q2⟩ =>
  Wx (W9 (hf c s2 r H2 _ I2 q2) λfv g ⟨z,E,G,rz,k,i,ey,ez,hT,q3⟩=>Calls.spliced_nil ?_))))
 subst ey ez;obtain⟨U,rfl⟩:=ry;obtain⟨A,rfl⟩:=rz;refine KTD.get2_text (h₀:=g.heap) ⟨N _ G.X7,λ_ _ e=>e⟩ ?_
 have fin:∀(D:List (Str×KTD.Dat)),(∀p∈D,∃j,p.2=.flat (.int j))->Q (.int (match KTD.datumAt k D with|some (.flat (.int j))=>j|_=>i)) E ->
   KTD.Each g.heap k (λv=>EP X c r Q v {g with toks:=g.toks+1}) (EP X c r Q (.int i A) {g with toks:=g.toks+1}) D:=by
  intro D
  induction D with
  |nil=>intro _ q;exact KTD.each_nil ⟨.int i,E,G.tok _,⟨_,rfl⟩,q⟩
  |cons p D ih =>
   intro Y q;obtain⟨x,d⟩:=p;obtain⟨j,ej⟩:=Y (x,d) Tn;have L:d=.flat (.int j):=ej;subst L;have ed:KTD.datumAt k ((x,KTD.Dat.flat (.int j))::D)=if decide (k=x)=true then some (.flat (.int j))else KTD.datumAt k D:=rfl;rw[ed]at q;by_cases B:k=x
   ·rw[SV (S9 B)]at q;exact KTD.each_hit B (KTD.opened_int λt=>⟨.int j,E,G.tok _,⟨t,rfl⟩,q⟩)
   ·rw[PC (by simp[B])]at q;exact KTD.each_miss B (ih (λp hp=>Y p (Th _ hp)) q)
 exact fin T hT q3
end
structure CK(P:Program)(w:World)(K:qs)(a:Addr)(ks:vn):Prop where
 lk:∃o,K.lookup a=some o
 tb:∀h:Heap,K.In h->∃D,StrTab P w h a D/\D.map (·.1)=ks.map PyData.str
noncomputable def Itk(a:vn):It:=⟨λi _=>i<a.length,λi H v b=>b=H/\∃k,a[i]?=some k/\v=.str k,λi _=>i=a.length⟩
theorem Ed{D:List (PyData×PyData)}{a:vn}(h:PyProof.V.FlatPairs PyData.str b D)(e:D.map (·.1)=a.map PyData.str):b.map (·.1)=a:=by
 induction h generalizing a with
 |nil =>
  cases a with
  |nil=>rfl
  |cons k a=>simp at e
 |cons _ _ d =>
  cases a with
  |nil=>simp at e
  |cons k a =>simp only[S8,List.cons.injEq]at e;obtain⟨c,f⟩:=e;injection c with c;rw[S8,d f,<- c]
theorem HZ(T:∀h:Heap,K.In h->h.DictAt (strKind P w) d a ep) :
  pj P w K tg (Itk (a.map (·.1))) [j] j (λi h=>h.IsKeyIter j d i a.length ep) where
 mem:=by simp
 obj:=λi h st b g=>by
  have e:b=j:=by simpa using g
  subst e;obtain⟨o,e,c,d⟩:=st;exact⟨o,e,λv z=>by rw[d]at z;cases z⟩
 keep:=λi h n st k=>by obtain⟨o,e,r⟩:=st;exact⟨o,k j (by simp) o e,r⟩
 item:=by
  intro X x y B U i f s Y H E I p st C;subst x y B;obtain⟨G,L,f2,M,N,O⟩:=p j (by simp);have u:i<a.length:=by have z:i<(a.map (·.1)).length:=C;simpa using z
  refine wpAny_pyNext_dict_item st (T _ I.X7) (SN u) λkey n hk l sb=>?_;obtain⟨t,rfl⟩:=Value.isStrOf_shape hk;have I1:Inv X f Y H {s with heap:=n}:=I.turned (t':=s.toks) (λb o g e=>(sb.2 b g).trans e) G L M N O;refine⟨_,rfl,PyProof.Rows.letGo_keyiter (s':={s with heap:=n}) l ⟨.str (a[i]).1,H,I1,⟨t,rfl⟩,⟨rfl,(a[i]).1,?_,rfl⟩,l,λb g=>(p b g).1⟩⟩;rw[SR,SN u];rfl
 done:=by
  intro X x y B U i f s Y H E I p st C;subst x y B;obtain⟨G,L,f2,M,N,O⟩:=p j (by simp);have u:i=a.length:=by have z:i=(a.map (·.1)).length:=C;simpa using z
  exact wpAny_pyNext_dict_end (I.ok.hd U) st (T _ I.X7) (by simp[u]) λn eb=>⟨rfl,I.turned (t':=s.toks) (λb o g e=>eb b o g e) G L M N O⟩
 self:=λA i s Q E st q=>wpAny_pyIter_keyiter st q
section
noncomputable def MT(P:Program)(w:World)(K:qs)(c:TE):TI:=λd H R=>c d H λv e=>∃a b,v=.ref a/\CK P w K a b/\R (Itk b) e
theorem L6(u:PE X l y):PI X Y l (MT X.prog X.w X.K y):=by
 intro c s A H R I h;refine W9 (u c s A H _ I h) λv i ⟨xv,B,d,C,E⟩=>?_;obtain⟨a,ks,e,p,q⟩:=E;subst e;cases C;obtain⟨D,T,G⟩:=p.tb _ d.X7;obtain⟨o,t⟩:=p.lk;obtain⟨lo,j,n,L⟩:=T;obtain⟨M,f⟩:=n.dictAt;have N:=Ed L G;subst N
 have g:∀h:Heap,X.K.In h->h.DictAt (strKind X.prog X.w) a j M:=λh x=>by obtain⟨o',O,Q,r⟩:=f;have z:=d.X7 _ _ t;rw[Q]at z;cases z;exact⟨_,O,x _ _ t,r⟩
 refine wpAny_pyIter_dict lo f ?_;refine⟨i.heap.objs.size,[i.heap.objs.size],_,_,B,rfl,d.kept (t':=i.toks) λb o e=>SQ _ e,HZ g,⟨_,TN _ rfl,rfl,rfl⟩,λb U=>?_,q⟩;have e:b=i.heap.objs.size:=by simpa using U
 subst e;exact d.YL (SY _) (d.hok.fresh (SY _))
end
def RC(K:qs)(t:TE)(d:St)(H:Hp)(e:List D):Prop:=∀a,WV H a->∀Q:VK,(∀l c b,a l=none->WV a b->b l=some (.lst c)->WU K b e c->Q (.ref l) b)->t d a Q
section
variable{i j:Int}
variable{K:qs}
theorem RC.mono(h:RC K t a H b)(e:WV H c):RC K t a c b:=λd s Q q=>h d (e.trans s) Q q
theorem RC.as(h:RC K t a H b)(e:b=c):RC K t a H c:=e▸h
theorem RC.use(h:RC K t c H es)(q:∀l b a,H l=none->WV H a->a l=some (.lst b)->WU K a es b->Q (.ref l) a):t c H Q:=h H (WV.refl H) Q q
theorem fY(h:RA K c d H es)(e:es.length<=1000:=by simp):RC K (EZ c) d H es:=λl s Q q =>
 ue (h.mono s) (λp f n b a g=>q p f _ (b.free a) (b.trans (aL a _)) aF ((aL a _).W0 g)) e
theorem tZ(h:RE K r b H (.tup cs))(t:cs.length<=1000)(e:List D)(g:e.length=cs.length)(u:(mk b).set p none=mk b)
  (a:∀f (i:Nat) c v d,WV H f->cs[i]?=some c->e[i]?=some d->Dat K f c v->RE K w ((mk b).set p (some v)) f d):RC K (jC (IW K r) mk (dE p) i5 w) b H e:=λf s Q q =>
 pW (K:=K) (h.mono s) t e g u (λn i c v d o=>a n i c v d (s.trans o)) (λl x n g o y z=>q l x n g o y z)
theorem Mb(h:RE K u g H (.str x))(a:x.cps.size<=1000)(b:List D)(w:b.length=x.cps.size)(z:(mk g).set t none=mk g)
  (f:∀p (i:Nat) c d,WV H p->x.cps[i]?=some c->b[i]?=some d->RE K A ((mk g).set t (some (.str ⟨#[c]⟩))) p d):RC K (jC (MR u) mk (dE t) i5 A) g H b:=λp s Q q=>by
 refine(h.mono s).use λO B r C=>?_;have e:=C.Xh;subst e;refine⟨x,rfl,?_⟩;refine kP (K:=K) (Q:=Q) (n:=x.cps.size) (item:=λi=>.str ⟨#[x.cps.getD i 0]⟩) (λi E s o=>⟨o,λv T y=>⟨y.1,?_⟩⟩) (λE s=>rfl) z b w a (λi d o=>?_) (λl G I L M=>q l G I (r.free L) (r.trans M))
 ·obtain⟨_,c,a,e⟩:=y;rw[e,Array.getD_eq_getD_getElem?,a];rfl
 ·have N:i<b.length:=(S6.mp o).1
  have a:x.cps[i]?=some (x.cps.getD i 0):=by rw[Array.getD_eq_getD_getElem?,Array.getElem?_eq_getElem ⋯];rfl
  exact f B i _ d (s.trans r) a o
theorem Mc(p:CK P w K a b)(r:b.length<=1000)(c:List D)(t:c.length=b.length)(u:(mk l).set o none=mk l)
  (f:∀g (i:Nat) k d,WV H g->b[i]?=some k->c[i]?=some d->RE K x ((mk l).set o (some (.str k))) g d):RC K (jC (MT P w K (tC (.ref a))) mk (dE o) i5 x) l H c:=λg s Q q=>by
 refine⟨a,b,rfl,p,?_⟩;refine kP (K:=K) (Q:=Q) (n:=b.length) (item:=λi=>.str (b.getD i "")) (λi z s h=>⟨h,λv B y=>⟨y.1,?_⟩⟩) (λz s=>rfl) u c t r (λi d h=>?_) q
 ·obtain⟨_,k,hk,e⟩:=y;rw[e,Td,hk];rfl
 ·have A:i<c.length:=(S6.mp h).1
  have hk:b[i]?=some (b.getD i ""):=by rw[Td,SN ⋯];rfl
  exact f g i _ d s hk h
theorem JN(h:RC K y g H cs)(Y:cs.length<=1000)(a:List D)(hl:a.length=cs.length)(z:(mk g).set w none=mk g)
  (b:∀o (i:Nat) c v d,WV H o->cs[i]?=some c->a[i]?=some d->Dat K o c v->RE K A ((mk g).set w (some v)) o d):RC K (jC (wt K y) mk (dE w) i5 A) g H a:=λo s Q q=>by
 refine(h.mono s).use λB p C E t u e=>?_;have ll:=e.length;refine⟨B,rfl,⟨p,W2.of u⟩,?_⟩;refine kP (K:=K) (Q:=Q) (n:=p.length) (item:=λi=>p.getD i .W3) (λi x s r=>xD i x (W2.of (s _ _ u)) r) (λx s=>⟨p,W2.of (s _ _ u),SY _⟩) z a ⋯ ⋯ (λi d r=>?_) (λl G I L M=>q l G I (t.free L) (t.trans M));have N:i<a.length:=(S6.mp r).1;have f:i<cs.length:=by lia
 obtain⟨O,T,U⟩:=e.get (SN f);have q:=b C i cs[i] O d (s.trans t) (SN f) r U;rw[Td,T];exact q
theorem lJ(h:RA K f g H b)(e:R b c):RC K (lg (jR K R) [] E f) g H c:=λl s Q q =>
 h l s _ λw x d n=>⟨b,c,by rw[To];exact n,e,λr o p t u a v=>q r o p (d.free a) (d.trans t) u v⟩
theorem kq{bs:List Bool}(h:RC K t a H (bs.map D.bl)):RE K (YM (λb H Q=>∃(l:Addr)(bs:List Bool),b=[.ref l]/\W2 K H l (bs.map V.bl)/\Q (.bl (bs.all id)) H) (bU t dR)) a H (.bl (bs.all id)):=λf s Q q =>
 jz ((h.mono s).use λl g n _ c d e=>⟨l,bs,rfl,by rw[<- CW e];exact W2.of d,q _ _ c (Dat.X3 _)⟩)
theorem DE{bs:List Bool}(h:RC K t a H (bs.map D.bl)):RE K (YM (λb H Q=>∃(l:Addr)(bs:List Bool),b=[.ref l]/\W2 K H l (bs.map V.bl)/\Q (.bl (bs.any id)) H) (bU t dR)) a H (.bl (bs.any id)):=λf s Q q =>
 jz ((h.mono s).use λl g n _ c d e=>⟨l,bs,rfl,by rw[<- CW e];exact W2.of d,q _ _ c (Dat.X3 _)⟩)
theorem pZ(h:RC K t c H es):RE K (YM (λd H Q=>∃p a,d=[.ref p]/\((W2 K H p a/\∀l,H l=none->Q (.ref l) (upd H l (.tup a)))\/(Xo K H p a/\Q (.ref p) H))) (bU t dR)) c H (.tup es):=λn s Q q =>
 jz ((h.mono s).use λl a o _ e f g=>⟨l,a,rfl,.inl ⟨W2.of f,λp b=>q _ _ (e.trans (aL b _)) (Dat.tupI (Xo.of aF) ((aL b _).W0 g))⟩⟩)
theorem EK(h:RE K t f H (.tup g)):RE K (YM (λn H Q=>∃p b,n=[.ref p]/\((W2 K H p b/\∀l,H l=none->Q (.ref l) (upd H l (.tup b)))\/(Xo K H p b/\Q (.ref p) H))) (bU t dR)) f H (.tup g):=λw s Q q =>
 jz ((h.mono s).use λv x o r=>by
  obtain⟨a,u,e,d,c⟩:=r.Xf;subst e;exact⟨a,u,rfl,.inr ⟨d,q _ _ o (Dat.tupI d c)⟩⟩)
theorem JU(h:RC K t b H c):RE K (YM (λd H Q=>∃p a,d=[.ref p]/\(W2 K H p a\/Xo K H p a)/\Q (.int a.length) H) (bU t dR)) b H (.int c.length):=λn s Q q =>
 jz ((h.mono s).use λl a o _ e f g=>⟨l,a,rfl,.inl (W2.of f),by rw[<- g.length];exact q _ _ e (Dat.WY _)⟩)
theorem JV(h:RE K t a H (.str x))(b:x.length<=sizeLine):RE K (YM (λc H Q=>∃z:Str,c=[.str z]/\z.length<=sizeLine/\Q (.int z.length) H) (bU t dR)) a H (.int x.length):=λf s Q q =>
 jz ((h.mono s).use λv g d e=>by
  rw[e.Xh];exact⟨x,rfl,b,q _ _ d (Dat.WY _)⟩)
theorem fG(h:RC K t b H es)(q:∀l c a,H l=none->WV H a->a l=some (.lst c)->WU K a es c->d e (b.set k (some (.ref l))) a):a6 (rH t (dE k)) d e b H:=h.use q
theorem EG{p q':Str->Str->Bool}(f:RE K g b H (.str x))(h:RE K l b H (.str y))(n:p x y=true->RE K o b H (.str z)) :
  RE K (zA (λu v H Q=>∃i j:Str,u=.str i/\v=.str j/\Q (.bl (p i j)) H) (λu v H Q=>∃i j:Str,u=.str i/\v=.str j/\Q (.bl (q' i j)) H) g l o) b H (.bl (p x y&&q' y z)):=λr s Q q =>
 f r s _ λv t a A=>h t (s.trans a) _ λw B c e=>by
  refine⟨x,y,A.Xh,e.Xh,p x y,rfl,?_⟩
  cases d:p x y with
  |true =>simp only[VE,UA];exact n d B (s.trans (a.trans c)) _ λG I C E=>⟨y,z,e.Xh,E.Xh,q _ _ (a.trans (c.trans C)) (by rw[d];exact Dat.X3 _)⟩
  |false =>simp only[WA,WN,Vj];exact q _ _ (a.trans c) (by rw[d];exact Dat.X3 _)
theorem A0(h:RE K t b H (.str k))(c:mi K a T):RE K (XT (λx y H Q=>∃k a T,x=.str k/\y=.ref a/\mi K a T/\Q (.bl (!KTD.inKeys k T)) H) t (tC (.ref a))) b H (.bl (!KTD.inKeys k T)):=λd s Q q =>
 h d s _ λv g e f=>⟨k,a,T,f.Xh,rfl,c,q _ _ e (Dat.X3 _)⟩
theorem EH(h:RE K t b H (.str k))(c:mi K a T)(d:(T.all λp=>KTD.plain p.2)=true)(e:KTD.datumAt k T=some (.flat (.str z))):RE K (XT (DC K) (tC (.ref a)) t) b H (.str z):=λf s Q q =>
 h f s _ λv n g l=>⟨a,k,T,z,rfl,l.Xh,c,d,e,q _ _ g (Dat.Xn _)⟩
noncomputable def kL(k:Str)(T:List (Str×KTD.Dat))(i:Int):Int:=match KTD.datumAt k T with|some (.flat (.int j))=>j|_=>i
theorem wN(e:mi K a T)(f:RE K g b H (.str k))(h:RE K l b H (.int i))(n:∀p∈T,∃j,p.2=.flat (.int j)):RE K (DU K (tC (.ref a)) g l) b H (.int (kL k T i)):=λo s Q q =>
 ⟨a,T,rfl,e,f o s _ λv r c t=>h r (s.trans c) _ λw x d u=>⟨k,i,(d.dat t).Xh,u.W4,n,q _ _ (c.trans d) (Dat.WY _)⟩⟩
variable{lo:Nat}
theorem CV{a:List V}{b:Nat}:ra a (some (lo:Int)) (some (b:Int))=(a.drop lo).take (b - lo):=by
 unfold ra;rw[HT.Yp,HT.Yp];apply VW;intro i;simp only[List.getElem?_take,List.getElem?_drop];by_cases c:i<b - lo
 ·rw[SV c];by_cases d:i<min b a.length - min lo a.length
  ·rw[SV d];congr 1;lia
  ·rw[PC d,UC ⋯]
 ·rw[PC c,PC ⋯]
theorem WU.dropN:∀{n:Nat}{a:List D}{b:List V},WU K H a b->WU K H (a.drop n) (b.drop n)
 |0,_,_,h=>h
 |n+1,[],_,h=>by rw[h.X5];exact WU.nil
 |n+1,d::a,_,h=>by obtain⟨v,r,e,f,c⟩:=h.Xu;subst e;exact WU.dropN (n:=n) c
theorem WU.Z5:∀{n:Nat}{a:List D}{b:List V},WU K H a b->WU K H (a.take n) (b.take n)
 |0,_,_,h=>by rw[US,US];exact WU.nil
 |n+1,[],_,h=>by rw[h.X5];exact WU.nil
 |n+1,d::a,_,h=>by obtain⟨v,r,e,c,f⟩:=h.Xu;subst e;exact WU.cons c (WU.Z5 (n:=n) f)
theorem Md{c:List D}{hi:Nat}(h:RE K t d H (.tup c))(n:RE K o d H (.int lo))(r:RE K u d H (.int hi))(L:1<=lo)(M:0<c.length):RE K (tSl (L9 K) t (uH o) (uH u)) d H (.tup ((c.drop lo).take (hi - lo))):=λw s Q q =>
 h w s _ λv x e y=>n x (s.trans e) _ λN A f B=>⟨lo,B.W4,r A (s.trans (e.trans f)) _ λO T g C=>⟨hi,C.W4,by
  obtain⟨a,E,G,I,b⟩:=((f.trans g).dat y).Xf;have U:=b.length;refine⟨a,E,G,I,λz=>?_,λp l=>?_⟩
  ·rw[HT.Yp]at z;lia
  ·rw[CV];exact q _ _ (e.trans (f.trans (g.trans (aL l _)))) (Dat.tupI (Xo.of aF) ((aL l _).W0 (WU.Z5 (WU.dropN b))))⟩⟩
end
mutual
noncomputable def j0(K:qs):D->Value->Bool
 | .W3,u=>(match u with | .none=>true|_=>false)
 | .bl b,u=>(match u with | .bool c=>b==c|_=>false)
 | .int i,u=>(match u with | .int j _=>i==j|_=>false)
 | .str x,u=>(match u with | .str y _=>x==y|_=>false)
 | .tup e,u=>(match u with | .ref a=>(match K.lookup a with|some ⟨.type "tuple",_,.seq d _,_⟩=>decide (d.size<=1000)&&Yx K e d.toList|_=>false)|_=>false)
 | .lst,_=>false
noncomputable def Yx(K:qs):List D->List Value->Bool
 |[],a=>a.isEmpty
 |d::b,a=>(match a with|u::r=>j0 K d u&&Yx K b r |[]=>false)
end
mutual
variable{K:qs}
theorem qA(H:Hp):∀(d:D)(u:Value),j0 K d u=true->∃v,RelV v u/\Dat K H d v
 | .W3,u,h=>by unfold j0 at h;cases u<;>first | (exact⟨.W3,rfl,Dat.Y3⟩)|cases h
 | .bl b,u,h=>by
  unfold j0 at h;cases u<;>first|cases h|skip
  rename_i c;have e:b=c:=by simpa using h
  subst e;exact⟨.bl b,rfl,Dat.X3 _⟩
 | .int i,u,h=>by
  unfold j0 at h;cases u<;>first|cases h|skip
  rename_i j t;have e:i=j:=by simpa using h
  subst e;exact⟨.int i,⟨t,rfl⟩,Dat.WY _⟩
 | .str x,u,h=>by
  unfold j0 at h;cases u<;>first|cases h|skip
  rename_i y t;have e:x=y:=by simpa using h
  subst e;exact⟨.str x,⟨t,rfl⟩,Dat.Xn _⟩
 | .tup g,u,h=>by
  unfold j0 at h;cases u<;>first|cases h|skip
  rename_i a;dsimp only at h;split at h
  ·rename_i o f n p e;rw[S2]at h;obtain⟨q,r,l⟩:=XZ H g f.toList h.2;refine⟨.ref a,rfl,Dat.tupI (.inr ⟨_,f,n,e,rfl,rfl,?_,r⟩) l⟩;exact Tz (S1 h.1) ⋯
  ·cases h
 | .lst,u,h=>by unfold j0 at h;cases h
theorem XZ(H:Hp):∀(b:List D)(a:zl),Yx K b a=true->∃c,Vals c a/\WU K H b c
 |[],a,h=>by
  unfold Yx at h
  cases a with
  |nil=>exact⟨[],.nil,WU.nil⟩
  |cons u r=>cases h
 |d::b,a,h=>by
  unfold Yx at h
  cases a with
  |nil=>cases h
  |cons u r =>dsimp only at h;rw[S2]at h;obtain⟨v,e,f⟩:=qA H d u h.1;obtain⟨c,g,i⟩:=XZ H b r h.2;exact⟨v::c,.cons e g,WU.cons f i⟩
end
theorem NI(h:j0 K (.tup d) (.ref a)=true)(H:Hp):Dat K H (.tup d) (.ref a):=by obtain⟨v,r,c⟩:=qA H _ _ h;obtain⟨b,f,e,_⟩:=id c.Xf;subst e;have z:Value.ref a=.ref b:=r;cases z;exact c
theorem mH(h:j0 K (.tup b) (.ref a)=true):RE K (tC (.ref a)) d H (.tup b):=λc _ Q q=>q _ _ (WV.refl _) (NI h c)
section
theorem FL:km X (.type "range") (λa H Q=>∃n:Nat,a=[.int n]/\∀p,H p=none->Q (.ref p) (upd H p (.rng 0 n))):=by intro c s f H a g Q I r h;obtain⟨n,rfl,q⟩:=h;obtain⟨u,rfl,d⟩:=i6 r;obtain⟨t,rfl⟩:=d;refine call_range_1 ⟨.ref s.heap.objs.size,_,I.laid (λb o e=>SQ _ e) (SY _) (show Xk X.prog X.w _ _ _ (.rng 0 n) from ⟨_,_,_,TN _ rfl⟩),rfl,q _ (I.hok.fresh (SY _))⟩
theorem Ie(h:ItemsOf (λi v=>∃t,v=.int ((0:Int)+(i:Nat)*1) t) a n):Vals ((List.range n).map λi:Nat=>V.int i) a.toList:=by
 obtain⟨c,d⟩:=h
 have all:∀(l:zl)(k:Nat),(∀(j:Nat)(v:Value),l[j]?=some v->∃t,v=Value.int ((0:Int)+((k+j:Nat):Int)*1) t)->Vals ((List.range' k l.length).map λi:Nat=>V.int i) l:=by
  intro l
  induction l with
  |nil=>intro k _;exact .nil
  |cons u l f =>
   intro k b;rw[SX,List.range'_succ,S8];refine .cons ?_ (f (k+1) λj v e=>?_)
   ·obtain⟨t,e⟩:=b 0 u rfl;refine⟨t,?_⟩;rw[e];congr 1;simp
   ·obtain⟨t,g⟩:=b (j+1) v (by simpa using e);refine⟨t,?_⟩;rw[g];congr 1;have:k+(j+1)=k+1+j:=by lia
    rw[this]
 have q:=all a.toList 0 λj v e=>by rw[WQ];exact d j v (by simpa using e)
 rw[List.range_eq_range'];rw[VF,c]at q;exact q
theorem uQ{X:Cx}(g:X.calm=true):km X (.type "list") (λc H Q=>∃(p:Addr)(n:Nat),c=[.ref p]/\H p=some (.rng 0 n)/\n<=1000/\∀l,H l=none->Q (.ref l) (upd H l (.lst ((List.range n).map λi:Nat=>V.int i)))):=by
 intro d s C H c E Q I r h;obtain⟨p,n,rfl,j,o,q⟩:=h;obtain⟨u,rfl,x⟩:=i6 r;cases x;obtain⟨t,u,v,e⟩:=(show Xk X.prog X.w H s.heap p (.rng 0 n) from I.hok p _ j)
 refine call_list_range (n:=n) (I.ok.hd g) (show IsRange s.heap p 0 n 1 t u v from e) (small_one ⋯ ⋯ ⋯ ⋯) ?_ ⋯ λy G a z A B b=>?_
 ·rw[rangeSize_one];split<;>lia
 ·have f:=Ie b;have L:=f.length;refine⟨.ref s.heap.objs.size,_,I.laid A (SY _) (show Xk X.prog X.w _ y _ (.lst _) from ⟨?_,a.toList,z,f,by simpa using B⟩),rfl,q _ (I.hok.fresh (SY _))⟩;simp only[tB,Vu];exact Tz o ⋯
def MB(K:qs)(a:Addr)(c:List V):Prop:=∃(b:Array Value)(n:Nat),K.lookup a=some ⟨.type "list",none,.seq b n,#[]⟩/\b.size<=1000/\Vals c b.toList
def XR(K:qs)(H:Hp)(a:Addr)(b:List V):Prop:=H a=some (.lst b)\/MB K a b
theorem XR.Yk{K:qs}(h:XR K H a c):W2 K H a c:=by
 rcases h with h|⟨b,n,e,d,r⟩
 ·exact W2.of h
 ·exact .inr ⟨_,b,n,e,rfl,rfl,rfl,Tz d ⋯,r⟩
theorem XR.at{X:Cx}{c:qe}{f:St}{H:Hp}{s:Shared}{a:Addr}{d:List V}(I:Inv X c f H s)(h:XR X.K H a d):∃(b:zl)(n:Nat),Vals d b/\s.heap.get? a=some {cls:=.type "list",data:=.seq b.toArray n}:=by
 rcases h with h|⟨b,n,e,g,r⟩
 ·obtain⟨z,b,n,r,i,e⟩:=I.Zs h;exact⟨b,n,r,e⟩
 ·exact⟨b.toList,n,r,by simpa using I.X7 _ _ e⟩
noncomputable def KD(K:qs):R2:=λx y H Q=>∃l b a zs,x=.ref l/\y=.ref b/\XR K H l a/\XR K H b zs/\a.length+zs.length<=1000/\∀p,H p=none->Q (.ref p) (upd H p (.lst (a++zs)))
theorem jn:XG X (binaryOp .Add) (KD X.K):=by
 intro d s B H x y v u Q I g i h;obtain⟨l,b,j,zs,rfl,rfl,o,p,t,q⟩:=h;cases g;cases i;obtain⟨c,n,r,e⟩:=o.at I;obtain⟨a,C,f,w⟩:=p.at I;have E:=r.length;have G:=f.length;have z:j.length+zs.length<=sizeLine:=Tz t ⋯;refine PySem.P.add_list e w ?_ (by rw[S7,S7];lia);have A:c.toArray++a.toArray=(c++a).toArray:=by simp
 rw[A];exact⟨.ref _,_,I.lnew (t':=s.toks) (r.append f) (by rw[M1];lia),rfl,q _ I.fresh⟩
end
section
variable{K:qs}
noncomputable def xP(K:qs)(c:List D)(a:Addr):Bool:=match K.lookup a with
 |some ⟨.type "list",none,.seq b _,d⟩=>decide (b.size<=1000)&&(d.isEmpty&&Yx K c b.toList)
 |_=>false
theorem xQ{K:qs}(h:xP K d a=true)(H:Hp):∃c,MB K a c/\WU K H d c:=by
 unfold xP at h;split at h
 ·rename_i b n f e;rw[S2,S2]at h;obtain⟨c,r,g⟩:=XZ H d b.toList h.2.2;have i:f=#[]:=by simpa using h.2.1
  subst i;exact⟨c,⟨b,n,e,S1 h.1,r⟩,g⟩
 ·cases h
theorem yB{H:Hp}{n:Nat}(h:RE K t f H (.int n))(g:n<=1000):RC K (YM (λb H Q=>∃(p:Addr)(n:Nat),b=[.ref p]/\H p=some (.rng 0 n)/\n<=1000/\∀l,H l=none->Q (.ref l) (upd H l (.lst ((List.range n).map λi:Nat=>V.int i))))
  (bU (YM (λb H Q=>∃n:Nat,b=[.int n]/\∀p,H p=none->Q (.ref p) (upd H p (.rng 0 n))) (bU t dR)) dR)) f H ((List.range n).map λi:Nat=>D.int i):=λw s Q q =>
 jz (jz ((h.mono s).use λv j c o=>by
  rw[o.W4];refine⟨n,rfl,λp d=>⟨p,n,rfl,aF,g,λl e=>?_⟩⟩;have r:=c.trans ((aL d (.rng 0 n)).trans (aL e (.lst ((List.range n).map λi:Nat=>V.int i))));refine q l _ _ ((c.trans (aL d _)).free e) r aF ?_
  have z:∀m:List Nat,WU K (upd (upd j p (.rng 0 n)) l (.lst ((List.range n).map λi:Nat=>V.int i))) (m.map λi:Nat=>D.int i) (m.map λi:Nat=>V.int i):=by
   intro m
   induction m with
   |nil=>exact WU.nil
   |cons a m u=>exact WU.cons (Dat.WY _) u
  exact z _))
end
structure Zc(l0 l1 l2:Addr)(H:Hp)(a b c:List V):Prop where
 h0:H l0=some (.lst a)
 h1:H l1=some (.lst b)
 h2:H l2=some (.lst c)
 n01:l0≠l1
 n02:l0≠l2
 n12:l1≠l2
def Yy(a c d:Addr)(H e:Hp):Prop:=∀b o,b≠a->b≠c->b≠d->H b=some o->e b=some o
section
theorem WV.Y4(e:WV H a):Yy c d f H a:=λb o _ _ _ h=>e b o h
theorem Yy.trans(x:Yy a c d H i)(y:Yy a c d i j):Yy a c d H j:=λb o e f g h=>y b o e f g (x b o e f g h)
theorem Zc.same(t:Zc d f g H a b c)(e:WV H h):Zc d f g h a b c:=⟨e _ _ t.h0,e _ _ t.h1,e _ _ t.h2,t.n01,t.n02,t.n12⟩
variable{K:qs}
theorem Yy.grow(e:Yy g i j H l)(t:Zc g i j H a b c)(n:Zc g i j l r s u):eI K H l:=by
 have d:∀(x:Addr)(o:HO),H x=some o->(∀f,o≠.lst f)->l x=some o:=λx o h p =>
  e x o (λz=>by rw[z,t.h0]at h;cases h;exact p _ rfl) (λz=>by rw[z,t.h1]at h;cases h;exact p _ rfl) (λz=>by rw[z,t.h2]at h;cases h;exact p _ rfl) h
 refine⟨λx f h=>?_,λx f h=>?_⟩
 ·rcases h with(h|⟨o,h⟩)|h
  ·exact .inl (.inl (d _ _ h (λ_ z=>by cases z)))
  ·exact .inl (.inr ⟨o,d _ _ h (λ_ z=>by cases z)⟩)
  ·exact .inr h
 ·by_cases q:x=g
  ·rw[q];exact⟨_,W2.of n.h0⟩
  by_cases z1:x=i
  ·rw[z1];exact⟨_,W2.of n.h1⟩
  by_cases z2:x=j
  ·rw[z2];exact⟨_,W2.of n.h2⟩
  refine⟨f,?_⟩;rcases h with(h|⟨o,h⟩)|h
  ·exact .inl (.inl (e _ _ q z1 z2 h))
  ·exact .inl (.inr ⟨o,e _ _ q z1 z2 h⟩)
  ·exact .inr h
theorem Zc.p0(t:Zc d e f H a b c):Zc d e f (upd H d (.lst (a++[v]))) (a++[v]) (b++[]) (c++[])/\Yy d e f H (upd H d (.lst (a++[v]))):=by rw[To,To];exact⟨⟨aF,by rw[aR (Tf t.n01)];exact t.h1,by rw[aR (Tf t.n02)];exact t.h2,t.n01,t.n02,t.n12⟩,λx o g _ _ h=>by rw[aR g];exact h⟩
theorem Zc.p1(t:Zc e d f H a b c):Zc e d f (upd H d (.lst (b++[v]))) (a++[]) (b++[v]) (c++[])/\Yy e d f H (upd H d (.lst (b++[v]))):=by rw[To,To];exact⟨⟨by rw[aR t.n01];exact t.h0,aF,by rw[aR (Tf t.n12)];exact t.h2,t.n01,t.n02,t.n12⟩,λx o _ g _ h=>by rw[aR g];exact h⟩
theorem Zc.p2(t:Zc e f d H a b c):Zc e f d (upd H d (.lst (c++[v]))) (a++[]) (b++[]) (c++[v])/\Yy e f d H (upd H d (.lst (c++[v]))):=by rw[To,To];exact⟨⟨by rw[aR t.n02];exact t.h0,by rw[aR t.n12];exact t.h1,aF,t.n01,t.n02,t.n12⟩,λx o _ _ g h=>by rw[aR g];exact h⟩
theorem Zc.nil(t:Zc d e f H a b c):Zc d e f H (a++[]) (b++[]) (c++[]):=by rw[To,To,To];exact t
theorem iY(h:RE K o f G d)(g:G l=some (.lst c))(u:c.length<=900)
  (q:∀y e,Xb l G e->e l=some (.lst (c++[y]))->Dat K e d y->p r f e) (s:f[j]?=some (some (.ref l)):=by rfl):a6 (nK (tBM K "list" ko (fR j) (bU o dR))) p r f G:=by
 refine⟨_,s,.inl ⟨rfl,_,W2.of g⟩,h.use λy i n t=>?_⟩;have a:=n _ _ g;refine⟨l,c,y,rfl,rfl,a,cU ⋯,?_⟩;have b:Xb l i (upd i l (.lst (c++[y]))):=Xb.upd (WV.refl _).but;exact q y _ (n.but.trans b) aF (Dat.mono (b.grow a aF) _ t)
theorem p9{H:Hp}(d:H f=some (.dK b))(hk:nZ b (Sum.inr x)=some (.ref l))(e:H l=some (.lst a))(h:WU K H i a)(n:o[j]?=some (some (.ref f)):=by rfl) :
  RE K (YM (λr H Q=>∃p a,r=[.ref p]/\((W2 K H p a/\∀l,H l=none->Q (.ref l) (upd H l (.tup a)))\/(Xo K H p a/\Q (.ref p) H))) (bU (KU (fR j) (tC (.str x))) dR)) o H (.tup i):=λt s Q q =>
 ⟨_,n,f,.ref l,rfl,by have g:=Zt.k (k:=Sum.inr x) (s _ _ d);rw[hk]at g;exact g,l,a,rfl,.inl ⟨W2.of (s _ _ e),λp c=>q _ _ (aL c _) (Dat.tupI (Xo.of aF) ((aL c _).W0 (s.W0 h)))⟩⟩
end
theorem De:∀{b:vc}{a:zl},Vals (b.map V.int) a->IntsAre a b
 |[],a,h=>by cases h;exact .nil
 |n::b,a,h=>by
  cases h with
  |cons r t =>obtain⟨c,rfl⟩:=r;exact .cons n c (De t)
section
theorem zU{X:Cx}(g:X.calm=true):km X (.builtin "sum") (λd H Q=>∃(l:Addr)(a:vc),d=[.ref l]/\W2 X.K H l (a.map V.int)/\Q (.int a.sum) H):=by
 intro e s x H d y Q I r h;obtain⟨l,a,rfl,i,q⟩:=h;obtain⟨u,rfl,j⟩:=i6 r;cases j;obtain⟨c,n,p,A⟩:=I.list i;have f:=De n;obtain⟨zs,b⟩:=f.allInts.items;refine sum_intListG (I.ok.hd g) (show s.heap.IsList l (intItems zs) from b▸p.isList) λB o t hk=>?_
 have v:zs.toList.map (·.1)=a:=by have z:=f.numsOf;rw[show c=(intItems zs).toList by rw[<- b]]at z;rw[<- z,nums_intItems]
 have w:preSum (numAt zs) zs.size=a.sum:=by rw[preSum_eq,<- v,U5 (by simp)]
 rw[w];exact⟨.int a.sum,H,I.kept (t':=o) hk,⟨t,rfl⟩,q⟩
noncomputable def Itv(K:qs)(a:Addr)(b:List V):It:=⟨λi H=>i<b.length/\W2 K H a b,λi H x c=>c=H/\b[b.length - 1 - i]?=some x,λi _=>i=b.length⟩
theorem HY{K:qs}(a g:Addr)(f:List V):pj P w K tg (Itv K a f) [g] g (λi h=>h.IsRevIter g a ((f.length:Int) - 1 - (i:Int))) where
 mem:=by simp
 obj:=λi h st b l=>by
  have e:b=g:=by simpa using l
  subst e;obtain⟨o,e,c,d⟩:=st;exact⟨o,e,λv z=>by rw[d]at z;cases z⟩
 keep:=λi h t st k=>by obtain⟨o,e,r⟩:=st;exact⟨o,k g (by simp) o e,r⟩
 item:=by
  intro X B C G hc i j s σ H E I y st L;subst B C G;obtain⟨hi,hq⟩:=L;obtain⟨its,rv,p,hz⟩:=I.list hq;obtain⟨M,N,f2,O,T,U⟩:=y g (by simp);have lr:=rv.length;have hx:f[f.length - 1 - i]?=some (f[f.length - 1 - i]'(by lia)):=SN ⋯;obtain⟨u,hu,ru⟩:=rv.get hx;have Y:(f.length:Int) - 1 - (i:Int)=((f.length - 1 - i:Nat):Int):=by lia
  have st1:s.heap.IsRevIter g a ((f.length - 1 - i:Nat):Int):=by rw[<- Y];exact st
  refine wpAny_pyNext_rev_item st1 p.isList (x:=u) (by simpa using hu) λt n sb=>?_;have e2:((f.length - 1 - i:Nat):Int) - 1=(f.length:Int) - 1 - ((i+1:Nat):Int):=by lia
  rw[e2]at n;have I1:Inv X j σ H {s with heap:=t}:=I.turned (t':=s.toks) (λb o l e=>(sb.2 b l).trans e) M N O T U;obtain⟨o,e,c,d⟩:=id n;exact⟨u,rfl,wq (s:={s with heap:=t}) e c d ⋯ ⟨_,H,I1,ru,⟨rfl,hx⟩,n,λb l=>(y b l).1⟩⟩
 done:=by
  intro X B C G hc i j s σ H E I y st L;subst B C G;obtain⟨M,N,f2,O,T,U⟩:=y g (by simp);have hg':i=f.length:=L;subst hg';have Y:(f.length:Int) - 1 - (f.length:Int)=-1:=by lia
  rw[Y]at st;exact wpAny_pyNext_rev_end (I.ok.hd hc) st λt eb=>⟨rfl,I.turned (t':=s.toks) (λb o l e=>eb b o l e) M N O T U⟩
 self:=λA i s Q E st q=>wpAny_pyIter_revIter st q
noncomputable def MP(K:qs)(d:TA):TI:=λe H R=>d e H λf b=>∃a c,f=[.ref a]/\W2 K b a c/\R (Itv K a c) b
theorem L4(n:Gl X "reversed")(r:X.mg "reversed"=none)(t:PA X [a] v)(w:starEach [a] X.env=[(false,eval a X.env)]:=by rfl):PI X N (.Call (.Name "reversed" p) [a] [] i) (MP X.K v):=by
 intro d s x H R I h;refine Call_ (lF I n r qw (Uq (W9 (t i d s x H _ I h) λO c ⟨Q,y,g,z,A⟩=>?_) w rfl));obtain⟨l,j,e,B,q⟩:=A;subst e;obtain⟨u,rfl,C⟩:=i6 z;cases C;obtain⟨f,E,G,T⟩:=g.list B;have L:=E.length;refine call_reversed_list G.isList ?_;have st:(c.heap.push (revObj l ((f.toArray.size:Int) - 1))).IsRevIter c.heap.objs.size l ((j.length:Int) - 1 - ((0:Nat):Int)):=⟨_,TN _ rfl,rfl,by simp[revObj,L]⟩
 refine wpAny_pyIter_revIter (s:={c with heap:=c.heap.push (revObj l ((f.toArray.size:Int) - 1))}) st ?_;refine⟨c.heap.objs.size,[c.heap.objs.size],_,_,y,rfl,g.kept (t':=c.toks) λb o e=>SQ _ e,HY l _ j,st,λb M=>?_,q⟩;have e:b=c.heap.objs.size:=by simpa using M
 subst e;exact g.YL (SY _) (g.hok.fresh (SY _))
end
noncomputable def met(f:Nat->Str)(i:Nat):List Str:=((List.range i).map f).foldl step_dedup []
theorem mz(f:Nat->Str)(i:Nat):met f (i+1)=step_dedup (met f i) (f i):=by unfold met;rw[Wm,Tj,List.foldl_append];rfl
theorem xw(l:vn)(x:Str):(step_dedup l x).length=if l.any (·==x)then l.length else l.length+1:=by unfold step_dedup;split<;>simp
theorem C2(l:vn)(x y:Str):(step_dedup l x).any (·==y)=(l.any (·==y)||decide (y=x)):=by
 unfold step_dedup;split
 ·rename_i h;by_cases e:y=x
  ·subst e;rw[h];rfl
  ·rw[S3 e,Bool.or_false]
 ·rw[List.any_append];congr 1;by_cases e:y=x
  ·subst e;simp
  ·have a:¬ x=y:=λz=>e z.symm;simp[e,a]
theorem xS(f:Nat->Str):∀i,(met f i).length<=i
 |0=>by simp[met]
 |i+1=>by rw[mz,xw];have:=xS f i;split<;>lia
theorem Ic{P:Program}{A:Around}{R:Result->Shared->Prop}{Pv:Nat->Value->Prop}{St:Nat->Shared->Prop}
  (W:WalksS P w A.in1 l T j G n Pv St) (a:Addr) (e:a∉T) (f:Nat->Str) (U:∀i v,Pv i v->∃t,v=.str (f i) t) (Y:n+1<scanBound) :
  ∀(m i:Nat)(s:Shared),n - i=m->i<=n->St i s->s.heap.SetOf (strKind P w) a (λy=>(met f i).any (·==y)) (met f i).length ->
   (∀p,Moved (a::j) G s p->p.heap.SetOf (strKind P w) a (λy=>(met f n).any (·==y)) (met f n).length->R (.ok (.ret .none)) p)->codeAny (model P w) A (.builtin "set.update.loop" ⟨[.ref a,.ref l],[]⟩) R s:=by
 have N:a∉j:=λz=>e (W.sub _ z);have c:∀b∈j,b∈a::j:=λb z=>Th _ z;intro m
 induction m with
 |zero =>
  intro i s e1 e2 st r fin;obtain rfl:i=n:=by lia
  refine codeAny_builtin VO ?_;rw[Around.under_plainId U9 _];show wpAny _ A.in1 (pyNext (.ref l) >>= _) _ _ s;refine SO (W.done s _ _ st λd h=>?_);show wpAny _ A.in1 (ret Value.none) _ _ d;obtain⟨o,u,x,B,g,rest⟩:=r;exact Tc (fin d (h.mono c) ⟨o,u,x,B,h.heap a _ N g,rest⟩)
 |succ m ih =>
  intro i s e1 e2 st r fin;have lt:i<n:=by lia
  refine codeAny_builtin VO ?_;rw[Around.under_plainId U9 _];show wpAny _ A.in1 (pyNext (.ref l) >>= _) _ _ s;refine SO (W.item i s _ _ lt st λv d pv C h=>?_);obtain⟨O,rfl⟩:=U i v pv;have E:d.heap.SetOf (strKind P w) a (λy=>(met f i).any (·==y)) (met f i).length:=let⟨o,u,x,B,g,rest⟩:=r;⟨o,u,x,B,h.heap a _ N g,rest⟩;show wpAny _ A.in1 (holding [Value.str (f i) O] (setAdd a (.str (f i) O)) >>= _) _ _ d;refine SO (Vo ?_);unfold setAdd;refine Vo (SO ((strKind P w).pyHash (k:=f i) (strKind_is P w _ _) ?_));have rm:(met f i).length+1<scanBound:=by have:=xS f i;lia
  refine wpAny_setAddHashed_of (knd:=strKind P w) (s:={d with toks:=d.toks+1}) (strKind_is P w _ _) rfl E rm λh' Q H=>?_;have I:h'.SetOf (strKind P w) a (λy=>(met f (i+1)).any (·==y)) (met f (i+1)).length:=SetOf_congr H (λy=>by rw[mz,C2]) (by rw[mz,xw]);refine Tc ⟨plainId_quiet U9 _,ih (i+1) _ ⋯ lt (W.frame _ d _ _ C (V0 _) λb z o g=>?_) I λs3 L M=>?_⟩
  ·rw[Q.2 b (λq:b=a=>e (by rw[<- q];exact z))];exact g
  ·refine fin s3 (Moved.trans W.gtrans ((h.mono c).then_heap (V0 _) λb o z g=>?_) L) M;rw[Q.2 b (λq:b=a=>z (by rw[q];exact Tn))];exact g
noncomputable abbrev zk(a:Bool):Obj:={cls:=.type "set",dict:=none,data:=.set #[] 0 (.fresh 0 0 a)}
theorem D5{A:Around}{s:Shared}(hh:A.handled=none)(hl:s.heap.IsList l a)
  (hi:∀(i:Nat)(v:Value),a[i]?=some v->∃t,v=.str (f i) t) (q:a.size+1<scanBound)
  (fin:∀(h:Heap)(n:Nat),h.SetOf (strKind P w) s.heap.objs.size (λy=>(met f a.size).any (·==y)) (met f a.size).length->(∀b o,b<s.heap.objs.size->s.heap.get? b=some o->h.get? b=some o)->Q (.ref s.heap.objs.size) {s with heap:=h,toks:=n}) :
  wpAny (model P w) A (call (.type "set") [.ref l]) Q E s:=by
 obtain⟨c,tl,mro⟩:=Vk.mro;have made:=Vk.made;have sub:=Vk.sub;refine wpAny_call (codeAny_of_tree ?_);show wpAny _ _ (callAny (.type "set") _) _ _ _;refine Tc ⟨Code.quiet_builtin _ ⋯,codeAny_builtin F.entry_type_call ?_⟩;rw[Around.under_plain (weight_type_call_type "set" [.ref l] []) rfl];have k1:=Vk.notType;have k2:=Vk.canCreate;have k3:=F.typeCall_set_1 (.ref l)
 repeat (any_goals (first|assumption|wp_step))
 refine Vw (code_set_new_1 (.ref l) (E:=E) (Q₁:=λobj H=>∃d:Bool,obj=.ref s.heap.objs.size/\H={s with heap:=s.heap.push (zk d)}) λd=>⟨d,rfl,rfl⟩) λr H u=>?_
 cases r with
 |error e=>exact u
 |ok fl =>
  cases fl with
  |ret obj =>
   obtain⟨d,rfl,rfl⟩:=u;have I:(s.heap.push (zk d)).get? s.heap.objs.size=some (zk d):=TN _ rfl;have ty:Shared.TypeIs {s with heap:=s.heap.push (zk d)} (.ref s.heap.objs.size) "set":=⟨_,I,rfl⟩
   have k4:=Vk.init.lookup;have k5:=Vk.init.bind (.ref s.heap.objs.size)
   repeat (any_goals (first|assumption|wp_step))
   refine Vw (codeAny_call_builtin (R:=wants (λr L=>r=.none/\∃h n,L={s with heap:=h,toks:=n}/\h.SetOf (strKind P w) s.heap.objs.size (λy=>(met f a.size).any (·==y)) (met f a.size).length /\
     (∀b o,b<s.heap.objs.size->s.heap.get? b=some o->h.get? b=some o)) E) Vk.init.plain F.entry_set_init (check_set_init_1 ty ?_)) λr2 L j=>?_
   ·obtain⟨ol,M,N,O,T⟩:=hl;obtain⟨oc,od,ob,os⟩:=ol;simp only at N T;subst N;subst T;have g4:(s.heap.push (zk d)).get? l=some {cls:=.type "list",dict:=od,data:=.seq a O,slots:=os}:=SQ _ M;have m1:=F.sub_list_set;have m2:=F.sub_list_frozenset;have m3:(Value.type "list"==Value.type "dict")=false:=by decide
    have U:(s.heap.push (zk d)).IsList l a:=⟨_,g4,rfl,O,rfl⟩
    unfold Builtin.«set.__init__» noKeywords Builtin.Frozenset.updateFrom;generalize x:pyIter=PI
    wp_walk
    subst x;refine Uv U (SO (wpAny_runValue ?_));have Y:l<s.heap.objs.size:=Te M;have h3:A.in1.in1.in1.handled=none:=by simp[hh]
    have n1:l≠(s.heap.push (zk d)).objs.size:=by rw[T7];exact Tw (WH Y)
    have n2:s.heap.objs.size∉[(s.heap.push (zk d)).objs.size,l]:=by rw[T7];simp only[S0,Tp,Ti,T9,not_or];exact⟨Tw (VC _),Ur Y⟩
    refine Ic ((Walks.list h3 _ l n1 a).toS) s.heap.objs.size n2 f hi q (a.size - 0) 0 _ ⋯ (Uk _) ⟨⟨_,TN _ rfl,rfl,rfl⟩,(U.push _)⟩ ?so ?fi
    case so=>exact SetOf_congr ((setObjOf_fresh (knd:=strKind P w) d).setOf (SQ _ I) (by unfold scanBound;lia)) (λ_=>rfl) rfl
    case fi =>
     intro s' p so;obtain⟨h,g',d',B,C⟩:=s';obtain rfl:g'=s.gens:=p.gens;obtain rfl:d'=s.drawn:=p.drawn;obtain rfl:C=s.os:=p.os;show wpAny _ _ _ _ _ _;refine Tc ?_;show wpAny _ _ (ret Value.none) _ _ _;refine Tc ⟨rfl,h,B,rfl,so,λb o z g=>?_⟩;have z1:b≠s.heap.objs.size:=Tw z;have z2:b≠(s.heap.push (zk d)).objs.size:=by rw[T7];exact Tw (WH z)
     exact p.heap b o (by simp only[S0,Tp,Ti,T9,not_or];exact⟨z1,z2⟩) (SQ _ (SQ _ g))
   ·cases r2 with
    |error e=>exact j
    |ok G =>
     cases G with
     |ret r =>
      obtain⟨rfl,h,n,rfl,so,kp⟩:=j
      repeat (any_goals (first|assumption|wp_step))
      exact fin _ _ so kp
     |_=>exact j.elim
  |_=>exact u.elim
def Cs(a:Addr)(n:Nat)(h:Heap):Prop:=∃o b c t,h.get? a=some o/\o.ExactSet/\o.data=.set b c t/\t.fits b.size=true/\b.size=n
section
theorem DR:∀{zs:vn}{a:zl}(i:Nat)(v:Value),Vals (zs.map V.str) a->a[i]?=some v->∃t,v=.str (zs.getD i "") t
 |[],a,i,v,h,e=>by cases h;simp at e
 |z::zs,a,i,v,h,e=>by
  cases h with
  |cons r t =>
   obtain⟨c,rfl⟩:=r
   cases i with
   |zero =>
    have b:Value.str z c=v:=by simpa using e
    exact⟨c,b.symm⟩
   |succ i =>obtain⟨d,b⟩:=DR (zs:=zs) i v t (by simpa using e);exact⟨d,by simpa using b⟩
noncomputable def xu(zs:vn):Nat:=(met (λi=>zs.getD i "") zs.length).length
theorem D6{X:Cx}(B:X.calm=true):km X (.type "set") (λj H Q=>∃(l:Addr)(zs:vn),j=[.ref l]/\W2 X.K H l (zs.map V.str)/\zs.length<=100/\∀p,H p=none->Q (.ref p) (upd H p (.ext (Cs p (xu zs))))):=by
 intro n s σ H j us Q I r h;obtain⟨l,zs,rfl,C,hz,q⟩:=h;obtain⟨u,rfl,E⟩:=i6 r;cases E;obtain⟨G,x,p,_⟩:=I.list C;have y:=x.length;rw[tB]at y;refine D5 (f:=λi=>zs.getD i "") (I.ok.hd B) p.isList (λi v e=>DR i v x (by simpa using e)) (by unfold scanBound;simp;lia) λA L M N=>?_
 have a:Cs s.heap.objs.size (xu zs) A:=by obtain⟨o,d,g,t,c,O,T,_,_,_,U,Y⟩:=M;refine⟨o,d,g,t,c,O,T,U,?_⟩;rw[Y];unfold xu;rw[y];simp
 refine⟨.ref s.heap.objs.size,_,I.laid (t':=L) (λb o e=>N b o (Te e) e) (SY _) (show Xk X.prog X.w _ A _ (.ext (Cs s.heap.objs.size (xu zs))) from ⟨a,?_,λh1 h2 z k=>?_⟩),rfl,q _ (I.hok.fresh (SY _))⟩
 ·obtain⟨o,_,_,_,c,_⟩:=a;exact⟨o,c⟩
 ·obtain⟨o,d,g,t,c,rest⟩:=z;exact⟨o,d,g,t,k _ c,rest⟩
theorem zT:km X (.builtin "len") (λa H Q=>∃(p:Addr)(n:Nat),a=[.ref p]/\H p=some (.ext (Cs p n))/\n<=1000/\Q (.int n) H):=by
 intro b s v H a x Q I r h;obtain⟨p,n,rfl,c,y,q⟩:=h;obtain⟨u,rfl,d⟩:=i6 r;cases d;obtain⟨⟨o,e,z,t,f,g,i,j,l⟩,_⟩:=(show Xk X.prog X.w H s.heap p (.ext (Cs p n)) from I.hok p _ c)
 subst l;exact call_len_set f g i j ⋯ ⟨.int (e.size:Nat),H,I.tok _,⟨_,rfl⟩,q⟩
end
theorem WV.XR(e:WV H b)(h:XR K H a c):XR K b a c:=h.elim (λz=>.inl (e _ _ z)) .inr
def LD(K:qs)(H:Hp)(c:List D)(v:V):Prop:=∃a b,v=.ref a/\XR K H a b/\WU K H c b
theorem WV.ld(e:WV H b)(h:LD K H c v):LD K b c v:=by obtain⟨a,d,f,g,i⟩:=h;exact⟨a,d,f,e.XR g,e.W0 i⟩
theorem LD.lst(h:LD K H c v):Dat K H .lst v:=by obtain⟨a,d,rfl,b,_⟩:=h;exact Dat.lstI b.Yk
theorem LD.of(h:H a=some (.lst b))(c:WU K H d b):LD K H d (.ref a):=⟨a,b,rfl,.inl h,c⟩
inductive Ar where
 |d (x:D)
 |l (ds:List D)
def ArI(K:qs)(H:Hp):Ar->V->Prop
 | .d x,v=>Dat K H x v
 | .l a,v=>LD K H a v
inductive Ars(K:qs)(H:Hp):List Ar->List V->Prop
 |nil:Ars K H [] []
 |cons {a v as vs}:ArI K H a v->Ars K H as vs->Ars K H (a::as) (v::vs)
theorem WV.ari(e:WV H b)(h:ArI K H a v):ArI K b a v:=by
 cases a with
 |d x=>exact e.dat h
 |l c=>exact e.ld h
theorem D1(h:Ars K H [a] b):∃u,b=[u]/\ArI K H a u:=by
 cases h with
 |cons c d=>cases d;exact⟨_,rfl,c⟩
theorem zM(h:Ars K H [a,b] c):∃u v,c=[u,v]/\ArI K H a u/\ArI K H b v:=by
 cases h with
 |cons d e=>obtain⟨v,rfl,q⟩:=D1 e;exact⟨_,v,rfl,d,q⟩
theorem Iq(h:Ars K H [a,b,c] d):∃u v w,d=[u,v,w]/\ArI K H a u/\ArI K H b v/\ArI K H c w:=by
 cases h with
 |cons e f=>obtain⟨v,w,rfl,q,g⟩:=zM f;exact⟨_,v,w,rfl,e,q,g⟩
theorem Ir(h:Ars K H [a,b,c,d] f):∃u v w x,f=[u,v,w,x]/\ArI K H a u/\ArI K H b v/\ArI K H c w/\ArI K H d x:=by
 cases h with
 |cons g i=>obtain⟨v,w,x,rfl,q,j,e⟩:=Iq i;exact⟨_,v,w,x,rfl,g,q,j,e⟩
def Yi(K:qs)(R:List Ar->D->Prop):Sp:=λb H Q _=>∃as d,Ars K H as b/\R as d/\∀v a,WV H a->Dat K a d v->Q v a
def mS(K:qs)(R:List Ar->List D->Prop):Sp:=λd H Q _=>∃as b,Ars K H as d/\R as b/\∀r c a,WV H a->a r=some (.lst c)->H r=none->WU K a b c->Q (.ref r) a
def RL(K:qs)(t:TE)(c:St)(H:Hp)(d:List D):Prop:=∀a,WV H a->∀Q:VK,(∀v b,WV a b->LD K b d v->Q v b)->t c a Q
def RB(K:qs)(t:TA)(d:St)(H:Hp)(as:List Ar):Prop:=∀a,WV H a->∀Q:List V->Hp->Prop,(∀c b,WV a b->Ars K b as c->Q c b)->t d a Q
section
variable{K:qs}
theorem RL.mono(h:RL K t a H b)(e:WV H c):RL K t a c b:=λd s Q q=>h d (e.trans s) Q q
theorem RL.use(h:RL K t b H es)(q:∀v a,WV H a->LD K a es v->Q v a):t b H Q:=h H (WV.refl H) Q q
theorem RB.use(h:RB K c d H e)(q:∀b a,WV H a->Ars K a e b->Q b a):c d H Q:=h H (WV.refl H) Q q
theorem dS:RB K dR a H []:=λb _ Q q=>q _ _ (WV.refl _) .nil
theorem iW(h:RE K t b H d)(r:RB K f b H g):RB K (bU t f) b H (.d d::g):=λi s Q q =>
 h i s _ λv j c l=>r j (s.trans c) _ λo p e n=>q _ _ (c.trans e) (.cons (e.ari (a:=.d d) l) n)
theorem gH(h:RL K t b H ds)(r:RB K e b H f):RB K (bU t e) b H (.l ds::f):=λg s Q q =>
 h g s _ λv i c j=>r i (s.trans c) _ λo p d n=>q _ _ (c.trans d) (.cons (d.ari (a:=.l ds) j) n)
theorem aW(h:LD K H a v)(e:b[k]?=some (some v):=by rfl):RL K (fR k) b H a:=λc s Q q=>⟨v,e,q _ _ (WV.refl _) (s.ld h)⟩
theorem jB(h:RC K t a H b):RL K t a H b:=λc s Q q=>h c s _ λl g i _ d e f=>q _ _ d (LD.of e f)
theorem Mf(h:xP K b a=true):RL K (tC (.ref a)) g H b:=λc _ Q q=>by obtain⟨d,e,f⟩:=xQ h c;exact q _ _ (WV.refl _) ⟨a,d,rfl,.inr e,f⟩
theorem eR(h:RB K b c H a)(e:R a d):RE K (lg (Yi K R) [] E b) c H d:=λf s Q q =>
 h f s _ λn o g i=>⟨a,d,by rw[To];exact i,e,λv p j l=>q _ _ (g.trans j) l⟩
theorem hV(h:RB K f g H b)(e:R b c):RC K (lg (mS K R) [] E f) g H c:=λi s Q q =>
 h i s _ λu v d j=>⟨b,c,by rw[To];exact j,e,λr l n o p a t=>q r l n (d.free a) (d.trans o) p t⟩
theorem gP{ds:List D}{k:Nat}(g:RL K h b H ds)(i:RE K j b H (.int k))(e:ds[k]?=some d):RE K (XT (B8 K) h j) b H d:=λl s Q q =>
 g l s _ λv n c o=>i n (s.trans c) _ λw A f p=>by obtain⟨a,r,t,u,y⟩:=f.ld o;obtain⟨x,ex,z⟩:=y.get e;exact⟨a,r,k,x,t,p.W4,u.Yk,lq ex,q _ _ (c.trans f) z⟩
theorem WU.snocE:∀{as:List D}{c:List V},WU K H (as++[b]) c->∃d v,c=d++[v]/\WU K H as d/\Dat K H b v
 |[],c,h=>by obtain⟨v,rfl,q⟩:=iP h;exact⟨[],v,rfl,WU.nil,q⟩
 |a::as,c,h=>by obtain⟨v,r,rfl,e,f⟩:=h.Xu;obtain⟨d,w,rfl,g,i⟩:=WU.snocE (as:=as) f;exact⟨v::d,w,rfl,WU.cons e g,i⟩
theorem m5(f:RL K g b H (ds++[d]))(h:RE K i b H (.int (-1))):RE K (XT (B8 K) g i) b H d:=λj s Q q =>
 f j s _ λv l c n=>h l (s.trans c) _ λw z e o=>by obtain⟨a,A,p,r,t⟩:=e.ld n;obtain⟨u,x,rfl,B,y⟩:=t.snocE;exact⟨a,_,-1,x,p,o.W4,r.Yk,Fz u x,q _ _ (c.trans e) y⟩
theorem dB(h:RL K t c H d):RE K (YM (λe H Q=>∃p a,e=[.ref p]/\(W2 K H p a\/Xo K H p a)/\Q (.int a.length) H) (bU t dR)) c H (.int d.length):=λi s Q q =>
 jz ((h.mono s).use λv j f b=>by
  obtain⟨l,a,rfl,g,b⟩:=b;exact⟨l,a,rfl,.inl g.Yk,by rw[<- b.length];exact q _ _ f (Dat.WY _)⟩)
theorem qz:∀{b:vc}{a:List V},WU K H (b.map D.int) a->a=b.map V.int
 |[],a,h=>by rw[WU.X5 h];rfl
 |n::b,a,h=>by obtain⟨v,r,e,c,d⟩:=h.Xu;rw[e,c.W4,qz d];rfl
theorem DI{ns:vc}(h:RL K t b H (ns.map D.int)):RE K (YM (λc H Q=>∃(l:Addr)(ns:vc),c=[.ref l]/\W2 K H l (ns.map V.int)/\Q (.int ns.sum) H) (bU t dR)) b H (.int ns.sum):=λf s Q q =>
 jz ((h.mono s).use λv g d a=>by
  obtain⟨l,i,rfl,e,a⟩:=a;exact⟨l,ns,rfl,by rw[<- qz a];exact e.Yk,q _ _ d (Dat.WY _)⟩)
noncomputable def isN:D->Bool
 | .W3=>true
 |_=>false
theorem Dg(h:Dat K H d v):decide (v=.W3)=isN d:=by
 cases d with
 |W3=>rw[h.XY];rfl
 |bl b=>rw[h.Yh];rfl
 |int i=>rw[h.W4];rfl
 |str x=>rw[h.Xh];rfl
 |tup f=>obtain⟨a,c,e,_⟩:=h.Xf;rw[e];rfl
 |lst=>obtain⟨a,c,e,_⟩:=h.ZM;rw[e];rfl
theorem pY(h:RE K a b H d):RE K (XT (λx y H Q=>y=.W3/\Q (.bl (decide (x=.W3))) H) a (tC .W3)) b H (.bl (isN d)):=λc s Q q =>
 h c s _ λv g e f=>⟨rfl,by rw[Dg f];exact q _ _ e (Dat.X3 _)⟩
theorem DG(h:RE K a b H d):RE K (XT (λx y H Q=>y=.W3/\Q (.bl (!decide (x=.W3))) H) a (tC .W3)) b H (.bl (!isN d)):=λc s Q q =>
 h c s _ λv g e f=>⟨rfl,by rw[Dg f];exact q _ _ e (Dat.X3 _)⟩
theorem gN(h:RL K y j H a)(Y:a.length<=1000)(b:List D)(hl:b.length=a.length)(z:(mk j).set w none=mk j)
  (e:∀o (i:Nat) c v d,WV H o->a[i]?=some c->b[i]?=some d->Dat K o c v->RE K A ((mk j).set w (some v)) o d):RC K (jC (wt K y) mk (dE w) i5 A) j H b:=λo s Q q=>by
 refine(h.mono s).use λv4 B t C=>?_;obtain⟨E,p,rfl,u,f⟩:=C;have ll:=f.length;refine⟨E,rfl,⟨p,u.Yk⟩,?_⟩;refine kP (K:=K) (Q:=Q) (n:=p.length) (item:=λi=>p.getD i .W3) (λi x s r=>xD i x (s.seq u.Yk) r) (λx s=>⟨p,s.seq u.Yk,SY _⟩) z b ⋯ ⋯ (λi d r=>?_) (λl G I L M=>q l G I (t.free L) (t.trans M));have N:i<b.length:=(S6.mp r).1;have g:i<a.length:=by lia
 obtain⟨O,T,U⟩:=f.get (SN g);have q:=e B i a[i] O d (s.trans t) (SN g) r U;rw[Td,T];exact q
theorem Ca(h:RL K t e H f):RC K (YM (λg H Q=>∃p a,g=[.ref p]/\(W2 K H p a\/Xo K H p a)/\∀l,H l=none->Q (.ref l) (upd H l (.lst a))) (bU t dR)) e H f:=λj s Q q =>
 jz ((h.mono s).use λv n d b=>by
  obtain⟨p,a,rfl,i,b⟩:=b;exact⟨p,a,rfl,.inl i.Yk,λl c=>q l a _ (d.free c) (d.trans (aL c _)) aF ((aL c _).W0 b)⟩)
theorem js(l:RL K n f H g)(o:RL K r f H h)(E:g.length+h.length<=1000):RC K (XT (KD K) n r) f H (g++h):=λt s Q q =>
 l t s _ λv u c x=>o u (s.trans c) _ λw G d y=>by obtain⟨a,z,rfl,A,i⟩:=d.ld x;obtain⟨b,B,rfl,C,j⟩:=y;have I:=i.length;have L:=j.length;exact⟨a,b,z,B,rfl,rfl,A,C,⋯,λp e=>q p _ _ ((c.trans d).free e) (c.trans (d.trans (aL e _))) aF ((aL e _).W0 (WU.append i j))⟩
theorem Ln{a:List V}{n:Nat}:ra a none (some (n:Int))=a.take n:=by
 unfold ra;rw[HT.Yp,HT.Zr];simp only[List.drop_zero,Nat.sub_zero];apply VW;intro i;simp only[List.getElem?_take];by_cases b:i<n
 ·rw[SV b];by_cases c:i<min n a.length
  ·rw[SV c]
  ·rw[PC c,UC ⋯]
 ·rw[PC b,PC ⋯]
theorem Hu{f:List D}{n:Nat}(h:RL K t g H f)(i:RE K j g H (.int n)):RC K (tSl (JJ K) t zB (uH j)) g H (f.take n):=λl s Q q =>
 h l s _ λv o b r=>i o (s.trans b) _ λy z c u=>⟨n,u.W4,by
  obtain⟨a,w,rfl,x,d⟩:=c.ld r;refine⟨a,w,rfl,x.Yk,λp e=>?_⟩;rw[Ln];exact q p _ _ ((b.trans c).free e) (b.trans (c.trans (aL e _))) aF ((aL e _).W0 (WU.Z5 d))⟩
theorem EI{zs:vn}(h:RC K t b H (zs.map D.str))(c:zs.length<=100):RE K (YM (λa H Q=>∃(p:Addr)(n:Nat),a=[.ref p]/\H p=some (.ext (Cs p n))/\n<=1000/\Q (.int n) H)
  (bU (YM (λa H Q=>∃(l:Addr)(zs:vn),a=[.ref l]/\W2 K H l (zs.map V.str)/\zs.length<=100/\∀p,H p=none->Q (.ref p) (upd H p (.ext (Cs p (xu zs))))) (bU t dR)) dR)) b H (.int (xu zs)):=λj s Q q =>
 jz (jz ((h.mono s).use λl o r _ d e f=>by
  refine⟨l,zs,rfl,by rw[<- CY f];exact W2.of e,c,λp g=>⟨p,xu zs,rfl,aF,?_,q _ _ (d.trans (aL g _)) (Dat.WY _)⟩⟩;have:=xS (λi=>zs.getD i "") zs.length;unfold xu;lia))
theorem C3(zs:vn):∀i,i<=zs.length->((∀y,(met (λi=>zs.getD i "") i).any (·==y)=decide (y∈zs.take i))/\((met (λi=>zs.getD i "") i).length=i↔(zs.take i).Nodup))
 |0,_=>⟨λy=>by simp[met],by simp[met]⟩
 |i+1,h=>by
  obtain⟨d,e⟩:=C3 zs i ⋯;have n:=xS (λi=>zs.getD i "") i;have f:i<zs.length:=h;have g:zs.take (i+1)=zs.take i++[zs[i]]:=by rw[Ug,SN f];rfl
  have j:zs.getD i ""=zs[i]:=by rw[Td,SN f];rfl
  refine⟨λy=>?_,?_⟩
  ·rw[mz,C2,d,g];simp only[j,Tq,Tp];by_cases o:y∈zs.take i<;>by_cases p:y=zs[i]<;>simp[o,p]
  ·rw[mz,xw,d,g];simp only[j];rw[List.nodup_append];by_cases c:zs[i]∈zs.take i
   ·rw[SV (S9 c)];constructor
    ·intro z;lia
    ·rintro⟨_,_,z⟩;exact absurd rfl (z _ c _ (Tp.mpr rfl))
   ·rw[PC (by simpa using c)];constructor
    ·intro z;refine⟨e.mp ⋯,by simp,?_⟩;rintro a l b q rfl;rw[Tp.mp q]at l;exact c l
    ·rintro⟨z,_⟩;have:=e.mpr z;lia
theorem ID(zs:vn):xu zs=zs.length↔zs.Nodup:=by have h:=(C3 zs zs.length (SY _)).2;rw[UR]at h;exact h
end
def rT(K:qs):V->List V->Hp->VK->Prop:=λx c H Q=>∃l b y a d j,x=.ref l/\c=[y]/\XR K H l b/\WU K H a b/\Dat K H d y/\Xe a=true/\XC d=true/\WZ a<=20/\b.length<=1000 /\
 (∃e,a[j]?=some e/\W6 e d=true)/\(∀(m:Nat) e,m<j->a[m]?=some e->W6 e d=false)/\Q (.int (j:Nat)) H
section
theorem Ep{X:Cx}(hr:Xm k X.A):MtM X "list.index" (rT X.K):=by
 intro pins s σ H x vs v us Q I rx rv h;obtain⟨l,xs,y,G,d,j,rfl,rfl,hH,o,hd,M,n2,dp,hx,⟨e0,p,N⟩,O,q⟩:=h;cases rx;obtain⟨u,rfl,ru⟩:=i6 rv;obtain⟨a,n,r,e⟩:=hH.at I;have hl:=r.length;have ll:=o.length
 have item:∀(m:Nat)(w:Value),a[m]?=some w->∃g,G[m]?=some g/\∃t,RelV t w/\Dat X.K H g t:=λm w b=>by have L:m<a.length:=(S6.mp b).1;obtain⟨g,f,dg⟩:=o.XI (i:=m) (v:=xs[m]'(by lia)) (SN ⋯);obtain⟨w',z,rr⟩:=r.get (i:=m) (x:=xs[m]'(by lia)) (SN ⋯);rw[b]at z;cases z;exact⟨g,f,_,rr,dg⟩
 have ZO:∀{T U:V}{w:Value},RelV T w->RelV U w->T=U:=λ{T U w} h1 h2=>RelV.inj h1 h2
 classical
 let eq:Value->Bool:=λw=>if b:∃m:Nat,a[m]?=some w then (match G[Classical.choose b]? with|some g=>W6 g d|none=>false)else false
 have Y:∀(m:Nat)(w:Value)(g:D),a[m]?=some w->G[m]?=some g->eq w=W6 g d:=λm w g b f=>by
  have z:∃m:Nat,a[m]?=some w:=⟨m,b⟩
  show(if b:∃m:Nat,a[m]?=some w then _ else false)=_;rw[dif_pos z];have hc:=Wd z;obtain⟨g',B,xv',r1,d1⟩:=item _ w hc;obtain⟨g2,C,t,r2,d2⟩:=item m w b;rw[f]at C;cases C;rw[B];have ex:=ZO r1 r2;subst ex;have:=oA I g' g (gE M B) d1 d2 (gE M f);rw[this]
 have hj:j<G.length:=(S6.mp p).1
 have hu:X.A.in1.units+20+1<cLine:=by have:=hr.un;show X.A.units+1+20+1<cLine;lia
 refine VT WI ⟨_,e,rfl⟩ F.entry_list_index (F.args_list_index_2 _ _) (SeqAt.list_indexAt l a.toArray n none #[] u eq j (by simp;lia) ⋯ ?_ ?_) ⟨e,?_,?_⟩
 ·have b:a[j]?=some (a[j]'(by lia)):=SN ⋯;have:=Y j _ e0 b p;simpa[this]using N
 ·intro m L hmj;have c:m<a.length:=by simpa using L
  have b:a[m]?=some (a[m]'c):=SN c;obtain⟨g,f,_⟩:=item m _ b;have:=Y m _ g b f;simpa[this]using O m g hmj f
 ·intro w b;obtain⟨m,L,rfl⟩:=Wn b;have c:m<a.length:=by simpa using L
  have E:a[m]?=some (a[m]'c):=SN c;obtain⟨g,f,t,r1,d1⟩:=item m _ E;have z1:a.toArray[m]=a[m]'c:=by simp
  rw[z1,Y m _ g E f];exact sI I 20 X.A.in1 g d t y _ u hu (Tz (j4 f) dp) (gE M f) n2 d1 hd r1 ru
 ·exact⟨.int (j:Nat),H,I.tok _,⟨_,rfl⟩,q⟩
theorem wF{X:Cx}(a:Xm k X.A):MtR X "list.index" (rT X.K):=Ep a
theorem AY{K:qs}(l:LD K H b v)(h:RE K n f H d)(o:Xe b=true)(p:XC d=true)(r:WZ b<=20)(A:b.length<=1000)(t:∃e,b[j]?=some e/\W6 e d=true)(u:∀(m:Nat) e,m<j->b[m]?=some e->W6 e d=false)(e:f[k]?=some (some v):=by rfl) :
  RE K (tBM K "list" (rT K) (fR k) (bU n dR)) f H (.int (j:Nat)):=λw s Q q=>by
 obtain⟨a,x,rfl,g,i⟩:=s.ld l;have B:=i.length;refine⟨_,e,.inl ⟨rfl,_,g.Yk⟩,h w s _ λy C c z=>?_⟩;exact⟨a,x,y,b,d,j,rfl,rfl,c.XR g,c.W0 i,z,o,p,r,⋯,t,u,q _ _ c (Dat.WY _)⟩
end
theorem IL{K:PySem.W.Frag}{a:Addr}{xs:List V}{g:TG}{l:TS}{D:jF}{b:St}{H:Hp}(Pv:Nat->St->Hp->Prop)(o:Pv 0 b H)(r:∀i b H,i<=xs.length->Pv i b H->W2 K H a xs)
  (s:∀i x b H,i<xs.length->xs[xs.length - 1 - i]?=some x->Pv i b H->g x b H λc j=>l {D with nx:=Pv (i+1),ct:=Pv (i+1),bk:=D.nx} c j) (t:∀b H,Pv xs.length b H->D.nx b H) :
  ∃W:Nat->Nat->St->Hp->Prop,(∃m,W 0 m b H)/\∀i m b H,W i m b H ->
   ((Itv K a xs).stop i H/\D.nx b H)\/((Itv K a xs).go i H/\∃N:St->Hp->Prop,(∀d f,N d f->∃n,n<m/\W (i+1) n d f)/\∀x f,(Itv K a xs).YZ i H x f->g x b f λc j=>l {D with nx:=N,ct:=N,bk:=D.nx} c j):=by
 refine⟨λi m b H=>m=xs.length - i/\i<=xs.length/\Pv i b H,⟨xs.length,by simp,Uk _,o⟩,?_⟩;rintro i m b H ⟨rfl,u,p⟩;have q:=r i b H u p;by_cases h:i<xs.length
 ·refine .inr ⟨⟨h,q⟩,Pv (i+1),λd f v=>⟨xs.length - (i+1),⋯,rfl,h,v⟩,λx f y=>?_⟩;obtain⟨e,y⟩:=y;subst e;exact s i x b _ h y p
 ·have e:i=xs.length:=by lia
  subst e;exact .inl ⟨rfl,t b H p⟩
theorem mm{n:Nat}{j:Nat}{B:TT}{C:TE}{E:Hp}{Q:VK}(Ok:Hp->Prop)
  (H:∀i a,Ok a->i<n->J.go i a/\∀x d,J.YZ i a x d->d=a/\x=item i) (stop:∀a,Ok a->J.stop n a) (I:σ0.set j none=σ0)
  (D:Addr) (l:Nat->Hp->Prop) (p0:l 0 (upd E D (.lst []))) (ok:∀i a,i<=n->l i a->Ok a)
  (t:∀i a,i<n->l i a->B (σ0.set j (some (item i))) a λb u=>if b=true then C (σ0.set j (some (item i))) u λv w=>∃r,w D=some (.lst r)/\r.length<sizeLine/\(∃z,σ0.set j (some (item i))=σ0.set j z)/\l (i+1) (upd w D (.lst (r++[v])))else (∃z,σ0.set j (some (item i))=σ0.set j z)/\l (i+1) u)
  (fin:∀a,l n a->Q (.ref D) a) :
  ∃W:Nat->Nat->St->Hp->Prop,(∃m,W 0 m σ0 (upd E D (.lst [])))/\∀i m f a,W i m f a ->
   (J.stop i a/\Q (.ref D) a) \/
   (J.go i a/\∃A:St->Hp->Prop,(∀c d,A c d->∃G,G<m/\W (i+1) G c d)/\∀x d,J.YZ i a x d->dE j x f d λh L=>B h L λb u =>
    if b=true then C h u λv w=>∃r,w D=some (.lst r)/\r.length<sizeLine/\A h (upd w D (.lst (r++[v])))else A h u):=by
 refine⟨λi m f a=>m=n - i/\i<=n/\(∃z,f=σ0.set j z)/\l i a,⟨n,⋯,Uk _,⟨none,I.symm⟩,p0⟩,?_⟩;rintro i m f a ⟨rfl,M,⟨z,rfl⟩,p⟩;have o:=ok i a M p;by_cases s:i<n
 ·obtain⟨g,y⟩:=H i a o s;refine .inr ⟨g,λc d=>(∃z,c=σ0.set j z)/\l (i+1) d,λc d q=>⟨n - (i+1),⋯,rfl,s,q.1,q.2⟩,λx d N=>?_⟩;obtain⟨O,T⟩:=y x d N;subst O T;simp only[dE,pd];exact t i _ s p
 ·have e:i=n:=by lia
  subst e;exact .inl ⟨stop a o,fin a p⟩
theorem LU{X:Cx}{c:Pos}{id:String}(K:qs)(j:X.K=K)(l:PlainAttrs T)(slot:Slot T name id)(i:typeOf (.builtin id)=pure (.type "method_descriptor"))(n:MtR X id r)(p:PE X o to)(q:PA X (e::g) t)
  (d:attributeBase o name X.env (eval o X.env)=eval o X.env:=by rfl)
  (h:((backTo a (starEach (e::g) X.env)).all (λx=>!x.1)&&(backToKw a (keywordEach [] X.env)).all (λx=>x.1.isSome)
   && decide ((e::g).length+([]:List Keyword).length+(if ([]:List Keyword).isEmpty then 0 else 1)<30))=true:=by rfl)
  (f:(c.endLine==a.line)=true:=by rfl) (s:starEach (e::g) X.env=(false,eval e X.env)::starEach g X.env:=by rfl) (b:(backTo a (starEach g X.env)).any (·.1)=false:=by rfl) :
  PE X (.Call (.Attribute o name c) (e::g) [] a) (tBM K T r to t):=by
 subst j;exact dW l slot i n p q d h f s b
theorem bV(a b:D)(r q:List D):Xq (a::r) (b::q)=(W6 a b&&Xq r q):=by rw[Xq]
theorem cY:Xq [] []=true:=by rw[Xq]
theorem cX(b:D)(q:List D):Xq [] (b::q)=false:=by unfold Xq;rfl
theorem cW(a:D)(r:List D):Xq (a::r) []=false:=by unfold Xq;rfl
theorem eO(a b:List D):W6 (.tup a) (.tup b)=Xq a b:=by rw[W6]
theorem eK(a b:Str):W6 (.str a) (.str b)=decide (a=b):=by unfold W6;by_cases h:a=b<;>simp[h]
theorem eJ(a b:Int):W6 (.int a) (.int b)=decide (a=b):=by unfold W6;by_cases h:a=b<;>simp[h]
theorem AV(M:Addr->List V->Hp->Prop)(h:∀R:VK,(∀r a c,c r=some (.lst a)->M r a c->R (.ref r) c)->s d H R)(t:(mk d).set j none=mk d)
  (body:∀r a c l,c r=some (.lst a)->M r a c->c l=none->∃e:Nat->Hp->Prop,e 0 (upd c l (.lst []))/\(∀i G,i<=a.length->e i G->W2 K G r a) /\
   (∀i G,i<a.length->e i G->u ((mk d).set j (some (a.getD i .W3))) G λb g=>if b=true then w ((mk d).set j (some (a.getD i .W3))) g λv p=>∃f,p l=some (.lst f)/\f.length<sizeLine/\(∃z,(mk d).set j (some (a.getD i .W3))=(mk d).set j z)/\e (i+1) (upd p l (.lst (f++[v])))else (∃z,(mk d).set j (some (a.getD i .W3))=(mk d).set j z)/\e (i+1) g) /\
   ∀G,e a.length G->Q (.ref l) G):jC (wt K s) mk (dE j) u w d H Q:=by
 refine h _ λr a c q x=>⟨r,rfl,⟨a,W2.of q⟩,λl y=>?_⟩
 obtain⟨e,A,B,C,E⟩:=body r a c l q x y;exact mm (J:=Itl K r) (n:=a.length) (item:=λi=>a.getD i .W3) (λG=>W2 K G r a) (λi G o I=>xD i G o I) (λG o=>⟨a,o,SY _⟩) t l e A B C E
section
end
end L2
namespace L2
open PySem PySem.Spec PySem.Calls PyProof.Rows PySem.W PySem.Builtin PySem.Builtin.ObjectAttr PySem.Builtin.Getset_descriptor
section
end
end L2
namespace L2
open PySem PySem.Spec PySem.Calls PyProof.Rows
section
theorem DF{K:qs}(f:RE K g a H d)(h:RE K i a H e)(j:XC d=true)(l:XC e=true)(n:gK d<=20):RE K (XT (M9 K true) g i) a H (.bl (!W6 d e)):=λo s Q q =>
 f o s _ λv p b r=>h p (s.trans b) _ λw u c t=>⟨d,e,c.dat r,t,j,l,n,q _ _ (b.trans c) (Dat.X3 _)⟩
end
end L2
namespace L2
open PySem PySem.Spec PySem.Calls PyProof.Rows PySem.W PySem.Builtin PySem.Builtin.ObjectAttr
section
end
end L2
namespace L2
open PySem PySem.Spec PySem.Calls PyProof.Rows
abbrev vJ(h:Heap)(a t:Addr)(i:Nat):Prop:=h.get? a=some {cls:=.type "tuple_iterator",dict:=none,data:=.fields #[.ref t,rawInt i],slots:=#[]}
section
theorem CC{s:Shared}(d:vJ s.heap c t i)(g:s.heap.IsTuple t a)(j:a[i]?=some x)
  (q:∀b,vJ b c t (i+1)->Heap.SameBut c s.heap b->Q x {s with heap:=b}):wpAny (model prog w) A (Builtin.SmallTypes.nextOf (.ref c)) Q E s:=by
 have h:s.TypeIs (.ref c) "tuple_iterator":=⟨_,d,rfl⟩
 obtain⟨⟨l,v,f,y⟩,g,o,n,p⟩:=g;obtain rfl:l=.type "tuple":=o;obtain rfl:f=.seq a n:=p;unfold Builtin.SmallTypes.nextOf;refine SO (Uo (name:=Str.ofString "__next__") h Ve (Uy Ve h F.entry_tuple_iterator_next ?_ (F.args_tuple_iterator_next_1 _)));obtain⟨z,B,C,G,H⟩:=s;unfold vJ rawInt at d
 wp_walk
 rw[UJ,j];refine SO (Ui d (by simp) λb r u=>Tc ⟨x,rfl,Tc (q b ?_ u)⟩);show b.get? c=some _;have e:((i+1:Nat):Int)=(i:Int)+1:=by lia
 rw[e];exact r
theorem CB{A:Around}{s:Shared}(j:A.handled=none)(c:vJ s.heap d t i)(g:s.heap.IsTuple t a)(l:a[i]?=none)
  (q:∀b e,Heap.ExtBut d s.heap b->(∃o,b.get? e=some o/\o.cls=.type "StopIteration")->E (.ref e) {s with heap:=b}):wpAny (model prog w) A (Builtin.SmallTypes.nextOf (.ref d)) Q E s:=by
 have h:s.TypeIs (.ref d) "tuple_iterator":=⟨_,c,rfl⟩
 obtain⟨⟨p,x,f,y⟩,g,r,n,u⟩:=g;obtain rfl:p=.type "tuple":=r;obtain rfl:f=.seq a n:=u;unfold Builtin.SmallTypes.nextOf;refine SO (Uo (name:=Str.ofString "__next__") h Ve (Uy Ve h F.entry_tuple_iterator_next ?_ (F.args_tuple_iterator_next_1 _)));obtain⟨z,B,C,G,H⟩:=s;unfold vJ rawInt at c
 wp_walk
 rw[UJ,l];refine SO (Wh (SO (Ui c (by simp) λb I v=>?_)));unfold Builtin.SmallTypes.stopIteration
 wp_walk
 exact wpAny_raiseNew_none j (q _ _ ((v.extBut.push _).push _) ⟨_,TN _ rfl,rfl⟩)
end
noncomputable abbrev vW(a:Addr):Obj:={cls:=.type "enumerate",data:=.fields #[.none,.bool false,.ref a,rawInt 0,.none,.none]}
theorem Inv.Yr{X:Cx}{a:qe}{h:St}{H:Hp}{s:Shared}{h':Heap}{t':Nat}{its:yy}(I:Inv X a h H s)(k:∀b o,b∉its->s.heap.get? b=some o->h'.get? b=some o)
  (ok:∀b∈its,H b=none/\b≠X.env.locals/\(b∈X.ex\/X.s₀.heap.objs.size<=b)/\(∀x c,X.env.cells.lookup x=some c->c≠b)/\∀p∈X.pn++a,p.1≠b):Inv X a h H {s with heap:=h',toks:=t'}:=by
 have f:∀b u,H b=some u->b∉its:=λb u e z=>by rw[(ok b z).1]at e;cases e
 refine I.step (g':=s.gens) (d':=s.drawn) (ch:=its) (λb g=>⟨(ok b g).2.2.1,(ok b g).2.1,(ok b g).2.2.2⟩) (λb o _ _ d e _=>k b o d e) (λb o _ _ d e _=>⟨o.slots,k b o d e⟩) (λ_ _ _ _ n=>n)
  (λb o d e=>⟨o,k b o d e⟩) (λ_ _ e=>e) (λ_ _ _ e=>e) (λb w e=>⟨#[],by rw[Array.append_empty];exact e⟩) (λm i=>?_) (λb u e=>?_) I.bare
 ·obtain⟨o,j,l,t,r⟩:=i;exact⟨o,j,l,k _ o (λz=>(ok _ z).2.1 rfl) t,r⟩
 ·refine(I.hok b u e).stay (λc v d q=>k c v ?_ q) (λ_ q=>q) λ_ _ q=>q;rcases d with z|z
  ·rw[z];exact f b u e
  ·exact f c _ z
def XA:Bool->Heap->Addr->Addr->Nat->Prop
 |true,h,i,t,k=>h.IsListIter i t k
 |false,h,i,t,k=>vJ h i t k
def XE:Bool->Heap->Addr->Array Value->Prop
 |true,h,t,a=>h.IsList t a
 |false,h,t,a=>h.IsTuple t a
def SqK:Bool->W.Frag->Hp->Addr->List V->Prop
 |true,K,H,a,b=>W2 K H a b
 |false,K,H,a,b=>Xo K H a b
noncomputable def Jb:Bool->Addr->Obj
 |true,t=>{cls:=.type "list_iterator",data:=.fields #[.ref t,.int 0 0]}
 |false,t=>{cls:=.type "tuple_iterator",data:=.fields #[.ref t,.int 0 0]}
section
theorem XA.at{a:Heap}(q:XA b h i t k)(e:∀o,h.get? i=some o->a.get? i=some o):XA b a i t k:=by
 cases b with
 |false=>exact e _ q
 |true=>exact Heap.IsListIter.at q e
theorem XA.ob(q:XA b h i t k):∃o,h.get? i=some o/\∀v,o.data≠.cell v:=by
 cases b with
 |false=>exact⟨_,q,λv e=>by cases e⟩
 |true=>obtain⟨o,e,c,d⟩:=q;exact⟨o,e,λv z=>by rw[d]at z;cases z⟩
theorem XA.lt(q:XA b h i t k):i<h.objs.size:=let⟨_,e,_⟩:=q.ob;Te e
theorem XA.mk{h:Heap}(e:h.get? i=some (Jb b t)):XA b h i t 0:=by
 cases b with
 |false=>exact e
 |true=>exact⟨_,e,rfl,rfl⟩
theorem XE.but(l:XE b h t a)(x:Heap.ExtBut z h c)(n:t≠z):XE b c t a:=by
 cases b with
 |false=>exact Heap.IsTuple.extBut l x n
 |true=>exact Heap.IsList.extBut l x n
theorem XE.push(l:XE b h t a)(o:Obj):XE b (h.push o) t a:=by
 cases b with
 |false=>exact Heap.IsTuple.push l o
 |true=>exact V5 l o
theorem XE.lt(l:XE b h t a):t<h.objs.size:=by
 cases b with
 |false=>obtain⟨o,e,_⟩:=l;exact Te e
 |true=>obtain⟨o,e,_⟩:=l;exact Te e
theorem Kw{s:Shared}(c:XA b s.heap i t k)(d:XE b s.heap t f)(e:f[k]?=some x)(q:∀a,XA b a i t (k+1)->Heap.SameBut i s.heap a->Q x {s with heap:=a}):wpAny (model prog w) A (Builtin.SmallTypes.nextOf (.ref i)) Q E s:=by
 cases b with
 |false=>exact CC c d e q
 |true=>exact Vs c d e q
theorem MN{A:Around}{s:Shared}(c:A.handled=none)(d:XA b s.heap i t k)(f:XE b s.heap t h)(g:h[k]?=none)(q:∀a e,Heap.ExtBut i s.heap a->(∃o,a.get? e=some o/\o.cls=.type "StopIteration")->E (.ref e) {s with heap:=a}):wpAny (model prog w) A (Builtin.SmallTypes.nextOf (.ref i)) Q E s:=by
 cases b with
 |false=>exact CB c d f g q
 |true=>exact wpAny_nextOf_list_end c d f g q
theorem DA{s:Shared}(l:XE b s.heap t a)(q:Q (.ref s.heap.objs.size) {s with heap:=s.heap.push (Jb b t)}):wpAny (model prog w) A (pyIter (.ref t)) Q E s:=by
 cases b with
 |false=>exact wpAny_pyIter_tuple l q
 |true=>exact Uv l q
theorem Inv.seqK{b:Bool}{t:Addr}{s:Shared}{X:Cx}{a:qe}{g:St}{H:Hp}{f:List V}(I:Inv X a g H s)(e:SqK b X.K H t f):∃c:List Value,Vals f c/\XE b s.heap t c.toArray:=by
 cases b with
 |false=>obtain⟨d,r,p,_⟩:=I.tuple e;exact⟨d,r,p⟩
 |true=>obtain⟨d,r,p,_⟩:=I.list e;exact⟨d,r,p.isList⟩
theorem Fc{s:Shared}{TI TO:Addr}{Q:qf}(G:IsZip s.heap z TI TO .none)(hI:IsPair s.heap TI (.ref d) (.ref c))(hO:IsPair s.heap TO a b)(h1:XA J s.heap d H k)(h2:XA p s.heap c h k)
  (l1:XE J s.heap H xs) (l2:XE p s.heap h ys) (hx:xs[k]?=some x) (hy:ys[k]?=some y) (D:ZipApart z TI TO d c H h)
  (q:∀r,IsZip r z TI TO (rawInt s.heap.objs.size)->IsPair r TO x y->XA J r d H (k+1)->XA p r c h (k+1)->r.get? s.heap.objs.size=some {cls:=.type "tuple",data:=.seq #[x,y]} ->
   (∀b o,b≠z->b≠TO->b≠d->b≠c->s.heap.get? b=some o->r.get? b=some o)->Q (.ref s.heap.objs.size) {s with heap:=r}):wpAny (model prog w) A (Builtin.«zip.__next__» ⟨[.ref z],[]⟩) (λfin s'=>∃v,fin=.done (.ret v)/\Q v s') E s:=by
 show wpAny _ _ (field (.ref z) 2 >>= _) _ _ _;refine SO (Ul G rfl rfl ?_);show wpAny _ _ (field (.ref z) 3 >>= _) _ _ _;refine SO (Ul G rfl rfl ?_);refine SO (UB hI rfl ?_);refine SO (SO (Ul G rfl rfl (Tc ?_)));refine SO (Wh ?_);refine SO (Ul G rfl rfl ?_);refine SO (Ui G (by simp) λi za t=>?_)
 replace za:IsZip i z TI TO .ellipsis:=za
 rw[show(#[Value.ref d,Value.ref c]:Array Value).toList.zipIdx=[(.ref d,0),(.ref c,1)] from rfl,UX];have h1a:XA J i d H k:=h1.at λo e=>(t.2 d D.i1z).trans e;have h2a:XA p i c h k:=h2.at λo e=>(t.2 c D.i2z).trans e;have l1a:XE J i H xs:=l1.but t.extBut D.l1z;have l2a:XE p i h ys:=l2.but t.extBut D.l2z;have hOa:IsPair i TO a b:=(t.2 TO D.TOz).trans hO;refine SO (SO (SO (Vp (SO (Kw (s:={s with heap:=i}) h1a l1a hx λL h1b j=>Tc ?_)))))
 replace j:Heap.SameBut d i L:=j
 have M:IsPair L TO a b:=(j.2 TO D.TOi1).trans hOa;refine SO (UB (s:={s with heap:=L}) M rfl ?_);refine SO (wpAny_updateSeq_pair (s:={s with heap:=L}) M λI u l=>?_)
 replace l:Heap.SameBut TO L I:=l
 replace u:IsPair I TO x b:=u
 refine SO (Wt (Tc ?_));have h2c:XA p I c h k:=h2a.at λo e=>(l.2 c (Tf D.TOi2)).trans ((j.2 c (Tf D.i12)).trans e);have l2c:XE p I h ys:=(l2a.but j.extBut D.l2i1).but l.extBut D.l2TO;show wpAny _ _ (forIn [(Value.ref c,1)] _ _) _ _ _;rw[UX];refine SO (SO (Vp (SO (Kw (s:={s with heap:=I}) h2c l2c hy λN h2d B=>Tc ?_))))
 replace B:Heap.SameBut c I N:=B
 have O:IsPair N TO x b:=(B.2 TO D.TOi2).trans u;refine SO (UB (s:={s with heap:=N}) O rfl ?_);refine SO (wpAny_updateSeq_pair (s:={s with heap:=N}) O λf g C=>?_)
 replace C:Heap.SameBut TO N f:=C
 replace g:IsPair f TO x y:=g
 refine SO (Wt (Tc ?_));show wpAny _ _ (forIn [] _ _) _ _ _;rw[List.forIn_nil];refine Tc ?_;show wpAny _ _ (seqItems? (.ref TO) >>= _) _ _ _;refine SO (UB (s:={s with heap:=f}) g rfl ?_);refine SO (wpAny_newTuple ?_);have T:f.objs.size=s.heap.objs.size:=by rw[C.1,B.1,l.1,j.1,t.1]
 have ze:IsZip f z TI TO .ellipsis:=(C.2 z (Tf D.TOz)).trans ((B.2 z (Tf D.i2z)).trans ((l.2 z (Tf D.TOz)).trans ((j.2 z (Tf D.i1z)).trans za)));have zf:IsZip (f.push {cls:=.type "tuple",data:=.seq #[x,y]}) z TI TO .ellipsis:=SQ _ ze;have tf:(f.push {cls:=.type "tuple",data:=.seq #[x,y]}).get? s.heap.objs.size=some {cls:=.type "tuple",data:=.seq #[x,y]}:=T3 T.symm rfl;have of:IsPair (f.push {cls:=.type "tuple",data:=.seq #[x,y]}) TO x y:=SQ _ g;have f1:XA J (f.push {cls:=.type "tuple",data:=.seq #[x,y]}) d H (k+1):=h1b.at λo e=>SQ _ ((C.2 d (Tf D.TOi1)).trans ((B.2 d D.i12).trans ((l.2 d (Tf D.TOi1)).trans e)));have f2:XA p (f.push {cls:=.type "tuple",data:=.seq #[x,y]}) c h (k+1):=h2d.at λo e=>SQ _ ((C.2 c (Tf D.TOi2)).trans e)
 have kf:∀b o,b≠z->b≠TO->b≠d->b≠c->s.heap.get? b=some o->(f.push {cls:=.type "tuple",data:=.seq #[x,y]}).get? b=some o:=λb o U Y n3 n4 e =>
  SQ _ ((C.2 b Y).trans ((B.2 b n4).trans ((l.2 b Y).trans ((j.2 b n3).trans ((t.2 b U).trans e)))))
 generalize f.push {cls:=.type "tuple",data:=.seq #[x,y]}=hf at zf tf of f1 f2 kf;have lz:z<s.heap.objs.size:=Te G;show wpAny _ _ (Builtin.SmallTypes.ownedTupleHandOut (.ref z) (.ref f.objs.size) >>= _) _ _ _;rw[T];refine SO (SO (Ui (s:={s with heap:=hf}) zf (by simp) λhg zg sg=>Ui (s:={s with heap:=hg}) zg (by simp) λhh zh sh=>Tc ⟨_,rfl,?_⟩))
 replace sg:Heap.SameBut z hf hg:=sg
 replace sh:Heap.SameBut z hg hh:=sh
 have on:∀b,b≠z->hh.get? b=hf.get? b:=λb n=>(sh.2 b n).trans (sg.2 b n);refine q hh zh ?_ ?_ ?_ ?_ λb o U Y n3 n4 e=>(on b U).trans (kf b o U Y n3 n4 e)
 ·exact(on TO D.TOz).trans of
 ·exact f1.at λo e=>(on d D.i1z).trans e
 ·exact f2.at λo e=>(on c D.i2z).trans e
 ·exact(on _ (Ur lz)).trans tf
theorem Fb{A:Around}{s:Shared}{TI TO:Addr}(L:A.handled=none)(f:IsZip s.heap z TI TO .none)(M:IsPair s.heap TI (.ref c) (.ref l))(hO:IsPair s.heap TO a b)(N:XA n s.heap c i k)
  (O:XE n s.heap i G) (T:G[k]?=none) (D:ZipApart z TI TO c l i t2)
  (q:∀p e,(∀b o,b≠z->b≠c->s.heap.get? b=some o->p.get? b=some o)->(∃o,p.get? e=some o/\o.cls=.type "StopIteration")->E (.ref e) {s with heap:=p}):wpAny (model prog w) A (Builtin.«zip.__next__» ⟨[.ref z],[]⟩) Q E s:=by
 show wpAny _ _ (field (.ref z) 2 >>= _) _ _ _;refine SO (Ul f rfl rfl ?_);show wpAny _ _ (field (.ref z) 3 >>= _) _ _ _;refine SO (Ul f rfl rfl ?_);refine SO (UB M rfl ?_);refine SO (SO (Ul f rfl rfl (Tc ?_)));refine SO (Wh ?_);refine SO (Ul f rfl rfl ?_);refine SO (Ui f (by simp) λg r t=>?_)
 replace r:IsZip g z TI TO .ellipsis:=r
 rw[show(#[Value.ref c,Value.ref l]:Array Value).toList.zipIdx=[(.ref c,0),(.ref l,1)] from rfl,UX];have u:XA n g c i k:=N.at λo e=>(t.2 c D.i1z).trans e;have v:XE n g i G:=O.but t.extBut D.l1z;refine SO (SO (SO (Vp (SO (MN (s:={s with heap:=g}) L u v T λx e j U=>?_)))))
 replace j:Heap.ExtBut c g x:=j
 have H:IsZip x z TI TO .ellipsis:=j z _ (Tf D.i1z) r;obtain⟨Y,d,h⟩:=U;have B:e≠z:=λy=>by rw[y,H]at d;cases d;simp at h
 refine Ui (s:={s with heap:=x}) H (by simp) λhc zc I=>q hc e (λb o J n2 C=>?_) ⟨Y,(I.2 e B).trans d,h⟩;exact(I.2 b J).trans (j b o n2 ((t.2 b J).trans C))
end
theorem Il(c f:Bool)(d g:Addr)(j l:Array Value) :
  Meets (Builtin.«zip.__new__» ⟨[.type "zip",.ref d,.ref g],[]⟩) (λ_ R s=>XE c s.heap d j/\XE f s.heap g l /\
   ∀a,IsZip a (s.heap.objs.size+4) (s.heap.objs.size+2) (s.heap.objs.size+3) .none->IsPair a (s.heap.objs.size+2) (.ref s.heap.objs.size) (.ref (s.heap.objs.size+1))->IsPair a (s.heap.objs.size+3) .none .none ->
    XA c a s.heap.objs.size d 0->XA f a (s.heap.objs.size+1) g 0->(∀b o,s.heap.get? b=some o->a.get? b=some o)->R (.ok (.ret (.ref (s.heap.objs.size+4)))) {s with heap:=a}) :=
 .of_wp λ_ _ _ _ s q=>by
  obtain⟨h,n,p,r,t⟩:=s;obtain⟨u,v,q⟩:=q;have i:=sub_zip;have w:XE c (Shared.heap ⟨h,n,p,r,t⟩) d j:=u;have x:XE f (Shared.heap ⟨h.push (Jb c d),n,p,r,t⟩) g l:=XE.push v _
  wp_walk using DA w,DA x
  refine⟨_,rfl,?_⟩;have y:(h.push (Jb c d)).objs.size=h.objs.size+1:=T7 _ _;simp only[T7];refine q _ ?_ ?_ ?_ ?_ ?_ λb o e=>?_
  ·exact T3 (by simp[T7]) rfl
  ·exact SQ _ (SQ _ (T3 (by simp[T7]) rfl))
  ·exact SQ _ (T3 (by simp[T7]) rfl)
  ·exact .mk (SQ _ (SQ _ (SQ _ (SQ _ (T3 (by simp[T7]) (by cases c<;>rfl))))))
  ·exact .mk (SQ _ (SQ _ (SQ _ (T3 (by simp[T7]) (by cases f<;>rfl)))))
  ·exact SQ _ (SQ _ (SQ _ (SQ _ (SQ _ e))))
theorem D8{s:Shared}(g:XE e s.heap c h)(i:XE f s.heap d j)
  (q:∀a,IsZip a (s.heap.objs.size+4) (s.heap.objs.size+2) (s.heap.objs.size+3) .none->IsPair a (s.heap.objs.size+2) (.ref s.heap.objs.size) (.ref (s.heap.objs.size+1))->IsPair a (s.heap.objs.size+3) .none .none ->
   XA e a s.heap.objs.size c 0->XA f a (s.heap.objs.size+1) d 0->(∀b o,s.heap.get? b=some o->a.get? b=some o)->Q (.ref (s.heap.objs.size+4)) {s with heap:=a}):wpAny (model prog w) A (call (.type "zip") [.ref c,.ref d]) Q E s :=
 WR F.called_zip ⋯ (F.typeCall_zip_2 _ _) (F.newCall_zip_2 _ _) (λo=>F.args_object_init_3 o _ _) F.entry_zip_new (Il e f c d h j) ⟨g,i,λa z1 z2 z3 l n p=>⟨⟨_,z1,rfl⟩,q a z1 z2 z3 l n p⟩⟩
noncomputable def Fe(e f:Bool)(K:qs)(a b:Addr)(c d:List V):It:=⟨λi H=>i<c.length/\i<d.length/\SqK e K H a c/\SqK f K H b d,λi H x g=>∃p u v,H p=none/\x=.ref p/\c[i]?=some u/\d[i]?=some v/\g=upd H p (.tup [u,v]),λi H=>i=c.length/\SqK e K H a c⟩
theorem Ia{K:qs}{c1}(a b z TI TO l n:Addr)(B C:List V)(D:ZipApart z TI TO l n a b):pj P w K (.Tuple elts c1 ps) (Fe b1 b2 K a b B C) [z,TI,TO,l,n] z
  (λi h=>∃c d,IsZip h z TI TO .none/\IsPair h TI (.ref l) (.ref n)/\IsPair h TO c d/\XA b1 h l a i/\XA b2 h n b i) where
 mem:=by simp
 obj:=λi h ⟨c,d,g,p,r,t,G⟩ b f=>by
  simp only[S0,Ti,T9]at f;rcases f with rfl|rfl|rfl|rfl|rfl
  ·exact⟨_,g,λv e=>by cases e⟩
  ·exact⟨_,p,λv e=>by cases e⟩
  ·exact⟨_,r,λv e=>by cases e⟩
  ·exact t.ob
  ·exact G.ob
 keep:=λi h J ⟨c,d,g,p,r,t,G⟩ k=>⟨c,d,k z (by simp) _ g,k TI (by simp) _ p,k TO (by simp) _ r,t.at λo e=>k l (by simp) o e,G.at λo e=>k n (by simp) o e⟩
 item:=by
  intro X hP hw hK hc i j s σ H E I O st hg;subst hP hw hK;obtain⟨c,d,g,p,r,t,G⟩:=st;obtain⟨hi,hj,ha,f⟩:=hg;obtain⟨us,ru,pu⟩:=I.seqK ha;obtain⟨vs,rv,pv⟩:=I.seqK f;have hx:B[i]?=some B[i]:=SN hi;have hy:C[i]?=some C[i]:=SN hj;obtain⟨u,hu,r1⟩:=ru.get hx;obtain⟨v,hv,r2⟩:=rv.get hy;have L:s.TypeIs (.ref z) "zip":=⟨_,g,rfl⟩
  unfold pyNext;refine SO (Vq (Uo (name:=Str.ofString "__next__") L UY (Uy UY L V6 ?_ (VX _))));refine Fc (x:=u) (y:=v) g p r t G pu pv (by simpa using hu) (by simpa using hv) D λJ w1 w2 w3 w4 w5 w6=>Tc ⟨_,rfl,?_⟩;refine wpAny_letOwnedTupleGo_zip (s:={s with heap:=J}) w1 λU e2 same=>?_
  replace same:Heap.SameBut z J U:=same
  have lz:z<s.heap.objs.size:=Te g;have lTI:TI<s.heap.objs.size:=Te p;have lTO:TO<s.heap.objs.size:=Te r;have l1:l<s.heap.objs.size:=t.lt;have l2:n<s.heap.objs.size:=G.lt
  have low:∀b∈[z,TI,TO,l,n],b<s.heap.objs.size:=λb f=>by simp only[S0,Ti,T9]at f;rcases f with rfl|rfl|rfl|rfl|rfl<;>assumption
  have M:U.get? s.heap.objs.size=some {cls:=.type "tuple",data:=.seq #[u,v]}:=(same.2 _ (Ur lz)).trans w5
  have I1:Inv X j σ (upd H s.heap.objs.size (.tup [B[i],C[i]])) {s with heap:=s.heap.push {cls:=.type "tuple",data:=.seq #[u,v]},toks:=s.toks} :=
   I.laid (o:=.tup [B[i],C[i]]) (λb ob q=>SQ _ q) (SY _) ⟨by rw[Vi];simp,[u,v],.cons r1 (.cons r2 .nil),Wb _ _⟩
  have frees:∀b,b<s.heap.objs.size->upd H s.heap.objs.size (.tup [B[i],C[i]]) b=H b:=λb f=>aR (Tw f)
  have I2:Inv X j σ (upd H s.heap.objs.size (.tup [B[i],C[i]])) {s with heap:=U,toks:=s.toks}:=by
   refine Inv.Yr (s:={s with heap:=s.heap.push {cls:=.type "tuple",data:=.seq #[u,v]},toks:=s.toks}) (h':=U) (its:=[z,TI,TO,l,n]) (t':=s.toks) I1 (λb o f q=>?_) (λb f=>?_)
   ·simp only[S0,Ti,T9,not_or]at f;obtain⟨n1,n2,n3,n4,n5⟩:=f;by_cases N:b=s.heap.objs.size
    ·subst N;have Y:(s.heap.push {cls:=.type "tuple",data:=.seq #[u,v]}).get? s.heap.objs.size=some o:=q;rw[T3 rfl rfl]at Y;cases Y;exact M
    ·have Y:s.heap.get? b=some o:=(WJ _ _ _ N).symm.trans q;exact(same.2 b n1).trans (w6 b o n1 n3 n4 n5 Y)
   ·obtain⟨f0,f1,f2,f3,f4,f5⟩:=O b f;exact⟨by rw[frees b (low b f)];exact f0,f1,f3,f4,f5⟩
  refine⟨.ref s.heap.objs.size,_,I2,rfl,⟨_,_,_,I.hok.fresh (SY _),rfl,hx,hy,rfl⟩,⟨u,v,e2,?_,?_,?_,?_⟩,λb f=>?_⟩
  ·exact(same.2 TI D.TIz).trans (w6 TI _ D.TIz D.TITO D.TIi1 D.TIi2 p)
  ·exact(same.2 TO D.TOz).trans w2
  ·exact w3.at λo e=>(same.2 l D.i1z).trans e
  ·exact w4.at λo e=>(same.2 n D.i2z).trans e
  ·rw[frees b (low b f)];exact(O b f).1
 done:=by
  intro X hP hw hK hc i j s σ H E I O st hg;subst hP hw hK;obtain⟨c,d,g,p,r,t,G⟩:=st;obtain⟨hi,ha⟩:=hg;obtain⟨us,ru,pu⟩:=I.seqK ha;have lr:=ru.length;have L:s.TypeIs (.ref z) "zip":=⟨_,g,rfl⟩
  unfold pyNext;refine SO (Vq (Uo (name:=Str.ofString "__next__") L UY (Uy UY L V6 ?_ (VX _))));refine Fb (I.ok.hd hc) g p r t pu (by simp;lia) D λJ e kk ⟨o,ho,hco⟩=>?_;refine SO (wpAny_isInstance (T:="StopIteration") (b:=true) ⟨o,ho,hco⟩ isSubtype_stop (Tc ⟨rfl,?_⟩));refine Inv.Yr (s:=s) (h':=J) (its:=[z,l]) (t':=s.toks) I (λb o f q=>kk b o (λy=>f (by simp[y])) (λy=>f (by simp[y])) q) (λb f=>?_)
  obtain⟨f0,f1,f2,f3,f4,f5⟩:=O b (by
   simp only[S0,Ti,T9]at f;rcases f with rfl|rfl<;>simp)
  exact⟨f0,f1,f3,f4,f5⟩
 self:=λA i s Q E ⟨_,_,g,_⟩ q=>V7 g q
noncomputable def Kt(d e:Bool)(K:qs)(h:TA):TI:=λi H R=>h i H λj c=>∃a b f g,j=[.ref a,.ref b]/\SqK d K c a f/\SqK e K c b g/\R (Fe d e K a b f g) c
theorem Du(C E:Bool){X:Cx}{a b:Expr}{w:TA}{p g G:Pos}{i:List Expr}{J}(L:Gl X "zip")(M:X.mg "zip"=none)(N:PA X [a,b] w)(O:starEach [a,b] X.env=(false,eval a X.env)::starEach [b] X.env:=by rfl)(o:(backTo g (starEach [b] X.env)).any (·.1)=false:=by rfl) :
  PI X (.Tuple i J G) (.Call (.Name "zip" p) [a,b] [] g) (Kt C E X.K w):=by
 intro j s Q H R I h;refine Call_ (lF I L M FG (Uq (W9 (N g j s Q H _ I h) λT c ⟨U,Y,l,r1,q1⟩=>?_) O o));obtain⟨r,t,xs,ys,ev,u,v,q⟩:=q1;subst ev
 cases r1 with
 |cons e1 rt =>
  obtain⟨u2,rfl,e2⟩:=i6 rt;cases e1;cases e2;obtain⟨T,ru,z⟩:=l.seqK u;obtain⟨U,rv,pv⟩:=l.seqK v;have e:r<c.heap.objs.size:=z.lt;have f:t<c.heap.objs.size:=pv.lt;refine D8 z pv λh' z1 z2 z3 z4 z5 kk=>?_;refine V7 (s:={c with heap:=h'}) z1 ?_;have d:∀{x y:Nat},x<y->x≠y:=λh=>Tw h;have n:∀{x y:Nat},y<x->x≠y:=λh=>Ur h
  have ap:ZipApart (c.heap.objs.size+4) (c.heap.objs.size+2) (c.heap.objs.size+3) c.heap.objs.size (c.heap.objs.size+1) r t :=
   ⟨d ⋯,d ⋯,d ⋯,d ⋯,d ⋯,n ⋯,n ⋯,n ⋯,n ⋯,d ⋯,d (Tv e ⋯),d (Tv e ⋯),d e,d (Tv e ⋯),
    d (Tv f ⋯),d (Tv f ⋯),d f,d (Tv f ⋯)⟩
  refine⟨c.heap.objs.size+4,[c.heap.objs.size+4,c.heap.objs.size+2,c.heap.objs.size+3,c.heap.objs.size,c.heap.objs.size+1],_,_,Y,rfl,l.kept (t':=c.toks) kk,Ia r t _ _ _ _ _ xs ys ap,⟨.none,.none,z1,z2,z3,z4,z5⟩,λb A=>?_,q⟩
  have B:c.heap.objs.size<=b:=by
   simp only[S0,Ti,T9]at A;rcases A with rfl|rfl|rfl|rfl|rfl
   ·exact UG _ _
   ·exact UG _ _
   ·exact UG _ _
   ·exact SY _
   ·exact UG _ _
  exact l.YL B (l.hok.fresh B)
noncomputable abbrev NL:=Kt false false
noncomputable abbrev Hb:=@Du false false
theorem DM(e:St)(f:i≠j)(a b c d:Option V):((((e.set i a).set j b).set i c).set j d)=(e.set i c).set j d:=by rw[List.set_comm _ _ (Tf f),List.set_set,List.set_set]
section
end
end L2
namespace L2
open PySem
end L2
namespace L2
open PySem PySem.Spec PySem.Calls PyProof.Rows PySem.W PySem.Builtin PySem.Builtin.ObjectAttr
section
end
theorem DD{K:qs}{i:List D}{lo hi:Nat}(h:RL K t d H i)(j:RE K l d H (.int lo))(n:RE K o d H (.int hi)):RC K (tSl (JJ K) t (uH l) (uH o)) d H ((i.drop lo).take (hi - lo)):=λr s Q q =>
 h r s _ λv u b w=>j u (s.trans b) _ λC x c y=>⟨lo,y.W4,n x (s.trans (b.trans c)) _ λE G e z=>⟨hi,z.W4,by
  obtain⟨a,A,rfl,B,f⟩:=(c.trans e).ld w;refine⟨a,A,rfl,B.Yk,λp g=>?_⟩;rw[CV];exact q p _ _ ((b.trans (c.trans e)).free g) (b.trans (c.trans (e.trans (aL g _)))) aF ((aL g _).W0 (WU.Z5 (WU.dropN f)))⟩⟩
section
end
end L2
namespace L2
open PySem PySem.Spec PySem.Calls PyProof.Rows
noncomputable abbrev ud(t:Addr)(i:Int):Obj:={cls:=.type "reversed",data:=.fields #[.ref t,rawInt i]}
theorem vH:Slot "reversed" "__init__" "object.__init__":=.of (owner:="object") (n:="__init__") (by rw[VJ,Vc];kernel_rfl) ⋯ ⋯ ⋯ (by first|exact .inl ⋯|exact .inr ⋯) (by rw[Ws];kernel_rfl)
theorem BB:TypeCalled "reversed" "reversed.__new__" "object.__init__":=⟨⋯,⋯,⟨_,_,F.mro_reversed⟩,F.made_reversed,⋯,F.sub_reversed_self,vH⟩
theorem Xw:Slot "reversed" "__next__" "reversed.__next__":=.of (owner:="reversed") (n:="__next__") (by rw[VJ,Vc];kernel_rfl) ⋯ ⋯ ⋯ (by first|exact .inl ⋯|exact .inr ⋯) (by rw[Ws];kernel_rfl)
theorem nJ:Slot "reversed" "__iter__" "reversed.__iter__":=.of (owner:="reversed") (n:="__iter__") (by rw[VJ,Vc];kernel_rfl) ⋯ ⋯ ⋯ (by first|exact .inl ⋯|exact .inr ⋯) (by rw[Ws];kernel_rfl)
theorem mn:entryFor table "reversed.__next__"=some Builtin.«reversed.__next__»:=entryFor_of_tree (by kernel_rfl)
theorem sE:entryFor table "reversed.__iter__"=some Builtin.«dict_keyiterator.__iter__»:=entryFor_alias (id':="dict_keyiterator.__iter__") (by kernel_rfl) (by first|rfl|decide +kernel | (unfold String.splitOn;simp +decide [String.splitOnAux])) ⋯ (by kernel_rfl)
theorem wJ:Manifest.owners.lookup (String.ofList ['d','e','s','r','e','v','e','r'].reverse)=some Manifest.sig_reversed:=by kernel_rfl
theorem nq(a:Value):argsOk "reversed.__next__" ⟨[a],[]⟩:=by unfold argsOk;rw[signature?_of (id:="reversed.__next__") (n:=['_','_','t','x','e','n','_','_']) (o:=['d','e','s','r','e','v','e','r']) (by kernel_rfl) wJ];kernel_rfl
theorem uO(a:Value):argsOk "reversed.__iter__" ⟨[a],[]⟩:=by unfold argsOk;rw[signature?_of (id:="reversed.__iter__") (n:=['_','_','r','e','t','i','_','_']) (o:=['d','e','s','r','e','v','e','r']) (by kernel_rfl) wJ];kernel_rfl
theorem E3:typeLookup (.type "tuple") "__reversed__"=pure none:=by rw[VJ,Vc];kernel_rfl
theorem CD:isSubtype (.type "tuple") (.type "dict")=pure false:=by rw[Ws];kernel_rfl
theorem qZ:typeLookup (.type "tuple") "__getitem__"=pure (some (.builtin "tuple.__getitem__")):=by rw[VJ,Vc];kernel_rfl
theorem HA(t:Addr)(a:Array Value)(n:Nat)(e:Option Addr)(f:Array (Option Value)) :
  Meets (Builtin.«reversed.__new__» ⟨[.type "reversed",.ref t],[]⟩) (λ_ R s=>s.heap.get? t=some {cls:=.type "tuple",dict:=e,data:=.seq a n,slots:=f} /\
   (a.size:Int)<2 ^ 63/\R (.ok (.ret (.ref s.heap.objs.size))) {s with heap:=s.heap.push (ud t ((a.size:Int) - 1)),toks:=s.toks+2}) :=
 .of_wp λ_ _ _ _ s q=>by
  obtain⟨g,h,i,j,l⟩:=s;obtain⟨o,b,q⟩:=q;have c:Heap.IsTuple (Shared.heap ⟨g,h,i,j,l⟩) t a:=⟨_,o,rfl,n,rfl⟩
  have d:=F.sub_reversed_self
  wp_walk
  show wpAny _ _ (typeLookup (.type "tuple") "__reversed__") _ _ _;rw[E3];refine Tc ?_;dsimp only
  wp_walk
  show wpAny _ _ (isSubtype (.type "tuple") (.type "dict")) _ _ _;rw[CD];refine Tc ?_;rw[PC ⋯]
  wp_walk
  show wpAny _ _ (typeLookup (.type "tuple") "__getitem__") _ _ _;rw[qZ];refine Tc ?_;dsimp only;rw[SV ⋯];refine Tc ?_;rw[PC ⋯];refine SO ?_;refine PyProof.Rows.len_tuple c b ?_
  wp_walk
  exact⟨_,rfl,q⟩
theorem D4{s:Shared}(b:s.heap.IsTuple t a)(c:(a.size:Int)<2 ^ 63)
  (q:Q (.ref s.heap.objs.size) {s with heap:=s.heap.push (ud t ((a.size:Int) - 1)),toks:=s.toks+2}):wpAny (model prog w) A (call (.type "reversed") [.ref t]) Q E s:=by
 obtain⟨⟨e,f,d,g⟩,b,h,n,i⟩:=b;obtain rfl:e=.type "tuple":=h;obtain rfl:d=.seq a n:=i;refine WR BB ⋯ (F.typeCall_reversed_1 _) (F.newCall_reversed_1 _) (λo=>F.args_object_init_2 o _) F.entry_reversed_new (HA t a n f g) ⟨b,c,?_⟩;show _/\_;exact⟨⟨_,T3 rfl rfl,rfl⟩,q⟩
theorem sx{i n:Nat}(h:i<n):seqIndex? (i:Int) n=some i:=(xM (by unfold ZJ;rw[SV ⋯,SV ⋯];rfl)).1
abbrev qp(h:Heap)(a t:Addr)(i:Int):Prop:=h.get? a=some (ud t i)
section
theorem Cg{E:qf}{s:Shared}{a:Array Value}{i:Nat}{Q:Option Value->Shared->Prop}(c:qp s.heap b t i)(f:s.heap.IsTuple t a)(l:(a.size:Int)<2 ^ 63)(g:a[i]?=some x)
  (q:∀d o,qp d b t ((i:Int) - 1)->Heap.SameBut b s.heap d->Q (some x) {s with heap:=d,toks:=o}):wpAny (model prog w) A (pyNext (.ref b)) Q E s:=by
 have h:s.TypeIs (.ref b) "reversed":=⟨_,c,rfl⟩
 have lt:i<a.size:=(Array.getElem?_eq_some_iff.mp g).1;unfold pyNext;refine SO (Vq (Uo (name:=Str.ofString "__next__") h Xw (Uy Xw h mn ?_ (nq _))));obtain⟨⟨p,v,e,y⟩,z,r,n,u⟩:=id f;obtain rfl:p=.type "tuple":=r;obtain rfl:e=.seq a n:=u;obtain⟨B,C,G,H,I⟩:=s;unfold qp ud rawInt at c
 wp_walk
 show wpAny _ _ (typeLookup (.type "tuple") "__getitem__") _ _ _;rw[qZ];refine Tc ?_;rw[PC ⋯];refine SO (wpAny_mkInt (SO (Vq ?_)));show wpAny _ _ (getItem (.ref t) (.int (i:Int) _)) _ _ _;refine PyProof.Rows.getItem_tuple (j:=i) f ⋯ ⋯ (sx lt) g ?_
 wp_walk
 exact⟨x,rfl,Tc (q _ _ (Wc _ c rfl) (Heap.SameBut.update ..))⟩
theorem Cf{A:Around}{s:Shared}(h:A.handled=none)(c:qp s.heap a t (-1))(q:∀d,Heap.ExtBut a s.heap d->Q none {s with heap:=d}):wpAny (model prog w) A (pyNext (.ref a)) Q E s:=by
 have f:s.TypeIs (.ref a) "reversed":=⟨_,c,rfl⟩
 unfold pyNext;refine SO (Vq (Uo (name:=Str.ofString "__next__") f Xw (Uy Xw f mn ?_ (nq _))));obtain⟨i,j,l,n,p⟩:=s;unfold qp ud rawInt at c
 wp_walk
 refine wpAny_raiseNew_none h ?_;refine SO (wpAny_isInstance (T:="StopIteration") (b:=true) ⟨_,TN _ rfl,rfl⟩ isSubtype_stop (Tc (q _ λb o g e=>?_)));exact SQ _ (SQ _ ((Heap.get?_update_ne _ _ _ _ g).trans ((Heap.get?_update_ne _ _ _ _ g).trans e)))
theorem A1{s:Shared}(c:qp s.heap a t i)(h:Q (.ref a) s):wpAny (model prog w) A (pyIter (.ref a)) Q E s:=by
 have b:s.TypeIs (.ref a) "reversed":=⟨_,c,rfl⟩
 refine wpAny_pyIter_slot b nJ (Uy nJ b sE ?_ (uO _));show wpAny _ _ (ret (.ref a)) _ _ s;exact Tc ⟨_,rfl,"reversed",_,b,Xw.lookup,h⟩
end
noncomputable def Itw(K:qs)(a:Addr)(b:List V):It:=⟨λi H=>i<b.length/\Xo K H a b,λi H x c=>c=H/\b[b.length - 1 - i]?=some x,λi _=>i=b.length⟩
theorem E5{K:qs}(a f:Addr)(c:List V):pj P w K tg (Itw K a c) [f] f (λi h=>qp h f a ((c.length:Int) - 1 - (i:Int))) where
 mem:=by simp
 obj:=λi h st b g=>by
  have e:b=f:=by simpa using g
  subst e;exact⟨_,st,λv z=>by cases z⟩
 keep:=λi h l st k=>k f (by simp) _ st
 item:=by
  intro X r t y U i d s Y H E I n st B;subst r t y;obtain⟨hi,hq⟩:=B;obtain⟨its,rv,p,hz⟩:=I.tuple hq;obtain⟨C,G,f2,J,L,M⟩:=n f (by simp);have lr:=rv.length;have hx:c[c.length - 1 - i]?=some (c[c.length - 1 - i]'(by lia)):=SN ⋯;obtain⟨u,hu,ru⟩:=rv.get hx;have N:(c.length:Int) - 1 - (i:Int)=((c.length - 1 - i:Nat):Int):=by lia
  rw[N]at st;refine Cg st p (by rw[S7];rw[Vi]at hz;lia) (x:=u) (by simpa using hu) λl O j sb=>?_;have e2:((c.length - 1 - i:Nat):Int) - 1=(c.length:Int) - 1 - ((i+1:Nat):Int):=by lia
  rw[e2]at j;have I1:Inv X d Y H {s with heap:=l,toks:=O}:=I.turned (t':=O) (λb o g e=>(sb.2 b g).trans e) C G J L M;exact⟨u,rfl,wq (s:={s with heap:=l,toks:=O}) j rfl rfl ⋯ ⟨_,H,I1,ru,⟨rfl,hx⟩,j,λb g=>(n b g).1⟩⟩
 done:=by
  intro X r t y U i d s Y H E I n st B;subst r t y;obtain⟨C,G,f2,J,L,M⟩:=n f (by simp);have T:i=c.length:=B;subst T;have N:(c.length:Int) - 1 - (c.length:Int)=-1:=by lia
  rw[N]at st;exact Cf (I.ok.hd U) st λl eb=>⟨rfl,I.turned (t':=s.toks) (λb o g e=>eb b o g e) C G J L M⟩
 self:=λA i s Q E st q=>A1 st q
section
noncomputable def MQ(K:qs)(d:TA):TI:=λe H R=>d e H λf b=>∃a c,f=[.ref a]/\Xo K b a c/\R (Itw K a c) b
theorem JC(n:Gl X "reversed")(r:X.mg "reversed"=none)(t:PA X [a] v)(w:starEach [a] X.env=[(false,eval a X.env)]:=by rfl):PI X O (.Call (.Name "reversed" p) [a] [] i) (MQ X.K v):=by
 intro d s x H R I h;refine Call_ (lF I n r qw (Uq (W9 (t i d s x H _ I h) λQ c ⟨T,y,g,z,A⟩=>?_) w rfl));obtain⟨l,f,e,B,q⟩:=A;subst e;obtain⟨u,rfl,C⟩:=i6 z;cases C;obtain⟨j,E,G,J⟩:=g.tuple B;have L:=E.length;refine D4 G (by rw[S7];rw[Vi]at J;lia) ?_;have M:((j.toArray.size:Nat):Int) - 1=(f.length:Int) - 1 - ((0:Nat):Int):=by rw[S7,L];lia
 rw[M];have st:qp (c.heap.push (ud l ((f.length:Int) - 1 - ((0:Nat):Int)))) c.heap.objs.size l ((f.length:Int) - 1 - ((0:Nat):Int)):=TN _ rfl;refine A1 (s:={c with heap:=c.heap.push (ud l ((f.length:Int) - 1 - ((0:Nat):Int))),toks:=c.toks+2}) st ?_;refine⟨c.heap.objs.size,[c.heap.objs.size],_,_,y,rfl,g.kept (t':=c.toks+2) λb o e=>SQ _ e,E5 l _ f,st,λb N=>?_,q⟩;have e:b=c.heap.objs.size:=by simpa using N
 subst e;exact g.YL (SY _) (g.hok.fresh (SY _))
end
theorem F1{K:PySem.W.Frag}{a:Addr}{xs:List V}{g:TG}{l:TS}{D:jF}{b:St}{H:Hp}(Pv:Nat->St->Hp->Prop)(o:Pv 0 b H)(r:∀i b H,i<=xs.length->Pv i b H->Xo K H a xs)
  (s:∀i x b H,i<xs.length->xs[xs.length - 1 - i]?=some x->Pv i b H->g x b H λc j=>l {D with nx:=Pv (i+1),ct:=Pv (i+1),bk:=D.nx} c j) (t:∀b H,Pv xs.length b H->D.nx b H) :
  ∃W:Nat->Nat->St->Hp->Prop,(∃m,W 0 m b H)/\∀i m b H,W i m b H ->
   ((Itw K a xs).stop i H/\D.nx b H)\/((Itw K a xs).go i H/\∃N:St->Hp->Prop,(∀d f,N d f->∃n,n<m/\W (i+1) n d f)/\∀x f,(Itw K a xs).YZ i H x f->g x b f λc j=>l {D with nx:=N,ct:=N,bk:=D.nx} c j):=by
 refine⟨λi m b H=>m=xs.length - i/\i<=xs.length/\Pv i b H,⟨xs.length,by simp,Uk _,o⟩,?_⟩;rintro i m b H ⟨rfl,u,p⟩;have q:=r i b H u p;by_cases h:i<xs.length
 ·refine .inr ⟨⟨h,q⟩,Pv (i+1),λd f v=>⟨xs.length - (i+1),⋯,rfl,h,v⟩,λx f y=>?_⟩;obtain⟨e,y⟩:=y;subst e;exact s i x b _ h y p
 ·have e:i=xs.length:=by lia
  subst e;exact .inl ⟨rfl,t b H p⟩
section
end
end L2
namespace L2
open PySem PySem.Spec PyProof.Rows
section
end
section
variable{K:qs}{σ:St}{H H':Hp}{es:List D}{t:TE}
inductive YV(K:qs)(H:Hp):List (List D)->List V->Prop
 |nil:YV K H [] []
 |cons {es:List D} {v:V} {Xa:List (List D)} {vs:List V}:LD K H es v->YV K H Xa vs->YV K H (es::Xa) (v::vs)
theorem YV.length(h:YV K H a b):a.length=b.length:=by
 induction h with
 |nil=>rfl
 |cons _ _ c=>simp[c]
theorem YV.map(h:YV K H a b)(f:∀es v,LD K H es v->LD K H' es v):YV K H' a b:=by
 induction h with
 |nil=>exact .nil
 |cons c _ d=>exact .cons (f _ _ c) d
theorem WV.lds(e:WV H H')(h:YV K H a b):YV K H' a b:=h.map λ_ _ z=>e.ld z
theorem YV.snoc(h:YV K H a b)(c:LD K H es v):YV K H (a++[es]) (b++[v]):=by
 induction h with
 |nil=>exact .cons c .nil
 |cons k _ d=>exact .cons k d
def RCL(K:qs)(t:TE)(σ:St)(H:Hp)(c:List (List D)):Prop:=∀a,WV H a->∀Q:VK,(∀l b H',a l=none->WV a H'->H' l=some (.lst b)->YV K H' c b->Q (.ref l) H')->t σ a Q
theorem RCL.use(h:RCL K t σ H b)(q:∀l a H',H l=none->WV H H'->H' l=some (.lst a)->YV K H' b a->Q (.ref l) H'):t σ H Q:=h H (WV.refl H) Q q
def Off(K:qs)(H:Hp)(l:Addr)(a:List V):Prop:=∀v∈a,v≠.ref l
theorem YV.grown(h:YV K H d c)(b:Off K H l c)(e:Xb l H H')(f:H l=some (.lst zs))(i:H' l=some (.lst j)):YV K H' d c:=by
 have g:eI K H H':=e.grow f i
 induction h with
 |nil=>exact .nil
 |cons k _ n =>refine .cons ?_ (n λv o=>b v (Th _ o));obtain⟨a,p,rfl,q,r⟩:=k;have s:a≠l:=λz=>b _ Tn (by rw[z]);refine⟨a,p,rfl,?_,WU.mono g _ r⟩;exact q.elim (λz=>.inl (e _ _ s z)) .inr
end
end L2
namespace L2
open PySem PySem.Spec PySem.Calls PyProof.Rows
noncomputable abbrev BK(t:Addr):Obj:={cls:=.type "list_iterator",data:=.fields #[.ref t,.int 0 0]}
variable{K:qs}
theorem JQ(h:RA K ta C H [.tup cs,.tup ds])(hl:cs.length=ds.length)(hc:cs.length<=1000)(A:List (List D))(hn:A.length=cs.length)(ne:i≠j)
  (h0:((mk C).set i none).set j none=mk C)
  (J:∀E (k:Nat) c d es v w,WV H E->cs[k]?=some c->ds[k]?=some d->A[k]?=some es->Dat K E c v->Dat K E d w->RC K te (((mk C).set i (some v)).set j (some w)) E es) :
  RCL K (jC (NL K ta) mk (Ee K 2 (nv (dE i) (nv (dE j) F8))) i5 te) C H A:=λE s Q q=>by
 refine h E s _ λvs H2 s2 q2=>?_;obtain⟨v1,v2,e,k1,k2⟩:=iF q2;subst e;obtain⟨a,B,e1,ha,da⟩:=k1.Xf;obtain⟨b,ws,e2,hb,db⟩:=k2.Xf;subst e1 e2;have lu:=da.length;have lw:=db.length;refine⟨a,b,B,ws,rfl,ha,hb,λl hl2=>?_⟩;have s02:WV H H2:=s.trans s2;refine⟨λn m L G=>m=B.length - n/\n<=B.length/\(∃z1 z2,L=((mk C).set i z1).set j z2)/\WV H2 G/\∃f,G l=some (.lst f)/\YV K G (A.take n) f/\Off K G l f,⟨B.length,⋯,Uk _,⟨none,none,h0.symm⟩,aL hl2 _,[],aF,by rw[US];exact .nil,λv hv=>by cases hv⟩,?_⟩;rintro n m L G ⟨rfl,hle,⟨z1,z2,rfl⟩,M,f,hy,dy,N⟩;by_cases O:n<B.length
 ·refine .inr ⟨⟨O,⋯,M.Zn ha,M.Zn hb⟩,λt I=>(∃z1 z2,t=((mk C).set i z1).set j z2)/\WV H2 I/\∃f,I l=some (.lst f)/\YV K I (A.take (n+1)) f/\Off K I l f,λt I w=>⟨B.length - (n+1),⋯,rfl,O,w.1,w.2⟩,λx I y=>?_⟩;obtain⟨p,u,w,hp,rfl,hu,hw,rfl⟩:=y;have sn:WV G (upd G p (.tup [u,w])):=aL hp _;have ZE:=M.trans sn;obtain⟨c,ec,hcv⟩:=da.XI hu;obtain⟨d,ed,hdv⟩:=db.XI hw;have T:n<A.length:=by lia
  refine⟨p,[u,w],rfl,Xo.of aF,rfl,u,_,rfl,w,_,rfl,rfl,?_⟩;simp only[i5,VE];rw[DM _ ne];refine RC.use (J _ n c d A[n] u w (s02.trans ZE) ec ed (SN T) (ZE.dat hcv) (ZE.dat hdv)) λr zs U hr s4 hz dz=>?_;have YN:=s4 _ _ (sn _ _ hy);have Y:r≠l:=λz=>by rw[z,sn _ _ hy]at hr;cases hr
  have lys:f.length=n:=by rw[<- dy.length,T4];lia
  refine⟨f,YN,cU ⋯,⟨_,_,rfl⟩,λx o hx=>?_,f++[.ref r],aF,?_,?_⟩
  ·rw[aR (aN hx hl2)];exact s4 _ _ (ZE _ _ hx)
  ·have bl:Xb l U (upd U l (.lst (f++[.ref r]))):=Xb.upd (WV.refl U).but;have g:eI K U (upd U l (.lst (f++[.ref r]))):=bl.grow YN aF;rw[Ug,SN T];exact YV.snoc (YV.grown (s4.lds (sn.lds dy)) N bl YN aF) (LD.of (bl _ _ Y hz) (WU.mono g _ dz))
  ·intro v hv;rcases Tq.mp hv with hv|hv
   ·exact N v hv
   ·rw[Tp.mp hv];exactλz=>Y (by injection z)
 ·have e:n=B.length:=by lia
  subst e;refine .inl ⟨⟨rfl,M.Zn ha⟩,?_⟩;rw[U5 ⋯]at dy;exact q l f G (s2.free hl2) (s2.trans M) hy dy
theorem JM(h:RL K tl r H a)(hc:a.length<=1000)(p:D->Bool)(h0:(mk r).set C none=mk r)
  (t:∀u (i:Nat) c v,WV H u->a[i]?=some c->Dat K u c v->RT tt ((mk r).set C (some v)) u (p c)/\RE K te ((mk r).set C (some v)) u c):RC K (jC (wt K tl) mk (dE C) tt te) r H (a.filter p):=λu s Q q=>by
 refine(h.mono s).use λv4 H4 E q4=>?_;obtain⟨I,f,rfl,T,y⟩:=q4;have ll:=y.length;refine⟨I,rfl,⟨f,T.Yk⟩,λl L=>?_⟩;refine mm (J:=Itl K I) (n:=f.length) (item:=λi=>f.getD i .W3) (λG=>W2 K G I f) (λi G o U=>xD i G o U) (λG o=>⟨f,o,SY _⟩) h0 l (λi G=>WV H4 G/\∃zs,G l=some (.lst zs)/\WU K G ((a.take i).filter p) zs) ⟨aL L _,[],aF,by rw[US];exact WU.nil⟩ (λi G _ w=>w.1.seq T.Yk) (λi G U w=>?_) (λG w=>?_)
 ·obtain⟨j,zs,B,b⟩:=w;have d:i<a.length:=by lia
  obtain⟨Y,ez,hv⟩:=(j.W0 y).get (SN d);have e1:f.getD i .W3=Y:=by rw[Td,ez];rfl
  simp only[e1];obtain⟨t1,t2⟩:=t G i a[i] Y (s.trans (E.trans j)) (SN d) hv;have et:a.take (i+1)=a.take i++[a[i]]:=by rw[Ug,SN d];rfl
  have lz:zs.length<=1000:=by rw[<- b.length];exact Tz (We _ _) (by rw[T4];lia)
  have lz':zs.length<1000:=by rw[<- b.length];exact U8 (We _ _) (by rw[T4];lia)
  refine t1.use λG2 e=>?_
  cases hp:p a[i]with
  |true =>
   refine lE ((t2.mono e).use λM z N q3=>?_);have A:=(e.trans N) _ _ B;have bl:Xb l z (upd z l (.lst (zs++[M]))):=Xb.upd (WV.refl z).but;have g:eI K z (upd z l (.lst (zs++[M]))):=bl.grow A aF;refine⟨zs,A,cU ⋯,⟨_,rfl⟩,λx o hx=>?_,zs++[M],aF,?_⟩
   ·rw[aR (aN hx L)];exact(e.trans N) _ _ (j _ _ hx)
   ·rw[et,Va];have O:[a[i]].filter p=[a[i]]:=by rw[Um,SV hp];rfl
    rw[O];exact WU.append (WU.mono g _ ((e.trans N).W0 b)) (WU.cons (Dat.mono g _ q3) WU.nil)
  |false =>
   refine lD ⟨⟨_,rfl⟩,j.trans e,zs,e _ _ B,?_⟩;rw[et,Va];have O:[a[i]].filter p=[]:=by rw[Um,PC (by rw[hp];exact SW)];rfl
   rw[O,To];exact e.W0 b
 ·obtain⟨j,zs,B,b⟩:=w;rw[<- ll,UR]at b;exact q l zs G (E.free L) (E.trans j) B b
theorem yu{X:Cx}(c:X.K=K)(d:X.calm=true)(h:PGs X a t)
  (e:(assignEach a X.env).length=n:=by rfl) (b:(assignEach a X.env).findIdx? (·.1)=none:=by rfl):PG X (.Tuple a k f) (Ee K n t):=by
 subst c;exact fX d h e b
section
end
section
variable{os:List (Option (List D))}
theorem vM:∀{os:List (Option (List D))},os.any Option.isNone=false->∃a:List (List D),os=a.map some
 |[],_=>⟨[],rfl⟩
 |none::os,h=>by cases h
 |some b::os,h=>by rw[Vd]at h;obtain⟨a,e⟩:=vM (os:=os) (by simpa using h);exact⟨b::a,by rw[e];rfl⟩
theorem J5{K:qs}{i:jF}(h:RC K v e G n)(o:G l=some (.lst c))(x:c.length+n.length<=1000)
  (q:∀r d,Xb l G d->d l=some (.lst (c++r))->WU K d n r->i.nx e d) (w:e[j]?=some (some (.ref l)):=by rfl):nK (tBM K "list" rS (fR j) (bU v dR)) i e G:=by
 refine⟨_,w,.inl ⟨rfl,_,W2.of o⟩,h.use λp f s y t g u=>?_⟩;have a:=t _ _ o;have z:=u.length;refine⟨l,p,c,f,rfl,rfl,a,g,cK ⋯,?_⟩;have b:Xb l s (upd s l (.lst (c++f))):=Xb.upd (WV.refl _).but;exact q f _ (t.but.trans b) aF (WU.mono (b.grow a aF) _ u)
end
theorem C8{l n:Bool}{K:PySem.W.Frag}{a b:Addr}{xs ys:List V}{g:TG}{s:TS}{D:jF}{c:St}{H:Hp}(Pv:Nat->St->Hp->Prop)(L:xs.length=ys.length)(w:Pv 0 c H)(z:∀i c H,i<=xs.length->Pv i c H->SqK l K H a xs/\SqK n K H b ys)
  (A:∀i u v p c H,xs[i]?=some u->ys[i]?=some v->H p=none->Pv i c H->g (.ref p) c (upd H p (.tup [u,v])) λd o=>s {D with nx:=Pv (i+1),ct:=Pv (i+1),bk:=D.nx} d o) (B:∀c H,Pv xs.length c H->D.nx c H) :
  ∃W:Nat->Nat->St->Hp->Prop,(∃m,W 0 m c H)/\∀i m c H,W i m c H ->
   ((Fe l n K a b xs ys).stop i H/\D.nx c H)\/((Fe l n K a b xs ys).go i H/\∃N:St->Hp->Prop,(∀f h,N f h->∃t,t<m/\W (i+1) t f h)/\∀x h,(Fe l n K a b xs ys).YZ i H x h->g x c h λd o=>s {D with nx:=N,ct:=N,bk:=D.nx} d o):=by
 refine⟨λi m c H=>m=xs.length - i/\i<=xs.length/\Pv i c H,⟨xs.length,by simp,Uk _,w⟩,?_⟩;rintro i m c H ⟨rfl,C,p⟩;have q:=z i c H C p;by_cases j:i<xs.length
 ·refine .inr ⟨⟨j,⋯,q.1,q.2⟩,Pv (i+1),λf h E=>⟨xs.length - (i+1),⋯,rfl,j,E⟩,λx h y=>?_⟩;obtain⟨r,u,v,G,rfl,I,J,rfl⟩:=y;exact A i u v r c H I J G p
 ·have e:i=xs.length:=by lia
  subst e;exact .inl ⟨⟨rfl,q.1⟩,B c H p⟩
noncomputable def MO(K:qs)(n:Nat)(t:TGs):TG:=λv c H Q=>∃a b,v=.ref a/\W2 K H a b/\b.length=n/\t b c H Q
theorem JB{X:Cx}(j:X.calm=true)(h:PGs X d t)
  (l:(assignEach d X.env).length=n:=by rfl) (f:(assignEach d X.env).findIdx? (·.1)=none:=by rfl):PG X (.Tuple d k p) (MO X.K n t):=λc s q H v u Q I r ⟨a,w,x,y,z,A⟩=>by
 subst x;cases r;obtain⟨g,i,B,G⟩:=I.list y;have C:(assignEach d X.env).length=g.toArray.size:=by rw[l,<- z,i.length,S7]
 rw[assign_Tuple];refine SO (VD ?_);unfold unpack;rw[C,f];refine SO (Vo (W.kun_itemsOf (I.ok.hd j) B.isList λJ E=>?_));exact h c _ q H w _ Q (I.kept (t':=s.toks) λb o e=>E b o (Tw (Te e)) e) (by simpa using i) A
section
end
noncomputable def KC(K:qs):R2:=λx y H Q=>∃a b c,x=.ref a/\y=.ref b/\Xo K H a []/\Xo K H b c/\Q (.ref b) H
theorem op_catE:XG X (binaryOp .Add) (KC X.K):=λc s G H x y v u Q I j l ⟨a,b,J,ex,n,o,p,q⟩=>by subst ex n;cases j;cases l;obtain⟨L,r,p1,_⟩:=I.tuple o;obtain⟨M,N,p2,_⟩:=I.tuple p;have t:=r.YI.mpr rfl;subst t;obtain⟨⟨O,w,T,z⟩,d,e,A,f⟩:=id p1;obtain⟨⟨U,B,Y,C⟩,g,h,E,i⟩:=id p2;simp only at e f h i;subst e f h i;exact concat_meets ⟨_,d,rfl⟩ ⟨_,g,rfl⟩ noFill_tuple_add seq_tuple_add F.slot_tuple_add WG (Wz _ _) (tuple_addW0 a b _ _ A E w B z C rfl) ⟨d,g,.ref b,H,I,rfl,q⟩
noncomputable def Hh(K:qs):R2:=λx y H Q=>KC K x y H Q\/KF K x y H Q
theorem Jq:XG X (binaryOp .Add) (Hh X.K):=op_catE.or Do
section
variable{K:qs}
theorem FN(u:Dat K H (.tup c) x)(w:Dat K H (.tup g) y)(C:c.length+g.length<=1000)(q:∀v h,WV H h->Dat K h (.tup (c++g)) v->Q v h):Hh K x y H Q:=by
 obtain⟨a,A,n,i,f⟩:=u.Xf;obtain⟨b,o,r,j,l⟩:=w.Xf;have s:=f.length;have B:=l.length
 cases c with
 |nil =>have e:=f.X5;subst e;exact .inl ⟨a,b,o,n,r,i,j,q _ _ (WV.refl _) (Dat.tupI j l)⟩
 |cons d c =>
  refine .inr ⟨a,b,A,o,n,r,i,j,λz=>?_,cK ⋯,λz=>?_,λ_ p t=>?_⟩
  ·rw[z]at s;cases s
  ·have e:g=[]:=VU.mp (by rw[B,z];rfl);subst e;rw[To]at q;exact q _ _ (WV.refl _) (Dat.tupI i f)
  ·exact q _ _ (aL t _) (Dat.tupI (Xo.of aF) ((aL t _).W0 (WU.append f l)))
theorem JR(f:RE K g a H (.tup b))(h:RE K i a H (.tup c))(j:b.length+c.length<=1000):RE K (XT (Hh K) g i) a H (.tup (b++c)):=λl s Q q =>
 f l s _ λv n d o=>h n (s.trans d) _ λw u e p=>FN (e.dat o) p j λv r t k=>q v r (d.trans (e.trans t)) k
end
noncomputable abbrev qC(t:Addr):Obj:={cls:=.type "list_iterator",data:=.fields #[.ref t,.int 0 0]}
theorem Eb(t:Addr)(a:Array Value)(n:Nat)(d:Option Addr)(e:Array (Option Value)) :
  Meets (Builtin.«enumerate.__new__» ⟨[.type "enumerate",.ref t],[]⟩) (λ_ R s=>s.heap.get? t=some {cls:=.type "list",dict:=d,data:=.seq a n,slots:=e} /\
   R (.ok (.ret (.ref (s.heap.push (qC t)).objs.size))) {s with heap:=(s.heap.push (qC t)).push (vW s.heap.objs.size)}) :=
 .of_wp λ_ _ _ _ s q=>by
  obtain⟨f,g,h,i,j⟩:=s;obtain⟨l,q⟩:=q;have b:Heap.IsList (Shared.heap ⟨f,g,h,i,j⟩) t a:=⟨_,l,rfl,n,rfl⟩
  have c:=sub_enumerate
  wp_walk
  refine wpAny_stack_any λrows=>?_;refine Tc ?_;split
  ·rename_i o _ _ _ _ _;cases (o==Value.type "enumerate")<;>(wp_walk using Uv b;exact⟨_,rfl,q⟩)
  ·wp_walk using Uv b
   exact⟨_,rfl,q⟩
theorem BA{s:Shared}(b:s.heap.IsList t a)
  (q:Q (.ref (s.heap.objs.size+1)) {s with heap:=(s.heap.push (qC t)).push (vW s.heap.objs.size)}):wpAny (model prog w) A (call (.type "enumerate") [.ref t]) Q E s:=by
 obtain⟨⟨d,e,c,f⟩,b,g,n,h⟩:=b;obtain rfl:d=.type "list":=g;obtain rfl:c=.seq a n:=h;have sz:(s.heap.push (qC t)).objs.size=s.heap.objs.size+1:=T7 _ _;refine WR F.called_enumerate ⋯ (F.typeCall_enumerate_1 _) (F.newCall_enumerate_1 _) (λo=>F.args_object_init_2 o _) F.entry_enumerate_new (Eb t a n e f) ⟨b,?_⟩;show _/\_;rw[sz];refine⟨⟨vW s.heap.objs.size,?_,rfl⟩,q⟩;exact T3 sz.symm rfl
noncomputable def Mz(K:qs)(a:Addr)(b:List V):It:=⟨λi H=>i<b.length/\W2 K H a b,λi H x c=>∃p y,H p=none/\x=.ref p/\b[i]?=some y/\c=upd H p (.tup [.int i,y]),λi H=>i=b.length/\W2 K H a b⟩
theorem CF{c1}(a e f:Addr)(C:List V)(Y:e≠f):pj P w K (.Tuple elts c1 ps) (Mz K a C) [e,f] e (λi h=>a≠f/\a≠e/\∃j,IsEnum h e f i j/\h.IsListIter f a i) where
 mem:=by simp
 obj:=λi h st b g=>by
  obtain⟨_,_,j,r,B⟩:=st;rcases S0.mp g with z|z
  ·subst z;exact⟨_,r,λv z=>by cases z⟩
  ·have z:b=f:=by simpa using z
   subst z;obtain⟨o,e,c,d⟩:=B;exact⟨o,e,λv z=>by rw[d]at z;cases z⟩
 keep:=λi h h' ⟨n1,n2,j,r,B⟩ k=>⟨n1,n2,j,k e (by simp) _ r,B.at λo z=>k f (by simp) o z⟩
 item:=by
  intro X hP hw hK hc i n s σ H E I O st hg;subst hP hw hK;obtain⟨hi,hq⟩:=hg;obtain⟨t,G,j,r,B⟩:=st;obtain⟨l,T,p,hz⟩:=I.list hq;have hx:C[i]?=some C[i]:=SN hi;obtain⟨u,hu,ru⟩:=T.get hx;have J:s.heap.IsList a l.toArray:=p.isList;have lr:=T.length;refine wpAny_pyNext_enum_itemD (Draws.list (A:=X.A.in1) (I.ok.hd hc) f a t l.toArray) r ⟨B,J⟩ (by rw[S7];lia) Y (by simp[Y,Tf G]) λy h' x hy out st' tup sz kk=>⟨_,rfl,?_⟩
  have ey:y=u:=by
   have M:l[i]?=some y:=by simpa using hy
   rw[hu]at M;exact(TY M).symm
  subst ey;refine wpAny_letOwnedTupleGo_enum (s:={s with heap:=h',toks:=x+1}) out λh2 e2 same=>?_;have le:e<s.heap.objs.size:=Te r;have li:f<s.heap.objs.size:=let⟨_,z,_⟩:=B;Te z;have N:h2.get? s.heap.objs.size=some {cls:=.type "tuple",data:=.seq #[.int i x,y]}:=(same.2 _ (Ur le)).trans tup
  have I1:Inv X n σ (upd H s.heap.objs.size (.tup [.int i,C[i]])) {s with heap:=s.heap.push {cls:=.type "tuple",data:=.seq #[.int i x,y]},toks:=s.toks} :=
   I.laid (o:=.tup [.int i,C[i]]) (λb ob q=>SQ _ q) (SY _) ⟨by rw[Vi];simp,[.int i x,y],.cons ⟨_,rfl⟩ (.cons ru .nil),Wb _ _⟩
  have frees:∀b,b<s.heap.objs.size->upd H s.heap.objs.size (.tup [.int i,C[i]]) b=H b:=λb g=>aR (Tw g)
  have I2:Inv X n σ (upd H s.heap.objs.size (.tup [.int i,C[i]])) {s with heap:=h2,toks:=x+1}:=by
   refine Inv.Yr (s:={s with heap:=s.heap.push {cls:=.type "tuple",data:=.seq #[.int i x,y]},toks:=s.toks}) (h':=h2) (its:=[e,f]) (t':=x+1) I1 (λb o g q=>?_) (λb g=>?_)
   ·have M:b≠e:=λz=>g (by simp[z]);have h3:b≠f:=λz=>g (by simp[z]);by_cases L:b=s.heap.objs.size
    ·subst L;have U:(s.heap.push {cls:=.type "tuple",data:=.seq #[.int i x,y]}).get? s.heap.objs.size=some o:=q;rw[T3 rfl rfl]at U;cases U;exact N
    ·have U:s.heap.get? b=some o:=by
      have lt:b<s.heap.objs.size:=by have l1:b<(s.heap.push {cls:=.type "tuple",data:=.seq #[.int i x,y]}).objs.size:=Te q;rw[T7]at l1;exact Nat.lt_of_le_of_ne (Nat.le_of_lt_succ l1) L
      exact(WJ _ _ _ L).symm.trans q
     exact(same.2 b M).trans (kk b o M h3 U)
   ·have lb:b<s.heap.objs.size:=by
     rcases S0.mp g with z|z
     ·rw[z];exact le
     ·rw[show b=f by simpa using z];exact li
    obtain⟨f0,f1,f2,f3,f4,f5⟩:=O b g;exact⟨by rw[frees b lb];exact f0,f1,f3,f4,f5⟩
  refine⟨.ref s.heap.objs.size,_,I2,rfl,⟨_,_,I.hok.fresh (SY _),rfl,hx,rfl⟩,⟨t,G,y,?_,?_⟩,λb g=>?_⟩
  ·have ec:((i+1:Nat):Int)=(i:Int)+1:=by lia
   rw[ec];exact e2
  ·exact st'.1.at λo z=>(same.2 f (Tf Y)).trans z
  ·have lb:b<s.heap.objs.size:=by
    rcases S0.mp g with z|z
    ·rw[z];exact le
    ·rw[show b=f by simpa using z];exact li
   rw[frees b lb];exact(O b g).1
 done:=by
  intro X hP hw hK hc i n s σ H E I O st hg;subst hP hw hK;obtain⟨hi,hq⟩:=hg;obtain⟨t,G,j,r,B⟩:=st;obtain⟨l,T,p,hz⟩:=I.list hq;have lr:=T.length;have J:s.heap.IsList a l.toArray:=p.isList;obtain⟨f0,f1,f2,f3,f4,f5⟩:=O f (by simp);refine wpAny_pyNext_enum_endD (Draws.list (A:=X.A.in1) (I.ok.hd hc) f a t l.toArray) r (by rw[S7,<- lr,<- hi];exact⟨B,J⟩) λh' eb=>⟨rfl,?_⟩
  exact I.turned (t':=s.toks) (λb o g q=>eb b o g q) f0 f1 f3 f4 f5
 self:=λA i s Q E ⟨_,_,_,r,_⟩ q=>wpAny_pyIter_enum r q
noncomputable def Gp(K:qs)(d:TA):TI:=λe H R=>d e H λf b=>∃a c,f=[.ref a]/\W2 K b a c/\R (Mz K a c) b
theorem AL{l}(n:Gl X "enumerate")(r:X.mg "enumerate"=none)(v:PA X [a] w)(x:starEach [a] X.env=[(false,eval a X.env)]:=by rfl):PI X (.Tuple j l O) (.Call (.Name "enumerate" p) [a] [] i) (Gp X.K w):=by
 intro f s y H R I h;refine Call_ (lF I n r xl (Uq (W9 (v i f s y H _ I h) λQ c ⟨T,A,d,B,g⟩=>?_) x rfl));obtain⟨t,C,E,G,q⟩:=g;subst E;obtain⟨u,rfl,J⟩:=i6 B;cases J;obtain⟨L,U,pt,Y⟩:=d.list G;have lt:t<c.heap.objs.size:=let⟨_,z,_⟩:=pt.isList;Te z;refine BA pt.isList ?_;have sz:(c.heap.push (qC t)).objs.size=c.heap.objs.size+1:=T7 _ _;have g:IsEnum ((c.heap.push (qC t)).push (vW c.heap.objs.size)) (c.heap.objs.size+1) c.heap.objs.size ((0:Nat):Int) .none:=T3 sz.symm rfl;have M:((c.heap.push (qC t)).push (vW c.heap.objs.size)).IsListIter c.heap.objs.size t 0:=⟨_,SQ _ (T3 rfl rfl),rfl,rfl⟩
 refine wpAny_pyIter_enum (s:={c with heap:=(c.heap.push (qC t)).push (vW c.heap.objs.size)}) g ?_;refine⟨c.heap.objs.size+1,[c.heap.objs.size+1,c.heap.objs.size],_,_,A,rfl,d.kept (t':=c.toks) (λb o e=>SQ _ (SQ _ e)),CF t _ _ C (Ur (VC _)),⟨Tw lt,Tw (WH lt),.none,g,M⟩,λb N=>?_,q⟩;rcases S0.mp N with z|z
 ·subst z;exact d.YL (V0 _) (d.hok.fresh (V0 _))
 ·have z:b=c.heap.objs.size:=by simpa using z
  subst z;exact d.YL (SY _) (d.hok.fresh (SY _))
theorem AU(h:RL K tl u H M)(hc:M.length<=1000)(f:List D)(hn:f.length=M.length)(ne:i≠j)
  (h0:((mk u).set i none).set j none=mk u)
  (z:∀A (k:Nat) c e w,WV H A->M[k]?=some c->f[k]?=some e->Dat K A c w->RE K te (((mk u).set i (some (.int k))).set j (some w)) A e) :
  RC K (jC (Gp K (bU tl dR)) mk (Ee K 2 (nv (dE i) (nv (dE j) F8))) i5 te) u H f:=λA s Q q=>by
 refine h A s _ λvs N O q2=>?_;obtain⟨a,r,e1,T,da⟩:=q2;subst e1;have lu:=da.length;refine⟨a,r,rfl,T.Yk,λl hl2=>?_⟩;have U:WV H N:=s.trans O;refine⟨λn m B G=>m=r.length - n/\n<=r.length/\(∃z1 z2,B=((mk u).set i z1).set j z2)/\WV N G/\∃b,G l=some (.lst b)/\WU K G (f.take n) b,⟨r.length,⋯,Uk _,⟨none,none,h0.symm⟩,aL hl2 _,[],aF,by rw[US];exact WU.nil⟩,?_⟩;rintro n m B G ⟨rfl,hle,⟨z1,z2,rfl⟩,J,b,hy,L⟩;by_cases C:n<r.length
 ·refine .inr ⟨⟨C,(J.XR T).Yk⟩,λd E=>(∃z1 z2,d=((mk u).set i z1).set j z2)/\WV N E/\∃b,E l=some (.lst b)/\WU K E (f.take (n+1)) b,λd E w=>⟨r.length - (n+1),⋯,rfl,C,w.1,w.2⟩,λx E y=>?_⟩;obtain⟨p,w,hp,rfl,hw,rfl⟩:=y;have Y:WV G (upd G p (.tup [.int n,w])):=aL hp _;have ZE:=J.trans Y;obtain⟨c,ec,hcv⟩:=da.XI hw;have I:n<f.length:=by lia
  refine⟨p,[.int n,w],rfl,Xo.of aF,rfl,.int n,_,rfl,w,_,rfl,rfl,?_⟩;simp only[i5,VE];rw[DM _ ne];refine RE.use (z _ n c f[n] w (U.trans ZE) ec (SN I) (ZE.dat hcv)) λv G4 s4 q4=>?_;have YN:=s4 _ _ (Y _ _ hy);have lys:b.length=n:=by rw[<- L.length,T4];lia
  refine⟨b,YN,cU ⋯,⟨_,_,rfl⟩,λx o hx=>?_,b++[v],aF,?_⟩
  ·rw[aR (aN hx hl2)];exact s4 _ _ (ZE _ _ hx)
  ·have g:eI K G4 (upd G4 l (.lst (b++[v]))):=Xb.grow (t:=l) (Xb.upd (WV.refl G4).but) YN aF;rw[Ug,SN I];exact WU.append (WU.mono g _ (s4.W0 (Y.W0 L))) (WU.cons (Dat.mono g _ q4) WU.nil)
 ·have e:n=r.length:=by lia
  subst e;refine .inl ⟨⟨rfl,(J.XR T).Yk⟩,?_⟩;rw[U5 ⋯]at L;exact q l b G (O.free hl2) (O.trans J) hy L
section
end
abbrev iL(h:Heap)(T:Addr)(a b c:Value):Prop:=h.get? T=some {cls:=.type "tuple",data:=.seq #[a,b,c]}
structure Z3(z TI TO i1 i2 i3 l1 l2 l3:Addr):Prop where
 TIz:TI≠z
 TOz:TO≠z
 TITO:TI≠TO
 i12:i1≠i2
 i13:i1≠i3
 i23:i2≠i3
 it:∀i,i=i1\/i=i2\/i=i3->i≠z/\TI≠i/\TO≠i
 ls:∀l,l=l1\/l=l2\/l=l3->l≠z/\l≠TO/\l≠i1/\l≠i2/\l≠i3
section
theorem zE{s:Shared}(e:iL s.heap T a b c)
  (h:∀d,d.get? T=some {cls:=.type "tuple",data:=.seq ((#[a,b,c]:Array Value).setIfInBounds j x)}->Heap.SameBut T s.heap d->Q () {s with heap:=d}) :
  wpAny (model prog w) A (updateSeq T (·.setIfInBounds j x)) Q E s :=
 wpAny_updateSeq e rfl (h _ (by rw[Wc _ e rfl];simp[Obj.mapSeq]) (Heap.SameBut.update ..))
theorem E9{s:Shared}{TI TO:Addr}{zs:Array Value}{Q:qf}(N:IsZip s.heap z TI TO .none)(hI:iL s.heap TI (.ref f) (.ref d) (.ref a))(hO:iL s.heap TO a1 a2 O)
  (h1:s.heap.IsListIter f Y k) (h2:s.heap.IsListIter d H k) (h3:s.heap.IsListIter a I k) (e1:s.heap.IsList Y xs) (e2:s.heap.IsList H ys) (e3:s.heap.IsList I zs) (hx:xs[k]?=some x) (hy:ys[k]?=some y) (hc:zs[k]?=some c) (D:Z3 z TI TO f d a Y H I)
  (q:∀B,IsZip B z TI TO (rawInt s.heap.objs.size)->iL B TO x y c->B.IsListIter f Y (k+1)->B.IsListIter d H (k+1)->B.IsListIter a I (k+1)->B.get? s.heap.objs.size=some {cls:=.type "tuple",data:=.seq #[x,y,c]} ->
   (∀b o,b≠z->b≠TO->b≠f->b≠d->b≠a->s.heap.get? b=some o->B.get? b=some o)->Q (.ref s.heap.objs.size) {s with heap:=B}) :
  wpAny (model prog w) A (Builtin.«zip.__next__» ⟨[.ref z],[]⟩) (λfin s'=>∃v,fin=.done (.ret v)/\Q v s') E s:=by
 obtain⟨J,nI1,j⟩:=D.it f (.inl rfl);obtain⟨L,nI2,l⟩:=D.it d (.inr (.inl rfl));obtain⟨M,nI3,p⟩:=D.it a (.inr (.inr rfl));obtain⟨m1z,m1O,m11,m12,m13⟩:=D.ls Y (.inl rfl);obtain⟨m2z,m2O,m21,m22,m23⟩:=D.ls H (.inr (.inl rfl));obtain⟨m3z,m3O,m31,m32,m33⟩:=D.ls I (.inr (.inr rfl));show wpAny _ _ (field (.ref z) 2 >>= _) _ _ _;refine SO (Ul N rfl rfl ?_);show wpAny _ _ (field (.ref z) 3 >>= _) _ _ _;refine SO (Ul N rfl rfl ?_);refine SO (UB hI rfl ?_);refine SO (SO (Ul N rfl rfl (Tc ?_)));refine SO (Wh ?_);refine SO (Ul N rfl rfl ?_);refine SO (Ui N (by simp) λha za r=>?_)
 replace za:IsZip ha z TI TO .ellipsis:=za
 rw[show(#[Value.ref f,Value.ref d,Value.ref a]:Array Value).toList.zipIdx=[(.ref f,0),(.ref d,1),(.ref a,2)] from rfl,UX];have oa:iL ha TO a1 a2 O:=(r.2 TO D.TOz).trans hO;refine SO (SO (SO (Vp (SO (Vs (s:={s with heap:=ha}) (h1.at λo e=>(r.2 f J).trans e) (e1.extBut r.extBut m1z) hx λhb p1 h=>Tc ?_)))))
 replace h:Heap.SameBut f ha hb:=h
 have ob:iL hb TO a1 a2 O:=(h.2 TO j).trans oa;refine SO (UB (s:={s with heap:=hb}) ob rfl ?_);refine SO (zE (s:={s with heap:=hb}) ob λT od i=>?_)
 replace i:Heap.SameBut TO hb T:=i
 replace od:iL T TO x a2 O:=od
 refine SO (Wt (Tc ?_));show wpAny _ _ (forIn [(Value.ref d,1),(Value.ref a,2)] _ _) _ _ _;rw[UX];have g2:T.IsListIter d H k:=h2.at λo e=>(i.2 d (Tf l)).trans ((h.2 d (Tf D.i12)).trans ((r.2 d L).trans e));have f2:T.IsList H ys:=((e2.extBut r.extBut m2z).extBut h.extBut m21).extBut i.extBut m2O;refine SO (SO (Vp (SO (Vs (s:={s with heap:=T}) g2 f2 hy λhe p2 t=>Tc ?_))))
 replace t:Heap.SameBut d T he:=t
 have oe:iL he TO x a2 O:=(t.2 TO l).trans od;refine SO (UB (s:={s with heap:=he}) oe rfl ?_);refine SO (zE (s:={s with heap:=he}) oe λU of u=>?_)
 replace u:Heap.SameBut TO he U:=u
 replace of:iL U TO x y O:=of
 refine SO (Wt (Tc ?_));show wpAny _ _ (forIn [(Value.ref a,2)] _ _) _ _ _;rw[UX];have g3:U.IsListIter a I k:=h3.at λo e=>(u.2 a (Tf p)).trans ((t.2 a (Tf D.i23)).trans ((i.2 a (Tf p)).trans ((h.2 a (Tf D.i13)).trans ((r.2 a M).trans e))));have f3:U.IsList I zs:=((((e3.extBut r.extBut m3z).extBut h.extBut m31).extBut i.extBut m3O).extBut t.extBut m32).extBut u.extBut m3O;refine SO (SO (Vp (SO (Vs (s:={s with heap:=U}) g3 f3 hc λhg p3 C=>Tc ?_))))
 replace C:Heap.SameBut a U hg:=C
 have og:iL hg TO x y O:=(C.2 TO p).trans of;refine SO (UB (s:={s with heap:=hg}) og rfl ?_);refine SO (zE (s:={s with heap:=hg}) og λg oh G=>?_)
 replace G:Heap.SameBut TO hg g:=G
 replace oh:iL g TO x y c:=oh
 refine SO (Wt (Tc ?_));show wpAny _ _ (forIn [] _ _) _ _ _;rw[List.forIn_nil];refine Tc ?_;show wpAny _ _ (seqItems? (.ref TO) >>= _) _ _ _;refine SO (UB (s:={s with heap:=g}) oh rfl ?_);refine SO (wpAny_newTuple ?_);have szh:g.objs.size=s.heap.objs.size:=by rw[G.1,C.1,u.1,t.1,i.1,h.1,r.1]
 have all:∀b,b≠z->b≠TO->b≠f->b≠d->b≠a->g.get? b=s.heap.get? b:=λb n1 n2 n3 n4 n5=>(G.2 b n2).trans ((C.2 b n5).trans ((u.2 b n2).trans ((t.2 b n4).trans ((i.2 b n2).trans ((h.2 b n3).trans (r.2 b n1))))));have zh:IsZip g z TI TO .ellipsis:=(G.2 z (Tf D.TOz)).trans ((C.2 z (Tf M)).trans ((u.2 z (Tf D.TOz)).trans ((t.2 z (Tf L)).trans ((i.2 z (Tf D.TOz)).trans ((h.2 z (Tf J)).trans za)))));have q1:g.IsListIter f Y (k+1):=p1.at λo e=>(G.2 f (Tf j)).trans ((C.2 f D.i13).trans ((u.2 f (Tf j)).trans ((t.2 f D.i12).trans ((i.2 f (Tf j)).trans e))));have q2:g.IsListIter d H (k+1):=p2.at λo e=>(G.2 d (Tf l)).trans ((C.2 d D.i23).trans ((u.2 d (Tf l)).trans e));have q3:g.IsListIter a I (k+1):=p3.at λo e=>(G.2 a (Tf p)).trans e;have lz:z<s.heap.objs.size:=Te N;have push:∀b o,g.get? b=some o->(g.push {cls:=.type "tuple",data:=.seq #[x,y,c]}).get? b=some o:=λb o e=>SQ _ e;have tf:(g.push {cls:=.type "tuple",data:=.seq #[x,y,c]}).get? s.heap.objs.size=some {cls:=.type "tuple",data:=.seq #[x,y,c]}:=T3 szh.symm rfl;have zf:IsZip (g.push {cls:=.type "tuple",data:=.seq #[x,y,c]}) z TI TO .ellipsis:=push _ _ zh;generalize g.push {cls:=.type "tuple",data:=.seq #[x,y,c]}=hp at push tf zf;show wpAny _ _ (Builtin.SmallTypes.ownedTupleHandOut (.ref z) (.ref g.objs.size) >>= _) _ _ _;rw[szh];refine SO (SO (Ui (s:={s with heap:=hp}) zf (by simp) λhq zq sq=>Ui (s:={s with heap:=hq}) zq (by simp) λhr zr sr=>Tc ⟨_,rfl,?_⟩))
 replace sq:Heap.SameBut z hp hq:=sq
 replace sr:Heap.SameBut z hq hr:=sr
 have on:∀b o,b≠z->hp.get? b=some o->hr.get? b=some o:=λb o n e=>(sr.2 b n).trans ((sq.2 b n).trans e);exact q hr zr (on _ _ D.TOz (push _ _ oh)) (q1.at λo e=>on _ _ J (push _ _ e)) (q2.at λo e=>on _ _ L (push _ _ e)) (q3.at λo e=>on _ _ M (push _ _ e)) (on _ _ (Ur lz) tf) λb o n1 n2 n3 n4 n5 e=>on b o n1 (push b o ((all b n1 n2 n3 n4 n5).trans e))
theorem E8{A:Around}{s:Shared}{TI TO:Addr}(I:A.handled=none)(d:IsZip s.heap z TI TO .none)(J:iL s.heap TI (.ref a) (.ref i) (.ref j))(hO:iL s.heap TO a1 a2 a3)(L:s.heap.IsListIter a l k)
  (M:s.heap.IsList l N) (O:N[k]?=none) (D:Z3 z TI TO a i j l l2 l3)
  (q:∀n e,(∀b o,b≠z->b≠a->s.heap.get? b=some o->n.get? b=some o)->(∃o,n.get? e=some o/\o.cls=.type "StopIteration")->E (.ref e) {s with heap:=n}):wpAny (model prog w) A (Builtin.«zip.__next__» ⟨[.ref z],[]⟩) Q E s:=by
 obtain⟨f,T,U⟩:=D.it a (.inl rfl);obtain⟨p,Y,m11,m12,m13⟩:=D.ls l (.inl rfl);show wpAny _ _ (field (.ref z) 2 >>= _) _ _ _;refine SO (Ul d rfl rfl ?_);show wpAny _ _ (field (.ref z) 3 >>= _) _ _ _;refine SO (Ul d rfl rfl ?_);refine SO (UB J rfl ?_);refine SO (SO (Ul d rfl rfl (Tc ?_)));refine SO (Wh ?_);refine SO (Ul d rfl rfl ?_);refine SO (Ui d (by simp) λr t u=>?_)
 replace t:IsZip r z TI TO .ellipsis:=t
 rw[show(#[Value.ref a,Value.ref i,Value.ref j]:Array Value).toList.zipIdx=[(.ref a,0),(.ref i,1),(.ref j,2)] from rfl,UX];refine SO (SO (SO (Vp (SO (wpAny_nextOf_list_end (s:={s with heap:=r}) I (L.at λo e=>(u.2 a f).trans e) (M.extBut u.extBut p) O λv e h he=>?_)))))
 replace h:Heap.ExtBut a r v:=h
 have C:IsZip v z TI TO .ellipsis:=h z _ (Tf f) t;obtain⟨oe,c,g⟩:=he;have x:e≠z:=λy=>by rw[y,C]at c;cases c;simp at g
 refine Ui (s:={s with heap:=v}) C (by simp) λhc zc G=>q hc e (λb o H n2 B=>?_) ⟨oe,(G.2 e x).trans c,g⟩;exact(G.2 b H).trans (h b o n2 ((u.2 b H).trans B))
end
set_option maxHeartbeats 8000000 in
theorem Ik(c d f:Addr)(r t zs:Array Value) :
  Meets (Builtin.«zip.__new__» ⟨[.type "zip",.ref c,.ref d,.ref f],[]⟩) (λ_ R s=>s.heap.IsList c r/\s.heap.IsList d t/\s.heap.IsList f zs /\
   ∀a,IsZip a (s.heap.objs.size+5) (s.heap.objs.size+3) (s.heap.objs.size+4) .none->iL a (s.heap.objs.size+3) (.ref s.heap.objs.size) (.ref (s.heap.objs.size+1)) (.ref (s.heap.objs.size+2))->iL a (s.heap.objs.size+4) .none .none .none ->
    a.IsListIter s.heap.objs.size c 0->a.IsListIter (s.heap.objs.size+1) d 0->a.IsListIter (s.heap.objs.size+2) f 0->(∀b o,s.heap.get? b=some o->a.get? b=some o)->R (.ok (.ret (.ref (s.heap.objs.size+5)))) {s with heap:=a}) :=
 .of_wp λ_ _ _ _ s q=>by
  obtain⟨g,i,j,l,n⟩:=s;obtain⟨u,v,w,q⟩:=q;have p:=sub_zip;have x:Heap.IsList (Shared.heap ⟨g,i,j,l,n⟩) c r:=u;have y:Heap.IsList (Shared.heap ⟨g.push (BK c),i,j,l,n⟩) d t:=V5 v _;have z:Heap.IsList (Shared.heap ⟨(g.push (BK c)).push (BK d),i,j,l,n⟩) f zs:=V5 (V5 w _) _
  wp_walk using Uv x,Uv y,Uv z
  refine⟨_,rfl,?_⟩;simp only[T7];have P:∀{h:Heap}{b:Addr}{o A:Obj},h.get? b=some o->(h.push A).get? b=some o:=λe=>SQ _ e;refine q _ ?_ ?_ ?_ ?_ ?_ ?_ λb o e=>?_
  ·exact T3 (by simp[T7]) rfl
  ·exact P (P (T3 (by simp[T7]) rfl))
  ·exact P (T3 (by simp[T7]) rfl)
  ·exact⟨_,P (P (P (P (P (T3 (by simp[T7]) rfl))))),rfl,rfl⟩
  ·exact⟨_,P (P (P (P (T3 (by simp[T7]) rfl)))),rfl,rfl⟩
  ·exact⟨_,P (P (P (T3 (by simp[T7]) rfl))),rfl,rfl⟩
  ·exact P (P (P (P (P (P e)))))
theorem E7(a b c:Value):checkTypeCall "zip" ⟨[a,b,c],[]⟩=pure ():=by kernel_rfl
theorem GF(a b c:Value):checkBuiltinCall "zip.__new__" ⟨[.type "zip",a,b,c],[]⟩=pure ():=by kernel_rfl
theorem MV(a b c d:Value):argsOk "object.__init__" ⟨[a,b,c,d],[]⟩:=by unfold argsOk;rw[signature?_of (n:="__tini__".toList) (o:="tcejbo".toList) (by kernel_rfl) F.owner_object];kernel_rfl
theorem D7{s:Shared}(f:s.heap.IsList c g)(h:s.heap.IsList d i)(j:s.heap.IsList e zs)
  (q:∀a,IsZip a (s.heap.objs.size+5) (s.heap.objs.size+3) (s.heap.objs.size+4) .none->iL a (s.heap.objs.size+3) (.ref s.heap.objs.size) (.ref (s.heap.objs.size+1)) (.ref (s.heap.objs.size+2))->iL a (s.heap.objs.size+4) .none .none .none ->
   a.IsListIter s.heap.objs.size c 0->a.IsListIter (s.heap.objs.size+1) d 0->a.IsListIter (s.heap.objs.size+2) e 0->(∀b o,s.heap.get? b=some o->a.get? b=some o)->Q (.ref (s.heap.objs.size+5)) {s with heap:=a}) :
  wpAny (model prog w) A (call (.type "zip") [.ref c,.ref d,.ref e]) Q E s :=
 WR F.called_zip ⋯ (E7 _ _ _) (GF _ _ _) (λo=>MV o _ _ _) F.entry_zip_new (Ik c d e g i zs) ⟨f,h,j,λa z1 z2 z3 l n p r=>⟨⟨_,z1,rfl⟩,q a z1 z2 z3 l n p r⟩⟩
noncomputable def It3(K:qs)(a b c:Addr)(d e zs:List V):It:=⟨λi H=>i<d.length/\i<e.length/\i<zs.length/\W2 K H a d/\W2 K H b e/\W2 K H c zs,λi H x f=>∃p u v y,H p=none/\x=.ref p/\d[i]?=some u/\e[i]?=some v/\zs[i]?=some y/\f=upd H p (.tup [u,v,y]),λi H=>i=d.length/\W2 K H a d⟩
theorem E6{c1}(a b c z TI TO l p r:Addr)(G J zs:List V)(D:Z3 z TI TO l p r a b c):pj P w K (.Tuple elts c1 ps) (It3 K a b c G J zs) [z,TI,TO,l,p,r] z
  (λi h=>∃d e f,IsZip h z TI TO .none/\iL h TI (.ref l) (.ref p) (.ref r)/\iL h TO d e f/\h.IsListIter l a i/\h.IsListIter p b i/\h.IsListIter r c i) where
 mem:=by simp
 obj:=λi h ⟨d,e,f,j,t,B,C,L,M⟩ b g=>by
  simp only[S0,Ti,T9]at g;rcases g with rfl|rfl|rfl|rfl|rfl|rfl
  ·exact⟨_,j,λv e=>by cases e⟩
  ·exact⟨_,t,λv e=>by cases e⟩
  ·exact⟨_,B,λv e=>by cases e⟩
  ·obtain⟨o,e,c,d⟩:=C;exact⟨o,e,λv z=>by rw[d]at z;cases z⟩
  ·obtain⟨o,e,c,d⟩:=L;exact⟨o,e,λv z=>by rw[d]at z;cases z⟩
  ·obtain⟨o,e,c,d⟩:=M;exact⟨o,e,λv z=>by rw[d]at z;cases z⟩
 keep:=λi h N ⟨d,e,f,j,t,B,C,L,M⟩ k=>⟨d,e,f,k z (by simp) _ j,k TI (by simp) _ t,k TO (by simp) _ B,C.at λo e=>k l (by simp) o e,L.at λo e=>k p (by simp) o e,M.at λo e=>k r (by simp) o e⟩
 item:=by
  intro X hP O hK hc i n s σ H E I hf st hg;subst hP O hK;obtain⟨d,e,f,j,t,B,C,L,M⟩:=st;obtain⟨hi,hj,hk,ha,g,hcl⟩:=hg;obtain⟨us,ru,pu,_⟩:=I.list ha;obtain⟨vs,rv,pv,_⟩:=I.list g;obtain⟨ws,rw',pw,_⟩:=I.list hcl;have hx:G[i]?=some G[i]:=SN hi;have hy:J[i]?=some J[i]:=SN hj;have hz:zs[i]?=some zs[i]:=SN hk;obtain⟨u,hu,r1⟩:=ru.get hx;obtain⟨v,hv,r2⟩:=rv.get hy;obtain⟨y,O,r3⟩:=rw'.get hz;have U:s.TypeIs (.ref z) "zip":=⟨_,j,rfl⟩
  obtain⟨n1z,nI1,nO1⟩:=D.it l (.inl rfl);obtain⟨n2z,nI2,nO2⟩:=D.it p (.inr (.inl rfl));obtain⟨n3z,nI3,nO3⟩:=D.it r (.inr (.inr rfl));unfold pyNext;refine SO (Vq (Uo (name:=Str.ofString "__next__") U UY (Uy UY U V6 ?_ (VX _))));refine E9 (x:=u) (y:=v) (c:=y) j t B C L M (show s.heap.IsList a us.toArray from pu.isList) (show s.heap.IsList b vs.toArray from pv.isList) (show s.heap.IsList c ws.toArray from pw.isList) (by simpa using hu) (by simpa using hv) (by simpa using O) D λN w1 w2 w3 w4 w5 w6 w7=>Tc ⟨_,rfl,?_⟩;refine wpAny_letOwnedTupleGo_zip (s:={s with heap:=N}) w1 λh2 e2 same=>?_
  replace same:Heap.SameBut z N h2:=same
  have lz:z<s.heap.objs.size:=Te j;have lTI:TI<s.heap.objs.size:=Te t;have lTO:TO<s.heap.objs.size:=Te B;have l1:l<s.heap.objs.size:=by obtain⟨o,e,_⟩:=C;exact Te e
  have l2:p<s.heap.objs.size:=by obtain⟨o,e,_⟩:=L;exact Te e
  have l3:r<s.heap.objs.size:=by obtain⟨o,e,_⟩:=M;exact Te e
  have low:∀b∈[z,TI,TO,l,p,r],b<s.heap.objs.size:=λb g=>by simp only[S0,Ti,T9]at g;rcases g with rfl|rfl|rfl|rfl|rfl|rfl<;>assumption
  have Y:h2.get? s.heap.objs.size=some {cls:=.type "tuple",data:=.seq #[u,v,y]}:=(same.2 _ (Ur lz)).trans w6
  have I1:Inv X n σ (upd H s.heap.objs.size (.tup [G[i],J[i],zs[i]])) {s with heap:=s.heap.push {cls:=.type "tuple",data:=.seq #[u,v,y]},toks:=s.toks} :=
   I.laid (o:=.tup [G[i],J[i],zs[i]]) (λb ob q=>SQ _ q) (SY _) ⟨by rw[Vi];simp,[u,v,y],.cons r1 (.cons r2 (.cons r3 .nil)),Wb _ _⟩
  have frees:∀b,b<s.heap.objs.size->upd H s.heap.objs.size (.tup [G[i],J[i],zs[i]]) b=H b:=λb g=>aR (Tw g)
  have I2:Inv X n σ (upd H s.heap.objs.size (.tup [G[i],J[i],zs[i]])) {s with heap:=h2,toks:=s.toks}:=by
   refine Inv.Yr (s:={s with heap:=s.heap.push {cls:=.type "tuple",data:=.seq #[u,v,y]},toks:=s.toks}) (h':=h2) (its:=[z,TI,TO,l,p,r]) (t':=s.toks) I1 (λb o g q=>?_) (λb g=>?_)
   ·simp only[S0,Ti,T9,not_or]at g;obtain⟨n1,n2,n3,n4,n5,n6⟩:=g;by_cases hbs:b=s.heap.objs.size
    ·subst hbs;have q':(s.heap.push {cls:=.type "tuple",data:=.seq #[u,v,y]}).get? s.heap.objs.size=some o:=q;rw[T3 rfl rfl]at q';cases q';exact Y
    ·have q':s.heap.get? b=some o:=(WJ _ _ _ hbs).symm.trans q;exact(same.2 b n1).trans (w7 b o n1 n3 n4 n5 n6 q')
   ·obtain⟨f0,f1,f2,f3,f4,f5⟩:=hf b g;exact⟨by rw[frees b (low b g)];exact f0,f1,f3,f4,f5⟩
  refine⟨.ref s.heap.objs.size,_,I2,rfl,⟨_,_,_,_,I.hok.fresh (SY _),rfl,hx,hy,hz,rfl⟩,⟨u,v,y,e2,?_,?_,?_,?_,?_⟩,λb g=>?_⟩
  ·exact(same.2 TI D.TIz).trans (w7 TI _ D.TIz D.TITO nI1 nI2 nI3 t)
  ·exact(same.2 TO D.TOz).trans w2
  ·exact w3.at λo e=>(same.2 l n1z).trans e
  ·exact w4.at λo e=>(same.2 p n2z).trans e
  ·exact w5.at λo e=>(same.2 r n3z).trans e
  ·rw[frees b (low b g)];exact(hf b g).1
 done:=by
  intro X hP O hK hc i n s σ H E I hf st hg;subst hP O hK;obtain⟨d,e,f,j,t,B,C,L,M⟩:=st;obtain⟨hi,ha⟩:=hg;obtain⟨us,ru,pu,_⟩:=I.list ha;have lr:=ru.length;have U:s.TypeIs (.ref z) "zip":=⟨_,j,rfl⟩
  unfold pyNext;refine SO (Vq (Uo (name:=Str.ofString "__next__") U UY (Uy UY U V6 ?_ (VX _))));refine E8 (I.ok.hd hc) j t B C (show s.heap.IsList a us.toArray from pu.isList) (by simp;lia) D λN e kk ⟨o,ho,hco⟩=>?_;refine SO (wpAny_isInstance (T:="StopIteration") (b:=true) ⟨o,ho,hco⟩ isSubtype_stop (Tc ⟨rfl,?_⟩));refine Inv.Yr (s:=s) (h':=N) (its:=[z,l]) (t':=s.toks) I (λb o g q=>kk b o (λy=>g (by simp[y])) (λy=>g (by simp[y])) q) (λb g=>?_)
  obtain⟨f0,f1,f2,f3,f4,f5⟩:=hf b (by
   simp only[S0,Ti,T9]at g;rcases g with rfl|rfl<;>simp)
  exact⟨f0,f1,f3,f4,f5⟩
 self:=λA i s Q E ⟨_,_,_,j,_⟩ q=>V7 j q
noncomputable def MU(K:qs)(g:TA):TI:=λh H R=>g h H λi d=>∃a b c e f zs,i=[.ref a,.ref b,.ref c]/\W2 K d a e/\W2 K d b f/\W2 K d c zs/\R (It3 K a b c e f zs) d
theorem JD{M}(N:Gl X "zip")(O:X.mg "zip"=none)(Q:PA X [a,b,c] T)(U:starEach [a,b,c] X.env=(false,eval a X.env)::starEach [b,c] X.env:=by rfl)(r:(backTo g (starEach [b,c] X.env)).any (·.1)=false:=by rfl) :
  PI X (.Tuple C M ps) (.Call (.Name "zip" p) [a,b,c] [] g) (MU X.K T):=by
 intro j s Y H R I h;refine Call_ (lF I N O FG (Uq (W9 (Q g j s Y H _ I h) λus d ⟨vs,H1,f,r1,q1⟩=>?_) U r));obtain⟨t,u,v,xs,ys,zs,ev,w,x,y,q⟩:=q1;subst ev
 cases r1 with
 |cons e1 rt =>
 cases rt with
 |cons e2 rt =>
  obtain⟨u3,rfl,e3⟩:=i6 rt;cases e1;cases e2;cases e3;obtain⟨us,ru,E,_⟩:=f.list w;obtain⟨vs,rv,pv,_⟩:=f.list x;obtain⟨ws,rw',G,_⟩:=f.list y;have z:t<d.heap.objs.size:=by obtain⟨o,e,_⟩:=E.isList;exact Te e
  have A:u<d.heap.objs.size:=by obtain⟨o,e,_⟩:=pv.isList;exact Te e
  have B:v<d.heap.objs.size:=by obtain⟨o,e,_⟩:=G.isList;exact Te e
  refine D7 E.isList pv.isList G.isList λh' z1 z2 z3 z4 z5 z6 kk=>?_;refine V7 (s:={d with heap:=h'}) z1 ?_;generalize hn:d.heap.objs.size=n at *;have lo:∀{l:Nat},l<n->l≠n+5/\l≠n+4/\l≠n/\l≠n+1/\l≠n+2:=λh=>⟨⋯,⋯,⋯,⋯,⋯⟩
  have ap:Z3 (n+5) (n+3) (n+4) n (n+1) (n+2) t u v :=
   ⟨Tw ⋯,Tw ⋯,Tw ⋯,Tw ⋯,Tw ⋯,Tw ⋯,λi h=>by rcases h with rfl|rfl|rfl<;>exact⟨Tw ⋯,Ur ⋯,Ur ⋯⟩,λl h=>by rcases h with rfl|rfl|rfl;exact lo z;exact lo A;exact lo B⟩
  refine⟨n+5,[n+5,n+3,n+4,n,n+1,n+2],_,_,H1,rfl,f.kept (t':=d.toks) kk,E6 t u v _ _ _ _ _ _ xs ys zs ap,⟨.none,.none,.none,z1,z2,z3,z4,z5,z6⟩,λb J=>?_,q⟩
  have L:d.heap.objs.size<=b:=by
   simp only[S0,Ti,T9]at J;rw[hn];rcases J with rfl|rfl|rfl|rfl|rfl|rfl
   ·exact UG _ _
   ·exact UG _ _
   ·exact UG _ _
   ·exact SY _
   ·exact UG _ _
   ·exact UG _ _
  exact f.YL L (f.hok.fresh L)
end L2
namespace L2
open PySem PySem.Spec PyProof.Rows
section
noncomputable def B7(K:qs)(b:Bool):R2:=λx y H Q=>∃l c a d,y=.ref l/\W2 K H l c/\WU K H a c/\Dat K H d x/\Xe a=true/\XC d=true/\WZ a<=20/\Q (.bl (if b then !(a.any λe=>W6 e d)else a.any λe=>W6 e d)) H
theorem Aj{X:Cx}{k:Nat}(T:Xm k X.A){o:qe}{U:St}{H:Hp}{s:Shared}{x:V}{u:Value}{l:Addr}{C:List V}{j:List D}{d:D}(I:Inv X o U H s)(Y:RelV x u)(hq:W2 X.K H l C)(p:WU X.K H j C)(hd:Dat X.K H d x)(E:Xe j=true)(n2:XC d=true)(dp:WZ j<=20) :
  ∃(a:zl)(h:Value->Bool),s.heap.IsList l a.toArray/\(∀w∈a.toArray,SeqAt.EqAt X.A.in1 s w u (h w))/\a.toArray.any h=j.any λe=>W6 e d:=by
 obtain⟨a,r,pl,hz⟩:=I.list hq;have hl:=r.length;have ll:=p.length
 have item:∀(m:Nat)(w:Value),a[m]?=some w->∃g,j[m]?=some g/\∃q,RelV q w/\Dat X.K H g q:=λm w b=>by have N:m<a.length:=(S6.mp b).1;obtain⟨g,c,dg⟩:=p.XI (i:=m) (v:=C[m]'(by lia)) (SN ⋯);obtain⟨w',t,rr⟩:=r.get (i:=m) (x:=C[m]'(by lia)) (SN ⋯);rw[b]at t;cases t;exact⟨g,c,_,rr,dg⟩
 have ZO:∀{G J:V}{w:Value},RelV G w->RelV J w->G=J:=λ{G J w} h1 h2=>RelV.inj h1 h2
 classical
 let h:Value->Bool:=λw=>if b:∃m:Nat,a[m]?=some w then (match j[Classical.choose b]? with|some g=>W6 g d|none=>false)else false
 have O:∀(m:Nat)(w:Value)(g:D),a[m]?=some w->j[m]?=some g->h w=W6 g d:=λm w g b c=>by
  have t:∃m:Nat,a[m]?=some w:=⟨m,b⟩
  show(if b:∃m:Nat,a[m]?=some w then _ else false)=_;rw[dif_pos t];have hc:=Wd t;obtain⟨g',y,xv',L,M⟩:=item _ w hc;obtain⟨g2,z,q,r2,d2⟩:=item m w b;rw[c]at z;cases z;rw[y];have ex:=ZO L r2;subst ex;have:=oA I g' g (gE E y) M d2 (gE E c);rw[this]
 have hu:X.A.in1.units+20+1<cLine:=by have:=T.un;show X.A.units+1+20+1<cLine;lia
 refine⟨a,h,pl.isList,λw b=>?_,?_⟩
 ·obtain⟨m,N,rfl⟩:=Wn b;have n:m<a.length:=by simpa using N
  have B:a[m]?=some (a[m]'n):=SN n;obtain⟨g,c,q,L,M⟩:=item m _ B;have z1:a.toArray[m]=a[m]'n:=by simp
  rw[z1,O m _ g B c];exact sI I 20 X.A.in1 g d q x _ u hu (Tz (j4 c) dp) (gE E c) n2 M hd L Y
 ·rw[show a.toArray.any h=a.any h by simp]
  have em:a.map h=j.map λe=>W6 e d:=by
   apply VW;intro m;rw[SR,SR]
   cases b:a[m]? with
   |none =>have:a.length<=m:=VL.mp b;rw[UC ⋯];rfl
   |some w =>obtain⟨g,c,_⟩:=item m w b;rw[c];show some (h w)=some (W6 g d);rw[O m w g b c]
  have Q:∀{α:Type}(f:α->Bool)(l:List α),l.any f=(l.map f).any id:=λf l=>by rw[Vy];rfl
  rw[Q h a,em,<- Q]
theorem GT{X:Cx}(c:Xm k X.A):XG X (compareOp .In) (B7 X.K false):=by intro b s B H x y v u Q I e f h;obtain⟨l,C,E,d,rfl,g,a,i,j,n,o,q⟩:=h;cases f;obtain⟨p,r,t,w,z⟩:=Aj c I e g a i j n o;exact SeqAt.in_listAt r t w ⟨.bl _,H,I,rfl,by rw[z];exact q⟩
theorem pS{X:Cx}(c:Xm k X.A):XG X (compareOp .NotIn) (B7 X.K true):=by intro b s B H x y v u Q I e f h;obtain⟨l,C,E,d,rfl,g,a,i,j,n,o,q⟩:=h;cases f;obtain⟨p,r,t,w,z⟩:=Aj c I e g a i j n o;exact SeqAt.notIn_listAt r t w ⟨.bl _,H,I,rfl,by rw[z];exact q⟩
theorem pX{K:qs}(h:RE K i c H d)(j:RL K l c H b)(n:Xe b=true)(o:XC d=true)(p:WZ b<=20):RE K (XT (B7 K neg) i l) c H (.bl (if neg then !(b.any λe=>W6 e d)else b.any λe=>W6 e d)):=λr s Q q =>
 h r s _ λv t f u=>j t (s.trans f) _ λw B g x=>by obtain⟨a,y,rfl,z,A⟩:=x;exact⟨a,y,b,d,rfl,z.Yk,A,g.dat u,n,o,p,q _ _ (f.trans g) (Dat.X3 _)⟩
end
theorem F6{K:PySem.W.Frag}{a b c:Addr}{xs ys zs:List V}{g:TG}{o:TS}{D:jF}{d:St}{H:Hp}(Pv:Nat->St->Hp->Prop)(O:xs.length=ys.length)(t:xs.length=zs.length)(w:Pv 0 d H)(z:∀i d H,i<=xs.length->Pv i d H->W2 K H a xs/\W2 K H b ys/\W2 K H c zs)
  (A:∀i u v y p d H,xs[i]?=some u->ys[i]?=some v->zs[i]?=some y->H p=none->Pv i d H->g (.ref p) d (upd H p (.tup [u,v,y])) λf n=>o {D with nx:=Pv (i+1),ct:=Pv (i+1),bk:=D.nx} f n) (B:∀d H,Pv xs.length d H->D.nx d H) :
  ∃W:Nat->Nat->St->Hp->Prop,(∃m,W 0 m d H)/\∀i m d H,W i m d H ->
   ((It3 K a b c xs ys zs).stop i H/\D.nx d H)\/((It3 K a b c xs ys zs).go i H/\∃N:St->Hp->Prop,(∀h j,N h j->∃s,s<m/\W (i+1) s h j)/\∀x j,(It3 K a b c xs ys zs).YZ i H x j->g x d j λf n=>o {D with nx:=N,ct:=N,bk:=D.nx} f n):=by
 refine⟨λi m d H=>m=xs.length - i/\i<=xs.length/\Pv i d H,⟨xs.length,by simp,Uk _,w⟩,?_⟩;rintro i m d H ⟨rfl,C,p⟩;have q:=z i d H C p;by_cases l:i<xs.length
 ·refine .inr ⟨⟨l,⋯,⋯,q.1,q.2.1,q.2.2⟩,Pv (i+1),λh j E=>⟨xs.length - (i+1),⋯,rfl,l,E⟩,λx j G=>?_⟩;obtain⟨r,u,v,y,I,rfl,J,L,M,rfl⟩:=G;exact A i u v y r d H J L M I p
 ·have e:i=xs.length:=by lia
  subst e;exact .inl ⟨⟨rfl,q.1⟩,B d H p⟩
end L2
namespace L2
open PySem PySem.Spec PySem.Calls PyProof.Rows
def DB(K:qs):V->List V->Hp->VK->Prop:=λx c H Q=>∃l b y a d,x=.ref l/\c=[y]/\XR K H l b/\WU K H a b/\Dat K H d y/\Xe a=true/\XC d=true/\WZ a<=20/\Q (.int (a.countP (W6 · d):Nat)) H
section
theorem wD{X:Cx}(hr:Xm k X.A):MtM X "list.count" (DB X.K):=by
 intro O s σ H x vs v us Q I rx rv h;obtain⟨l,T,y,o,d,rfl,rfl,hH,p,hd,L,n2,dp,q⟩:=h;cases rx;obtain⟨u,rfl,ru⟩:=i6 rv;obtain⟨a,n,r,e⟩:=hH.at I;have hl:=r.length;have ll:=p.length
 have item:∀(m:Nat)(w:Value),a[m]?=some w->∃g,o[m]?=some g/\∃t,RelV t w/\Dat X.K H g t:=λm w b=>by have U:m<a.length:=(S6.mp b).1;obtain⟨g,c,dg⟩:=p.XI (i:=m) (v:=T[m]'(by lia)) (SN ⋯);obtain⟨w',B,rr⟩:=r.get (i:=m) (x:=T[m]'(by lia)) (SN ⋯);rw[b]at B;cases B;exact⟨g,c,_,rr,dg⟩
 classical
 let C:Value->Bool:=λw=>if b:∃m:Nat,a[m]?=some w then (match o[Classical.choose b]? with|some g=>W6 g d|none=>false)else false
 have Y:∀(m:Nat)(w:Value)(g:D),a[m]?=some w->o[m]?=some g->C w=W6 g d:=λm w g b c=>by
  have B:∃m:Nat,a[m]?=some w:=⟨m,b⟩
  show(if b:∃m:Nat,a[m]?=some w then _ else false)=_;rw[dif_pos B];obtain⟨g',E,xv',M,N⟩:=item _ w (Wd B);obtain⟨g2,G,t,r2,d2⟩:=item m w b;rw[c]at G;cases G;rw[E];cases RelV.inj M r2;rw[oA I g' g (gE L E) N d2 (gE L c)]
 have hu:X.A.in1.units+20+1<cLine:=by have:=hr.un;show X.A.units+1+20+1<cLine;lia
 have hc:a.countP C=o.countP (W6 · d):=by
  have e1:a.map C=o.map (W6 · d):=VW λm=>by
   rw[SR,SR]
   cases b:a[m]? with
   |none=>rw[UC (by have:=VL.mp b;lia)];rfl
   |some w =>obtain⟨g,c,_⟩:=item m w b;rw[c];exact Tu some (Y m w g b c)
  have z:∀{α:Type}(f:α->Bool)(l:List α),l.countP f=(l.map f).countP id:=λf l=>by rw[List.countP_map];rfl
  rw[z C,e1,<- z]
 refine VT F.slot_list_count ⟨_,e,rfl⟩ F.entry_list_count (F.args_list_count_2 _ _) (SeqAt.list_countAt l a.toArray n none #[] u C) ⟨e,?_,?_⟩
 ·intro w b;obtain⟨m,U,rfl⟩:=Wn b;have j:m<a.length:=by simpa using U
  have J:a[m]?=some (a[m]'j):=SN j;obtain⟨g,c,t,M,N⟩:=item m _ J;have z1:a.toArray[m]=a[m]'j:=by simp
  rw[z1,Y m _ g J c];exact sI I 20 X.A.in1 g d t y _ u hu (Tz (j4 c) dp) (gE L c) n2 N hd M ru
 ·rw[show ∀(x:zl),x.toArray.toList=x from λ_=>rfl,hc];exact⟨.int _,H,I.tok _,⟨_,rfl⟩,q⟩
theorem AW{K:qs}(i:LD K H b v)(h:RE K j f H d)(l:Xe b=true)(n:XC d=true)(o:WZ b<=20)(e:f[k]?=some (some v):=by rfl) :
  RE K (tBM K "list" (DB K) (fR k) (bU j dR)) f H (.int (b.countP (W6 · d):Nat)):=λp s Q q=>by
 obtain⟨a,r,rfl,g,t⟩:=s.ld i;refine⟨_,e,.inl ⟨rfl,_,g.Yk⟩,h p s _ λy w c u=>?_⟩;exact⟨a,r,y,b,d,rfl,rfl,c.XR g,c.W0 t,u,l,n,o,q _ _ c (Dat.WY _)⟩
end
theorem JP{K:qs}{b:L2.St}{mk:L2.St->L2.St}{j n:Nat}(h:RA K M b H [.int n])(hc:n<=1000)(p:Nat->Bool)(f:Nat->D)(N:(mk b).set j none=mk b)
  (c:∀G (i:Nat),WV H G->i<n->RT O ((mk b).set j (some (.int i))) G (p i)/\(p i=true->RE K T ((mk b).set j (some (.int i))) G (f i))):RC K (jC (Gq M) mk (dE j) O T) b H (((List.range n).filter p).map f):=λU s Q q=>by
 refine h U s _ λvs Y z q2=>?_;obtain⟨u,e,hu⟩:=iP q2;have eu:=hu.W4;subst eu e;refine⟨n,rfl,⋯,⋯,?_⟩;rw[UJ];refineλl A=>?_;refine mm (J:=Itr 0 n) (n:=n) (item:=λi=>.int i) (λ_=>True) (λi G o B=>Gf i G B) (λG o=>SY _) N l (λi G=>WV Y G/\∃zs,G l=some (.lst zs)/\WU K G (((List.range i).filter p).map f) zs) ⟨aL A _,[],aF,WU.nil⟩ (λi G _ w=>trivial) (λi G B w=>?_) (λG w=>?_)
 ·obtain⟨d,zs,y,r⟩:=w;obtain⟨t1,t2⟩:=c G i (s.trans (z.trans d)) B
  have lz:zs.length<1000:=by rw[<- r.length,tB];exact U8 (We _ _) (by rw[Vu];lia)
  refine t1.use λG2 a=>?_;rw[Wm,Va,Tj]
  cases C:p i with
  |true =>
   refine lE (((t2 C).mono a).use λE t I q3=>?_);have v:=(a.trans I) _ _ y;have bl:Xb l t (upd t l (.lst (zs++[E]))):=Xb.upd (WV.refl t).but;have g:eI K t (upd t l (.lst (zs++[E]))):=bl.grow v aF;refine⟨zs,v,cU ⋯,⟨_,rfl⟩,λx o L=>?_,zs++[E],aF,?_⟩
   ·rw[aR (aN L A)];exact(a.trans I) _ _ (d _ _ L)
   ·rw[show [i].filter p=[i] by rw[Um,SV C];rfl];exact WU.append (WU.mono g _ ((a.trans I).W0 r)) (WU.cons (Dat.mono g _ q3) WU.nil)
  |false =>refine lD ⟨⟨_,rfl⟩,d.trans a,zs,a _ _ y,?_⟩;rw[show [i].filter p=[] by rw[Um,PC (by rw[C];exact SW)];rfl,UO,To];exact a.W0 r
 ·obtain⟨d,zs,y,r⟩:=w;exact q l zs G (z.free A) (z.trans d) y r
noncomputable abbrev JE:=@Du true true
noncomputable abbrev F7:=@C8 true true
end L2
namespace My
open PySem L2 PyProof.Rows
abbrev TL:List (Str×KTD.Dat):=[("num",.flat (.int 9999)),("arg",.flat (.int 3))]
abbrev TB:List (Str×KTD.Dat):=[("add",.flat (.int 2)),("sub",.flat (.int 2)),("mul",.flat (.int 2)),("less",.flat (.int 2)),("pick",.flat (.int 3))]
abbrev TM:List (Str×KTD.Dat):=[("hole",.flat (.int 2)),("gap",.flat (.int 3)),("slot",.flat (.int 2))]
abbrev TF:List (Str×KTD.Dat):=[("low",.flat (.str "gap")),("high",.flat (.str "gap")),("arg",.flat (.str "slot"))]
abbrev TTO:List (Str×KTD.Dat):=[("load",.flat (.int 3)),("skip",.flat (.int 9)),("zero",.flat (.int 9))]
abbrev AHE:List D:=[.int 10,.int 11]
abbrev BAS:List D:=[.tup [.str "one",.tup [.str "gap",.int 0,.int 99],.tup [.int 1,.tup [.str "low",.int 0]]],.tup [.str "two",.tup [.str "gap",.int 0,.int 9999],.tup [.int 2,.tup [.str "low",.int 0],.tup [.str "high",.int 0]]],.tup [.str "slot",.tup [.str "slot",.int 0],.tup [.int 3,.tup [.str "arg",.int 0]]],.tup [.str "add",.tup [.str "add",.tup [.str "hole",.int 0],.tup [.str "hole",.int 1]],.tup [.int 4]],.tup [.str "sub",.tup [.str "sub",.tup [.str "hole",.int 0],.tup [.str "hole",.int 1]],.tup [.int 5]],.tup [.str "mul",.tup [.str "mul",.tup [.str "hole",.int 0],.tup [.str "hole",.int 1]],.tup [.int 6]],.tup [.str "less",.tup [.str "less",.tup [.str "hole",.int 0],.tup [.str "hole",.int 1]],.tup [.int 7]],.tup [.str "more",.tup [.str "add",.tup [.str "hole",.int 0],.tup [.str "gap",.int 0,.int 99]],.tup [.int 12,.tup [.str "low",.int 0]]]]
abbrev BEH:List D:=[.int 8,.int 9]
abbrev INS:List D:=[.tup [.str "end",.int 0],.tup [.str "put",.int 1],.tup [.str "far",.int 2],.tup [.str "load",.int 1],.tup [.str "add",.int 0],.tup [.str "sub",.int 0],.tup [.str "mul",.int 0],.tup [.str "less",.int 0],.tup [.str "skip",.int 1],.tup [.str "jump",.int 2],.tup [.str "zero",.int 1],.tup [.str "none",.int 2],.tup [.str "more",.int 1],.tup [.str "twice",.int 0],.tup [.str "about",.int 0],.tup [.str "call",.int 2],.tup [.str "back",.int 0]]
abbrev STR:List D:=[.str "put",.str "far",.str "load",.str "add",.str "sub",.str "mul",.str "less",.str "more",.str "twice",.str "about"]
abbrev WAY:List D:=[.str "skip",.str "jump",.str "zero",.str "none",.str "call",.str "back"]
noncomputable def sC(s:Stmt)(j:Nat):Stmt:=match s with
 | .ClassDef _ _ _ b _ _ _ _ _ _ _=>b.getD j (.Pass ⟨0,0,0,0⟩)
 |_=>.Pass ⟨0,0,0,0⟩
noncomputable abbrev um:Stmt:=top 16
theorem Bd:WW ["thing","low","high"] ["thing","low","high"] (aK um):=.Xr
noncomputable abbrev qS:Stmt:=top 17
theorem yW:WW ["thing"] ["thing"] (aK qS):=.Xr
noncomputable abbrev wV:Stmt:=top 26
theorem Cn:WW ["thing","kind"] ["thing"] (aK wV):=.Xr
noncomputable abbrev mQ:Stmt:=top 27
theorem rG:WW ["tree"] ["tree"] (aK mQ):=.Xr
noncomputable abbrev wW:Stmt:=top 28
theorem Co:WW ["thing","waiting","parts","part","deep"] ["thing"] (aK wW):=.Xr
noncomputable abbrev qY:Stmt:=top 29
theorem zj:WW ["tree"] ["tree"] (aK qY):=.Xr
noncomputable abbrev A7:Stmt:=top 31
theorem EO:WW ["tree","parts","within"] ["tree"] (aK A7):=.Xr
noncomputable abbrev wU:Stmt:=top 18
theorem Cm:WW ["thing"] ["thing"] (aK wU):=.Xr
noncomputable abbrev k8:Stmt:=top 43
theorem ky:WW ["cells","place","name","many","behind"] ["cells","place"] (aK k8):=.Xr
noncomputable abbrev wR:Stmt:=top 58
theorem Ck:WW ["thing"] ["thing"] (aK wR):=.Xr
noncomputable abbrev kr:Stmt:=top 59
theorem nW:WW ["thing","deep"] ["thing","deep"] (aK kr):=.Xr
noncomputable abbrev uq:Stmt:=top 60
theorem Bf:WW ["pattern","kind","marks","within"] ["pattern","kind"] (aK uq):=.Xr
noncomputable abbrev kK:Stmt:=top 61
theorem uB:WW ["pattern","kind","numbers"] ["pattern","kind"] (aK kK):=.Xr
noncomputable abbrev oY:Stmt:=top 62
theorem vB:WW ["thing"] ["thing"] (aK oY):=.Xr
noncomputable abbrev oX:Stmt:=top 63
theorem vA:WW ["thing","pattern"] ["thing","pattern"] (aK oX):=.Xr
noncomputable abbrev wO:Stmt:=top 64
theorem Ci:WW ["thing","pattern"] ["thing","pattern"] (aK wO):=.Xr
noncomputable abbrev ki:Stmt:=top 65
theorem nj:WW ["cells","pattern","place","name","behind"] ["cells","pattern"] (aK ki):=.Xr
noncomputable abbrev uk:Stmt:=top 66
theorem Bc:WW ["thing","name","pattern","cells"] ["thing"] (aK uk):=.Xr
noncomputable abbrev A5:Stmt:=top 67
theorem EM:WW ["thing"] ["thing"] (aK A5):=.Xr
noncomputable abbrev ur:Stmt:=top 68
theorem Bg:WW ["some"] ["some"] (aK ur):=.Xr
noncomputable abbrev lX:Stmt:=top 69
theorem qc:WW ["mark","tree"] ["mark","tree"] (aK lX):=.Xr
noncomputable abbrev wX:Stmt:=top 70
theorem Cp:WW ["pattern","tree","found","kind"] ["pattern","tree","found"] (aK wX):=.Xr
noncomputable abbrev uj:Stmt:=top 71
theorem Bb:WW ["piece","tree","found"] ["piece","tree"] (aK uj):=.Xr
noncomputable abbrev nG:Stmt:=top 72
theorem uz:WW ["cell","nums","ks"] ["cell","nums","ks"] (aK nG):=.Xr
noncomputable abbrev qT:Stmt:=top 78
theorem yX:WW ["many","kinds","near","far"] ["many","kinds"] (aK qT):=.Xr
noncomputable abbrev lW:Stmt:=top 79
theorem qb:WW ["second","third","behind","ahead"] ["second","third"] (aK lW):=.Xr
noncomputable abbrev wZ:Stmt:=top 80
theorem Cr:WW ["tree","some","ways","piece","found"] ["tree","some"] (aK wZ):=.Xr
noncomputable abbrev qU:Stmt:=top 81
theorem yZ:WW ["name","cells","lengths","own","ahead","behind"] ["name","cells","lengths"] (aK qU):=.Xr
noncomputable abbrev kj:Stmt:=top 82
theorem rF:WW ["tree","some","done","bests","best","name","cells","trees","within","length"] ["tree","some","done","bests"] (aK kj):=.Xr
noncomputable abbrev lV:Stmt:=top 83
theorem qa:WW ["tree","some","done","bests","part"] ["tree","some"] (aK lV):=.Xr
noncomputable abbrev mP:Stmt:=top 87
theorem yY:WW ["tree","some","cover","places","first","second","third","ahead","behind"] ["tree","some","cover","places"] (aK mP):=.Xr
noncomputable abbrev lO:Stmt:=top 88
theorem vD:WW ["tree","some","cover","places","name","within","piece","holes","nums","ks","cells","hole","inner"] ["tree","some","cover","places"] (aK lO):=.Xr
noncomputable abbrev oZ:Stmt:=top 89
theorem vC:WW ["tree","some","cover","places","place"] ["tree","some","cover","places"] (aK oZ):=.Xr
noncomputable abbrev mN:Stmt:=top 93
theorem yU:WW ["thing","tree","there"] ["thing","tree"] (aK mN):=.Xr
noncomputable abbrev o5:Stmt:=top 94
theorem vE:WW ["parts","tree"] ["parts","tree"] (aK o5):=.Xr
noncomputable abbrev o6:Stmt:=top 95
theorem vF:WW ["tree","parts"] ["tree","parts"] (aK o6):=.Xr
noncomputable abbrev jN:Stmt:=top 96
theorem mR:WW ["tree","parts","within"] ["tree","parts"] (aK jN):=.Xr
noncomputable abbrev mO:Stmt:=top 97
theorem yV:WW ["tree","some","parts","roots","closings","bests","places","place","length","cover","code","root","closing"] ["tree","some","parts"] (aK mO):=.Xr
noncomputable abbrev uo:Stmt:=top 98
theorem Be:WW ["tree","some","parts"] ["tree","some","parts"] (aK uo):=.Xr
noncomputable abbrev qX:Stmt:=top 19
theorem Ys:WW ["size","most"] ["size","most"] (aK qX):=.Xr
noncomputable abbrev qV:Stmt:=top 20
theorem y8:WW ["args","size"] ["args","size"] (aK qV):=.Xr
noncomputable abbrev lY:Stmt:=top 30
theorem qg:WW ["kind","first","second","size"] ["kind","first","second","size"] (aK lY):=.Xr
noncomputable abbrev wQ:Stmt:=top 41
theorem Cj:WW ["thing"] ["thing"] (aK wQ):=.Xr
noncomputable abbrev qW:Stmt:=top 42
theorem zi:WW ["code"] ["code"] (aK qW):=.Xr
noncomputable abbrev nI:Stmt:=top 44
theorem uC:WW ["behind","number","cell"] ["behind"] (aK nI):=.Xr
noncomputable abbrev kh:Stmt:=sC (top 45) 0
theorem ni:WW ["self","cells","given","size","pile"] ["self","cells","given","size","pile"] (aK kh):=.Xr
noncomputable abbrev mK:Stmt:=sC (top 45) 1
theorem rD:WW ["self"] ["self"] (aK mK):=.Xr
noncomputable abbrev mI:Stmt:=sC (top 45) 2
theorem rB:WW ["self","number"] ["self","number"] (aK mI):=.Xr
noncomputable abbrev nC:Stmt:=sC (top 45) 4
theorem uv:WW ["self","name","number","onward"] ["self","name","number","onward"] (aK nC):=.Xr
noncomputable abbrev kZ:Stmt:=sC (top 45) 5
theorem o8:WW ["self"] ["self"] (aK kZ):=.Xr
noncomputable abbrev kY:Stmt:=sC (top 45) 6
theorem o7:WW ["self","name","number","upper","lower"] ["self","name","number"] (aK kY):=.Xr
noncomputable abbrev mJ:Stmt:=sC (top 45) 3
theorem rC:WW ["self","name","behind","number","onward"] ["self"] (aK mJ):=.Xr
noncomputable abbrev wY:Stmt:=top 46
theorem Cq:WW ["code","args","size","steps"] ["code","args","size","steps"] (aK wY):=.Xr
noncomputable abbrev KJ:Stmt:=top 47
theorem Mj:WW ["code","args","size","steps","machine","done"] ["code","args","size","steps"] (aK KJ):=.Xr
noncomputable abbrev A6:Stmt:=top 48
theorem EN:WW ["code","rows","place","name","behind"] ["code"] (aK A6):=.Xr
noncomputable abbrev qN:Stmt:=top 100
theorem yO:WW ["_law_script","_law_town","_law_many","_law_one","_law_at","_law_mixed"] ["_law_script","_law_town","_law_many"] (aK qN):=.Xr
noncomputable abbrev qP:Stmt:=top 101
theorem yR:WW ["_law_script","_law_town","_law_some"] ["_law_script","_law_town","_law_some"] (aK qP):=.Xr
noncomputable abbrev qR:Stmt:=top 102
theorem yT:WW ["_law_script","_law_town","_law_room","_law_leaf","_law_name","_law_many"] ["_law_script","_law_town","_law_room"] (aK qR):=.Xr
noncomputable abbrev qL:Stmt:=top 103
theorem yM:WW ["_law_script","_law_town","_law_base"] ["_law_script","_law_town","_law_base"] (aK qL):=.Xr
noncomputable abbrev qQ:Stmt:=top 104
theorem yS:WW ["_law_script","_law_town"] ["_law_script","_law_town"] (aK qQ):=.Xr
noncomputable abbrev ui:Stmt:=top 105
theorem Ba:WW ["_law_name","_law_one","_law_other","_law_base"] ["_law_name","_law_one","_law_other","_law_base"] (aK ui):=.Xr
noncomputable abbrev oW:Stmt:=top 106
theorem vw:WW ["_law_tree_here","_law_args_here","_law_base"] ["_law_tree_here","_law_args_here","_law_base"] (aK oW):=.Xr
noncomputable abbrev oU:Stmt:=top 107
theorem vq:WW ["_law_first"] [] (aK oU):=.Xr
noncomputable abbrev nD:Stmt:=top 108
theorem uw:WW ["_law_number"] ["_law_number"] (aK nD):=.Xr
noncomputable abbrev qO:Stmt:=top 109
theorem yQ:WW ["_law_name","_law_number","_law_on","_law_pile","_law_ways"] ["_law_name","_law_number","_law_on","_law_pile","_law_ways"] (aK qO):=.Xr
noncomputable abbrev qM:Stmt:=top 110
theorem yN:WW ["_law_name","_law_number","_law_pile","_law_args_here","_law_base","_law_other","_law_one"] ["_law_name","_law_number","_law_pile","_law_args_here","_law_base"] (aK qM):=.Xr
noncomputable abbrev mM:Stmt:=top 112
theorem yP:WW ["_law_code","_law_args_here","_law_base","_law_most","_law_at","_law_ways","_law_pile","_law_did","_law_k","_law_name","_law_many","_law_cells","_law_number","_law_on","_law_now"] ["_law_code","_law_args_here","_law_base","_law_most","_law_at","_law_ways"] (aK mM):=.Xr
noncomputable abbrev uh:Stmt:=top 111
theorem A8:WW ["_law_code","_law_args_here","_law_base","_law_most"] ["_law_code","_law_args_here","_law_base","_law_most"] (aK uh):=.Xr
noncomputable abbrev oV:Stmt:=top 113
theorem vt:WW ["_law_tree_here","_law_made","_law_one"] ["_law_tree_here"] (aK oV):=.Xr
noncomputable abbrev nE:Stmt:=top 114
theorem ux:WW ["_law_hole","_law_other","_law_gap","_law_made"] [] (aK nE):=.Xr
noncomputable abbrev nV:Stmt:=top 115
theorem A9:WW ["_law_script","_law_town","_law_more"] ["_law_script","_law_town"] (aK nV):=.Xr
noncomputable abbrev nF:Stmt:=top 116
theorem uy:WW ["_law_script","_law_town","_law_tree_here","_law_many","_law_some","_law_k","_law_part"] ["_law_script","_law_town","_law_tree_here","_law_many"] (aK nF):=.Xr
noncomputable abbrev lN:Stmt:=top 117
theorem vp:WW ["_law_script","_law_town","_law_four"] ["_law_script","_law_town"] (aK lN):=.Xr
noncomputable abbrev mL:Stmt:=top 118
theorem rE:WW ["_law_script","_law_town","_law_part","_law_other","_law_forms","_law_heavy_here","_law_more"] ["_law_script","_law_town"] (aK mL):=.Xr
noncomputable abbrev HG:Stmt:=top 119
theorem Mi:WW ["_law_script","_law_town","_law_tree_here","_law_some","_law_parts_here","_law_code","_law_rows_now","_law_names_here","_law_starts","_law_k","_law_base","_law_args_here","_law_start","_law_part","_law_came","_law_due"] ["_law_script"] (aK HG):=.Xr
structure Df(K:qs)(mg:zp)(n:Str)(st:Stmt)(ps:vn) where
 a:Addr
 d:FuncData
 f:ZL K n n st a d
 m:mg n=some (.ref a)
 b:Binds K d ps []
abbrev Ok(P:Program)(w:World)(base:Heap)(k:Nat){K:qs}{mg:zp}{n:Str}{st:Stmt}{b:vn}(D:Df K mg n st b)(c:Sp):Prop:=Xj P w K mg base Yg k D.a D.d b c
theorem pc{X:Cx}{st:Stmt}{D:Df X.K X.mg n st j}(F:Xj X.prog X.w X.K X.mg X.base Yg k D.a D.d j l)(o:Xm k X.A)(q:PA X (e::c) t)(r:Gl X n:=by rfl)(g:(n==("__debug__":Str))=false:=by decide)(s:starEach (e::c) X.env=(false,eval e X.env)::starEach c X.env:=by rfl)(h:(backTo i (starEach c X.env)).any (·.1)=false:=by rfl):PE X (.Call (.Name n p) (e::c) [] i) (lg l [] E0 t):=Ds F o r D.m D.f.kp D.b .nil gW q g s h
set_option genInjectivity false in
set_option genSizeOfSpec false in
structure Dfs(K:qs)(mg:zp) where
 NY:Df K mg "is_whole" um ["thing","low","high"]
 Om:Df K mg "is_tagged" qS ["thing"]
 Po:Df K mg "is_node" wV ["thing"]
 N0:Df K mg "trees_within" mQ ["tree"]
 Pp:Df K mg "is_tree" wW ["thing"]
 PN:Df K mg "need_tree" qY ["tree"]
 O2:Df K mg "walked" A7 ["tree"]
 Qh:Df K mg "is_name" wU ["thing"]
 N1:Df K mg "instruction_at" k8 ["cells","place"]
 Qg:Df K mg "is_mark" wR ["thing"]
 N7:Df K mg "is_pattern_part" kr ["thing","deep"]
 Ov:Df K mg "marks_in" uq ["pattern","kind"]
 Pd:Df K mg "is_numbered" kK ["pattern","kind"]
 Pk:Df K mg "is_pattern" oY ["thing"]
 Pj:Df K mg "is_filling" oX ["thing","pattern"]
 Qe:Df K mg "is_cell" wO ["thing","pattern"]
 Ou:Df K mg "are_instructions" ki ["cells","pattern"]
 PY:Df K mg "is_piece" uk ["thing"]
 Qy:Df K mg "is_set" A5 ["thing"]
 P0:Df K mg "need_set" ur ["some"]
 OI:Df K mg "may_stand_for" lX ["mark","tree"]
 OM:Df K mg "matches" wX ["pattern","tree","found"]
 O4:Df K mg "found_in" uj ["piece","tree"]
 Pb:Df K mg "filled_cell" nG ["cell","nums","ks"]
 Pg:Df K mg "jump_over" qT ["many","kinds"]
 Oe:Df K mg "jumps_of_pick" lW ["second","third"]
 Qj:Df K mg "ways_of" wZ ["tree","some"]
 PL:Df K mg "length_by" qU ["name","cells","lengths"]
 O1:Df K mg "best_by_ways" kj ["tree","some","done","bests"]
 OH:Df K mg "best_covering" lV ["tree","some"]
 PJ:Df K mg "laid_pick" mP ["tree","some","cover","places"]
 Pl:Df K mg "laid_piece" lO ["tree","some","cover","places"]
 Oc:Df K mg "laid_cells" oZ ["tree","some","cover","places"]
 PF:Df K mg "are_parts" mN ["thing","tree"]
 Pm:Df K mg "need_parts" o5 ["parts","tree"]
 Ow:Df K mg "with_calls" o6 ["tree","parts"]
 N8:Df K mg "with_calls_within" jN ["tree","parts"]
 PH:Df K mg "code_once" mO ["tree","some","parts"]
 PZ:Df K mg "lay_once" uo ["tree","some","parts"]
 PM:Df K mg "need_args" qV ["args","size"]
 OJ:Df K mg "worth_of_both" lY ["kind","first","second","size"]
 Qf:Df K mg "is_code" wQ ["thing"]
 ON:Df K mg "need_code" qW ["code"]
 Pe:Df K mg "number_told" nI ["behind"]
 Qi:Df K mg "started" wY ["code","args","size","steps"]
 Qz:Df K mg "listed" A6 ["code"]
 Oa:Df K mg "_law_draw" qN ["_law_script","_law_town","_law_many"]
 N3:Df K mg "_law_pick" qP ["_law_script","_law_town","_law_some"]
 Od:Df K mg "_law_tree" qR ["_law_script","_law_town","_law_room"]
 Py:Df K mg "_law_args" qL ["_law_script","_law_town","_law_base"]
 PD:Df K mg "_law_size" qQ ["_law_script","_law_town"]
 O3:Df K mg "_law_two" ui ["_law_name","_law_one","_law_other","_law_base"]
 N6:Df K mg "_law_worth" oW ["_law_tree_here","_law_args_here","_law_base"]
 OF:Df K mg "_law_names" oU []
 O8:Df K mg "_law_behind" nD ["_law_number"]
 PB:Df K mg "_law_goes" qO ["_law_name","_law_number","_law_on","_law_pile","_law_ways"]
 Pz:Df K mg "_law_does" qM ["_law_name","_law_number","_law_pile","_law_args_here","_law_base"]
 OL:Df K mg "_law_from" mM ["_law_code","_law_args_here","_law_base","_law_most","_law_at","_law_ways"]
 PV:Df K mg "_law_run" uh ["_law_code","_law_args_here","_law_base","_law_most"]
 Ot:Df K mg "_law_parts" oV ["_law_tree_here"]
 Ox:Df K mg "_law_pieces" nE []
 PX:Df K mg "_law_set" nV ["_law_script","_law_town"]
 O9:Df K mg "_law_unlike" nF ["_law_script","_law_town","_law_tree_here","_law_many"]
 O0:Df K mg "_law_heavy" lN ["_law_script","_law_town"]
 OZ:Df K mg "_law_doubled" mL ["_law_script","_law_town"]
 RS:Df K mg "law" HG ["_law_script"]
set_option genInjectivity false in
set_option genSizeOfSpec false in
structure Txt(P:Program)(w:World)(K:qs)(mg:zp) extends Dfs K mg where
 Pu:Addr
 Pw:FuncData
 QG:Addr
 Qb:Tok
 Px:FunD K "need_size" "need_size" qX Pu Pw QG [.int 10000 Qb]
 RH:mg "need_size"=some (.ref Pu)
 R5:Addr
 R6:FuncData
 Sj:ZL K "run" "run" KJ R5 R6
 SI:mg "run"=some (.ref R5)
 NX:Addr
 Sf:mg "Machine"=some (.ref NX)
 WX:Y9 K NX
 Oo:Addr
 Oq:FuncData
 Pr:ZL K "__init__" "Machine.__init__" kh Oo Oq
 ZP:Mk K NX Oo
 Oz:Addr
 OA:FuncData
 P7:ZL K "take" "Machine.take" mK Oz OA
 Xz:Meth K NX "take" Oz
 OR:Addr
 OU:FuncData
 P5:ZL K "push" "Machine.push" mI OR OU
 W8:Meth K NX "push" OR
 O6:Addr
 O7:FuncData
 Qm:ZL K "way" "Machine.way" nC O6 O7
 YO:Meth K NX "way" O6
 OC:Addr
 OE:FuncData
 PQ:ZL K "finish" "Machine.finish" kZ OC OE
 Yt:Meth K NX "finish" OC
 OB:Addr
 OD:FuncData
 PP:ZL K "change" "Machine.change" kY OB OD
 Yu:Meth K NX "change" OB
 OS:Addr
 OV:FuncData
 P6:ZL K "step" "Machine.step" mJ OS OV
 YE:Meth K NX "step" OS
 Zw:Xg K NX "cells"
 Zx:Xg K NX "given"
 Zj:Xg K NX "size"
 XO:Xg K NX "pile"
 XU:Xg K NX "place"
 X8:Xg K NX "kept"
 YQ:Xg K NX "ended"
 Rj:Tok
 Rf:mg "MOST_PARTS"=some (.int 40 Rj)
 RK:Tok
 Ry:mg "MOST_DEEP"=some (.int 8 RK)
 QR:Tok
 QO:mg "LONGEST_NAME"=some (.int 8 QR)
 RJ:Tok
 P8:mg "MOST_CELL"=some (.int 99 RJ)
 Ql:Tok
 Qk:mg "MOST_PATTERN_DEEP"=some (.int 3 Ql)
 R4:Tok
 R1:mg "MOST_GAP"=some (.int 9999 R4)
 Qv:Tok
 Qu:mg "MOST_PIECE_CELLS"=some (.int 12 Qv)
 Q3:Tok
 QZ:mg "MOST_PIECES"=some (.int 16 Q3)
 RN:Tok
 RD:mg "MOST_NEAR"=some (.int 9 RN)
 Rh:Tok
 Rc:mg "CALL_CELLS"=some (.int 3 Rh)
 SL:Tok
 SH:mg "END"=some (.int 0 SL)
 SF:Tok
 SA:mg "CALL"=some (.int 15 SF)
 Ri:Tok
 Re:mg "MOST_CELLS"=some (.int 1000 Ri)
 RI:Tok
 Rx:mg "MANY_ARGS"=some (.int 4 RI)
 RP:Tok
 Ss:mg "MOST_SIZE"=some (.int 10000 RP)
 Rk:Tok
 Rg:mg "MOST_STEPS"=some (.int 100000 Rk)
 RO:Tok
 RF:mg "MOST_PILE"=some (.int 64 RO)
 RM:Tok
 Rz:mg "MOST_KEPT"=some (.int 16 RM)
 SE:Tok
 Sz:mg "BACK"=some (.int 16 SE)
 Q4:Tok
 Q0:mg "MOST_SHARED"=some (.int 6 Q4)
 OQ:Addr
 P9:mg "MOST_IN_LEAF"=some (.ref OQ)
 Qc:mi K OQ TL
 Og:Addr
 OX:mg "TREES_IN_BRANCH"=some (.ref Og)
 OY:mi K Og TB
 Oj:Addr
 Pt:mg "MARK_LENGTHS"=some (.ref Oj)
 Ol:mi K Oj TM
 O5:Addr
 Qn:mg "FILLED_FROM"=some (.ref O5)
 Qo:mi K O5 TF
 P4:Addr
 RG:mg "MOST_TOLD"=some (.ref P4)
 RQ:mi K P4 TTO
 Oi:Addr
 OW:mg "INSTRUCTIONS"=some (.ref Oi)
 OT:j0 K (.tup INS) (.ref Oi)=true
 Qt:Addr
 R3:mg "STRAIGHT"=some (.ref Qt)
 R0:j0 K (.tup STR) (.ref Qt)=true
 Ra:Addr
 So:mg "AHEAD"=some (.ref Ra)
 Sm:j0 K (.tup AHE) (.ref Ra)=true
 QN:Addr
 Sk:mg "BEHIND"=some (.ref QN)
 Si:j0 K (.tup BEH) (.ref QN)=true
 RZ:Addr
 SB:mg "WAYS"=some (.ref RZ)
 Sy:j0 K (.tup WAY) (.ref RZ)=true
 Rb:Addr
 Sq:mg "BASIC"=some (.ref Rb)
 Sn:xP K BAS Rb=true
 Qa:CK P w K Oj ["hole","gap","slot"]
 NZ:mg "len"=none
 N4:mg "isinstance"=none
 Sv:mg "int"=none
 SC:mg "bool"=none
 Sw:mg "str"=none
 Os:mg "tuple"=none
 QP:mg "list"=none
 Pi:mg "range"=none
 Qx:mg "all"=none
 Su:mg "any"=none
 SK:mg "set"=none
 Sx:mg "sum"=none
 QQ:mg "reversed"=none
 R7:mg "zip"=none
 QF:mg "enumerate"=none
section
theorem zs{X:Cx}(i:Nat){a:Pos}(c:X.N.Nodup)(d:PE X e f)(g:X.N[i]?=some x:=by rfl)(h:Loc X.env.scope x:=by first|exact .inl rfl|exact .inr rfl)(j:swapsWith e (some (.Name x b)) a.line X.env=pure false:=by rfl)(l:X.fn x=true\/X.env.scope.names.lookup x=some .local:=by first|exact .inl rfl|exact .inr rfl|assumption):PS X (.Assign [.Name x b] e a) (rH f (dE i)):=tX c g h d j l
theorem zg{X:Cx}(i:Nat)(a:X.N.Nodup)(b:X.N[i]?=some x:=by rfl)(c:Loc X.env.scope x:=by first|exact .inl rfl|exact .inr rfl)(d:X.fn x=true\/X.env.scope.names.lookup x=some .local:=by first|exact .inl rfl|exact .inr rfl|assumption):PG X (.Name x e) (dE i):=f9 a b c d
theorem zr(h:PE X e a):Zq X [.Return (some e) b] (E1 a):=aX (kI h)
theorem zt(c:XG X (compareOp op) r)(d:PE X a e)(f:PE X b g)(h:behindInMarks op b=false:=by first|exact iT _|with_unfolding_all rfl):PT X (.Compare a [op] [b] i) (DV (XT r e g)):=JI c d f h
theorem z1(h:PE X a b)(e:qF a=true:=by rfl):PA X [a] (bU b dR):=aY h a7 e
theorem z2(h:PE X a c)(g:PE X b d)(e:qF a=true:=by rfl)(f:qF b=true:=by rfl):PA X [a,b] (bU c (bU d dR)):=aY h (aY g a7 f) e
theorem z3(h:PE X a d)(g:PE X b l)(i:PE X c n)(e:qF a=true:=by rfl)(f:qF b=true:=by rfl)(j:qF c=true:=by rfl):PA X [a,b,c] (bU d (bU l (bU n dR))):=aY h (aY g (aY i a7 j) f) e
theorem zc(f:List Nat)(a:vn)(h:PI X (.Name y i) iter j)(l:∀c C s H d,PE (X.YU b c C a s H d) e n)(hk:b.kind=.function:=by rfl)(o:iB X.N X.env.kindOf b.names [y] f a=true:=by kernel_rfl)(p:X.calm=true:=by rfl)(q:a.Nodup:=by decide +kernel)(r:a[0]?=some y:=by rfl)(g:∀c C s H d,(X.YU b c C a s H d).env.scope.names.lookup y=some .local:=by intros;rfl)
  (t:∀x,foldedSetIterable iter X.env x=pure x:=by intro _;rfl):PE X (.ListComp e [⟨.Name y i,iter,[],0⟩] b u) (jC j (mkS [y] f) (dE 0) i5 n):=mZ h hk o p (λ_ _ _ _ _=>f9 q r (.inl (g ..)) (.inr (g ..))) (λ_ _ _ _ _=>jx) l t
end
variable{K:qs}
theorem XQ{c:CXT}{P:Program}{w:World}{mg:zp}{base:Heap}{N:vn}{a:Str}{d:Scope}{f:Addr}{b:Value}{A:Around}{outer:List Env}{s:Shared}{H:Hp}{E:XK}:(xr c P w K mg base N a d f b A outer s H E).nox.K=K:=rfl
theorem Xd{P:Program}{st:Stmt}(F:ZL K x b st f e)(S:WW N d (aK st))
  (h:∀c H Q E,N.Nodup->g c H Q E->c.length=d.length/\∀(a:Value)(A:Around)(outer:List Env)(s:Shared),Xm k (A.deeper (envOfC b (aK st) s.heap.objs.size f a)) ->
   ∃t,Zq (xr Yg P w K mg base N b (aK st) f a A outer s H E).nox (h8 st) t/\t {nx:=λ_ i=>Q .W3 i,rt:=Q} (start N c) H):Xj P w K mg base Yg (k+1) f e d g :=
 F.ok S (λc H Q E q=>(h c H Q E S.nd q).1) λa A outer s H c Q E j q=>(h c H Q E S.nd q).2 a A outer s j
section
variable{k:Nat}
theorem len1{α:Type}{a:List α}(h:a.length=1):∃b,a=[b]:=match a,h with |[b],_=>⟨b,rfl⟩
theorem len2{α:Type}{a:List α}(h:a.length=2):∃b c,a=[b,c]:=match a,h with |[b,c],_=>⟨b,c,rfl⟩
theorem len3{α:Type}{a:List α}(h:a.length=3):∃b c d,a=[b,c,d]:=match a,h with |[b,c,d],_=>⟨b,c,d,rfl⟩
theorem len4{α:Type}{a:List α}(h:a.length=4):∃b c d e,a=[b,c,d,e]:=match a,h with |[b,c,d,e],_=>⟨b,c,d,e,rfl⟩
theorem len5{α:Type}{a:List α}(h:a.length=5):∃b c d e f,a=[b,c,d,e,f]:=match a,h with |[b,c,d,e,f],_=>⟨b,c,d,e,f,rfl⟩
theorem len6{α:Type}{a:List α}(h:a.length=6):∃b c d e f g,a=[b,c,d,e,f,g]:=match a,h with |[b,c,d,e,f,g],_=>⟨b,c,d,e,f,g,rfl⟩
variable{K:qs}
theorem zN(T:Txt P w K mg):Binds K T.Pw ["size","most"] [.int 10000 T.Qb]:=by
 obtain⟨j,p,kV,doc,q,r,c,ct,d,e,lk,f⟩:=T.Px.ex;obtain⟨o,n,l,h⟩:=T.Px.df;intro s b g i;have a:b.length=1:=by simpa using i
 match b,a with
 |[t],_=>rw[e];exact .of_defaults (T:=T.QG) rfl (g _ _ l) h rfl rfl
theorem Bm(T:Txt P w K mg):Vals [V.int 10000] [Value.int 10000 T.Qb]:=.cons ⟨_,rfl⟩ .nil
theorem nL(T:Txt P w K mg):Binds K T.Oq ["self","cells","given","size","pile"] []:=T.Pr.binds λ_ _ _ _ _ _ b a=>by obtain⟨_,_,_,_,_,rfl⟩:=len5 a;rfl
theorem iN(T:Txt P w K mg):Binds K T.OA ["self"] []:=T.P7.binds λ_ _ _ _ _ _ b a=>by obtain⟨_,rfl⟩:=len1 a;rfl
theorem eA(T:Txt P w K mg):Binds K T.OU ["self","number"] []:=T.P5.binds λ_ _ _ _ _ _ b a=>by obtain⟨_,_,rfl⟩:=len2 a;rfl
theorem uP(T:Txt P w K mg):Binds K T.O7 ["self","name","number","onward"] []:=T.Qm.binds λ_ _ _ _ _ _ b a=>by obtain⟨_,_,_,_,rfl⟩:=len4 a;rfl
theorem pB(T:Txt P w K mg):Binds K T.OE ["self"] []:=T.PQ.binds λ_ _ _ _ _ _ b a=>by obtain⟨_,rfl⟩:=len1 a;rfl
theorem pq(T:Txt P w K mg):Binds K T.OD ["self","name","number"] []:=T.PP.binds λ_ _ _ _ _ _ b a=>by obtain⟨_,_,_,rfl⟩:=len3 a;rfl
theorem sv(T:Txt P w K mg):Binds K T.OV ["self"] []:=T.P6.binds λ_ _ _ _ _ _ b a=>by obtain⟨_,rfl⟩:=len1 a;rfl
noncomputable def C9{α:Type}:List α->List α->List α
 |[a,b],[c,d]=>[a,b,c,d]
 |_,_=>[]
theorem MI(T:Txt P w K mg):Bq K T.R6 ["code","args","size","steps"] ["size","steps"] C9 C9:=by
 obtain⟨p,q,kV,doc,r,t,b,ct,c,e,lk,d⟩:=T.Sj.ex;refine⟨λs f g u a=>?_,λ{v f zs g} h i=>?_⟩
 ·unfold C9 at a ⊢;split at a
  ·rw[e];exact .of_eq rfl
  ·cases a
 ·cases h with
  |nil=>exact .nil
  |cons j l =>
   cases l with
   |nil=>exact .nil
   |cons n o =>
    cases o with
    |cons _ _=>exact .nil
    |nil =>
     cases i with
     |nil=>exact .nil
     |cons p1 z1 =>
      cases z1 with
      |nil=>exact .nil
      |cons p2 z2 =>
       cases z2 with
       |cons _ _=>exact .nil
       |nil=>exact(.cons j (.cons n (.cons p1 (.cons p2 .nil))))
noncomputable def dN(d:D)(lo a:Int):Bool:=match d with
 | .int i=>decide (lo<=i)&&decide (i<=a)
 |_=>false
def f6(b:List D)(d:D):Prop:=∃x lo a,b=[x,.int lo,.int a]/\d=.bl (dN x lo a)
noncomputable def gJ:D->Bool
 | .tup (.str _::_)=>true
 |_=>false
def rL(a:List D)(d:D):Prop:=∃x,a=[x]/\d=.bl (gJ x)
noncomputable def nY(k:Str)(T:List (Str×KTD.Dat)):Int:=match KTD.datumAt k T with
 |some (.flat (.int i))=>i
 |_=>0
noncomputable def fS:D->Bool
 | .tup (.str k::r)=>if KTD.inKeys k TL=true then decide ((r.length:Int)+1=2)&&dN (r.getD 0 .W3) 0 (nY k TL)else KTD.inKeys k TB&&decide ((r.length:Int)+1=1+nY k TB)
 |_=>false
def Fq(a:List D)(d:D):Prop:=∃x,a=[x]/\d=.bl (fS x)
noncomputable def dQ:D->List D
 | .tup (.str k::r)=>if KTD.inKeys k TB=true then r else []
 |_=>[]
def iM(a:List D)(d:D):Prop:=∃k r,a=[.tup (.str k::r)]/\d=.tup (dQ (.tup (.str k::r)))
theorem Nr{T:List (Str×KTD.Dat)}{k:Str}(g:∀p∈T,∃i,p.2=.flat (.int i))(h:KTD.inKeys k T=true):KTD.datumAt k T=some (.flat (.int (nY k T))):=by
 unfold nY
 cases e:KTD.datumAt k T with
 |none=>exact absurd e (KTD.at_of_mem h)
 |some d =>
  have all:∀(T:List (Str×KTD.Dat)),(∀p∈T,∃i,p.2=.flat (.int i))->KTD.datumAt k T=some d->∃i,d=.flat (.int i):=by
   intro T
   induction T with
   |nil=>intro _ e;simp[KTD.datumAt]at e
   |cons p r j =>
    intro c e;obtain⟨x,y⟩:=p;have a:(if decide (k=x)=true then some y else KTD.datumAt k r)=some d:=e;by_cases f:k=x
    ·rw[SV (S9 f)]at a;cases a;exact c _ Tn
    ·rw[PC (by simp[f])]at a;exact j (λp b=>c p (Th _ b)) a
  obtain⟨i,rfl⟩:=all T g e;rfl
theorem Le:∀p∈TL,∃i,p.2=.flat (.int i):=by intro p a;simp only[TL,S0,Ti,T9]at a;rcases a with rfl|rfl<;>exact⟨_,rfl⟩
theorem Lc:∀p∈TB,∃i,p.2=.flat (.int i):=by intro p a;simp only[TB,S0,Ti,T9]at a;rcases a with rfl|rfl|rfl|rfl|rfl<;>exact⟨_,rfl⟩
theorem AD(T:Txt P w K mg)  : Ok P w base (k+1) T.NY (Xp K f6):=by
 refine Xd T.NY.f Bd λo H Q E p h=>?_;obtain⟨q,d,g,⟨x,lo,j,rfl,rfl⟩,post⟩:=h;obtain⟨r,s,t,rfl,a,b,e⟩:=vU g;have l:=b.W4;have n:=e.W4;subst l n;refine⟨rfl,λ_ _ _ _ u=>⟨_,(zr (kG (aV (fU Gk) rfl T.N4 cH (cO (pv 0) (cO (gS (v:=.ty "int") rfl T.Sv FC rfl) a7))) (kG (LV (aV (fU IV) rfl T.N4 cH (cO (pv 0) (cO (gS (v:=.ty "bool") rfl T.SC IB rfl) a7)))) (j8 (AK lS lS (pv 1) (pv 0) (pv 2)))))),?_⟩⟩;refine bE (K:=K) (d:=.bl (dN x lo j)) ?_ post
 cases x with
 |int i=>exact RE.as (fF (cR (aB a)) λ_=>fF (Hy (cR (aB a))) λ_=>mG (aB b) (aB a) λ_=>aB e) rfl
 |bl y=>exact RE.as (fF (c:=false) (cR (aB a)) λ_=>RE.as (fF (c:=true) (Hy (cR (aB a))) λz=>nomatch z) rfl) rfl
 |W3=>exact RE.as (fF (c:=true) (cR (aB a)) λz=>nomatch z) rfl
 |str y=>exact RE.as (fF (c:=true) (cR (aB a)) λz=>nomatch z) rfl
 |tup y=>exact RE.as (fF (c:=true) (cR (aB a)) λz=>nomatch z) rfl
 |lst=>exact RE.as (fF (c:=true) (cR (aB a)) λz=>nomatch z) rfl
theorem yd(T:Txt P w K mg)  : Ok P w base (k+1) T.Om (Xp K rL):=by
 refine Xd T.Om.f yW λg H Q E j h=>?_;obtain⟨b,d,e,⟨x,rfl,rfl⟩,post⟩:=h;obtain⟨n,rfl,a⟩:=iP e;refine⟨rfl,λ_ _ _ _ o=>⟨_,(zr (kG (aV (fU mq) rfl T.N4 cH (cO (pv 0) (cO (gS (v:=.ty "tuple") rfl T.Os fC rfl) a7))) (kG (fL kn (aV aQ rfl T.NZ bP (z1 (pv 0))) aD (iT _)) (j8 (aV (fU Gm) rfl T.N4 cH (cO (a8 a9 (pv 0) aD) (cO (gS (v:=.ty "str") rfl T.Sw FE rfl) a7))))))),?_⟩⟩;refine bE (K:=K) (d:=.bl (gJ x)) ?_ post
 cases x with
 |tup b =>
  cases b with
  |nil=>exact RE.as (fF (c:=false) (cR (aB a)) λ_=>RE.as (fF (c:=true) (cP (fZ (aB a)) aE) λz=>nomatch z) rfl) rfl
  |cons y r =>have l:decide ((0:Int)<(((y::r).length:Nat):Int))=true:=S9 (by rw[SX];lia);refine RE.as (fF (cR (aB a)) λ_=>fF (RE.as (cP (fZ (aB a)) aE) (Tu D.bl l)) λ_=>cR (bC (k:=0) (aB a) aE (show(y::r)[0]?=some y from rfl))) ?_;cases y<;>rfl
 |int i=>exact RE.as (fF (c:=true) (cR (aB a)) λz=>nomatch z) rfl
 |bl y=>exact RE.as (fF (c:=true) (cR (aB a)) λz=>nomatch z) rfl
 |W3=>exact RE.as (fF (c:=true) (cR (aB a)) λz=>nomatch z) rfl
 |str y=>exact RE.as (fF (c:=true) (cR (aB a)) λz=>nomatch z) rfl
 |lst=>exact RE.as (fF (c:=true) (cR (aB a)) λz=>nomatch z) rfl
end
section
variable{K:qs}
theorem BV(T:Txt P w K mg)(U:Ok P w base k T.Om (Xp K rL))(Y:Ok P w base k T.NY (Xp K f6)):Ok P w base (k+1) T.Po (Xp K Fq):=by
 refine Xd T.Po.f Cn λvs H Q E nd h=>?_;obtain⟨ds,d,hd,⟨x,rfl,rfl⟩,post⟩:=h;obtain⟨z,rfl,I⟩:=iP hd;refine⟨rfl,λ_ _ _ _ J=>⟨_,(aC (bA (cI (bL (pc (D:=T.Om) U J (z1 (pv 0))) (λ_=>rfl))) (zr dU) aO)
 (aC (zs 1 nd (a8 a9 (pv 0) aD))
 (aC (bA (zt oR (pv 1) (bO (v:=.ref T.OQ) rfl T.P9 rfl)) (zr (kG (fL cE (aV aQ rfl T.NZ bP (z1 (pv 0))) aD (iT _)) (j8 (pc (D:=T.NY) Y J (z3 (a8 a9 (pv 0) aD) aD (a8 Gv (bO (v:=.ref T.OQ) rfl T.P9 rfl) (pv 1))))))) aO)
 (zr (kG (fL oR (pv 1) (bO (v:=.ref T.Og) rfl T.OX rfl) (by with_unfolding_all rfl)) (j8 (fL cE (aV aQ rfl T.NZ bP (z1 (pv 0))) (bF cJ aD (a8 Gv (bO (v:=.ref T.Og) rfl T.OX rfl) (pv 1))) (iT _)))))))),?_⟩⟩
 dsimp only[XQ];show let L:=_;let M:=a6 (md _ L _) _;let N:=a6 _ M;a6 _ N _ _ _;intro L M N;refine aT (K:=K) (b:=!gJ x) (bR (bI (bJ (aA (aB I) aG) ⟨x,rfl,rfl⟩))) (λc H1 j=>?_) (λc H1 j=>?_)
 ·refine bE (K:=K) (d:=.bl (fS x)) ?_ λv l s q=>post v l (j.trans s) q
  have e:fS x=false:=by
   unfold fS;split
   ·unfold gJ at c;simp at c
   ·rfl
  rw[e];exact gO
 ·have n:=j.dat I;have A:gJ x=true:=by simpa using c
  unfold gJ at A;split at A
  ·rename_i a r;refine d6 (K:=K) (d:=.str a) (bC (k:=0) (aB n) aE rfl) λv1 H2 B o=>?_;have O:=B.dat n;have ev:=o.Xh;subst ev;refine aT (K:=K) (b:=KTD.inKeys a TL) (aH (jA (aB o) T.Qc)) (λt H3 g=>?_) (λt H3 g=>?_)
   ·have u:=g.dat O
    have e:fS (.tup (.str a::r))=(decide ((r.length:Int)+1=2)&&dN (r.getD 0 .W3) 0 (nY a TL)):=by show(if KTD.inKeys a TL=true then _ else _)=_;rw[SV t]
    refine bE (K:=K) (d:=.bl (fS (.tup (.str a::r)))) ?_ λv l s q=>post v l (j.trans (B.trans (g.trans s))) q;rw[e];have C:((((D.str a)::r).length:Nat):Int)=(r.length:Int)+1:=by rw[SX];lia
    have p:=nU (K:=K) (fZ (aB (σ:=(start ["thing","kind"] [z]).set 1 (some (.str a))) (k:=0) u)) (aE (i:=2));rw[C]at p;refine fF p λhl=>?_;have G:(r.length:Int)+1=2:=S1 hl
    obtain⟨y,er⟩:∃y,r=[y]:=by
     match r,G with
     |[],h=>simp at h
     |[y],_=>exact⟨y,rfl⟩
     |_::_::_,h=>simp at h;lia
    subst er;refine bJ (E:=E0) (R:=f6) (aA (bC (k:=1) (aB u) aE rfl) (aA aE (aA (AZ (aB (g.dat o)) T.Qc (by rfl) (Nr Le t)) aG))) ⟨y,0,nY a TL,rfl,rfl⟩
   ·have u:=g.dat O
    have e:fS (.tup (.str a::r))=(KTD.inKeys a TB&&decide ((r.length:Int)+1=1+nY a TB)):=by show(if KTD.inKeys a TL=true then _ else _)=_;rw[PC (by rw[t];exact SW)]
    refine bE (K:=K) (d:=.bl (fS (.tup (.str a::r)))) ?_ λv l s q=>post v l (j.trans (B.trans (g.trans s))) q;rw[e];have C:((((D.str a)::r).length:Nat):Int)=(r.length:Int)+1:=by rw[SX];lia
    refine fF (jA (aB (g.dat o)) T.OY) λcB=>?_;have p:=nU (K:=K) (fZ (aB (σ:=(start ["thing","kind"] [z]).set 1 (some (.str a))) (k:=0) u)) (dC (aE (i:=1)) (AZ (aB (σ:=(start ["thing","kind"] [z]).set 1 (some (.str a))) (k:=1) (g.dat o)) T.OY (by rfl) (Nr Lc cB)));rw[C]at p;exact p
  ·cases A
theorem rq(T:Txt P w K mg)  : Ok P w base (k+1) T.N0 (Xp K iM):=by
 refine Xd T.N0.f rG λo H Q E p h=>?_;obtain⟨t,d,j,⟨g,r,rfl,rfl⟩,post⟩:=h;obtain⟨l,rfl,i⟩:=iP j;refine⟨rfl,λ_ _ _ _ u=>⟨_,(aC (bA (zt oR (a8 a9 (pv 0) aD) (bO (v:=.ref T.Og) rfl T.OX rfl)) (zr (jw uD (pv 0) (iV aD) oS)) aO)
 (zr (aU a7))),?_⟩⟩
 refine aT (K:=K) (b:=KTD.inKeys g TB) (aH (jA (bC (k:=0) (aB i) aE rfl) T.OY)) (λc n e=>?_) (λc n e=>?_)
 ·refine bE (K:=K) (d:=.tup r) (m6 (aB (e.dat i))) λv a s q=>post v a (e.trans s) ?_;show Dat K a (.tup (if KTD.inKeys g TB=true then r else [])) v;rw[SV c];exact q
 ·refine bE (K:=K) (σ:=start ["tree"] [l]) (d:=.tup []) (aZ aG) λv a s q=>post v a (e.trans s) ?_;show Dat K a (.tup (if KTD.inKeys g TB=true then r else [])) v;rw[PC (by rw[c];exact SW)];exact q
theorem Hc{ns:vc}(a:0<=k)(b:k<(ns.length:Int)):∃z,Z1 (ns.map V.int) k=some (.int z):=by
 have hk:k.toNat<ns.length:=by lia
 refine⟨ns[k.toNat],?_⟩;have e:k=((k.toNat:Nat):Int):=by lia
 have q:Z1 (ns.map V.int) ((k.toNat:Nat):Int)=some (.int ns[k.toNat]):=lq (by rw[SR,SN hk]<;>rfl);rw[<- e]at q;exact q
theorem xW(T:Txt P w K mg)  : Ok P w base (k+1) T.Oa (uF K):=by
 refine Xd T.Oa.f yO λvs H Q E u h=>?_;obtain⟨a,t,d,m,p,q,rest,rfl,C,j,G,i,hm2,post⟩:=h;refine⟨rfl,λ_ _ _ _ hr=>⟨_,(aC (bA (zt kn (a8 bY (pv 1) aD) aD) (aC (zs 3 u (bF fI (a8 bY (pv 1) aD) (pv 2)))
 (aC (gY (bF oQ (a8 bY (pv 1) aD) (pv 2)) (yt (pv 1) aD o9))
 (zr (pv 3)))) aO)
 (aC (zs 4 u (a8 bY (pv 1) aD))
 (aC (Dw (pv 1) aD Ai aD sY o9)
 (aC (bA (zt (ym hr) (pv 0) (bQ a7)) (zr (bF fI (pv 4) (pv 2))) aO)
 (aC (bA (PW.pt (pU (zt kT (pv 4) (aV aQ rfl T.NZ bP (z1 (pv 0)))) (m4 (zt wI (a8 bY (pv 0) (pv 4)) (bF yp aD aD))))) (aC (gY (bF fI (bF oQ (a8 bY (pv 0) (pv 4)) (pv 2)) (bF Jr (bF yp aD aD) (bF yp aD aD))) (yt (pv 1) aD o9))
 (zr (bF fI (a8 bY (pv 0) (pv 4)) (pv 2)))) aO)
 (aC (zs 5 u (bF fI (bF cJ (bF cJ (bF nP (a8 bY (pv 0) (bF fI (pv 4) (aV aQ rfl T.NZ bP (z1 (pv 0))))) aD) (bF nP aD (pv 4))) aD) aD))
 (zr (bF fI (bF fI (bF fI (bF yp (pv 5) aD) aD) aD) (pv 2))))))))),?_⟩⟩
 dsimp only[XQ];show let I:=a6 _ _;let J:=a6 _ _;let L:=a6 (md _ J _) I;let M:=a6 _ L;let N:=a6 _ M;let O:=a6 _ N;let U:=a6 _ _;a6 (md _ U _) O _ _ _;intro I J L M N O U;refine⟨_,rfl,t,_,1,_,rfl,rfl,W2.of j,at1,q,0,rfl,rfl,_,rfl,?_⟩;refine uS (λc=>?_) (λc=>?_)
 ·refine⟨_,rfl,t,_,1,_,rfl,rfl,W2.of j,at1,_,rfl,q,m,rfl,rfl,i,?_⟩;refine⟨_,rfl,t,_,1,_,rfl,rfl,W2.of j,at1,_,rfl,q,m,rfl,rfl,⟨i,⋯⟩,?_⟩;refine⟨_,rfl,t,_,1,1,rfl,rfl,j,ix1,?_⟩;refine⟨_,rfl,?_⟩;exact post (q%m) _ p (q / m) (Xb.upd (WV.refl H).but) aF G (Ub _ ⋯) (T6 _ i)
 refine⟨_,rfl,t,_,0,_,rfl,rfl,W2.of j,at0,?_⟩;refine⟨_,rfl,t,_,0,_,rfl,rfl,Ut 0,W2.of j,rfl,p,1,rfl,rfl,t,_,0,0,rfl,rfl,j,ix0,?_⟩;refine⟨_,rfl,(by show 0<=sizeLine;decide),λl v=>?_⟩;have x:Xb t H (upd H t (.lst ((V.int p::.int q::rest).set 0 (.int (p+1))))):=Xb.upd (WV.refl H).but;have y:l≠t:=λz=>by rw[z,aF]at v;cases v
 have g:=x.trans (aL v (.lst [])).but
 have o:upd (upd H t (.lst ((V.int p::.int q::rest).set 0 (.int (p+1))))) l (.lst []) t=some (.lst (.int (p+1)::.int q::rest)):=by rw[aR (Tf y)];exact aF
 have b:=(C.but g j).Yk;have e:((d.map V.int).length:Int)=(d.length:Int):=by rw[tB]
 refine⟨a,l,_,[],d.map D.int,[],rfl,rfl,b,W2.of aF,dO d,WU.nil,kS d,(by unfold Xe;rfl),(by rw[ju];decide),_,rfl,?_⟩;show(if Xq (d.map D.int) []=true then _ else _);rw[FT];refine uS (λY=>?_) (λY=>?_)
 ·refine⟨_,rfl,_,rfl,p,m,rfl,rfl,i,?_⟩;exact post _ _ (p+1) q g o ⋯ (Ub _ ⋯) (T6 _ i)
 have s:(0:Int)<((d.map V.int).length:Int):=by
  rw[e]
  cases d with
  |nil=>exact absurd rfl Y
  |cons n d=>rw[SX];lia
 refine⟨_,rfl,_,rfl,a,_,rfl,.inl b,p,_,rfl,rfl,_,rfl,?_⟩;refine uS (λc1=>?_) (λc1=>?_)
 ·have A:p<((d.map V.int).length:Int):=S1 c1;obtain⟨z,B⟩:=Hc (ns:=d) G (by rw[<- e];exact A);refine⟨_,rfl,_,rfl,a,_,p,_,rfl,rfl,b,B,10,18,rfl,rfl,⟨⋯,⋯,⋯⟩,z,_,rfl,rfl,_,rfl,?_⟩;refine uS (λc2=>?_) (λc2=>?_)
  ·refine⟨_,rfl,_,rfl,a,_,p,_,rfl,rfl,b,B,_,rfl,z,m,rfl,rfl,⟨i,⋯⟩,10,60,rfl,rfl,⟨⋯,⋯,⋯⟩,10,60,rfl,rfl,⟨⋯,⋯,⋯⟩,_,_,rfl,rfl,IntMulOk.of_bits ⋯ ⋯,_,_,rfl,rfl,(by show(0:Int)<10 ^ (60:Int).toNat*10 ^ (60:Int).toNat;decide +kernel),?_⟩;refine⟨_,rfl,t,_,1,1,rfl,rfl,o,ix1,?_⟩;refine⟨_,rfl,_,rfl,a,_,p,_,rfl,rfl,(C.but g.upd j).Yk,B,_,rfl,z,m,rfl,rfl,i,?_⟩;exact post _ _ (p+1) _ g.upd aF ⋯ (Ub _ ⋯) (T6 _ i)
  ·refine⟨_,rfl,_,rfl,_,rfl,a,_,rfl,.inl b,p,_,rfl,rfl,s,?_⟩;obtain⟨z2,r⟩:=Hc (ns:=d) (Ub p (by lia:((d.map V.int).length:Int)≠0)) (by rw[<- e];exact T6 p s);refine⟨a,_,_,_,rfl,rfl,b,r,z2,1103515245,rfl,rfl,.inr ⟨⋯,⋯⟩,_,rfl,7919,p,rfl,rfl,.inl ⟨⋯,⋯⟩,_,_,rfl,rfl,_,_,rfl,rfl,_,_,rfl,rfl,(by show(0:Int)<2147483647;decide),?_⟩;have m1:=Ub (z2*1103515245+7919*p+12345) (by decide:(2147483647:Int)≠0);have m2:=T6 (z2*1103515245+7919*p+12345) (by decide:(0:Int)<2147483647);refine⟨_,rfl,_,5,rfl,rfl,⟨⋯,⋯,⋯⟩,_,_,rfl,rfl,(by show(0:Int)<2147483647;decide),_,_,rfl,rfl,(by show(0:Int)<999983;decide),_,rfl,_,m,rfl,rfl,i,?_⟩;exact post _ _ (p+1) q g o ⋯ (Ub _ ⋯) (T6 _ i)
 ·refine⟨_,rfl,_,rfl,_,rfl,a,_,rfl,.inl b,p,_,rfl,rfl,s,?_⟩;obtain⟨z2,r⟩:=Hc (ns:=d) (Ub p (by lia:((d.map V.int).length:Int)≠0)) (by rw[<- e];exact T6 p s);refine⟨a,_,_,_,rfl,rfl,b,r,z2,1103515245,rfl,rfl,.inr ⟨⋯,⋯⟩,_,rfl,7919,p,rfl,rfl,.inl ⟨⋯,⋯⟩,_,_,rfl,rfl,_,_,rfl,rfl,_,_,rfl,rfl,(by show(0:Int)<2147483647;decide),?_⟩;have m1:=Ub (z2*1103515245+7919*p+12345) (by decide:(2147483647:Int)≠0);have m2:=T6 (z2*1103515245+7919*p+12345) (by decide:(0:Int)<2147483647);refine⟨_,rfl,_,5,rfl,rfl,⟨⋯,⋯,⋯⟩,_,_,rfl,rfl,(by show(0:Int)<2147483647;decide),_,_,rfl,rfl,(by show(0:Int)<999983;decide),_,rfl,_,m,rfl,rfl,i,?_⟩;exact post _ _ (p+1) q g o ⋯ (Ub _ ⋯) (T6 _ i)
def nX(K:qs):Sp:=λe H Q _=>∃(a t l:Addr)(f:vc)(b:List V)(p q:Int)(rest:List V),e=[.ref a,.ref t,.ref l]/\Zb K H a f/\W2 K H l b/\l≠t/\0<b.length/\b.length<=1000000 /\
 H t=some (.lst (.int p::.int q::rest))/\0<=p/\∀(i:Nat)(x:V)(c:Hp)(d g:Int),Xb t H c->c t=some (.lst (.int d::.int g::rest))->0<=d->b[i]?=some x->Q x c
theorem xZ(T:Txt P w K mg)(i:Ok P w base k T.Oa (uF K)):Ok P w base (k+1) T.N3 (nX K):=by
 refine Xd T.N3.f yR λI H Q E J h=>?_;obtain⟨a,t,l,j,b,p,q,rest,rfl,n,e,d,o,s,u,v,post⟩:=h;refine⟨rfl,λ_ _ _ _ x=>⟨_,(zr (a8 bY (pv 2) (pc (D:=T.Oa) i x (z3 (pv 0) (pv 1) (aV aQ rfl T.NZ bP (z1 (pv 2))))))),?_⟩⟩;refine⟨_,rfl,_,rfl,_,rfl,_,rfl,l,b,rfl,.inl e,a,t,j,(b.length:Int),p,q,rest,rfl,n,u,v,⋯,⋯,λr y p1 A g B C L M=>?_⟩;have c:r.toNat<b.length:=by lia
 have G:r=((r.toNat:Nat):Int):=by lia
 have z:Z1 b ((r.toNat:Nat):Int)=some b[r.toNat]:=lq (SN c);rw[<- G]at z;exact⟨l,b,r,b[r.toNat],rfl,rfl,g.Yk d e,z,post r.toNat _ y p1 A g B C (SN c)⟩
end
inductive Tr where
 |num (n:Int)
 |arg (k:Int)
 |two (o:Str) (a b:Tr)
 |pick (a b c:Tr)
 |call (k:Int)
noncomputable def toD:Tr->D
 | .num n=>.tup [.str "num",.int n]
 | .arg k=>.tup [.str "arg",.int k]
 | .two o a b=>.tup [.str o,toD a,toD b]
 | .pick a b c=>.tup [.str "pick",toD a,toD b,toD c]
 | .call k=>.tup [.str "call",.int k]
def XJ:Tr->Prop
 | .num n=>0<=n/\n<=9999
 | .arg k=>0<=k/\k<=3
 | .two o a b=>(o="add"\/o="sub"\/o="mul"\/o="less")/\XJ a/\XJ b
 | .pick a b c=>XJ a/\XJ b/\XJ c
 | .call _=>False
def Xx:Tr->Prop
 | .num n=>0<=n/\n<=9999
 | .arg k=>0<=k/\k<=3
 | .two o a b=>(o="add"\/o="sub"\/o="mul"\/o="less")/\Xx a/\Xx b
 | .pick a b c=>Xx a/\Xx b/\Xx c
 | .call k=>0<=k/\k<=9
theorem qH:∀{t:Tr},XJ t->Xx t
 | .num _,h=>h
 | .arg _,h=>h
 | .two _ _ _,h=>⟨h.1,qH h.2.1,qH h.2.2⟩
 | .pick _ _ _,h=>⟨qH h.1,qH h.2.1,qH h.2.2⟩
 | .call _,h=>h.elim
noncomputable def aP:Tr->Nat
 | .num _=>1
 | .arg _=>1
 | .two _ a b=>max (aP a) (aP b)+1
 | .pick a b c=>max (aP a) (max (aP b) (aP c))+1
 | .call _=>1
noncomputable def aM:Tr->Nat
 | .num _=>1
 | .arg _=>1
 | .two _ a b=>aM a+aM b+1
 | .pick a b c=>aM a+aM b+aM c+1
 | .call _=>1
noncomputable def bT:Tr->List Tr
 | .num _=>[]
 | .arg _=>[]
 | .two _ a b=>[a,b]
 | .pick a b c=>[a,b,c]
 | .call _=>[]
noncomputable def aS:Tr->List Tr
 | .num n=>[.num n]
 | .arg k=>[.arg k]
 | .two o a b=>.two o a b::(aS a++aS b)
 | .pick a b c=>.pick a b c::(aS a++aS b++aS c)
 | .call k=>[.call k]
theorem bX:∀t:Tr,(aS t).length=aM t
 | .num _=>rfl
 | .arg _=>rfl
 | .two _ a b=>by simp only[aS,aM,SX,M1,bX a,bX b]
 | .pick a b c=>by simp only[aS,aM,SX,M1,bX a,bX b,bX c]
 | .call _=>rfl
theorem e8(t:Tr):1<=aP t:=by cases t<;>simp[aP]
theorem Au{o:Str}(h:o="add"\/o="sub"\/o="mul"\/o="less"):KTD.inKeys o TL=false/\KTD.inKeys o TB=true/\nY o TB=2:=by rcases h with rfl|rfl|rfl|rfl<;>decide +kernel
theorem wH:KTD.inKeys ("pick":Str) TL=false/\KTD.inKeys ("pick":Str) TB=true/\nY ("pick":Str) TB=3:=⋯
theorem As:KTD.inKeys ("num":Str) TL=true/\KTD.inKeys ("num":Str) TB=false/\nY ("num":Str) TL=9999:=⋯
theorem Aq:KTD.inKeys ("arg":Str) TL=true/\KTD.inKeys ("arg":Str) TB=false/\nY ("arg":Str) TL=3:=⋯
theorem tF(h:KTD.inKeys k TL=true):fS (.tup (.str k::r))=(decide ((r.length:Int)+1=2)&&dN (r.getD 0 .W3) 0 (nY k TL)):=by unfold fS;dsimp only;rw[SV h]
theorem tE(h:KTD.inKeys k TL=false):fS (.tup (.str k::r))=(KTD.inKeys k TB&&decide ((r.length:Int)+1=1+nY k TB)):=by unfold fS;dsimp only;rw[PC (by rw[h];exact SW)]
theorem oH(h:KTD.inKeys k TB=true):dQ (.tup (.str k::r))=r:=by unfold dQ;dsimp only;rw[SV h]
theorem jW(h:KTD.inKeys k TB=false):dQ (.tup (.str k::r))=[]:=by unfold dQ;dsimp only;rw[PC (by rw[h];exact SW)]
theorem rO:∀t:Tr,XJ t->fS (toD t)=true/\dQ (toD t)=(bT t).map toD
 | .num n,h=>by obtain⟨e,d,f⟩:=As;refine⟨?_,jW d⟩;unfold toD;rw[tF e,f];show(decide ((1:Int)+1=2)&&(decide (0<=n)&&decide (n<=9999)))=true;simp[h.1,h.2]
 | .arg n,h=>by obtain⟨e,d,f⟩:=Aq;refine⟨?_,jW d⟩;unfold toD;rw[tF e,f];show(decide ((1:Int)+1=2)&&(decide (0<=n)&&decide (n<=3)))=true;simp[h.1,h.2]
 | .two o a b,h=>by obtain⟨e,d,f⟩:=Au h.1;refine⟨?_,oH d⟩;unfold toD;rw[tE e,d,f];rfl
 | .pick a b c,h=>by obtain⟨e,d,f⟩:=wH;refine⟨?_,oH d⟩;unfold toD;rw[tE e,d,f];rfl
 | .call _,h=>h.elim
theorem Es:KTD.inKeys ("call":Str) TB=false:=⋯
theorem Ku:∀t:Tr,Xx t->dQ (toD t)=(bT t).map toD
 | .num _,_=>jW As.2.1
 | .arg _,_=>jW Aq.2.1
 | .two _ _ _,h=>oH (Au h.1).2.1
 | .pick _ _ _,_=>oH wH.2.1
 | .call _,_=>jW Es
noncomputable def nA:Nat->List (D×Int)->Int->Bool
 |0,_,_=>false
 |_+1,[],_=>true
 |n+1,(d,a)::st,p=>if (decide (40<p+1)||(decide (8<a)||!fS d))=true then false else nA n (((dQ d).map λx=>(x,a+1)).reverse++st) (p+1)
noncomputable def jk(d:D):Bool:=nA 50 [(d,1)] 0
theorem mY{st:List (D×Int)}(c:p+1<=40)(e:a<=8)(b:fS d=true):nA (n+1) ((d,a)::st) p=nA n (((dQ d).map λx=>(x,a+1)).reverse++st) (p+1):=by show(if _=true then false else _)=_;rw[PC];simp[b];lia
theorem jX:∀(t:Tr),XJ t->∀(n:Nat)(d:Int)(st:List (D×Int))(p:Int),(aP t:Int)+d<=9->p+(aM t:Int)<=40->nA (n+aM t) ((toD t,d)::st) p=nA n st (p+aM t)
 | .num m,h,n,d,st,p,e,f=>by obtain⟨g,i⟩:=rO (.num m) h;simp only[aP,aM]at e f ⊢;rw[mY ⋯ ⋯ g,i];rfl
 | .arg m,h,n,d,st,p,e,f=>by obtain⟨g,i⟩:=rO (.arg m) h;simp only[aP,aM]at e f ⊢;rw[mY ⋯ ⋯ g,i];rfl
 | .two o a b,h,n,d,st,p,e,f=>by
  obtain⟨g,i⟩:=rO (.two o a b) h;have q:=e8 a;simp only[aP,aM]at e f ⊢;have j:(aP a:Int)+(d+1)<=9:=by lia
  have l:(aP b:Int)+(d+1)<=9:=by lia
  rw[show n+(aM a+aM b+1)=(n+aM a+aM b)+1 by lia,mY ⋯ ⋯ g,i];show nA (n+aM a+aM b) ((toD b,d+1)::(toD a,d+1)::st) (p+1)=_;rw[jX b h.2.2 (n+aM a) (d+1) ((toD a,d+1)::st) (p+1) l ⋯,jX a h.2.1 n (d+1) st _ j ⋯];congr 1;lia
 | .pick a b c,h,n,d,st,p,e,f=>by
  obtain⟨g,i⟩:=rO (.pick a b c) h;have q:=e8 a;simp only[aP,aM]at e f ⊢;have j:(aP a:Int)+(d+1)<=9:=by lia
  have l:(aP b:Int)+(d+1)<=9:=by lia
  have r:(aP c:Int)+(d+1)<=9:=by lia
  rw[show n+(aM a+aM b+aM c+1)=(n+aM a+aM b+aM c)+1 by lia,mY ⋯ ⋯ g,i];show nA (n+aM a+aM b+aM c) ((toD c,d+1)::(toD b,d+1)::(toD a,d+1)::st) (p+1)=_;rw[jX c h.2.2 (n+aM a+aM b) (d+1) _ (p+1) r ⋯,jX b h.2.1 (n+aM a) (d+1) _ _ l ⋯,jX a h.1 n (d+1) st _ j ⋯];congr 1;lia
 | .call _,h,_,_,_,_,_,_=>h.elim
theorem DX(h:XJ t)(a:aP t<=8)(b:aM t<=40):jk (toD t)=true:=by
 have q:=jX t h (50 - aM t) 1 [] 0 ⋯ ⋯;rw[show 50 - aM t+aM t=50 by lia]at q;unfold jk;rw[q];obtain⟨m,e⟩:∃m,50 - aM t=m+1:=⟨50 - aM t - 1,⋯⟩
 rw[e];rfl
section
noncomputable def mu2(a:L2.St)(_:Hp):Nat:=match a[2]? with
 |some (some (V.int p))=>(50 - p).toNat
 |_=>0
def rK(a:List D)(d:D):Prop:=∃x,a=[x]/\d=.bl (jk x)
noncomputable abbrev pr(x:D×Int):D:=.tup [x.1,.int x.2]
variable{K:qs}
theorem vV:∀{as:List D}{c:List V},WU K H (as++[b]) c->∃d v,c=d++[v]/\WU K H as d/\Dat K H b v
 |[],c,h=>by obtain⟨v,e,q⟩:=iP h;exact⟨[],v,e,WU.nil,q⟩
 |a::as,c,h=>by obtain⟨u,r,e,f,g⟩:=h.Xu;obtain⟨d,v,i,j,l⟩:=vV g;subst i e;exact⟨u::d,v,rfl,WU.cons f j,l⟩
theorem Kh(k:Str):nY k TB<=3:=by
 unfold nY;split
 ·rename_i i e;simp only[TB,KTD.datumAt]at e
  repeat' split at e
  all_goals first
   | (cases e;decide)
   |cases e
 ·decide
theorem tm(h:fS d=true):(dQ d).length<=3:=by
 unfold fS at h;split at h
 ·rename_i k r;unfold dQ;dsimp only;split
  ·rename_i a;split at h
   ·rw[S2]at h;have z:=S1 h.1;lia
   ·rw[S2]at h;have z:=S1 h.2;have z2:=Kh k;lia
  ·exact Uk _
 ·cases h
theorem tH(h:fS d=true):∃k r,d=.tup (.str k::r):=by
 unfold fS at h;split at h
 ·exact⟨_,_,rfl⟩
 ·cases h
theorem BW(T:Txt P w K mg)(QC:Ok P w base k T.Po (Xp K Fq))(N5:Ok P w base k T.N0 (Xp K iM)):Ok P w base (k+1) T.Pp (Xp K rK):=by
 refine Xd T.Pp.f Co λvs H Q E B h=>?_;obtain⟨ds,d,C,⟨x,rfl,rfl⟩,post⟩:=h;obtain⟨v0,rfl,h0⟩:=iP C;refine⟨rfl,λ_ _ _ _ hr=>⟨_,(aC (zs 1 B (bQ (z1 (aU (z2 (pv 0) aD)))))
 (aC (zs 2 B aD)
 (aC (tY Uc (bL (pv 1) (λ_=>rfl)) (aC (gY (mE Tg UK UZ mB (pv 1)) (fX rfl (bB (zg 3 B) (bB (zg 4 B) dH))))
 (aC (yz (i:=2) B rfl (Or.inl rfl) aD sY)
 (aC (bA (PW.pt (fH (zt kn (pv 2) (bO (v:=.int 40) rfl T.Rf ⟨_,rfl⟩)) (fH (zt kn (pv 4) (bO (v:=.int 8) rfl T.Ry ⟨_,rfl⟩)) (eV (cI (bL (pc (D:=T.Po) QC hr (z1 (pv 3))) (λ_=>rfl))))))) (zr dU) aO)
 (aX (bK (dW Tg Us Ux gI (pv 1) (z1 (zc [4] ["within","deep"] (kH (pc (D:=T.N0) N5 hr (z1 (pv 3)))) (λ_ _ _ _ _=>(aU (z2 (pv 0) (bF cJ (pv 1) aD)))))))))))))
 (zr dU)))),?_⟩⟩
 dsimp only[XQ];show let W5:=a6 _ _;let Xc:=a6 _ W5;let Xv:=a6 _ Xc;let XF:=a6 (uI _ Xv) _;let X6:=a6 _ XF;a6 _ X6 _ _ _;intro W5 Xc Xv XF X6;refine eE (ue (K:=K) (aA (aZ (aA (aB h0) (aA aE aG))) aG) λg I H1 s1 hw q1=>?_);have J:H g=none:=s1.free hw;have s1':WV H (upd H1 g (.lst I)):=s1.trans (aL hw _)
 refine eE (DK (dI (uM (λσ G=>∃(st:List (D×Int))(p:Int)(n:Nat)(u:List V)(z3 z4:Option V),σ=[some v0,some (.ref g),some (.int p),z3,z4]/\G g=some (.lst u)/\WU K G (st.reverse.map pr) u/\WV H G/\nA n st p=jk x/\0<=p/\p<=40/\(n:Int)=50 - p/\(u.length:Int)<=1+3*p)
  mu2 ?_ ?_ ?_)))
 ·refine⟨[(x,1)],0,50,I,none,none,rfl,aF,(aL hw _).W0 q1,s1',rfl,⋯,⋯,⋯,?_⟩;rw[<- q1.length];simp
 ·rintro σ G ⟨st,p,n,u,z3,z4,rfl,L,C,sG,lp,p0,p1,en,lx⟩;refine⟨_,rfl,!u.isEmpty,.inl ⟨u,W2.of L,rfl⟩,?_⟩
  cases st with
  |nil =>
   have ex:=C.X5;subst ex;rw[PC (by simp)];obtain⟨m,rfl⟩:∃m,n=m+1:=⟨n - 1,⋯⟩
   have j:jk x=true:=lp.symm;refine post _ _ sG ?_;rw[j];exact Dat.X3 _
  |cons e st =>
   obtain⟨y,t⟩:=e;rw[Vv,Tj]at C;obtain⟨s,v,ex,hu,hv⟩:=vV C;subst ex;obtain⟨a,ws,ev,hq,hws⟩:=hv.Xf;obtain⟨vy,vd,ew,hy,hdp⟩:=iF hws;have edp:=hdp.W4;subst edp ew ev;rw[SV (by simp)];refine⟨_,rfl,.inl ⟨rfl,_,W2.of L⟩,g,s++[.ref a],.ref a,rfl,rfl,L,(by simp),?_⟩;rw[UH];have bt:Xb g G (upd G g (.lst s)):=Xb.upd (WV.refl G).but;have g2:eI K G (upd G g (.lst s)):=bt.grow L aF;refine⟨a,[vy,.int t],rfl,bt.Zn L hq,rfl,vy,_,rfl,.int t,_,rfl,rfl,?_⟩;have s2:WV H (upd G g (.lst s)):=λb o M=>bt b o (aN M J) (sG b o M);have N:=Dat.mono g2 _ hy;have hu2:=WU.mono g2 _ hu;refine⟨_,rfl,p,1,rfl,rfl,?_⟩;dsimp only;refine aT (K:=K) (b:=decide (40<p+1)||(decide (8<t)||!fS y)) ?_ (λc H3 A=>?_) (λc H3 A=>?_)
   ·exact dJ (aH (cP (aB (K:=K) (Dat.WY (p+1))) aE)) λ_=>dJ (aH (cP (aB (K:=K) (Dat.WY t)) aE)) λ_=>bR (bI (bJ (aA (aB N) aG) ⟨y,rfl,rfl⟩))
   ·refine post _ _ (s2.trans A) ?_;obtain⟨m,rfl⟩:∃m,n=m+1:=⟨n - 1,⋯⟩
    have j:jk x=false:=by rw[<- lp];show(if (decide (40<p+1)||(decide (8<t)||!fS y))=true then false else _)=false;rw[SV c]
    rw[j];exact Dat.X3 _
   ·obtain⟨m,rfl⟩:∃m,n=m+1:=⟨n - 1,⋯⟩
    have j:nA m (((dQ y).map λx=>(x,t+1)).reverse++st) (p+1)=jk x:=by
     rw[<- lp];show _=(if (decide (40<p+1)||(decide (8<t)||!fS y))=true then false else _)
     rw[PC (by rw[c];exact SW)]
    simp only[Uz,decide_eq_false_iff_not,VP]at c;obtain⟨c1,c2,c3⟩:=c;obtain⟨kd,r,ey⟩:=tH c3;have few:=tm c3;have O:=A _ _ (show upd G g (.lst s) g=some (.lst s) from aF);refine⟨_,rfl,.inl ⟨rfl,_,W2.of O⟩,?_⟩;refine pW (K:=K) (cs:=dQ y) (bJ (R:=iM) (aA (aB (A.dat N)) aG) ⟨kd,r,by rw[ey],by rw[ey]⟩) ⋯ ((dQ y).map λz=>pr (z,t+1)) (tB _) rfl (λH4 i z vz d s4 hz hi hvz=>?_) (λl U Y hl s5 ZN hd5=>?_)
    ·rw[SR,hz]at hi;cases hi;exact aZ (aA (aB hvz) (aA (dC (aB (Dat.WY t)) aE) aG))
    ·have hw5:=s5 _ _ O;have ly:U.length=(dQ y).length:=by rw[<- hd5.length,tB]
     have lu:s.length=st.length:=by rw[<- hu.length,tB,Ud]
     rw[M1,Vx]at lx;have b5:Xb g Y (upd Y g (.lst (s++U))):=Xb.upd (WV.refl Y).but;have g5:eI K Y (upd Y g (.lst (s++U))):=b5.grow hw5 aF;refine⟨g,l,s,U,rfl,rfl,hw5,ZN,cK ⋯,?_⟩;refine⟨⟨_,p+1,m,s++U,_,_,rfl,aF,?_,?_,j,⋯,⋯,⋯,?_⟩,?_⟩
     ·rw[List.reverse_append,List.reverse_reverse,Tj,Up];exact WU.append (WU.mono g5 _ ((A.trans s5).W0 hu2)) (WU.mono g5 _ hd5)
     ·exactλb o M=>b5 b o (aN M J) (s5 _ _ (A _ _ (s2 _ _ M)))
     ·rw[M1];lia
     ·show(50 - (p+1)).toNat<(50 - p).toNat;lia
 ·intro σ G Q1 Q2 hQ hc;obtain⟨v,e,k',tr,q⟩:=hc;exact⟨v,e,k',tr,hQ _ _ q⟩
theorem yk(T:Txt P w K mg)(g:Ok P w base k T.Pp (Xp K rK)):Ok P w base (k+1) T.PN (Xp K λa d=>∃x,a=[x]/\jk x=true/\d=.W3):=by
 refine Xd T.PN.f zj λp H Q E q h=>?_;obtain⟨a,d,i,⟨x,rfl,j,rfl⟩,post⟩:=h;obtain⟨r,rfl,l⟩:=iP i;refine⟨rfl,λ_ _ _ _ n=>⟨_,(aX (bA (cI (bL (pc (D:=T.Pp) g n (z1 (pv 0))) (λ_=>rfl))) (aX cZ) aO)),?_⟩⟩;refine iH (b:=!jk x) (bR (bI (bJ (aA (aB l) aG) ⟨x,rfl,rfl⟩))) (λc o e=>?_) (λc o e=>?_)
 ·rw[j]at c;cases c
 ·exact post _ _ e Dat.Y3
def i7(n:Nat)(a b:List D):Prop:=∃t,a=[toD t]/\Xx t/\aP t<=n/\aM t<=200/\b=(aS t).map toD
theorem gL(t:Tr):aS t=t::(bT t).flatMap aS:=by cases t<;>simp[aS,bT]
theorem Dh(h:Xx t)(d:x∈bT t):Xx x/\aP x+1<=aP t/\aM x+1<=aM t:=by
 cases t with
 |num n=>simp[bT]at d
 |arg n=>simp[bT]at d
 |call n=>simp[bT]at d
 |two o a b =>
  simp only[bT,S0,Ti,T9]at d;rcases d with rfl|rfl
  ·exact⟨h.2.1,by simp only[aP];lia,by simp only[aM];lia⟩
  ·exact⟨h.2.2,by simp only[aP];lia,by simp only[aM];lia⟩
 |pick a b c =>
  simp only[bT,S0,Ti,T9]at d;rcases d with rfl|rfl|rfl
  ·exact⟨h.1,by simp only[aP];lia,by simp only[aM];lia⟩
  ·exact⟨h.2.1,by simp only[aP];lia,by simp only[aM];lia⟩
  ·exact⟨h.2.2,by simp only[aP];lia,by simp only[aM];lia⟩
noncomputable def zF(t:Tr)(i:Nat):List Tr:=t::((bT t).take i).flatMap aS
theorem xi(h:(bT t)[i]?=some x):zF t (i+1)=zF t i++aS x:=by unfold zF;rw[Ug,h];simp
theorem Bl(t:Tr):zF t (bT t).length=aS t:=by unfold zF;rw[UR,gL]
theorem DY(t:Tr)(i:Nat):(zF t i).length<=aM t:=by
 rw[<- bX t,gL];unfold zF;rw[SX,SX]
 have h:((bT t).take i).flatMap aS++((bT t).drop i).flatMap aS=(bT t).flatMap aS:=by rw[<- List.flatMap_append,UD]
 have a:=Tu List.length h;rw[M1]at a;lia
theorem DW(t:Tr):∃a r,toD t=.tup (.str a::r):=by cases t<;>exact⟨_,_,rfl⟩
theorem Ey(T:Txt P w K mg)(N5:Ok P w base k T.N0 (Xp K iM))(P3:Ok P w base k T.O2 (jR K (i7 n))):Ok P w base (k+1) T.O2 (jR K (i7 (n+1))):=by
 refine Xd T.O2.f EO λl H Q E nd h=>?_;obtain⟨ds,es,hd,⟨t,rfl,ht,hn,hz,rfl⟩,post⟩:=h;obtain⟨v0,rfl,h0⟩:=iP hd;refine⟨rfl,λ_ _ _ _ hr=>⟨_,(aC (zs 1 nd (bQ (z1 (pv 0))))
 (aC (iD Uc rfl (kH (pc (D:=T.N0) N5 hr (z1 (pv 0)))) (zg 2 nd) (aX (bK (dW Tg Us Ux gI (pv 1) (z1 (pc (D:=T.O2) P3 hr (z1 (pv 2))))))))
 (zr (pv 1)))),?_⟩⟩
 dsimp only[XQ];refine eE (ue (K:=K) (aA (aB h0) aG) λe g H1 s1 O q1=>?_);have q:H e=none:=s1.free O;have s:WV H (upd H1 e (.lst g)):=s1.trans (aL O _);obtain⟨kd,r,ek⟩:=DW t;refine dI (RE.use (bJ (R:=iM) (d:=.tup (dQ (toD t))) (aA (aB (K:=K) (k:=0) (s.dat h0)) aG) ⟨kd,r,by rw[ek],by rw[ek]⟩) λv4 H4 U q4=>?_);rw[Ku t ht]at q4;obtain⟨a,l,ea,hq,u⟩:=q4.Xf;subst ea;have hl:=u.length;rw[tB]at hl;let Zk:Nat->L2.St->Hp->Prop:=λi L G=>∃(z:Option V)(c:List V),L=[some v0,some (.ref e),z]/\WV H G/\Xo K G a l/\WU K G ((bT t).map toD) l/\G e=some (.lst c)/\WU K G ((zF t i).map toD) c;refine⟨a,rfl,⟨l,hq⟩,rN (xs:=l) Zk ?_ (λi L G _ ⟨z,c,_,_,p,_⟩=>p) ?_ ?_⟩
 ·exact⟨none,g,rfl,s.trans U,hq,u,U _ _ aF,(show WU K H4 ([t].map toD) g from ((aL O _).trans U).W0 q1)⟩
 ·rintro i vx L G hi ⟨z,c,rfl,Y,v,j,M,y⟩;obtain⟨dx,ex,hx⟩:=j.XI hi;rw[SR]at ex
  cases hk:(bT t)[i]? with
  |none=>rw[hk]at ex;cases ex
  |some x =>
   rw[hk]at ex;cases ex;obtain⟨k1,k2,k3⟩:=Dh ht (S4 hk);refine⟨_,rfl,.inl ⟨rfl,_,W2.of M⟩,_,rfl,[toD x],_,(WU.cons hx WU.nil:WU K G [toD x] [vx]),⟨x,rfl,k1,⋯,⋯,rfl⟩,λr A B C hr5 _ I=>?_⟩;have J:=C _ _ M;have b6:Xb e B (upd B e (.lst (c++A))):=Xb.upd (WV.refl B).but;have N:eI K B (upd B e (.lst (c++A))):=b6.grow J aF;have ly:c.length<=aM t:=by rw[<- y.length,tB];exact DY t i
   have lu:A.length=aM x:=by rw[<- I.length,tB,bX]
   refine⟨e,r,c,A,rfl,rfl,J,hr5,cK ⋯,some vx,c++A,rfl,λb o hb=>b6 b o (aN hb q) (C _ _ (Y _ _ hb)),N.tup _ _ (C.Zn v),WU.mono N _ (C.W0 j),aF,?_⟩;rw[xi hk,Tj];exact WU.append (WU.mono N _ (C.W0 y)) (WU.mono N _ I)
 ·rintro L G ⟨z,c,rfl,Y,v,j,M,y⟩;refine⟨_,rfl,post e c G Y M q ?_⟩;rw[<- hl,Bl]at y;exact y
theorem E2(t:Tr)(e:Xx t):∃d r,toD t=.tup (.str d::r)/\((bT t=[]/\∃n,r=[.int n])\/r=(bT t).map toD):=by
 cases t with
 |num n=>exact⟨_,_,rfl,.inl ⟨rfl,n,rfl⟩⟩
 |arg n=>exact⟨_,_,rfl,.inl ⟨rfl,n,rfl⟩⟩
 |call n=>exact⟨_,_,rfl,.inl ⟨rfl,n,rfl⟩⟩
 |two o a b=>exact⟨_,_,rfl,.inr rfl⟩
 |pick a b c=>exact⟨_,_,rfl,.inr rfl⟩
theorem uV(T:Txt P w K mg)(PR:Ok P w base k T.Ot (jR K (i7 n))):Ok P w base (k+1) T.Ot (jR K (i7 (n+1))):=by
 refine Xd T.Ot.f vt λvs H Q E nd h=>?_;obtain⟨ds,es,hd,⟨t,rfl,ht,hn,hz,rfl⟩,post⟩:=h;obtain⟨v0,rfl,h0⟩:=iP hd;refine⟨rfl,λ_ _ _ _ hr=>⟨_,(aC (zs 1 nd (bQ (z1 (pv 0))))
 (aC (iD Uc rfl (kH (jw uD (pv 0) (iV aD) oS)) (zg 2 nd) (aX (bA (bL (aV (fU mq) rfl T.N4 cH (cO (pv 2) (cO (gS (v:=.ty "tuple") rfl T.Os fC rfl) a7))) (λ_=>rfl)) (aX (zs 1 nd (bF LM (pv 1) (pc (D:=T.Ot) PR hr (z1 (pv 2)))))) aO)))
 (zr (pv 1)))),?_⟩⟩
 dsimp only[XQ];show let W5:=a6 _ _;a6 _ W5 _ _ _;intro W5;refine eE (ue (K:=K) (aA (aB h0) aG) λI j H1 s1 hw q1=>?_);have J:H I=none:=s1.free hw;have o:WV H (upd H1 I (.lst j)):=s1.trans (aL hw _);obtain⟨kd,r,ek,hr2⟩:=E2 t ht;have L:=o.dat h0;rw[ek]at L;refine dI (RE.use (m6 (aB (K:=K) (k:=0) L)) λv4 H4 B q4=>?_);obtain⟨a,vs,ea,U,s⟩:=q4.Xf;subst ea;have hl:=s.length;have d1:WU K H4 ([t].map toD) j:=((aL hw _).trans B).W0 q1;rcases hr2 with⟨hk0,m,rfl⟩|rfl
 ·obtain⟨u,eu,hu⟩:=iP s;have YJ:=hu.W4;subst YJ eu;let J_2:Nat->L2.St->Hp->Prop:=λi q G=>∃(z:Option V),q=[some v0,some (.ref I),z]/\WV H4 G;refine⟨a,rfl,⟨_,U⟩,rN (xs:=[.int m]) J_2 ?_ (λi q G _ ⟨z,_,p⟩=>p.Zn U) ?_ ?_⟩
  ·exact⟨none,rfl,WV.refl _⟩
  ·rintro i Y q G y ⟨z,rfl,d⟩
   have ex:Y=.int m:=by
    match i,y with
    |0,y=>simpa using y.symm
    |i+1,y=>simp at y
   subst ex;refine jQ ?_;dsimp only;refine iH (b:=false) ?_ (λc=>nomatch c) (λ_ H5 C=>⟨_,rfl,d.trans C⟩);exact bI (RE.as (cR (aB (K:=K) (k:=2) (Dat.WY m))) rfl)
  ·rintro q G ⟨z,rfl,d⟩;refine⟨_,rfl,post I j G (o.trans (B.trans d)) (d _ _ (B _ _ aF)) J ?_⟩;have e:aS t=[t]:=by rw[gL,hk0];rfl
   rw[e];exact d.W0 d1
 ·rw[tB]at hl;let J_3:Nat->L2.St->Hp->Prop:=λi q G=>∃(z:Option V)(l:Addr)(g:List V),q=[some v0,some (.ref l),z]/\WV H4 G/\G l=some (.lst g)/\H l=none/\WU K G ((zF t i).map toD) g;refine⟨a,rfl,⟨vs,U⟩,rN (xs:=vs) J_3 ?_ (λi q G _ ⟨z,l,g,_,p,_⟩=>p.Zn U) ?_ ?_⟩
  ·exact⟨none,I,j,rfl,WV.refl _,B _ _ aF,J,d1⟩
  ·rintro i Y q G y ⟨z,l,g,rfl,d,A,Y0,M⟩;obtain⟨dx,ex,hx⟩:=s.XI y;rw[SR]at ex
   cases hk:(bT t)[i]? with
   |none=>rw[hk]at ex;cases ex
   |some x =>
    rw[hk]at ex;cases ex;obtain⟨k1,k2,k3⟩:=Dh ht (S4 hk);obtain⟨kx,rx,ekx⟩:=DW x;have N:=d.dat hx;refine jQ ?_;dsimp only;refine iH (b:=true) ?_ (λ_ H5 C=>?_) (λc=>nomatch c)
    ·exact bI (RE.as (cR (aB (K:=K) (k:=2) N)) (by rw[ekx];rfl))
    ·refine⟨_,rfl,_,rfl,[toD x],_,(WU.cons (C.dat N) WU.nil:WU K H5 [toD x] [Y]),⟨x,rfl,k1,⋯,⋯,rfl⟩,λr us H6 s6 hr6 _ O=>?_⟩;have ly:g.length<=aM t:=by rw[<- M.length,tB];exact DY t i
     have lu:us.length=aM x:=by rw[<- O.length,tB,bX]
     refine⟨l,r,g,us,rfl,rfl,s6 _ _ (C _ _ A),hr6,cK ⋯,λp hp=>?_⟩;have s7:=(C.trans s6).trans (aL hp (.lst (g++us)));refine⟨some Y,p,g++us,rfl,d.trans s7,aF,?_,?_⟩
     ·exact(o.trans (B.trans (d.trans (C.trans s6)))).free hp
     ·rw[xi hk,Tj];exact WU.append (s7.W0 M) ((aL hp _).W0 O)
  ·rintro q G ⟨z,l,g,rfl,d,A,Y0,M⟩;refine⟨_,rfl,post l g G (o.trans (B.trans d)) A Y0 ?_⟩;rw[<- hl,Bl]at M;exact M
end
section
variable{K:qs}{k:Nat}
def qj(K:qs)(n:Nat):Sp:=λf H Q _=>∃(a t:Addr)(g:vc)(room p q c:Int),f=[.ref a,.ref t,.int room]/\Zb K H a g/\H t=some (.lst [.int p,.int q,.int c])/\0<=p/\0<=c/\c<=60/\room<=n/\1<=n /\
 ∀(v:V)(b:Hp)(X:Tr)(e h d:Int),Xb t H b->b t=some (.lst [.int e,.int h,.int d])->0<=e->0<=d->d<=c->XJ X->((aP X:Int)=1\/(aP X:Int)<=room)->(aM X:Int)<=1+3*(c - d)->Dat K b (toD X) v->Q v b
noncomputable def Bj(a:List Tr):Nat:=(a.map aM).sum
theorem EY(a:List Tr)(x:Tr):Bj (a++[x])=Bj a+aM x:=by simp[Bj]
def Kv:Tr->Prop
 | .num n=>0<=n/\n<=9999
 | .arg k=>0<=k/\k<=3
 |_=>False
theorem Je(h:Kv x):XJ x/\aP x=1/\aM x=1:=by
 cases x with
 |num n=>exact⟨h,rfl,rfl⟩
 |arg n=>exact⟨h,rfl,rfl⟩
 |two o a b=>exact h.elim
 |pick a b c=>exact h.elim
 |call k=>exact h.elim
theorem HU{nm:Str}{Ts:List Tr}{room:Int}(j:2<=room)(ok:∀x∈Ts,XJ x/\((aP x:Int)=1\/(aP x:Int)<=room - 1))(h:(nm="pick"/\Ts.length=3)\/((nm="add"\/nm="sub"\/nm="mul"\/nm="less")/\Ts.length=2)) :
  ∃X:Tr,toD X=.tup (.str nm::Ts.map toD)/\XJ X/\(aP X:Int)<=room/\aM X=1+Bj Ts:=by
 rcases h with⟨rfl,d⟩|⟨g,d⟩
 ·match Ts,d with
  |[a,b,c],_ =>
   have e:=ok a (by simp);have f:=ok b (by simp);have i:=ok c (by simp);refine⟨.pick a b c,rfl,⟨e.1,f.1,i.1⟩,?_,?_⟩
   ·simp only[aP];lia
   ·simp[aM,Bj];lia
 ·match Ts,d with
  |[a,b],_ =>
   have e:=ok a (by simp);have f:=ok b (by simp);refine⟨.two nm a b,rfl,⟨g,e.1,f.1⟩,?_,?_⟩
   ·simp only[aP];lia
   ·simp[aM,Bj];lia
theorem ya(T:Txt P w K mg)(Of:Ok P w base k T.Oa (uF K))(N9:Ok P w base k T.N3 (nX K))(OK:Ok P w base k T.Od (qj K n)):Ok P w base (k+1) T.Od (qj K (n+1)):=by
 refine Xd T.Od.f yT λvs H Q E nd h=>?_;obtain⟨a,t,ns,room,p,q,c,rfl,hS,hT,hp,hc,hc2,hroom,_,post⟩:=h;refine⟨rfl,λ_ _ _ _ hr=>⟨_,(aC (zs 3 nd (aU (z2 aI (pc (D:=T.Oa) Of hr (z3 (pv 0) (pv 1) aD)))))
 (aC (bA (zt cE (pc (D:=T.Oa) Of hr (z3 (pv 0) (pv 1) aD)) aD) (aX (zs 3 nd (aU (z2 aI (pc (D:=T.N3) N9 hr (z3 (pv 0) (pv 1) (bQ (aY aD (aY aD (aY aD (aY aD (aY aD (aY aD (aY aD (aY aD a7))))))))))))))) aO)
 (aC (bA (PW.pt (fH (zt kT (pv 2) aD) (fH (zt kT (a8 bY (pv 1) aD) aD) (eV (zt cE (pc (D:=T.Oa) Of hr (z3 (pv 0) (pv 1) aD)) aD))))) (zr (pv 3)) aO)
 (aC (Dw (pv 1) aD Ai aD Lv o9)
 (aC (zs 4 nd (pc (D:=T.N3) N9 hr (z3 (pv 0) (pv 1) (bQ (aY aI (aY aI (aY aI (aY aI (aY aI (aY aI a7))))))))))
 (aC (zs 5 nd (gF (zt cE (pv 4) aI) aD aD))
 (zr (bF Do (aU (z1 (pv 4))) (eF dD rfl T.Os fC (z1 (zc [0,1,2] ["_law_k","_law_script","_law_town","_law_room"] (iG rfl T.Pi (z1 (pv 5))) (λ_ _ _ _ _=>(pc (D:=T.Od) OK hr (z3 (pv 1) (pv 2) (bF nQ (pv 3) aD))))))))))))))),?_⟩⟩
 dsimp only[XQ];show let W5:=_;let Xc:=a6 _ W5;let Xv:=a6 _ Xc;let XF:=a6 _ Xv;let X6:=a6 _ XF;let YC:=_;let Zd:=a6 (md _ YC _) X6;a6 _ Zd _ _ _;intro W5 Xc Xv XF X6 YC Zd;refine eE ⟨_,rfl,_,rfl,a,t,ns,4,p,q,[.int c],rfl,hS,hT,hp,⋯,⋯,λr1 H1 p1 q1 b1 t1 g1 r1a r1b=>⟨cK (by simp),λl1 Y=>?_⟩⟩;have ne1:l1≠t:=λz=>by rw[z,t1]at Y;cases Y
 have b2:=b1.trans (aL Y (.tup [.str "arg",.int r1])).but;have t2:upd H1 l1 (.tup [.str "arg",.int r1]) t=some (.lst [.int p1,.int q1,.int c]):=by rw[aR (Tf ne1)];exact t1
 have d2:Dat K (upd H1 l1 (.tup [.str "arg",.int r1])) (toD (.arg r1)) (.ref l1):=Dat.tupI (Xo.of aF) (WU.cons (Dat.Xn _) (WU.cons (Dat.WY _) WU.nil));refine rX (λσ G=>∃(vL:V)(L:Tr)(p q:Int),σ=[some (.ref a),some (.ref t),some (.int room),some vL,none,none]/\Xb t H G/\G t=some (.lst [.int p,.int q,.int c])/\0<=p/\Kv L/\Dat K G (toD L) vL) ?_ (λg=>?_)
 case refine_2 =>
  refine⟨_,rfl,_,rfl,a,t,ns,2,p1,q1,[.int c],rfl,hS.but b2 hT,t2,g1,⋯,⋯,λr3 H3 p3 q3 b3 M N r3a r3b=>?_⟩;refine⟨rfl,_,rfl,?_⟩;refine uS (λcc=>?_) (λcc=>?_)
  ·refine⟨_,rfl,_,rfl,cK ⋯,λl r=>?_⟩;have C:l≠t:=λz=>by rw[z,M]at r;cases r
   have b4:=(b2.trans b3).trans (aL r (.lst [.int 0,.int 1,.int 2,.int 5,.int 99,.int 100,.int 1234,.int 9999])).but;refine⟨a,t,l,ns,_,p3,q3,[.int c],rfl,hS.but b4 hT,W2.of aF,C,⋯,⋯,(by rw[aR (Tf C)];exact M),N,λi x H5 p5 q5 b5 t5 g5 hx=>⟨cK (by simp),λl6 hl6=>?_⟩⟩;have ne6:l6≠t:=λz=>by rw[z,t5]at hl6;cases hl6
   obtain⟨m,em,hm⟩:∃m:Int,x=.int m/\0<=m/\m<=9999:=by have:=S4 hx;simp only[S0,Ti,T9]at this;rcases this with e|e|e|e|e|e|e|e<;>exact⟨_,e,⋯,⋯⟩
   subst em;exact g _ _ ⟨.ref l6,.num m,p5,q5,rfl,(b4.trans b5).trans (aL hl6 _).but,(by rw[aR (Tf ne6)];exact t5),g5,hm,Dat.tupI (Xo.of aF) (WU.cons (Dat.Xn _) (WU.cons (Dat.WY _) WU.nil))⟩
  ·exact g _ _ ⟨.ref l1,.arg r1,p3,q3,rfl,b2.trans b3,M,N,⟨r1a,⋯⟩,Dat.mono (b3.grow t2 M) _ d2⟩
 rintro σ G ⟨vL,L,p,q,rfl,bG,tG,hp,hL,dL⟩;obtain⟨okL,dpL,szL⟩:=Je hL
 have back:∀(s:Hp)(I J:Int),Xb t G s->s t=some (.lst [.int I,.int J,.int c])->0<=I->Q vL s:=λs I J b' t' g' =>
  post vL s L I J c (bG.trans b') t' g' hc (Ut _) okL (.inl ⋯) ⋯ (Dat.mono (b'.grow tG t') _ dL)
 refine dI ⟨_,rfl,room,2,rfl,rfl,_,rfl,?_⟩;refine uS (λc1=>?_) (λc1=>?_)
 ·exact⟨_,rfl,back G p q (WV.refl G).but tG hp⟩
 have c1':¬ room<2:=S5 (VY.mpr c1);refine⟨_,rfl,t,_,2,_,rfl,rfl,W2.of tG,at2,c,1,rfl,rfl,_,rfl,?_⟩;refine uS (λc2=>?_) (λc2=>?_)
 ·exact⟨_,rfl,back G p q (WV.refl G).but tG hp⟩
 have c2':¬ c<1:=S5 (VY.mpr c2);refine⟨_,rfl,_,rfl,a,t,ns,4,p,q,[.int c],rfl,hS.but bG hT,tG,hp,⋯,⋯,λr3 H3 p3 q3 b3 M N r3a r3b=>?_⟩;refine⟨rfl,_,rfl,?_⟩;refine uS (λc3=>?_) (λc3=>?_)
 ·exact⟨_,rfl,back H3 p3 q3 b3 M N⟩
 refine⟨_,rfl,t,_,2,_,rfl,rfl,⋯,W2.of M,rfl,c,1,rfl,rfl,t,_,2,2,rfl,rfl,M,ix2,?_⟩;have b4:Xb t H (upd H3 t (.lst [.int p3,.int q3,.int (c - 1)])):=Xb.upd (bG.trans b3);refine⟨_,rfl,_,rfl,cK ⋯,λl r=>?_⟩;have C:l≠t:=λz=>by rw[z,aF]at r;cases r
 have b5:=b4.trans (aL r (.lst [.str "add",.str "add",.str "sub",.str "mul",.str "less",.str "pick"])).but;refine⟨a,t,l,ns,_,p3,q3,[.int (c - 1)],rfl,hS.but b5 hT,W2.of aF,C,⋯,⋯,(by rw[aR (Tf C)];exact aF),N,λi x H5 p5 q5 b6 t5 g5 hx=>?_⟩;have bH:=b5.trans b6
 obtain⟨j,en,hnm⟩:∃j:Str,x=.str j/\(j="pick"\/(j="add"\/j="sub"\/j="mul"\/j="less")):=by
  have:=S4 hx;simp only[S0,Ti,T9]at this;rcases this with e|e|e|e|e|e
  ·exact⟨_,e,.inr (.inl rfl)⟩
  ·exact⟨_,e,.inr (.inl rfl)⟩
  ·exact⟨_,e,.inr (.inr (.inl rfl))⟩
  ·exact⟨_,e,.inr (.inr (.inr (.inl rfl)))⟩
  ·exact⟨_,e,.inr (.inr (.inr (.inr rfl)))⟩
  ·exact⟨_,e,.inl rfl⟩
 subst en
 obtain⟨d,Z6,hif⟩:∃d:Nat,((j="pick"/\d=3)\/((j="add"\/j="sub"\/j="mul"\/j="less")/\d=2))/\∀(A B:Prop),(A->d=3->False)->True:=by
  rcases hnm with h|h
  ·exact⟨3,.inl ⟨h,rfl⟩,λ_ _ _=>trivial⟩
  ·exact⟨2,.inr ⟨h,rfl⟩,λ_ _ _=>trivial⟩
 clear hif;dsimp only[dE];refine rX (λσ G=>σ=[some (.ref a),some (.ref t),some (.int room),some vL,some (.str j),some (.int d)]/\G=H5) ?_ (λg=>?_)
 case refine_2 =>
  refine⟨_,rfl,rfl,_,rfl,?_⟩;refine uS (λcc=>?_) (λcc=>?_)
  ·have e:V.str j=V.str "pick":=S1 cc;injection e with e;rcases Z6 with⟨_,rfl⟩|⟨h,_⟩
   ·exact g _ _ ⟨rfl,rfl⟩
   ·subst e;exact absurd h ⋯
  ·have e:¬ V.str j=V.str "pick":=S5 (VY.mpr cc);rcases Z6 with⟨h,_⟩|⟨_,rfl⟩
   ·exact absurd (by rw[h]) e
   ·exact g _ _ ⟨rfl,rfl⟩
 rintro σ G ⟨rfl,rfl⟩;have many_le:2<=d/\d<=3:=by rcases Z6 with⟨_,h⟩|⟨_,h⟩<;>lia
 refine⟨_,rfl,cK (by simp),λe he=>?_⟩;have nee:e≠t:=λz=>by rw[z,t5]at he;cases he
 have t6:upd G e (.tup [.str j]) t=some (.lst [.int p5,.int q5,.int (c - 1)]):=by rw[aR (Tf nee)];exact t5
 have b7:=bH.trans (aL he (.tup [.str j])).but;dsimp only;refine jz ?_
 refine nT d (λR hR=>⟨_,rfl,hR⟩) ⋯ rfl
  (λl i s=>∃(O:List Tr)(y:List V)(I J U:Int),Xb t (upd G e (.tup [.str j])) s/\s t=some (.lst [.int I,.int J,.int U])/\0<=I/\0<=U/\U<=c - 1/\s l=some (.lst y)/\O.length=i/\(∀x∈O,XJ x/\((aP x:Int)=1\/(aP x:Int)<=room - 1))/\(Bj O:Int)<=i+3*(c - 1 - U)/\WU K s (O.map toD) y) (λl r=>?_) (λl i s r hi pn=>?_) (λl s r pn=>?_)
 ·have nl:l≠t:=λz=>by rw[z,t6]at r;cases r
  exact⟨[],[],p5,q5,c - 1,(aL r _).but,(by rw[aR (Tf nl)];exact t6),g5,⋯,Ut _,aF,rfl,(λx hx=>absurd hx (by simp)),by simp[Bj],WU.nil⟩
 ·obtain⟨O,y,I,J,U,bt,tt,gp,gc,gc2,hl',lT,Y5,sm,dT⟩:=pn;have nl:l≠t:=λz=>by rw[z,t6]at r;cases r
  have ly:y.length=i:=by rw[<- dT.length,tB,lT]
  refine⟨_,rfl,_,rfl,_,rfl,room,1,rfl,rfl,a,t,ns,room - 1,I,J,U,rfl,hS.but (b7.trans bt) hT,tt,gp,gc,⋯,⋯,⋯,λv G2 X p2 q2 c2 bb t2 g2 h2 h2' Xx ZQ szX dX=>?_⟩;have hl2:=bb l _ nl hl';have g1:eI K s G2:=bb.grow tt t2;have N:eI K G2 (upd G2 l (.lst (y++[v]))):=Xb.grow (t:=l) (Xb.upd (WV.refl G2).but) hl2 aF;refine⟨y,hl2,cU ⋯,⟨_,rfl⟩,O++[X],y++[v],p2,q2,c2,?_,?_,g2,h2,⋯,aF,by rw[M1,lT];rfl,?_,?_,?_⟩
  ·intro b o hb hbo;have nb:b≠l:=aN hbo r;rw[aR nb];exact bb b o hb (bt b o hb hbo)
  ·rw[aR (Tf nl)];exact t2
  ·intro x hx;rcases Tq.mp hx with hx|hx
   ·exact Y5 x hx
   ·rw[Tp.mp hx];exact⟨Xx,ZQ⟩
  ·rw[EY];lia
  ·rw[Tj];exact WU.append (WU.mono N _ (WU.mono g1 _ dT)) (WU.cons (Dat.mono N _ dX) WU.nil)
 ·obtain⟨O,y,I,J,U,bt,tt,gp,gc,gc2,hl',lT,Y5,sm,dT⟩:=pn;have ly:y.length=d:=by rw[<- dT.length,tB,lT]
  refine⟨l,y,rfl,.inl ⟨W2.of hl',λu hu=>?_⟩⟩;have nu:u≠t:=λz=>by rw[z,tt]at hu;cases hu
  have se:Xo K (upd s u (.tup y)) e [.str j]:=(aL hu _).Zn (bt.Zn t6 (Xo.of aF));refine⟨e,u,_,y,rfl,rfl,se,Xo.of aF,(by simp),cK (by rw[Vx];lia),λz=>?_,λ_ x hx=>?_⟩
  ·rw[z]at ly;simp at ly;lia
  ·obtain⟨X,eX,Xx,ZQ,szX⟩:=HU (nm:=j) (Ts:=O) (room:=room) ⋯ Y5 (Z6.elim (λh=>.inl ⟨h.1,⋯⟩) (λh=>.inr ⟨h.1,⋯⟩));have nx:x≠t:=λz=>by rw[z,aR (Tf nu),tt]at hx;cases hx
   have s8:=(aL hu (.tup y)).trans (aL hx (.tup ([.str j]++y)));refine post _ _ X I J U ((b7.trans bt).trans s8.but) (s8 _ _ tt) gp gc ⋯ Xx (.inr ZQ) ⋯ ?_;rw[eX];exact Dat.tupI (Xo.of aF) (WU.cons (Dat.Xn _) (s8.W0 dT))
end
section
variable{k:Nat}
theorem kD(h:(!b)=true):b=false:=by cases b with|true=>cases h|false=>rfl
theorem iC(h:(!b)=false):b=true:=by cases b with|true=>rfl|false=>cases h
noncomputable def sgn(c:Nat):Bool:=(!decide (([c]:List Nat)<("a":Str).cps.toList))&&!decide (("z":Str).cps.toList<([c]:List Nat))
noncomputable def mC:D->Bool
 | .str x=>(decide (1<=(x.length:Int))&&decide ((x.length:Int)<=8))&&(x.cps.toList.map sgn).all id
 |_=>false
def KA:D->Prop
 | .str x=>x.length<=sizeLine
 |_=>True
def Fp(a:List D)(d:D):Prop:=∃x,a=[x]/\KA x/\d=.bl (mC x)
theorem BJ(h:∀y,x≠.str y):rf x "str"=false:=by
 cases x with
 |str y=>exact absurd rfl (h y)
 |_=>rfl
theorem GD(h:∀y,x≠.str y):mC x=false:=by
 cases x with
 |str y=>exact absurd rfl (h y)
 |_=>rfl
variable{K:qs}
theorem BU(T:Txt P w K mg)  : Ok P w base (k+1) T.Qh (Xp K Fp):=by
 refine Xd T.Qh.f Cm λI H Q E J h=>?_;obtain⟨L,d,C,⟨x,rfl,u,rfl⟩,post⟩:=h;obtain⟨M,rfl,t⟩:=iP C;refine⟨rfl,λ_ _ _ _ N=>⟨_,(aC (bA (PW.pt (fH (cI (bL (aV (fU Gm) rfl T.N4 cH (cO (pv 0) (cO (gS (v:=.ty "str") rfl T.Sw FE rfl) a7))) (λ_=>rfl))) (eV (cI (oT lS lS aD (aV xn rfl T.NZ bP (z1 (pv 0))) (bO (v:=.int 8) rfl T.QO ⟨_,rfl⟩)))))) (zr dU) aO)
 (zr (aV (iO rfl) rfl T.Qx lB (z1 (zc [] ["sign"] (L5 (pv 0)) (λ_ _ _ _ _=>(AK GU GU aI (pv 0) aI))))))),?_⟩⟩
 by_cases A:∃y,x=.str y
 ·obtain⟨y,rfl⟩:=A;have u:y.length<=sizeLine:=u;refine aT (K:=K) (b:=!(decide (1<=(y.length:Int))&&decide ((y.length:Int)<=8))) ?_ (λc B g=>?_) (λc B g=>?_)
  ·exact RT.as (dJ (bR (bI (cR (aB t)))) λ_=>bR (aH (mG (p:=λi j=>decide (i<=j)) (r:=λi j=>decide (i<=j)) aE (JV (aB t) u) λ_=>aE))) rfl
  ·refine bE (K:=K) (d:=.bl (mC (.str y))) ?_ λv l s q=>post v l (g.trans s) q
   have e:mC (.str y)=false:=by show(_&&_)=false;have n:=kD c;rw[n,Vj]
   rw[e];exact gO
  ·have n:=iC c
   have O:y.cps.size<=8:=by rw[S2]at n;have:=S1 n.2;have e:y.length=y.cps.size:=rfl;lia
   refine bE (K:=K) (d:=.bl (mC (.str y))) ?_ λv l s q=>post v l (g.trans s) q
   have e:mC (.str y)=(y.cps.toList.map sgn).all id:=by show(_&&_)=_;rw[n,UA]
   rw[e];refine kq (bs:=y.cps.toList.map sgn) (Mb (aB (g.dat t)) ⋯ _ (by simp) rfl (λU i c d Y G a=>?_));rw[SR,SR]at a;have z:y.cps.toList[i]?=some c:=by simpa using G
   rw[z]at a;cases a;refine RE.as (EG (p:=λi j=>!decide (j.cps.toList<i.cps.toList)) (q':=λi j=>!decide (j.cps.toList<i.cps.toList)) aJ (aB (Dat.Xn _)) λ_=>aJ) rfl
 ·have o:∀y,x≠.str y:=λy e=>A ⟨y,e⟩;refine aT (K:=K) (b:=true) ?_ (λc B g=>?_) (λc=>nomatch c)
  ·exact RT.as (dJ (b:=true) (c:=true) (RT.as (bR (bI (cR (aB t)))) (by rw[BJ o];rfl)) λc=>nomatch c) rfl
  ·refine bE (K:=K) (d:=.bl (mC x)) ?_ λv l s q=>post v l (g.trans s) q;rw[GD o];exact gO
theorem Lf:∀p∈TM,∃i,p.2=.flat (.int i):=by intro p a;simp only[TM,S0,Ti,T9]at a;rcases a with rfl|rfl|rfl<;>exact⟨_,rfl⟩
noncomputable def gU:D->Bool
 | .tup (.str k::r)=>decide ((r.length:Int)+1=kL k TM 0)&&(dN (r.getD 0 .W3) 0 1&&(!decide (k="gap")||dN (r.getD 1 .W3) 0 9999))
 |_=>false
theorem mw(k:Str)(r:List D):gU (.tup (.str k::r))=(decide ((r.length:Int)+1=kL k TM 0)&&(dN (r.getD 0 .W3) 0 1&&(!decide (k="gap")||dN (r.getD 1 .W3) 0 9999))):=rfl
def Km(a:List D)(d:D):Prop:=∃x,a=[x]/\d=.bl (gU x)
theorem Am(k:Str):kL k TM 0=0\/kL k TM 0=2\/(k="gap"/\kL k TM 0=3):=by
 unfold kL;by_cases a:k="hole"
 ·subst a;exact .inr (.inl rfl)
 by_cases b:k="gap"
 ·subst b;exact .inr (.inr ⟨rfl,rfl⟩)
 by_cases c:k="slot"
 ·subst c;exact .inr (.inl rfl)
 have e:KTD.datumAt k TM=none:=by simp[TM,KTD.datumAt,a,b,c]
 rw[e];exact .inl rfl
theorem Ms(h:gJ x=false):gU x=false:=by
 unfold gJ at h;unfold gU;split at h
 ·cases h
 ·rename_i a
  first
   |rfl
   | (split
      ·rename_i k r;exact absurd rfl (a k r)
      ·rfl)
theorem BS(T:Txt P w K mg)(Y:Ok P w base k T.Om (Xp K rL))(I:Ok P w base k T.NY (Xp K f6)):Ok P w base (k+1) T.Qg (Xp K Km):=by
 refine Xd T.Qg.f Ck λvs H Q E nd h=>?_;obtain⟨ds,d,hd,⟨x,rfl,rfl⟩,post⟩:=h;obtain⟨J,rfl,p⟩:=iP hd;refine⟨rfl,λ_ _ _ _ A=>⟨_,(aC (bA (PW.pt (fH (cI (bL (pc (D:=T.Om) Y A (z1 (pv 0))) (λ_=>rfl))) (eV (zt lU (aV aQ rfl T.NZ bP (z1 (pv 0))) (wL (bO (v:=.ref T.Oj) rfl T.Pt rfl) (a8 a9 (pv 0) aD) aD ⟨rfl,rfl,rfl,rfl⟩))))) (zr dU) aO)
 (aC (bA (cI (bL (pc (D:=T.NY) I A (z3 (a8 a9 (pv 0) aD) aD aD)) (λ_=>rfl))) (zr dU) aO)
 (zr (GZ (fL lU (a8 a9 (pv 0) aD) aI (iT _)) (j8 (pc (D:=T.NY) I A (z3 (a8 a9 (pv 0) aD) aD (bO (v:=.int 9999) rfl T.R1 ⟨_,rfl⟩)))))))),?_⟩⟩
 dsimp only[XQ];show let L:=a6 _ _;a6 _ L _ _ _;intro L
 cases t:gJ x with
 |false =>
  refine aT (K:=K) (b:=true) ?_ (λc M j=>?_) (λc=>nomatch c)
  ·exact RT.as (dJ (b:=true) (c:=true) (RT.as (bR (bI (bJ (aA (aB p) aG) ⟨x,rfl,rfl⟩))) (by rw[t];rfl)) λc=>nomatch c) rfl
  ·refine bE (K:=K) (d:=.bl (gU x)) ?_ λv l s q=>post v l (j.trans s) q;rw[Ms t];exact gO
 |true =>
  have n:=t;unfold gJ at n;split at n
  ·rename_i a r;have el:((((D.str a)::r).length:Nat):Int)=(r.length:Int)+1:=by rw[SX];lia
   refine aT (K:=K) (b:=!decide ((r.length:Int)+1=kL a TM 0)) ?_ (λc M j=>?_) (λc M j=>?_)
   ·have N:=kJ (K:=K) (fZ (aB (σ:=start ["thing"] [J]) (k:=0) p)) (wN (i:=0) T.Ol (bC (k:=0) (aB (σ:=start ["thing"] [J]) (k:=0) p) aE rfl) aE Lf);rw[el]at N;exact RT.as (dJ (b:=false) (RT.as (bR (bI (bJ (aA (aB p) aG) ⟨_,rfl,rfl⟩))) (by rw[t];rfl)) λ_=>aH N) (Uw _)
   ·refine bE (K:=K) (d:=.bl (gU (.tup (.str a::r)))) ?_ λv l s q=>post v l (j.trans s) q
    have e:gU (.tup (.str a::r))=false:=by rw[mw];rw[show decide ((r.length:Int)+1=kL a TM 0)=false from kD c,Vj]
    rw[e];exact gO
   ·have B:decide ((r.length:Int)+1=kL a TM 0)=true:=iC c;have o:=S1 B;have O:=j.dat p
    obtain⟨y,g,C⟩:∃y g,r=y::g:=by
     cases r with
     |nil=>rcases Am a with h|h|⟨_,h⟩<;>(rw[h]at o;simp at o)
     |cons y g=>exact⟨y,g,rfl⟩
    subst C;refine aT (K:=K) (b:=!dN y 0 1) (bR (bI (bJ (R:=f6) (aA (bC (k:=1) (aB O) aE rfl) (aA aE (aA aE aG))) ⟨y,0,1,rfl,rfl⟩))) (λG H2 u=>?_) (λG H2 u=>?_)
    ·refine bE (K:=K) (d:=.bl (gU (.tup (.str a::y::g)))) ?_ λv l s q=>post v l (j.trans (u.trans s)) q
     have e:gU (.tup (.str a::y::g))=false:=by rw[mw,B,UA];show(dN y 0 1&&_)=false;rw[show dN y 0 1=false from kD G,Vj]
     rw[e];exact gO
    ·refine bE (K:=K) (d:=.bl (gU (.tup (.str a::y::g)))) ?_ λv l s q=>post v l (j.trans (u.trans s)) q;have U:=u.dat O
     have e:gU (.tup (.str a::y::g))=(!decide (a="gap")||dN (g.getD 0 .W3) 0 9999):=by rw[mw,B,UA];show(dN y 0 1&&(!decide (a="gap")||dN (g.getD 0 .W3) 0 9999))=_;rw[show dN y 0 1=true from iC G,UA]
     rw[e];refine DH (yE (bC (k:=0) (aB U) aE rfl) aJ) λc3=>?_;have hk:a="gap":=by simpa using c3
     obtain⟨z,C⟩:∃z,g=[z]:=by
      rcases Am a with h|h|⟨_,h⟩
      ·rw[h]at o;simp at o;lia
      ·rw[hk]at h;exact absurd h ⋯
      ·rw[h]at o
       match g,o with
       |[z],_=>exact⟨z,rfl⟩
       |[],h=>simp at h
       |_::_::_,h=>simp at h;lia
     subst C;exact bJ (E:=E0) (R:=f6) (aA (bC (k:=2) (aB U) aE rfl) (aA aE (aA aE aG))) ⟨z,0,9999,rfl,rfl⟩
  ·cases n
noncomputable def oo:D->Bool
 | .tup (.str k::_)=>decide (k∈(["arg","pick"]:vn))
 |_=>false
noncomputable def YR:Nat->D->Bool
 |0,_=>false
 |n+1,d=>gU d||(fS d&&(!oo d&&((dQ d).map (YR n)).all id))
def Rpp(n:Nat)(a:List D)(d:D):Prop:=∃x,a=[x,.int (4 - (n:Int))]/\d=.bl (YR n x)
def Kn:Nat->List D->D->Prop
 |0=>λ_ _=>False
 |n+1=>Rpp n
theorem j7(T:Txt P w K mg)(Sa:Ok P w base k T.Qg (Xp K Km))(QC:Ok P w base k T.Po (Xp K Fq))(N5:Ok P w base k T.N0 (Xp K iM))(OO:Ok P w base k T.N7 (Xp K (Kn n))):Ok P w base (k+1) T.N7 (Xp K (Rpp n)):=by
 refine Xd T.N7.f nW λvs H Q E nd h=>?_;obtain⟨ds,d,hd,⟨x,rfl,rfl⟩,post⟩:=h;obtain⟨v0,v1,rfl,a,g⟩:=iF hd;refine⟨rfl,λ_ _ _ _ A=>⟨_,(aC (bA (zt kn (pv 1) (bO (v:=.int 3) rfl T.Qk ⟨_,rfl⟩)) (zr dU) aO)
 (aC (bA (bL (pc (D:=T.Qg) Sa A (z1 (pv 0))) (λ_=>rfl)) (zr dU) aO)
 (aC (bA (PW.pt (fH (cI (bL (pc (D:=T.Po) QC A (z1 (pv 0))) (λ_=>rfl))) (eV (zt fA (a8 a9 (pv 0) aD) (aU (z2 aI aI)))))) (zr dU) aO)
 (zr (aV (iO rfl) rfl T.Qx lB (z1 (zc [1] ["within","deep"] (kH (pc (D:=T.N0) N5 A (z1 (pv 0)))) (λ_ _ _ _ _=>(pc (D:=T.N7) OO A (z2 (pv 0) (bF cJ (pv 1) aD))))))))))),?_⟩⟩
 dsimp only[XQ];show let L:=a6 _ _;let M:=a6 _ L;a6 _ M _ _ _;intro L M
 cases n with
 |zero =>refine aT (K:=K) (b:=true) (RT.as (aH (cP (p:=λi j=>decide (j<i)) (aB g) aE)) rfl) (λc H1 o=>?_) (λc=>nomatch c);exact bE (K:=K) (d:=.bl false) gO λv l s q=>post v l (o.trans s) q
 |succ n =>
  refine aT (K:=K) (b:=false) (RT.as (aH (cP (p:=λi j=>decide (j<i)) (aB g) aE)) (S3 ⋯)) (λc=>nomatch c) (λc H1 o=>?_);have a:=o.dat a;have g:=o.dat g;refine aT (K:=K) (b:=gU x) (bI (bJ (aA (aB a) aG) ⟨x,rfl,rfl⟩)) (λc N t=>?_) (λc N t=>?_)
  ·refine bE (K:=K) (d:=.bl true) gO λv l s q=>post v l (o.trans (t.trans s)) ?_;have e:YR (n+1) x=true:=by unfold YR;rw[c];rfl
   rw[e];exact q
  have a:=t.dat a;have g:=t.dat g
  have C:YR (n+1) x=(fS x&&(!oo x&&((dQ x).map (YR n)).all id)):=by show(gU x||_)=_;rw[c,Uw]
  cases u:fS x with
  |false =>refine aT (K:=K) (b:=true) (RT.as (dJ (b:=true) (c:=true) (RT.as (bR (bI (bJ (aA (aB a) aG) ⟨x,rfl,rfl⟩))) (by rw[u];rfl)) λc=>nomatch c) rfl) (λc O y=>?_) (λc=>nomatch c);refine bE (K:=K) (d:=.bl false) gO λv l s q=>post v l (o.trans (t.trans (y.trans s))) ?_;rw[C,u];exact q
  |true =>
   obtain⟨U,r,B⟩:=tH u;have few:=tm u;have G:Dat K N (.tup (.str U::r)) v0:=by rw[<- B];exact a
   refine aT (K:=K) (b:=oo x) (RT.as (dJ (b:=false) (RT.as (bR (bI (bJ (aA (aB a) aG) ⟨x,rfl,rfl⟩))) (by rw[u];rfl)) λ_=>aH (kg (ys:=["arg","pick"]) (bC (k:=0) (aB G) aE rfl) (aZ (aA aJ (aA aJ aG))))) (by rw[B];exact Uw _)) (λI O y=>?_) (λI O y=>?_)
   ·refine bE (K:=K) (d:=.bl false) gO λv l s q=>post v l (o.trans (t.trans (y.trans s))) ?_;rw[C,u,I];exact q
   ·have g:=y.dat g;refine bE (K:=K) (d:=.bl (((dQ x).map (YR n)).all id)) (kq (tZ (cs:=dQ x) (bJ (R:=iM) (aA (aB (y.dat a)) aG) ⟨U,r,by rw[B],by rw[B]⟩) ⋯ _ (by simp) rfl (λH4 i z vz d s4 hz Y J=>?_))) λv l s q=>post v l (o.trans (t.trans (y.trans s))) ?_
    ·rw[SR,SR,hz]at Y;cases Y;exact bJ (E:=E0) (R:=Rpp n) (aA (aB J) (aA (RE.as (dC (aB (s4.dat g)) aE) (Tu D.int (by lia:(4:Int) - ((n+1:Nat):Int)+1=4 - (n:Int)))) aG)) ⟨z,rfl,rfl⟩
    ·rw[C,u,I];exact q
noncomputable def pH(k:Str):D->Bool
 | .tup (.str h::_)=>decide (h=k)
 |_=>false
noncomputable def eB:Nat->Str->D->List D
 |0,_,_=>[]
 |n+1,k,d=>if pH k d=true then [d]else (dQ d).flatMap (eB n k)
def mf(n:Nat)(a b:List D):Prop:=∃x k,a=[x,.str k]/\n<=3/\YR n x=true/\b=eB n k x
theorem An(h:gU d=true):∃k r,d=.tup (.str k::r):=by
 unfold gU at h;split at h
 ·exact⟨_,_,rfl⟩
 ·cases h
theorem GC{k:Str}{r:List D}(h:gU (.tup (.str k::r))=true):k="hole"\/k="gap"\/k="slot":=by
 rw[mw,S2]at h;have a:=S1 h.1;unfold kL at a;by_cases b:k="hole"
 ·exact .inl b
 by_cases c:k="gap"
 ·exact .inr (.inl c)
 by_cases d:k="slot"
 ·exact .inr (.inr d)
 have e:KTD.datumAt k TM=none:=by simp[TM,KTD.datumAt,b,c,d]
 rw[e]at a;dsimp only at a;lia
theorem uK{k:Str}(h:k="hole"\/k="gap"\/k="slot"):KTD.inKeys k TB=false/\KTD.inKeys k TL=false:=by rcases h with rfl|rfl|rfl<;>decide +kernel
theorem Eo(h:gU d=true):dQ d=[]:=by obtain⟨k,r,rfl⟩:=An h;exact jW (uK (GC h)).1
theorem B5(h:YR n d=true):∃k r,d=.tup (.str k::r):=by
 cases n with
 |zero=>cases h
 |succ n =>
  have h':(gU d||(fS d&&(!oo d&&((dQ d).map (YR n)).all id)))=true:=h;rw[Bool.or_eq_true]at h';rcases h' with h' |h'
  ·exact An h'
  ·rw[S2]at h';exact tH h'.1
theorem yw(h:YR (n+1) d=true):(dQ d).length<=3/\∀c∈dQ d,YR n c=true:=by
 have h':(gU d||(fS d&&(!oo d&&((dQ d).map (YR n)).all id)))=true:=h;rw[Bool.or_eq_true]at h';rcases h' with h' |h'
 ·rw[Eo h'];exact⟨by simp,λc a=>absurd a (by simp)⟩
 ·rw[S2,S2]at h';refine⟨tm h'.1,λc a=>?_⟩;have z:=UE.mp h'.2.2 (YR n c) (T5.mpr ⟨c,a,rfl⟩);exact z
theorem C6{α β:Type}(f:α->List β)(m:Nat):∀l:List α,(∀x∈l,(f x).length<=m)->(l.flatMap f).length<=l.length*m
 |[],_=>by simp
 |x::l,h=>by have b:=h x (by simp);have c:=C6 f m l λy a=>h y (by simp[a]);rw[List.flatMap_cons,M1,SX,Nat.succ_mul];lia
theorem tq(k:Str):∀(n:Nat)(d:D),YR n d=true->(eB n k d).length<=3 ^ n
 |0,d,h=>by cases h
 |n+1,d,h=>by
  unfold eB;split
  ·have:1<=3 ^ (n+1):=Nat.one_le_iff_ne_zero.mpr (by simp);simpa using this
  ·obtain⟨a,b⟩:=yw h;have z:=C6 (eB n k) (3 ^ n) (dQ d) λc e=>tq k n c (b c e);have z2:(dQ d).length*3 ^ n<=3*3 ^ n:=Nat.mul_le_mul_right _ a;rw[WT,Nat.mul_comm (3 ^ n) 3];lia
theorem p3(h:n<=3):3 ^ n<=27:=by
 match n,h with
 |0,_=>decide
 |1,_=>decide
 |2,_=>decide
 |3,_=>decide
theorem AF(T:Txt P w K mg)(N5:Ok P w base k T.N0 (Xp K iM))(Pq:Ok P w base k T.Ov (jR K (mf n))):Ok P w base (k+1) T.Ov (jR K (mf (n+1))):=by
 refine Xd T.Ov.f Bf λt H Q E nd h=>?_;obtain⟨ds,es,hd,⟨x,e,rfl,hn3,hp,rfl⟩,post⟩:=h;obtain⟨v0,v1,rfl,u,N⟩:=iF hd;refine⟨rfl,λ_ _ _ _ hr=>⟨_,(aC (bA (zt cE (a8 a9 (pv 0) aD) (pv 1)) (zr (bQ (z1 (pv 0)))) aO)
 (aC (zs 2 nd (bQ a7))
 (aC (iD Uc rfl (kH (pc (D:=T.N0) N5 hr (z1 (pv 0)))) (zg 3 nd) (aX (bK (dW Tg Us Ux gI (pv 2) (z1 (pc (D:=T.Ov) Pq hr (z2 (pv 3) (pv 1))))))))
 (zr (pv 2))))),?_⟩⟩
 dsimp only[XQ];obtain⟨kd,r,O⟩:=B5 hp;have h0':Dat K H (.tup (.str kd::r)) v0:=by rw[<- O];exact u
 have eh:pH e x=decide (kd=e):=by rw[O];rfl
 obtain⟨few,kok⟩:=yw hp;have cap:=tq e (n+1) x hp;have cap3:=p3 hn3;refine aT (K:=K) (b:=pH e x) (RT.as (aH (bN (bC (k:=0) (aB h0') aE rfl) (aB N))) eh.symm) (λc H1 j=>?_) (λc H1 j=>?_)
 ·refine jM ((fY (K:=K) (es:=[x]) (aA (aB (j.dat u)) aG)).use λl g H2 hl U hy hd2=>?_);refine post l g H2 (j.trans U) hy (j.free hl) ?_;unfold eB;rw[SV c];exact hd2
 have em:eB (n+1) e x=(dQ x).flatMap (eB n e):=by show(if pH e x=true then _ else _)=_;rw[PC (by rw[c];exact SW)]
 rw[em]at cap post;have u:=j.dat u;have N:=j.dat N;have hk1:=N.Xh;refine fG (K:=K) (es:=[]) (fY aG) λq ys0 H2 hw U hy0 hd0=>?_;have v:H q=none:=j.free hw;refine dI (RE.use (bJ (R:=iM) (d:=.tup (dQ x)) (aA (aB (K:=K) (k:=0) (U.dat u)) aG) ⟨kd,r,by rw[O],by rw[O]⟩) λv4 H4 s4 q4=>?_);obtain⟨a,t,ea,hq,y⟩:=q4.Xf;subst ea;have hl:=y.length;let Zk:Nat->L2.St->Hp->Prop:=λi Y G=>∃(z:Option V)(g:List V),Y=[some v0,some v1,some (.ref q),z]/\WV H G/\Xo K G a t/\WU K G (dQ x) t/\G q=some (.lst g)/\WU K G (((dQ x).take i).flatMap (eB n e)) g;refine⟨a,rfl,⟨t,hq⟩,rN (xs:=t) Zk ?_ (λi Y G _ ⟨z,g,_,_,p,_⟩=>p) ?_ ?_⟩
 ·exact⟨none,ys0,rfl,j.trans (U.trans s4),hq,y,s4 _ _ hy0,s4.W0 hd0⟩
 ·rintro i vx Y G hi ⟨z,g,rfl,sG,A,s,ZF,B⟩;obtain⟨C,ex,hx⟩:=s.XI hi;have hpx:=kok C (S4 ex);subst hk1;refine⟨_,rfl,.inl ⟨rfl,_,W2.of ZF⟩,_,rfl,_,rfl,[C,.str e],_,(WU.cons hx (WU.cons (Dat.Xn _) WU.nil):WU K G [C,.str e] [vx,.str e]),⟨C,e,rfl,⋯,hpx,rfl⟩,λr us I J hr5 _ L=>?_⟩;have M:=J _ _ ZF;have b6:Xb q I (upd I q (.lst (g++us))):=Xb.upd (WV.refl I).but;have g6:eI K I (upd I q (.lst (g++us))):=b6.grow M aF
  have et:((dQ x).take (i+1)).flatMap (eB n e)=((dQ x).take i).flatMap (eB n e)++eB n e C:=by rw[Ug,ex];simp
  have lt:(((dQ x).take (i+1)).flatMap (eB n e)).length<=27:=by
   have e2:((dQ x).take (i+1)).flatMap (eB n e)++((dQ x).drop (i+1)).flatMap (eB n e)=(dQ x).flatMap (eB n e):=by rw[<- List.flatMap_append,UD]
   have:=Tu List.length e2;rw[M1]at this;lia
  have ly:=B.length;have lu:=L.length;rw[et,M1]at lt;refine⟨q,r,g,us,rfl,rfl,M,hr5,cK ⋯,some vx,g++us,rfl,λb o hb=>b6 b o (aN hb v) (J _ _ (sG _ _ hb)),g6.tup _ _ (J.Zn A),WU.mono g6 _ (J.W0 s),aF,?_⟩;rw[et];exact WU.append (WU.mono g6 _ (J.W0 B)) (WU.mono g6 _ L)
 ·rintro Y G ⟨z,g,rfl,sG,A,s,ZF,B⟩;refine⟨_,rfl,post q g G sG ZF v ?_⟩;rw[<- hl,UR]at B;exact B
noncomputable def Mm:D->D
 | .tup (_::y::_)=>y
 |_=>.W3
theorem BO{k:Str}{r:List D}(h:gU (.tup (.str k::r))=true):∃i a,r=.int i::a:=by
 rw[mw,S2,S2]at h;have b:=h.2.1
 cases r with
 |nil=>cases b
 |cons y a =>
  have c:dN y 0 1=true:=b
  cases y with
  |int i=>exact⟨i,a,rfl⟩
  |_=>cases c
theorem mx{k:Str}(hk:k="hole"\/k="gap"\/k="slot"):∀(n:Nat)(x m:D),YR n x=true->m∈eB n k x->∃i r,m=.tup (.str k::.int i::r)
 |0,x,m,h,_=>by cases h
 |n+1,x,m,h,a=>by
  unfold eB at a;split at a
  ·rename_i f;have e:m=x:=by simpa using a
   subst e;obtain⟨b,r,rfl⟩:=B5 h;have g:b=k:=S1 f;subst g;have h':(gU (.tup (.str b::r))||(fS (.tup (.str b::r))&&_))=true:=h;rw[Bool.or_eq_true]at h';rcases h' with h' |h'
   ·obtain⟨i,j,rfl⟩:=BO h';exact⟨i,j,rfl⟩
   ·rw[S2]at h';have z:=h'.1;rw[tE (uK hk).2,(uK hk).1,Vj]at z;cases z
  ·obtain⟨c,l,d⟩:=V8.mp a;exact mx hk n c m ((yw h).2 c l) d
noncomputable def Jk(k:Str)(x:D):Bool:=Xq ((eB 3 k x).map Mm) ((List.range (eB 3 k x).length).map λi:Nat=>D.int i)
def K9(a:List D)(d:D):Prop:=∃x k,a=[x,.str k]/\YR 3 x=true/\(k="hole"\/k="gap"\/k="slot")/\d=.bl (Jk k x)
theorem rV(b:H l=some (.lst a))(e:σ[k]?=some (some (.ref l)):=by rfl):RE K (YM (λc H Q=>∃p a,c=[.ref p]/\(W2 K H p a\/Xo K H p a)/\Q (.int a.length) H) (bU (fR k) dR)) σ H (.int a.length):=λd s Q q =>
 ⟨.ref l,e,l,a,rfl,.inl (W2.of (s _ _ b)),q _ _ (WV.refl _) (Dat.WY _)⟩
theorem tD(h:∀d∈l,∃i,d=.int i):Xe l=true/\WZ l=0:=by
 induction l with
 |nil=>exact⟨by unfold Xe;rfl,by unfold WZ;rfl⟩
 |cons d l a =>
  obtain⟨i,rfl⟩:=h d (by simp);obtain⟨b,c⟩:=a λd e=>h d (by simp[e]);refine⟨?_,?_⟩
  ·unfold Xe;rw[b];unfold XC;rfl
  ·unfold WZ;rw[c];unfold gK;rfl
theorem tO(T:Txt P w K mg)(J:Ok P w base k T.Ov (jR K (mf 3))):Ok P w base (k+1) T.Pd (Xp K K9):=by
 refine Xd T.Pd.f uB λvs H Q E L h=>?_;obtain⟨ds,d,M,⟨x,b,rfl,o,hk,rfl⟩,post⟩:=h;obtain⟨v0,v1,rfl,N,O⟩:=iF M;refine⟨rfl,λ_ _ _ _ z=>⟨_,(aC (j9 (i:=2) (own:=["mark"]) (fr:=[]) (N':=["mark"]) (fM (pc (D:=T.Ov) J z (z2 (pv 0) (pv 1)))) rfl (by show iB ["pattern","kind","numbers"] (λx=>(aK kK).names.lookup x) _ _ _ _=true;decide +kernel) rfl (λ_ _ _ _ _=>(f9 (i:=0) (by show List.Nodup [("mark":Str)];decide +kernel) rfl (Or.inl rfl))) (λ_ _ _ _ _=>jx) (λ_ _ _ _ _=>(a8 (r:=lZ K) a9 (pv 0) aD)) L rfl rfl rfl)
 (zr (fL (ym z) (pv 2) (eF (uQ rfl) rfl T.QP oy (z1 (eF FL rfl T.Pi FD (z1 (aV aQ rfl T.NZ bP (z1 (pv 2))))))) (iT _)))),?_⟩⟩
 have e:=tq b 3 x o;refine fG (K:=K) (es:=(eB 3 b x).map Mm) (JN (cs:=eB 3 b x) (lJ (R:=mf 3) (aA (aB N) (aA (aB O) aG)) ⟨x,b,rfl,⋯,o,rfl⟩) (Tz e ⋯) _ (by simp) rfl (λH1 i c v d s1 A B U=>?_)) λl p H2 hl Y C g=>?_
 ·rw[SR,A]at B;cases B;obtain⟨j,r,rfl⟩:=mx hk 3 x c o (S4 A);exact bC (k:=1) (aB U) aE rfl
 have q:=g.length;rw[tB]at q;refine⟨_,rfl,(yB (K:=K) (n:=p.length) (rV (k:=2) C) (by rw[<- q];exact Tz e ⋯)).use λl2 s H3 hl2 t u y=>?_⟩
 have G:∀d∈(eB 3 b x).map Mm,∃i,d=.int i:=λd a=>by obtain⟨m,I,rfl⟩:=T5.mp a;obtain⟨j,r,rfl⟩:=mx hk 3 x m o I;exact⟨j,rfl⟩
 have i2:∀d∈(List.range p.length).map (λi:Nat=>D.int i),∃i,d=.int i:=λd a=>by obtain⟨m,I,rfl⟩:=T5.mp a;exact⟨_,rfl⟩
 refine⟨l,l2,p,s,_,_,rfl,rfl,W2.of (t _ _ C),W2.of u,t.W0 g,y,(tD G).1,(tD i2).1,by rw[(tD G).2];decide,?_⟩;refine post _ _ (Y.trans t) ?_;unfold Jk;rw[q];exact Dat.X3 _
noncomputable def yr(x:D):Bool:=YR 3 x&&(!pH "hole" x&&((["hole","gap","slot"]:vn).map λk=>Jk k x).all id)
def La(a:List D)(d:D):Prop:=∃x,a=[x]/\d=.bl (yr x)
theorem uY(T:Txt P w K mg)(u:Ok P w base k T.N7 (Xp K (Rpp 3)))(y:Ok P w base k T.Pd (Xp K K9)):Ok P w base (k+1) T.Pk (Xp K La):=by
 refine Xd T.Pk.f vB λJ H Q E L h=>?_;obtain⟨M,d,z,⟨x,rfl,rfl⟩,post⟩:=h;obtain⟨A,rfl,g⟩:=iP z;refine⟨rfl,λ_ _ _ _ n=>⟨_,(aC (bA (PW.pt (fH (cI (bL (pc (D:=T.N7) u n (z2 (pv 0) aD)) (λ_=>rfl))) (eV (zt cE (a8 a9 (pv 0) aD) aI)))) (zr dU) aO)
 (zr (aV (iO rfl) rfl T.Qx lB (z1 (zc [0] ["kind","thing"] (L6 (bO (v:=.ref T.Oj) rfl T.Pt rfl)) (λ_ _ _ _ _=>(pc (D:=T.Pd) y n (z2 (pv 1) (pv 0))))))))),?_⟩⟩
 cases a:YR 3 x with
 |false =>refine aT (K:=K) (b:=true) (RT.as (dJ (b:=true) (c:=true) (RT.as (bR (bI (bJ (R:=Rpp 3) (aA (aB g) (aA aE aG)) ⟨x,rfl,rfl⟩))) (by rw[a];rfl)) λc=>nomatch c) rfl) (λc N B=>?_) (λc=>nomatch c);refine bE (K:=K) (d:=.bl false) gO λv e s q=>post v e (B.trans s) ?_;unfold yr;rw[a];exact q
 |true =>
  obtain⟨C,r,o⟩:=B5 a;have l:Dat K H (.tup (.str C::r)) A:=by rw[<- o];exact g
  refine aT (K:=K) (b:=pH "hole" x) (RT.as (dJ (b:=false) (RT.as (bR (bI (bJ (R:=Rpp 3) (aA (aB g) (aA aE aG)) ⟨x,rfl,rfl⟩))) (by rw[a];rfl)) λ_=>aH (bN (bC (k:=0) (aB l) aE rfl) aJ)) (by rw[o];exact Uw _)) (λc G j=>?_) (λc G j=>?_)
  ·refine bE (K:=K) (d:=.bl false) gO λv e s q=>post v e (j.trans s) ?_;unfold yr;rw[a,c];exact q
  ·refine bE (K:=K) (d:=.bl (((["hole","gap","slot"]:vn).map λk=>Jk k x).all id)) (kq (Mc T.Qa ⋯ _ rfl rfl (λO i p d I hk t=>?_))) λv e s q=>post v e (j.trans s) ?_
   ·rw[SR,SR,hk]at t;cases t;refine bJ (E:=E0) (R:=K9) (aA (aB (I.dat (j.dat g))) (aA (aB (Dat.Xn p)) aG)) ⟨x,p,rfl,a,?_,rfl⟩;have:=S4 hk;simpa using this
   ·unfold yr;rw[a,c];exact q
noncomputable def xg(k:Str)(T:List (Str×KTD.Dat)):Str:=match KTD.datumAt k T with|some (.flat (.str z))=>z|_=>""
theorem Ld{k:Str}(h:KTD.inKeys k TF=true):KTD.datumAt k TF=some (.flat (.str (xg k TF))):=by
 unfold xg;by_cases a:k="low"
 ·subst a;rfl
 by_cases b:k="high"
 ·subst b;rfl
 by_cases c:k="arg"
 ·subst c;rfl
 have e:KTD.inKeys k TF=false:=by simp[TF,KTD.inKeys,a,b,c]
 rw[e]at h;cases h
noncomputable def sL(p:D):D->Bool
 | .tup (.str k::r)=>decide ((r.length:Int)+1=2)&&(KTD.inKeys k TF&&dN (r.getD 0 .W3) 0 (((eB 3 (xg k TF) p).length:Int) - 1))
 |_=>false
theorem Ad(p:D)(k:Str)(r:List D):sL p (.tup (.str k::r))=(decide ((r.length:Int)+1=2)&&(KTD.inKeys k TF&&dN (r.getD 0 .W3) 0 (((eB 3 (xg k TF) p).length:Int) - 1))):=rfl
def Fn(a:List D)(d:D):Prop:=∃x p,a=[x,p]/\YR 3 p=true/\d=.bl (sL p x)
theorem IK(h:gJ x=false):sL p x=false:=by
 unfold gJ at h;unfold sL;split at h
 ·cases h
 ·rename_i a
  first
   |rfl
   | (split
      ·rename_i k r;exact absurd rfl (a k r)
      ·rfl)
theorem uX(T:Txt P w K mg)(I:Ok P w base k T.Om (Xp K rL))(J:Ok P w base k T.Ov (jR K (mf 3)))(L:Ok P w base k T.NY (Xp K f6)):Ok P w base (k+1) T.Pj (Xp K Fn):=by
 refine Xd T.Pj.f vA λvs H Q E nd h=>?_;obtain⟨ds,d,M,⟨x,p,rfl,N,rfl⟩,post⟩:=h;obtain⟨O,U,rfl,a,t⟩:=iF M;refine⟨rfl,λ_ _ _ _ u=>⟨_,(aC (bA (PW.pt (fH (cI (bL (pc (D:=T.Om) I u (z1 (pv 0))) (λ_=>rfl))) (fH (zt lU (aV aQ rfl T.NZ bP (z1 (pv 0))) aD) (eV (zt AH (a8 a9 (pv 0) aD) (bO (v:=.ref T.O5) rfl T.Qn rfl)))))) (zr dU) aO)
 (zr (pc (D:=T.NY) L u (z3 (a8 a9 (pv 0) aD) aD (bF nQ (aV aQ rfl T.NZ bP (z1 (pc (D:=T.Ov) J u (z2 (pv 1) (a8 Jc (bO (v:=.ref T.O5) rfl T.Qn rfl) (a8 a9 (pv 0) aD)))))) aD))))),?_⟩⟩
 dsimp only[XQ];show let z:=_;a6 _ z _ _ _;intro z
 cases o:gJ x with
 |false =>
  refine aT (K:=K) (b:=true) ?_ (λc A g=>?_) (λc=>nomatch c)
  ·exact RT.as (dJ (b:=true) (c:=true) (RT.as (bR (bI (bJ (aA (aB a) aG) ⟨x,rfl,rfl⟩))) (by rw[o];rfl)) λc=>nomatch c) rfl
  ·refine bE (K:=K) (d:=.bl (sL p x)) ?_ λv n s q=>post v n (g.trans s) q;rw[IK o];exact gO
 |true =>
  have j:=o;unfold gJ at j;split at j
  ·rename_i l r;have Y:((((D.str l)::r).length:Nat):Int)=(r.length:Int)+1:=by rw[SX];lia
   have B:=kJ (K:=K) (fZ (aB (σ:=start ["thing","pattern"] [O,U]) (k:=0) a)) (aE (i:=2));rw[Y]at B;refine aT (K:=K) (b:=!decide ((r.length:Int)+1=2)||!KTD.inKeys l TF) (RT.as (dJ (b:=false) (RT.as (bR (bI (bJ (aA (aB a) aG) ⟨_,rfl,rfl⟩))) (by rw[o];rfl)) λ_=>dJ (aH B) λ_=>aH (A0 (bC (k:=0) (aB a) aE rfl) T.Qo)) (Uw _)) (λc A g=>?_) (λc A g=>?_)
   ·refine bE (K:=K) (d:=.bl false) gO λv n s q=>post v n (g.trans s) ?_
    have e:sL p (.tup (.str l::r))=false:=by
     rw[Ad]
     cases h2:decide ((r.length:Int)+1=2)with
     |false=>rfl
     |true =>rw[h2]at c;have h3:KTD.inKeys l TF=false:=kD c;rw[h3];rfl
    rw[e];exact q
   ·rw[Uz]at c;have C:=iC c.1;have G:=iC c.2
    obtain⟨y,er⟩:∃y,r=[y]:=by
     match r,S1 C with
     |[],h=>simp at h
     |[y],_=>exact⟨y,rfl⟩
     |_::_::_,h=>simp at h;lia
    subst er;have a:=g.dat a;have t:=g.dat t;refine bE (K:=K) (d:=.bl (dN y 0 (((eB 3 (xg l TF) p).length:Int) - 1))) (bJ (R:=f6) (aA (bC (k:=1) (aB a) aE rfl) (aA aE (aA (uc (JU (lJ (R:=mf 3) (aA (aB t) (aA (EH (bC (k:=0) (aB a) aE rfl) T.Qo (by rfl) (Ld G)) aG)) ⟨p,xg l TF,rfl,⋯,N,rfl⟩)) aE) aG))) ⟨y,0,_,rfl,rfl⟩) λv n s q=>post v n (g.trans s) ?_;rw[Ad,C,G];exact q
  ·cases j
noncomputable def zV(p x:D):Bool:=dN x 0 99||sL p x
def Fl(a:List D)(d:D):Prop:=∃x p,a=[x,p]/\YR 3 p=true/\d=.bl (zV p x)
theorem BQ(T:Txt P w K mg)(c:Ok P w base k T.NY (Xp K f6))(e:Ok P w base k T.Pj (Xp K Fn)):Ok P w base (k+1) T.Qe (Xp K Fl):=by refine Xd T.Qe.f Ci λl H Q E n h=>?_;obtain⟨o,d,g,⟨x,p,rfl,i,rfl⟩,post⟩:=h;obtain⟨q,r,rfl,a,j⟩:=iF g;refine⟨rfl,λ_ _ _ _ b=>⟨_,(zr (GZ (pc (D:=T.NY) c b (z3 (pv 0) aD (bO (v:=.int 99) rfl T.P8 ⟨_,rfl⟩))) (j8 (pc (D:=T.Pj) e b (z2 (pv 0) (pv 1)))))),?_⟩⟩;exact bE (K:=K) (d:=.bl (zV p x)) (DH (bJ (R:=f6) (aA (aB a) (aA aE (aA aE aG))) ⟨x,0,99,rfl,rfl⟩) λ_=>bJ (R:=Fn) (aA (aB a) (aA (aB j) aG)) ⟨x,p,rfl,i,rfl⟩) post
end
section
noncomputable def wu(c:Int):Option (Str×Nat):=match INS[c.toNat]? with
 |some (.tup [.str a,.int m])=>some (a,m.toNat)
 |_=>none
theorem Ls(h:wu c=some (a,m)):INS[c.toNat]?=some (.tup [.str a,.int (m:Int)])/\c.toNat<17:=by
 unfold wu at h
 have b:c.toNat<17:=by
  by_cases d:c.toNat<17
  ·exact d
  ·rw[UC (by show(17:Nat)<=c.toNat;lia)]at h;cases h
 refine⟨?_,b⟩
 have all:∀i:Nat,i<17->∀a m,(match INS[i]? with|some (.tup [.str a,.int m])=>some (a,m.toNat)|_=>none)=some (a,m)->INS[i]?=some (.tup [.str a,.int (m:Int)]):=by
  intro i f a m e
  match i,f with
  |0,_=>cases e;rfl
  |1,_=>cases e;rfl
  |2,_=>cases e;rfl
  |3,_=>cases e;rfl
  |4,_=>cases e;rfl
  |5,_=>cases e;rfl
  |6,_=>cases e;rfl
  |7,_=>cases e;rfl
  |8,_=>cases e;rfl
  |9,_=>cases e;rfl
  |10,_=>cases e;rfl
  |11,_=>cases e;rfl
  |12,_=>cases e;rfl
  |13,_=>cases e;rfl
  |14,_=>cases e;rfl
  |15,_=>cases e;rfl
  |16,_=>cases e;rfl
  |n+17,h=>lia
 exact all c.toNat b a m h
noncomputable def lA(a:List D)(p m:Nat):List D:=(a.drop (p+1)).take m
def Fo(e:List D)(d:D):Prop:=∃(a:List D)(p:Nat)(c:Int)(b:Str)(m:Nat),e=[.tup a,.int p]/\a[p]?=some (.int c)/\0<=c/\wu c=some (b,m)/\(lA a p m).length=m/\d=.tup [.str b,.tup (lA a p m)]
variable{K:qs}
theorem oO(T:Txt P w K mg)  : Ok P w base (k+1) T.N1 (Xp K Fo):=by
 refine Xd T.N1.f ky λvs H Q E n h=>?_;obtain⟨ds,d,I,⟨a,p,c,z,m,rfl,o,c0,r,J,rfl⟩,post⟩:=h;obtain⟨v0,v1,rfl,l,g⟩:=iF I;refine⟨rfl,λ_ _ _ _ hr=>⟨_,(aC (bA (PW.pt (fH (zt wI (pv 1) (aV aQ rfl T.NZ bP (z1 (pv 0)))) (eV (zt wI (a8 a9 (pv 0) (pv 1)) (aV aQ rfl T.NZ bP (z1 (bO (v:=.ref T.Oi) rfl T.OW rfl))))))) (aX cZ) aO)
 (aC (gY (a8 a9 (bO (v:=.ref T.Oi) rfl T.OW rfl) (a8 a9 (pv 0) (pv 1))) (fX rfl (bB (zg 2 n) (bB (zg 3 n) dH))))
 (aC (zs 4 n (eF dD rfl T.Os fC (z1 (jw uD (pv 0) (iV (bF cJ (pv 1) aD)) (iV (bF cJ (bF cJ (pv 1) aD) (pv 3)))))))
 (aC (bA (zt kT (aV aQ rfl T.NZ bP (z1 (pv 4))) (pv 3)) (aX cZ) aO)
 (zr (aU (z2 (pv 2) (pv 4)))))))),?_⟩⟩
 dsimp only[XQ];show let A:=a6 _ _;let B:=a6 _ A;a6 _ B _ _ _;intro A B;obtain⟨r,L⟩:=Ls r;have hp:p<a.length:=(S6.mp o).1;have M:c=((c.toNat:Nat):Int):=by lia
 refine aT (K:=K) (b:=false) (RT.as (dJ (b:=false) (c:=false) (RT.as (aH (cP (p:=λi j=>decide (j<=i)) (aB g) (fZ (aB l)))) (S3 ⋯)) λ_=>RT.as (aH (cP (p:=λi j=>decide (j<=i)) (bC (k:=p) (aB l) (aB g) o) (fZ (mH T.OT)))) (S3 (by show ¬ (17:Int)<=c;lia))) rfl) (λc=>nomatch c) (λ_ H1 t=>?_);have l:=t.dat l;have g:=t.dat g;refine lK (K:=K) (d:=.str z) (e:=.int m) (bC (k:=c.toNat) (mH T.OT) (RE.as (bC (k:=p) (aB l) (aB g) o) (Tu D.int M)) r) λv2 v3 H2 u N C=>?_;have l:=u.dat l;have g:=u.dat g;have O:(p:Int)+1=((p+1:Nat):Int):=by lia
 have U:(p:Int)+1+(m:Int)=((p+1+m:Nat):Int):=by lia
 refine d6 (K:=K) (d:=.tup (lA a p m)) (RE.as (EK (Md (lo:=p+1) (hi:=p+1+m) (aB l) (RE.as (dC (aB g) aE) (Tu D.int O)) (RE.as (dC (dC (aB g) aE) (aB C)) (Tu D.int U)) ⋯ ⋯)) (by unfold lA;rw[show p+1+m - (p+1)=m by lia])) λv4 H3 x G=>?_;refine aT (K:=K) (b:=false) (RT.as (aH (cP (p:=λi j=>decide (i<j)) (fZ (aB G)) (aB (x.dat C)))) (S3 (by rw[J];lia))) (λc=>nomatch c) (λ_ H4 y=>?_);exact bE (K:=K) (d:=.tup [.str z,.tup (lA a p m)]) (aZ (aA (aB (y.dat (x.dat N))) (aA (aB (y.dat G)) aG))) λv Y s q=>post v Y (t.trans (u.trans (x.trans (y.trans s)))) q
noncomputable abbrev SS:List Str:=["put","far","load","add","sub","mul","less","more","twice","about"]
noncomputable def MW(b:Nat->Option Bool)(d:D)(a:List D)(p:Nat):D->Option Bool
 | .int c=>(match wu c with
  |some (e,m)=>if (lA a p m).length=m then (if (!decide (e∈SS)||!((lA a p m).map (zV d)).all id)=true then some false else b (p+1+m))else none
  |none=>none)
 |_=>none
noncomputable def sk:Nat->D->List D->Nat->Option Bool
 |0,_,_,_=>none
 |n+1,b,a,p=>match a[p]? with
  |none=>some true
  |some x=>if dN x 0 99=false then some false else MW (sk n b a) b a p x
def K3(e:List D)(d:D):Prop:=∃(a:List D)(c:D)(b:Bool),e=[.tup a,c]/\YR 3 c=true/\a.length<=100/\sk (a.length+1) c a 0=some b/\d=.bl b
noncomputable def NQ(a:L2.St)(_:Hp):Nat:=match a[2]? with
 |some (some (V.int p))=>(200 - p).toNat
 |_=>0
theorem Li:(lA cells p m).length<=cells.length:=by unfold lA;rw[T4,U3];lia
theorem Iy(h:(lA a p m).length=m)(b:p<a.length):p+1+m<=a.length:=by unfold lA at h;rw[T4,U3]at h;lia
theorem ng(T:Txt P w K mg)(N2:Ok P w base k T.NY (Xp K f6))(Oh:Ok P w base k T.N1 (Xp K Fo))(R8:Ok P w base k T.Qe (Xp K Fl)):Ok P w base (k+1) T.Ou (Xp K K3):=by
 refine Xd T.Ou.f nj λvs H Q E J h=>?_;obtain⟨ds,d,hd,⟨a,l,L,rfl,hp,hl,O,rfl⟩,post⟩:=h;obtain⟨v0,v1,rfl,h0,h1⟩:=iF hd;refine⟨rfl,λ_ _ _ _ U=>⟨_,(aC (zs 2 J aD)
 (aC (tY Uc (zt kT (pv 2) (aV aQ rfl T.NZ bP (z1 (pv 0)))) (aC (bA (cI (bL (pc (D:=T.NY) N2 U (z3 (a8 a9 (pv 0) (pv 2)) aD (bO (v:=.int 99) rfl T.P8 ⟨_,rfl⟩))) (λ_=>rfl))) (zr dU) aO)
 (aC (JH (aX (gY (pc (D:=T.N1) Oh U (z2 (pv 0) (pv 2))) (fX rfl (bB (zg 3 J) (bB (zg 4 J) dH))))))
 (aC (bA (PW.pt (fH (zt yo (pv 3) (bO (v:=.ref T.Qt) rfl T.R3 rfl)) (eV (cI (bL (aV (iO rfl) rfl T.Qx lB (z1 (zc [1] ["cell","pattern"] (kH (pv 4)) (λ_ _ _ _ _=>(pc (D:=T.Qe) R8 U (z2 (pv 0) (pv 1))))))) (λ_=>rfl)))))) (zr dU) aO)
 (aX (yz (i:=2) J rfl (Or.inl rfl) (bF cJ aD (aV aQ rfl T.NZ bP (z1 (pv 4)))) sY))))))
 (zr dU))),?_⟩⟩
 dsimp only[XQ];show let W5:=a6 _ _;let Xc:=a6 _ W5;let Xv:=a6 _ Xc;let XF:=a6 (uI _ Xv) _;a6 _ XF _ _ _;intro W5 Xc Xv XF;let Zk:L2.St->Hp->Prop:=λY G=>∃(p n:Nat)(z3 z4:Option V),Y=[some v0,some v1,some (.int p),z3,z4]/\WV H G/\sk n l a p=some L/\p<=a.length;refine eE (DK (dI (uM Zk NQ ?_ ?_ ?_)))
 ·exact⟨0,_,none,none,rfl,WV.refl _,O,Uk _⟩
 ·rintro Y G ⟨p,n,z3,z4,rfl,u,M,hpl⟩;have o:=u.dat h0;have r:=u.dat h1;refine RT.use (b:=decide ((p:Int)<(a.length:Int))) (aH (cP (p:=λi j=>decide (i<j)) (aB (K:=K) (Dat.WY (p:Int))) (fZ (aB o)))) λG1 y=>?_
  obtain⟨n,rfl⟩:∃m,n=m+1:=by
   cases n with
   |zero=>cases M
   |succ m=>exact⟨m,rfl⟩
  by_cases C:p<a.length
  ·rw[S9 (by lia:(p:Int)<(a.length:Int))];refine lE ?_;have N:a[p]?=some a[p]:=SN C;generalize a[p]=x at N
   have g:(if dN x 0 99=false then some false else MW (sk n l a) l a p x)=some L:=by have e:sk (n+1) l a p=some L:=M;unfold sk at e;rw[N]at e;exact e
   have o:=y.dat o;have r:=y.dat r;refine aT (K:=K) (b:=!dN x 0 99) (bR (bI (bJ (R:=f6) (aA (bC (k:=p) (aB o) (aB (Dat.WY (p:Int))) N) (aA aE (aA aE aG))) ⟨x,0,99,rfl,rfl⟩))) (λcB G2 A=>?_) (λcB G2 A=>?_)
   ·rw[SV (kD cB)]at g;cases g;exact post _ _ (u.trans (y.trans A)) (Dat.X3 _)
   ·have cw:=iC cB;rw[PC (by rw[cw];exactλz=>nomatch z)]at g
    cases x with
    |int c =>
     have g:(match wu c with
      |some (s,m)=>if (lA a p m).length=m then (if (!decide (s∈SS)||!((lA a p m).map (zV l)).all id)=true then some false else sk n l a (p+1+m))else none
      |none=>none)=some L:=g
     have c0:0<=c:=by have z:(decide (0<=c)&&decide (c<=99))=true:=cw;rw[S2]at z;exact S1 z.1
     cases t:wu c with
     |none=>rw[t]at g;cases g
     |some s =>
      obtain⟨s,m⟩:=s;rw[t]at g;dsimp only at g;by_cases I:(lA a p m).length=m
      ·rw[SV I]at g;have o:=A.dat o;have r:=A.dat r;refine lK (K:=K) (d:=.str s) (e:=.tup (lA a p m)) (bJ (R:=Fo) (aA (aB o) (aA (aB (Dat.WY (p:Int))) aG)) ⟨a,p,c,s,m,rfl,N,c0,t,I,rfl⟩) λv3 v4 G3 s3 g3 g4=>?_;have r:=s3.dat r;have lb:=Li (cells:=a) (p:=p) (m:=m);refine aT (K:=K) (b:=!decide (s∈SS)||!((lA a p m).map (zV l)).all id) (dJ (aH (EJ (ys:=SS) (aB g3) (mH T.R0))) λ_=>bR (bI (kq (tZ (aB g4) ⋯ _ (by simp) rfl (λG4 i z vz d B hz hi hvz=>?_))))) (λc2 G4 B=>?_) (λc2 G4 B=>?_)
       ·rw[SR,SR,hz]at hi;cases hi;exact bJ (E:=E0) (R:=Fl) (aA (aB hvz) (aA (aB (B.dat r)) aG)) ⟨z,l,rfl,hp,rfl⟩
       ·rw[SV c2]at g;cases g;exact post _ _ (u.trans (y.trans (A.trans (s3.trans B)))) (Dat.X3 _)
       ·rw[PC (by rw[c2];exact SW)]at g;refine⟨_,rfl,RE.use (dC (K:=K) aE (fZ (aB (B.dat g4)))) λv5 G5 s5 q5=>?_⟩;refine⟨p,1+((lA a p m).length:Int),rfl,q5.W4,?_⟩;have ep:(p:Int)+(1+((lA a p m).length:Int))=((p+1+m:Nat):Int):=by rw[I];lia
        have he:=Iy I C;refine⟨⟨p+1+m,n,some v3,some v4,by rw[<- ep];rfl,u.trans (y.trans (A.trans (s3.trans (B.trans s5)))),g,he⟩,?_⟩;show(200 - ((p:Int)+(1+((lA a p m).length:Int)))).toNat<(200 - (p:Int)).toNat;lia
      ·rw[PC I]at g;cases g
    |_=>cases g
  ·rw[S3 (by lia:¬ (p:Int)<(a.length:Int))];refine lD ?_
   have e:sk (n+1) l a p=some true:=by unfold sk;rw[UC ⋯]
   rw[e]at M;cases M;exact post _ _ (u.trans y) (Dat.X3 _)
 ·intro Y G Q1 Q2 hQ hc;obtain⟨v,e,v',e',p,ys,e2,hq,i,j,e3,e4,b,e5,q⟩:=hc;exact⟨v,e,v',e',p,ys,e2,hq,i,j,e3,e4,b,e5,hQ _ _ q⟩
noncomputable def BI:D->Bool
 | .str x=>decide (x="pick")
 |_=>false
noncomputable def csD(a:D):D->Option Bool
 | .tup l=>if (decide (1<=(l.length:Int))&&decide ((l.length:Int)<=12))=false then some false else sk (l.length+1) a l 0
 |_=>some false
noncomputable def tT:D->Option Bool
 | .tup [b,a,c]=>if (!mC b||(BI b||!yr a))=true then some false else csD a c
 |_=>some false
def NS:D->Prop
 | .tup (a::_)=>KA a
 |_=>True
def Bw(a:List D)(d:D):Prop:=∃(x:D)(b:Bool),a=[x]/\NS x/\tT x=some b/\d=.bl b
theorem yK(h:RE K g c H (.tup [d,e,f]))(q:∀v w x b,WV H b->Dat K b d v->Dat K b e w->Dat K b f x->n o (((c.set i (some v)).set j (some w)).set l (some x)) b) :
  a6 (rH g (Ee K 3 (nv (dE i) (nv (dE j) (nv (dE l) F8))))) n o c H :=
 h.use λx p r s=>by obtain⟨a,E,t,u,y⟩:=s.Xf;obtain⟨v,w,x,z,A,B,C⟩:=vU y;subst t z;exact⟨a,_,rfl,u,rfl,v,_,rfl,w,_,rfl,x,_,rfl,rfl,q v w x p r A B C⟩
theorem tj(h:∀y,x≠.tup y):rf x "tuple"=false:=by
 cases x with
 |tup y=>exact absurd rfl (h y)
 |_=>rfl
theorem He(h:∀a b c,x≠.tup [a,b,c]):tT x=some false:=by
 unfold tT;split
 ·rename_i a b c;exact absurd rfl (h a b c)
 ·rfl
theorem LQ(h:yr x=true):YR 3 x=true:=by unfold yr at h;rw[S2]at h;exact h.1
theorem GE(h:mC x=true):∃y,x=.str y:=by
 cases x with
 |str y=>exact⟨y,rfl⟩
 |_=>cases h
theorem AC(T:Txt P w K mg)(Sb:Ok P w base k T.Qh (Xp K Fp))(Q7:Ok P w base k T.Pk (Xp K La))(Qr:Ok P w base k T.Ou (Xp K K3)):Ok P w base (k+1) T.PY (Xp K Bw):=by
 refine Xd T.PY.f Bc λvs H Q E Y h=>?_;obtain⟨ds,d,hd,⟨x,G,rfl,hok,u,rfl⟩,post⟩:=h;obtain⟨v0,rfl,B⟩:=iP hd;refine⟨rfl,λ_ _ _ _ hr=>⟨_,(aC (bA (PW.pt (fH (cI (bL (aV (fU mq) rfl T.N4 cH (cO (pv 0) (cO (gS (v:=.ty "tuple") rfl T.Os fC rfl) a7))) (λ_=>rfl))) (eV (zt lU (aV aQ rfl T.NZ bP (z1 (pv 0))) aD)))) (zr dU) aO)
 (aC (gY (pv 0) (fX rfl (bB (zg 1 Y) (bB (zg 2 Y) (bB (zg 3 Y) dH)))))
 (aC (bA (PW.pt (fH (cI (bL (pc (D:=T.Qh) Sb hr (z1 (pv 1))) (λ_=>rfl))) (fH (zt cE (pv 1) aI) (eV (cI (bL (pc (D:=T.Pk) Q7 hr (z1 (pv 2))) (λ_=>rfl))))))) (zr dU) aO)
 (aC (bA (PW.pt (fH (cI (bL (aV (fU mq) rfl T.N4 cH (cO (pv 3) (cO (gS (v:=.ty "tuple") rfl T.Os fC rfl) a7))) (λ_=>rfl))) (eV (cI (oT lS lS aD (aV aQ rfl T.NZ bP (z1 (pv 3))) (bO (v:=.int 12) rfl T.Qu ⟨_,rfl⟩)))))) (zr dU) aO)
 (zr (pc (D:=T.Ou) Qr hr (z2 (pv 3) (pv 2)))))))),?_⟩⟩
 dsimp only[XQ];show let W5:=a6 _ _;let Xc:=a6 _ W5;let Xv:=a6 _ Xc;a6 _ Xv _ _ _;intro W5 Xc Xv;by_cases o:∃a b c,x=.tup [a,b,c]
 ·obtain⟨C,g,I,rfl⟩:=o;refine aT (K:=K) (b:=false) (RT.as (dJ (b:=false) (c:=false) (RT.as (bR (bI (cR (aB B)))) rfl) λ_=>RT.as (aH (kJ (fZ (aB B)) aE)) rfl) rfl) (λc=>nomatch c) (λ_ H1 J=>?_);refine yK (K:=K) (d:=C) (e:=g) (f:=I) (aB (J.dat B)) λv1 v2 v3 H2 s2 h1 O o=>?_;have n:(if (!mC C||(BI C||!yr g))=true then some false else csD g I)=some G:=u;refine aT (K:=K) (b:=!mC C||(BI C||!yr g)) (dJ (bR (bI (bJ (R:=Fp) (aA (aB h1) aG) ⟨C,rfl,hok,rfl⟩))) λc=>dJ ?_ λ_=>bR (bI (bJ (R:=La) (aA (aB O) aG) ⟨g,rfl,rfl⟩))) (λc H3 L=>?_) (λc H3 L=>?_)
  ·obtain⟨y,rfl⟩:=GE (iC c);exact aH (bN (aB h1) aJ)
  ·rw[SV c]at n;cases n;exact bE (K:=K) (d:=.bl false) gO λv t s q=>post v t (J.trans (s2.trans (L.trans s))) q
  ·rw[PC (by rw[c];exact SW)]at n;rw[Uz,Uz]at c;have hp:=LQ (iC c.2.2);have O:=L.dat O;have o:=L.dat o;have Xi:=J.trans (s2.trans L);by_cases hc:∃l,I=.tup l
   ·obtain⟨l,rfl⟩:=hc;have n:(if (decide (1<=(l.length:Int))&&decide ((l.length:Int)<=12))=false then some false else sk (l.length+1) g l 0)=some G:=n;refine aT (K:=K) (b:=!(decide (1<=(l.length:Int))&&decide ((l.length:Int)<=12))) (RT.as (dJ (b:=false) (RT.as (bR (bI (cR (aB o)))) rfl) λ_=>bR (aH (mG (p:=λi j=>decide (i<=j)) (r:=λi j=>decide (i<=j)) aE (fZ (aB o)) λ_=>aE))) (Uw _)) (λU H4 A=>?_) (λU H4 A=>?_)
    ·rw[SV (kD U)]at n;cases n;exact bE (K:=K) (d:=.bl false) gO λv t s q=>post v t (Xi.trans (A.trans s)) q
    ·have c5:=iC U;rw[PC (by rw[c5];exactλz=>nomatch z)]at n;rw[S2]at c5;have l12:=S1 c5.2;exact bE (K:=K) (d:=.bl G) (bJ (R:=K3) (aA (aB (A.dat o)) (aA (aB (A.dat O)) aG)) ⟨l,g,G,rfl,hp,⋯,n,rfl⟩) λv t s q=>post v t (Xi.trans (A.trans s)) q
   ·have M:∀y,I≠.tup y:=λy e=>hc ⟨y,e⟩
    have e:G=false:=by
     cases I with
     |tup y=>exact absurd rfl (M y)
     |_=>cases n;rfl
    refine aT (K:=K) (b:=true) (RT.as (dJ (b:=true) (c:=true) (RT.as (bR (bI (cR (aB o)))) (by rw[tj M];rfl)) λc=>nomatch c) rfl) (λU H4 A=>?_) (λc=>nomatch c);rw[e]at post;exact bE (K:=K) (d:=.bl false) gO λv t s q=>post v t (Xi.trans (A.trans s)) q
 ·have N:∀a b c,x≠.tup [a,b,c]:=λa b c e=>o ⟨a,b,c,e⟩;rw[He N]at u;cases u;refine aT (K:=K) (b:=true) ?_ (λc H1 J=>?_) (λc=>nomatch c)
  ·by_cases ht:∃l,x=.tup l
   ·obtain⟨l,rfl⟩:=ht;refine RT.as (dJ (b:=false) (c:=true) (RT.as (bR (bI (cR (aB B)))) rfl) λ_=>RT.as (aH (kJ (fZ (aB B)) aE)) ?_) rfl
    have:¬ (l.length:Int)=3:=λe=>by
     match l,e with
     |[a,b,c],_=>exact N a b c rfl
     |[],h=>simp at h
     |[_],h=>simp at h
     |[_,_],h=>simp at h
     |_::_::_::_::_,h=>simp at h;lia
    rw[S3 this];rfl
   ·have ht':∀y,x≠.tup y:=λy e=>ht ⟨y,e⟩;exact RT.as (dJ (b:=true) (c:=true) (RT.as (bR (bI (cR (aB B)))) (by rw[tj ht'];rfl)) λc=>nomatch c) rfl
  ·exact bE (K:=K) (d:=.bl false) gO λv t s q=>post v t (J.trans s) q
end
section
variable{K:qs}{k:Nat}
theorem jf(h:a b H λc d=>e (c++f) d Q E):lg e f E a b H Q:=h
theorem gZ(h:b a H λx c=>d a c λe f=>Q (x::e) f):bU b d a H Q:=h
inductive Pa where
 |hole (i:Int)
 |gap (i m:Int)
 |slot (i:Int)
 |num (n:Int)
 |two (o:Str) (a b:Pa)
noncomputable def Z7:Pa->D
 | .hole i=>.tup [.str "hole",.int i]
 | .gap i m=>.tup [.str "gap",.int i,.int m]
 | .slot i=>.tup [.str "slot",.int i]
 | .num n=>.tup [.str "num",.int n]
 | .two o a b=>.tup [.str o,Z7 a,Z7 b]
abbrev okB(o:Str):Prop:=o="add"\/o="sub"\/o="mul"\/o="less"
def Eu:Pa->Prop
 | .num n=>0<=n/\n<=9999
 | .two o a b=>okB o/\Eu a/\Eu b
 |_=>True
noncomputable def fV:Pa->Nat
 | .two _ a b=>max (fV a) (fV b)+1
 |_=>1
theorem pD(p:Pa):1<=fV p:=by cases p<;>simp[fV]
noncomputable abbrev Yb:Type:=List Tr×List Int×List Int
noncomputable def Ll(f g:Yb):Yb:=(f.1++g.1,f.2.1++g.2.1,f.2.2++g.2.2)
noncomputable def cQ:Pa->Tr->Option Yb
 | .hole _,t=>some ([t],[],[])
 | .gap _ m,.num n=>if n<=m then some ([],[n],[])else none
 | .gap _ _,_=>none
 | .slot _,.arg k=>some ([],[],[k])
 | .slot _,_=>none
 | .num n,.num m=>if m=n then some ([],[],[])else none
 | .num _,_=>none
 | .two o a b,.two c x y=>if c=o then (match cQ a x,cQ b y with
  |some f,some g=>some (Ll f g)
  |_,_=>none)else none
 | .two _ _ _,_=>none
noncomputable def NO:Pa->Bool
 | .hole _=>true
 | .gap _ _=>true
 | .slot _=>true
 |_=>false
theorem Ks(t:Tr)(f:Xx t):∃d r,toD t=.tup (.str d::r)/\(d="num"↔∃n,t=.num n)/\(d="arg"↔∃n,t=.arg n):=by
 cases t with
 |num n=>exact⟨_,_,rfl,⟨λ_=>⟨n,rfl⟩,λ_=>rfl⟩,⟨λe=>absurd e ⋯,λ⟨m,e⟩=>nomatch e⟩⟩
 |arg n=>exact⟨_,_,rfl,⟨λe=>absurd e ⋯,λ⟨m,e⟩=>nomatch e⟩,⟨λ_=>⟨n,rfl⟩,λ_=>rfl⟩⟩
 |two o a b =>
  have h:o="add"\/o="sub"\/o="mul"\/o="less":=f.1;refine⟨_,_,rfl,⟨λe=>?_,λ⟨m,e⟩=>nomatch e⟩,⟨λe=>?_,λ⟨m,e⟩=>nomatch e⟩⟩
  ·subst e;exact absurd h ⋯
  ·subst e;exact absurd h ⋯
 |pick a b c=>exact⟨_,_,rfl,⟨λe=>absurd e ⋯,λ⟨m,e⟩=>nomatch e⟩,⟨λe=>absurd e ⋯,λ⟨m,e⟩=>nomatch e⟩⟩
 |call n=>exact⟨_,_,rfl,⟨λe=>absurd e ⋯,λ⟨m,e⟩=>nomatch e⟩,⟨λe=>absurd e ⋯,λ⟨m,e⟩=>nomatch e⟩⟩
def oj(a:List D)(d:D):Prop:=∃p t,a=[Z7 p,toD t]/\NO p=true/\Xx t/\d=.bl (cQ p t).isSome
theorem F9(h:∀n,t≠.num n):cQ (.gap i m) t=none:=by
 cases t with
 |num n=>exact absurd rfl (h n)
 |_=>rfl
theorem ET(h:∀n,t≠.arg n):cQ (.slot i) t=none:=by
 cases t with
 |arg n=>exact absurd rfl (h n)
 |_=>rfl
theorem pQ(T:Txt P w K mg)  : Ok P w base (k+1) T.OI (Xp K oj):=by
 refine Xd T.OI.f qc λvs H Q E nd h=>?_;obtain⟨ds,d,O,⟨p,t,rfl,J,U,rfl⟩,post⟩:=h;obtain⟨G,L,rfl,l,y⟩:=iF O;refine⟨rfl,λ_ _ _ _ hr=>⟨_,(aC (bA (zt cE (a8 a9 (pv 0) aD) aI) (zr (kG (fL cE (a8 a9 (pv 1) aD) aI (iT _)) (j8 (fL lS (a8 a9 (pv 1) aD) (a8 a9 (pv 0) aD) (iT _))))) aO)
 (zr (GZ (fL cE (a8 a9 (pv 0) aD) aI (iT _)) (j8 (fL cE (a8 a9 (pv 1) aD) aI (iT _)))))),?_⟩⟩
 dsimp only[XQ];obtain⟨M,r,Y,A,u⟩:=Ks t U;have B:Dat K H (.tup (.str M::r)) L:=by rw[<- Y];exact y
 cases p with
 |hole i =>have l:Dat K H (.tup [.str "hole",.int i]) G:=l;refine aT (K:=K) (b:=false) (RT.as (aH (bN (bC (k:=0) (aB l) aE rfl) aJ)) (S3 ⋯)) (λc=>nomatch c) (λ_ N g=>?_);exact bE (K:=K) (d:=.bl true) (RE.as (DH (b:=true) (c:=true) (RE.as (bN (bC (k:=0) (aB (g.dat l)) aE rfl) aJ) (Tu D.bl (S9 rfl))) λc=>nomatch c) rfl) λv x s q=>post v x (g.trans s) q
 |gap i m =>
  have l:Dat K H (.tup [.str "gap",.int i,.int m]) G:=l;refine aT (K:=K) (b:=true) (RT.as (aH (bN (bC (k:=0) (aB l) aE rfl) aJ)) (S9 rfl)) (λ_ N g=>?_) (λc=>nomatch c);by_cases I:∃n,t=.num n
  ·obtain⟨n,rfl⟩:=I;have y:Dat K H (.tup [.str "num",.int n]) L:=y;refine bE (K:=K) (d:=.bl (decide (n<=m))) (RE.as (fF (b:=true) (RE.as (bN (bC (k:=0) (aB (g.dat y)) aE rfl) aJ) (Tu D.bl (S9 rfl))) λ_=>cP (p:=λi j=>decide (i<=j)) (bC (k:=1) (aB (g.dat y)) aE rfl) (bC (k:=2) (aB (g.dat l)) aE rfl)) rfl) λv x s q=>post v x (g.trans s) ?_
   have e:(cQ (.gap i m) (.num n)).isSome=decide (n<=m):=by
    show(if n<=m then some _ else none).isSome=_;by_cases z:n<=m
    ·rw[SV z,S9 z];rfl
    ·rw[PC z,S3 z];rfl
   rw[e];exact q
  ·refine bE (K:=K) (d:=.bl false) (RE.as (fF (b:=false) (c:=true) (RE.as (bN (bC (k:=0) (aB (g.dat B)) aE rfl) aJ) (Tu D.bl (S3 (λe=>I (A.mp e))))) λc=>nomatch c) rfl) λv x s q=>post v x (g.trans s) ?_;rw[F9 λn e=>I ⟨n,e⟩];exact q
 |slot i =>
  have l:Dat K H (.tup [.str "slot",.int i]) G:=l;refine aT (K:=K) (b:=false) (RT.as (aH (bN (bC (k:=0) (aB l) aE rfl) aJ)) (S3 ⋯)) (λc=>nomatch c) (λ_ N g=>?_);refine bE (K:=K) (d:=.bl (decide (M="arg"))) (RE.as (DH (b:=false) (RE.as (bN (bC (k:=0) (aB (g.dat l)) aE rfl) aJ) (Tu D.bl (S3 ⋯))) λ_=>bN (bC (k:=0) (aB (g.dat B)) aE rfl) aJ) (Tu D.bl (Uw _))) λv x s q=>post v x (g.trans s) ?_;by_cases C:∃n,t=.arg n
  ·rw[S9 (u.mpr C)]at q;obtain⟨n,rfl⟩:=C;exact q
  ·rw[S3 (λe=>C (u.mp e))]at q;rw[ET λn e=>C ⟨n,e⟩];exact q
 |num n=>cases J
 |two o a b=>cases J
def Bh(K:qs)(o:Addr->Addr->Addr->HO)(n:Nat):Sp:=λu H Q _=>∃(p:Pa)(t:Tr)(r s:V)(f e g h:Addr)(a b c:List V),u=[r,s,.ref f]/\Eu p/\Xx t/\aP t<=8/\fV p<=n/\n<=3/\Dat K H (Z7 p) r/\Dat K H (toD t) s /\
 H f=some (o e g h)/\f≠e/\f≠g/\f≠h/\Zc e g h H a b c/\a.length+2 ^ n<=100/\b.length+2 ^ n<=100/\c.length+2 ^ n<=100 /\
 ∀(d:Hp)(j l q:List V),Yy e g h H d->Zc e g h d (a++j) (b++l) (c++q)->j.length<=2 ^ n->l.length<=2 ^ n->q.length<=2 ^ n ->
  (∀i:Yb,cQ p t=some i->WU K d (i.1.map toD) j/\WU K d (i.2.1.map D.int) l/\WU K d (i.2.2.map D.int) q)->Q (.bl (cQ p t).isSome) d
noncomputable def oD(a b c:Addr):HO:=.dK [(Sum.inr "hole",.ref a),(Sum.inr "gap",.ref b),(Sum.inr "slot",.ref c)]
theorem Dm(a b c:Addr):nZ ([(Sum.inr "hole",V.ref a),(Sum.inr "gap",.ref b),(Sum.inr "slot",.ref c)]:List (Key×V)) (Sum.inr "hole")=some (.ref a):=rfl
theorem GO(b a c:Addr):nZ ([(Sum.inr "hole",V.ref b),(Sum.inr "gap",.ref a),(Sum.inr "slot",.ref c)]:List (Key×V)) (Sum.inr "gap")=some (.ref a):=rfl
theorem Dn(b c a:Addr):nZ ([(Sum.inr "hole",V.ref b),(Sum.inr "gap",.ref c),(Sum.inr "slot",.ref a)]:List (Key×V)) (Sum.inr "slot")=some (.ref a):=rfl
theorem Ga{H:Hp}(h:H f=some (.dK a))(e:nZ a (Sum.inr x)=some v):Zt H f (.str x) (some v):=by have g:=Zt.k (k:=Sum.inr x) h;rw[e]at g;exact g
theorem uJ{k:Str}(h:k="hole"\/k="gap"\/k="slot"):KTD.inKeys k TM=true:=by rcases h with rfl|rfl|rfl<;>decide +kernel
theorem Iv(h:okB o):KTD.inKeys o TM=false/\¬ o="num":=by rcases h with rfl|rfl|rfl|rfl<;>decide +kernel
theorem L8(n:Nat):1<=2 ^ n:=Nat.one_le_iff_ne_zero.mpr (by simp)
theorem B6{α:Type}{x y:List α}(a:x.length<=2 ^ n)(b:y.length<=2 ^ n):(x++y).length<=2 ^ (n+1):=by rw[M1,WT];lia
theorem fJ(h:cQ (.two o a b) (.two d x y)=some j):d=o/\∃f g,cQ a x=some f/\cQ b y=some g/\j=Ll f g:=by
 unfold cQ at h;by_cases e:d=o
 ·rw[SV e]at h
  cases c:cQ a x with
  |none=>rw[c]at h;cases h
  |some f =>
   cases i:cQ b y with
   |none=>rw[c,i]at h;cases h
   |some g =>rw[c,i]at h;cases h;exact⟨e,f,g,rfl,rfl,rfl⟩
 ·rw[PC e]at h;cases h
theorem qB(h:cQ a x=none):cQ (.two o a b) (.two o x y)=none:=by unfold cQ;rw[SV rfl,h]
theorem BD(h:cQ a x=some f):(cQ (.two o a b) (.two o x y)).isSome=(cQ b y).isSome:=by show(if o=o then _ else none:Option Yb).isSome=_;rw[SV rfl,h];cases cQ b y<;>rfl
theorem FY(g:okB o)(c:toD t=.tup (.str f::r))(h:¬ f=o):cQ (.two o a b) t=none:=by
 cases t with
 |two d x y =>unfold cQ;rw[PC];intro e;apply h;have z:toD (.two d x y)=.tup [.str d,toD x,toD y]:=rfl;rw[z]at c;injection c with c;injection c with c _;injection c with c;rw[<- c,e]
 |_=>rfl
theorem Gj(b:okB o)(a:toD t=.tup (.str d::r))(h:d=o):∃x y,t=.two o x y:=by
 subst h
 cases t with
 |two c x y =>have z:toD (.two c x y)=.tup [.str c,toD x,toD y]:=rfl;rw[z]at a;injection a with a;injection a with a _;injection a with a;subst a;exact⟨x,y,rfl⟩
 |num n =>have z:toD (.num n)=.tup [.str "num",.int n]:=rfl;rw[z]at a;injection a with a;injection a with a _;injection a with a;subst a;exact absurd b ⋯
 |arg n =>have z:toD (.arg n)=.tup [.str "arg",.int n]:=rfl;rw[z]at a;injection a with a;injection a with a _;injection a with a;subst a;exact absurd b ⋯
 |call n =>have z:toD (.call n)=.tup [.str "call",.int n]:=rfl;rw[z]at a;injection a with a;injection a with a _;injection a with a;subst a;exact absurd b ⋯
 |pick x y u =>have z:toD (.pick x y u)=.tup [.str "pick",toD x,toD y,toD u]:=rfl;rw[z]at a;injection a with a;injection a with a _;injection a with a;subst a;exact absurd b ⋯
theorem Jj(a:List V)(H:Hp)(Q:VK)(E:XK):¬ Bh K o 0 a H Q E:=by rintro⟨p,_,_,_,_,_,_,_,_,_,_,_,_,_,_,h,_⟩;have:=pD p;lia
theorem BX(T:Txt P w K mg)(QI:Ok P w base k T.OI (Xp K oj))(Qd:Ok P w base k T.OM (Bh K oD n)):Ok P w base (k+1) T.OM (Bh K oD (n+1)):=by
 refine Xd T.OM.f Cp λvs H Q E nd h=>?_;obtain⟨p,t,v0,v1,f,l0,l1,l2,a,b,c,rfl,XH,XM,Yd,hn,hn3,A,B,hf,f0,f1,f2,O,la,lb,lc,post⟩:=h;refine⟨rfl,λ_ _ _ _ hr=>⟨_,(aC (zs 3 nd (a8 a9 (pv 0) aD))
 (aC (bA (zt oR (pv 3) (bO (v:=.ref T.Oj) rfl T.Pt rfl)) (aC (bA (cI (bL (pc (D:=T.OI) QI hr (z2 (pv 0) (pv 1))) (λ_=>rfl))) (zr dU) aO)
 (aC (bK (dW Tg TU TZ cC (rR (Dc hr) (pv 2) (pv 3) (λ_ _=>rfl)) (z1 (gF (zt cE (pv 3) aI) (pv 1) (a8 a9 (pv 1) aD)))))
 (zr dU))) aO)
 (aC (bA (zt lU (a8 a9 (pv 1) aD) (pv 3)) (zr dU) aO)
 (aC (bA (zt cE (pv 3) aI) (zr (fL cE (a8 a9 (pv 1) aD) (a8 a9 (pv 0) aD) (iT _))) aO)
 (zr (kG (pc (D:=T.OM) Qd hr (z3 (a8 a9 (pv 0) aD) (a8 a9 (pv 1) aD) (pv 2))) (j8 (pc (D:=T.OM) Qd hr (z3 (a8 a9 (pv 0) aD) (a8 a9 (pv 1) aD) (pv 2)))))))))),?_⟩⟩
 dsimp only[XQ];show let W5:=_;let Xc:=a6 _ W5;let Xv:=a6 _ Xc;let XF:=a6 _ _;let X6:=a6 (md _ XF _) Xv;a6 _ X6 _ _ _;intro W5 Xc Xv XF X6;obtain⟨kd,r,ek,hnum,harg⟩:=Ks t XM;have hf':∀{G:Hp},Yy l0 l1 l2 H G->G f=some (oD l0 l1 l2):=λbb=>bb _ _ f0 f1 f2 hf;have p1:=L8 (n+1);have p2:2 ^ (n+1)=2*2 ^ n:=by rw[WT,Nat.mul_comm]
 cases p with
 |hole i =>have A:Dat K H (.tup [.str "hole",.int i]) v0:=A;refine d6 (K:=K) (d:=.str "hole") (bC (k:=0) (aB A) aE rfl) λv3 H1 s1 I=>?_;have ev:=I.Xh;subst ev;refine aT (K:=K) (b:=true) (RT.as (aH (jA (aB I) T.Ol)) (uJ (.inl rfl))) (λ_ H2 M=>?_) (λc=>nomatch c);have j:=s1.trans M;refine aT (K:=K) (b:=!true) (bR (bI (bJ (R:=oj) (d:=.bl true) (aA (aB (j.dat A)) (aA (aB (j.dat B)) aG)) ⟨.hole i,t,rfl,rfl,XM,rfl⟩))) (λc=>nomatch c) (λ_ H3 C=>?_);have q:=j.trans C;refine dI ⟨_,rfl,_,rfl,f,.ref l0,rfl,Ga (q _ _ hf) (Dm l0 l1 l2),.inl ⟨rfl,_,W2.of (q _ _ O.h0)⟩,?_⟩;refine RE.use (K:=K) (d:=toD t) (qJ (b:=true) (RT.as (aH (K:=K) (bN (aB (Dat.Xn "hole")) aJ)) (S9 rfl)) (λ_=>aB (q.dat B)) (λc=>nomatch c)) λy H4 s4 q4=>?_;have l:=q.trans s4;have U:=O.same l;refine⟨l0,a,y,rfl,rfl,U.h0,cU ⋯,?_⟩;obtain⟨t5,b5⟩:=U.p0 (v:=y);refine post _ [y] [] [] (l.Y4.trans b5) t5 (by simpa using p1) (by simp) (by simp) λY e=>?_;cases e;exact⟨WU.cons (Dat.mono (b5.grow U t5) _ q4) WU.nil,WU.nil,WU.nil⟩
 |gap i m =>
  have A:Dat K H (.tup [.str "gap",.int i,.int m]) v0:=A;refine d6 (K:=K) (d:=.str "gap") (bC (k:=0) (aB A) aE rfl) λv3 H1 s1 I=>?_;have ev:=I.Xh;subst ev;refine aT (K:=K) (b:=true) (RT.as (aH (jA (aB I) T.Ol)) (uJ (.inr (.inl rfl)))) (λ_ H2 M=>?_) (λc=>nomatch c);have j:=s1.trans M;refine aT (K:=K) (b:=!(cQ (.gap i m) t).isSome) (bR (bI (bJ (R:=oj) (aA (aB (j.dat A)) (aA (aB (j.dat B)) aG)) ⟨.gap i m,t,rfl,rfl,XM,rfl⟩))) (λcN H3 C=>?_) (λcS H3 C=>?_)
  ·have q:=j.trans C;have e:(cQ (.gap i m) t).isSome=false:=kD cN;refine bE (K:=K) (d:=.bl false) gO λv H' s qq=>?_;rw[qq.Yh,<- e];have l:=q.trans s;exact post _ [] [] [] l.Y4 (O.same l).nil (by simp) (by simp) (by simp) λY z=>by rw[z]at e;cases e
  ·have q:=j.trans C
   obtain⟨u,rfl⟩:∃u,t=.num u:=by
    have cS':=iC cS
    cases t with
    |num u=>exact⟨u,rfl⟩
    |_=>cases cS'
   have B:Dat K H (.tup [.str "num",.int u]) v1:=B;refine dI ⟨_,rfl,_,rfl,f,.ref l1,rfl,Ga (q _ _ hf) (GO l0 l1 l2),.inl ⟨rfl,_,W2.of (q _ _ O.h1)⟩,?_⟩;refine RE.use (K:=K) (d:=.int u) (qJ (b:=false) (RT.as (aH (K:=K) (bN (aB (Dat.Xn "gap")) aJ)) (S3 ⋯)) (λc=>nomatch c) (λ_=>bC (k:=1) (aB (q.dat B)) aE rfl)) λy H4 s4 q4=>?_;have l:=q.trans s4;have U:=O.same l;refine⟨l1,b,y,rfl,rfl,U.h1,cU ⋯,?_⟩;obtain⟨t5,b5⟩:=U.p1 (v:=y);have e:=iC cS;show Q (.bl true) _;rw[<- e];refine post _ [] [y] [] (l.Y4.trans b5) t5 (by simp) (by simpa using p1) (by simp) λY z=>?_;have z':(if u<=m then some ([],[u],[])else none:Option Yb)=some Y:=z;by_cases hm:u<=m
   ·rw[SV hm]at z';cases z';exact⟨WU.nil,WU.cons (Dat.mono (b5.grow U t5) _ q4) WU.nil,WU.nil⟩
   ·rw[PC hm]at z';cases z'
 |slot i =>
  have A:Dat K H (.tup [.str "slot",.int i]) v0:=A;refine d6 (K:=K) (d:=.str "slot") (bC (k:=0) (aB A) aE rfl) λv3 H1 s1 I=>?_;have ev:=I.Xh;subst ev;refine aT (K:=K) (b:=true) (RT.as (aH (jA (aB I) T.Ol)) (uJ (.inr (.inr rfl)))) (λ_ H2 M=>?_) (λc=>nomatch c);have j:=s1.trans M;refine aT (K:=K) (b:=!(cQ (.slot i) t).isSome) (bR (bI (bJ (R:=oj) (aA (aB (j.dat A)) (aA (aB (j.dat B)) aG)) ⟨.slot i,t,rfl,rfl,XM,rfl⟩))) (λcN H3 C=>?_) (λcS H3 C=>?_)
  ·have q:=j.trans C;have e:(cQ (.slot i) t).isSome=false:=kD cN;refine bE (K:=K) (d:=.bl false) gO λv H' s qq=>?_;rw[qq.Yh,<- e];have l:=q.trans s;exact post _ [] [] [] l.Y4 (O.same l).nil (by simp) (by simp) (by simp) λY z=>by rw[z]at e;cases e
  ·have q:=j.trans C
   obtain⟨u,rfl⟩:∃u,t=.arg u:=by
    have cS':=iC cS
    cases t with
    |arg u=>exact⟨u,rfl⟩
    |_=>cases cS'
   have B:Dat K H (.tup [.str "arg",.int u]) v1:=B;refine dI ⟨_,rfl,_,rfl,f,.ref l2,rfl,Ga (q _ _ hf) (Dn l0 l1 l2),.inl ⟨rfl,_,W2.of (q _ _ O.h2)⟩,?_⟩;refine RE.use (K:=K) (d:=.int u) (qJ (b:=false) (RT.as (aH (K:=K) (bN (aB (Dat.Xn "slot")) aJ)) (S3 ⋯)) (λc=>nomatch c) (λ_=>bC (k:=1) (aB (q.dat B)) aE rfl)) λy H4 s4 q4=>?_;have l:=q.trans s4;have U:=O.same l;refine⟨l2,c,y,rfl,rfl,U.h2,cU ⋯,?_⟩;obtain⟨t5,b5⟩:=U.p2 (v:=y);have e:=iC cS;show Q (.bl true) _;rw[<- e];refine post _ [] [] [y] (l.Y4.trans b5) t5 (by simp) (by simp) (by simpa using p1) λY z=>?_;cases z;exact⟨WU.nil,WU.nil,WU.cons (Dat.mono (b5.grow U t5) _ q4) WU.nil⟩
 |num m =>
  have A:Dat K H (.tup [.str "num",.int m]) v0:=A;have h1':Dat K H (.tup (.str kd::r)) v1:=by rw[<- ek];exact B
  refine d6 (K:=K) (d:=.str "num") (bC (k:=0) (aB A) aE rfl) λv3 H1 s1 I=>?_;refine aT (K:=K) (b:=false) (RT.as (aH (jA (aB I) T.Ol)) ⋯) (λc=>nomatch c) (λ_ H2 M=>?_);have j:=s1.trans M;refine aT (K:=K) (b:=!decide (kd="num")) (aH (yE (bC (k:=0) (aB (j.dat h1')) aE rfl) (aB (M.dat I)))) (λcN H3 C=>?_) (λcS H3 C=>?_)
  ·have q:=j.trans C;have hne:¬ kd="num":=S5 (kD cN)
   have e:cQ (.num m) t=none:=by
    cases t with
    |num n=>exact absurd (hnum.mpr ⟨n,rfl⟩) hne
    |_=>rfl
   refine bE (K:=K) (d:=.bl false) gO λv H' s qq=>?_;rw[qq.Yh];have l:=q.trans s;have L:=post _ [] [] [] l.Y4 (O.same l).nil (by simp) (by simp) (by simp) λY z=>by rw[e]at z;cases z
   rw[e]at L;exact L
  ·have q:=j.trans C;obtain⟨u,rfl⟩:=hnum.mp (S1 (iC cS));have B:Dat K H (.tup [.str "num",.int u]) v1:=B;refine aT (K:=K) (b:=true) (RT.as (aH (bN (aB ((M.trans C).dat I)) aJ)) (S9 rfl)) (λ_ H4 s4=>?_) (λc=>nomatch c);have l:=q.trans s4;refine bE (K:=K) (d:=.bl (decide (u=m))) (nU (bC (k:=1) (aB (l.dat B)) aE rfl) (bC (k:=1) (aB (l.dat A)) aE rfl)) λv H' s qq=>?_;rw[qq.Yh];have ZG:=l.trans s
   have L:=post _ [] [] [] ZG.Y4 (O.same ZG).nil (by simp) (by simp) (by simp) λY z=>by
    have z':(if u=m then some ([],[],[])else none:Option Yb)=some Y:=z;by_cases hm:u=m
    ·rw[SV hm]at z';cases z';exact⟨WU.nil,WU.nil,WU.nil⟩
    ·rw[PC hm]at z';cases z'
   have e:(cQ (.num m) (.num u)).isSome=decide (u=m):=by
    show(if u=m then some _ else none:Option Yb).isSome=_;by_cases hm:u=m
    ·rw[SV hm,S9 hm];rfl
    ·rw[PC hm,S3 hm];rfl
   rw[e]at L;exact L
 |two o pa pb =>
  have A:Dat K H (.tup [.str o,Z7 pa,Z7 pb]) v0:=A;have h1':Dat K H (.tup (.str kd::r)) v1:=by rw[<- ek];exact B
  obtain⟨b1,b2⟩:=Iv XH.1;refine d6 (K:=K) (d:=.str o) (bC (k:=0) (aB A) aE rfl) λv3 H1 s1 I=>?_;refine aT (K:=K) (b:=false) (RT.as (aH (jA (aB I) T.Ol)) b1) (λc=>nomatch c) (λ_ H2 M=>?_);have j:=s1.trans M;refine aT (K:=K) (b:=!decide (kd=o)) (aH (yE (bC (k:=0) (aB (j.dat h1')) aE rfl) (aB (M.dat I)))) (λcN H3 C=>?_) (λcS H3 C=>?_)
  ·have q:=j.trans C;have e:=FY (a:=pa) (b:=pb) XH.1 ek (S5 (kD cN));refine bE (K:=K) (d:=.bl false) gO λv H' s qq=>?_;rw[qq.Yh];have l:=q.trans s;have L:=post _ [] [] [] l.Y4 (O.same l).nil (by simp) (by simp) (by simp) λY z=>by rw[e]at z;cases z
   rw[e]at L;exact L
  ·have q:=j.trans C;obtain⟨x,y,rfl⟩:=Gj XH.1 ek (S1 (iC cS));have B:Dat K H (.tup [.str o,toD x,toD y]) v1:=B;refine aT (K:=K) (b:=false) (RT.as (aH (bN (aB ((M.trans C).dat I)) aJ)) (S3 b2)) (λc=>nomatch c) (λ_ H4 s4=>?_);have l:=q.trans s4;have dpa:fV pa<=n:=by simp only[fV]at hn;lia
   have dpb:fV pb<=n:=by simp only[fV]at hn;lia
   have dpx:aP x<=8:=by simp only[aP]at Yd;lia
   have dpy:aP y<=8:=by simp only[aP]at Yd;lia
   refine RE.use (K:=K) (d:=Z7 pa) (bC (k:=1) (aB (l.dat A)) aE rfl) λw0 H5 s5 q5=>?_;refine RE.use (K:=K) (d:=toD x) (bC (k:=1) (aB ((l.trans s5).dat B)) aE rfl) λw1 H6 s6 q6=>?_;have s16:=l.trans (s5.trans s6);have tri6:=O.same s16;refine⟨_,rfl,pa,x,w0,w1,f,l0,l1,l2,a,b,c,rfl,XH.2.1,XM.2.1,dpx,dpa,⋯,s6.dat q5,q6,s16 _ _ hf,f0,f1,f2,tri6,⋯,⋯,⋯,λH7 a1 b1' c1 bb7 tri7 ka kb kc d7=>?_⟩;refine⟨_,rfl,?_⟩
   have n8:2 ^ n<=8:=by
    have:n<=3:=by lia
    match n,this with
    |0,_=>decide
    |1,_=>decide
    |2,_=>decide
    |3,_=>decide
   have g67:eI K H6 H7:=bb7.grow tri6 tri7;have bb17:Yy l0 l1 l2 H H7:=s16.Y4.trans bb7
   cases hfa:cQ pa x with
   |none =>
    refine lD ?_;have L:=post H7 a1 b1' c1 bb17 tri7 (Tz ka (U0 ⋯ ⋯)) (Tz kb (U0 ⋯ ⋯)) (Tz kc (U0 ⋯ ⋯)) λY z=>by rw[qB hfa]at z;cases z
    rw[qB hfa]at L;exact L
   |some fa =>
    refine lE ?_;obtain⟨da,db,dc⟩:=d7 fa hfa;refine jf (gZ (RE.use (K:=K) (d:=Z7 pb) (bC (k:=2) (aB (Dat.mono g67 _ (s16.dat A))) aE rfl) λw2 H8 s8 q8=>?_));refine gZ (RE.use (K:=K) (d:=toD y) (bC (k:=2) (aB (s8.dat (Dat.mono g67 _ (s16.dat B)))) aE rfl) λw3 H9 s9 q9=>?_);have N:=s8.trans s9;have tri9:=tri7.same N;refine⟨_,rfl,pb,y,w2,w3,f,l0,l1,l2,a++a1,b++b1',c++c1,rfl,XH.2.2,XM.2.2,dpy,dpb,⋯,s9.dat q8,q9,N _ _ (hf' bb17),f0,f1,f2,tri9,by rw[M1];lia,by rw[M1];lia,by rw[M1];lia,λH10 a2 b2' c2 bb10 J ma mb mc d10=>?_⟩;have g:=bb10.grow (K:=K) tri9 J;rw[TJ,TJ,TJ]at J
    have L:=post H10 (a1++a2) (b1'++b2') (c1++c2) (bb17.trans (N.Y4.trans bb10)) J (B6 ka ma) (B6 kb mb) (B6 kc mc) λY z=>by
     obtain⟨_,f',g',e1,e2,e3⟩:=fJ z;rw[hfa]at e1;cases e1;obtain⟨da2,db2,dc2⟩:=d10 g' e2;subst e3;refine⟨?_,?_,?_⟩
     ·show WU K H10 ((fa.1++g'.1).map toD) _;rw[Tj];exact WU.append (WU.mono g _ (N.W0 da)) da2
     ·show WU K H10 ((fa.2.1++g'.2.1).map D.int) _;rw[Tj];exact WU.append (WU.mono g _ (N.W0 db)) db2
     ·show WU K H10 ((fa.2.2++g'.2.2).map D.int) _;rw[Tj];exact WU.append (WU.mono g _ (N.W0 dc)) dc2
    rw[BD hfa]at L;exact L
end
section
noncomputable def fdD:Option Yb->D
 |none=>.W3
 |some f=>.tup [.tup (f.1.map toD),.tup (f.2.1.map D.int),.tup (f.2.2.map D.int)]
def r8(a:List D)(d:D):Prop:=∃b p c t,a=[.tup [b,Z7 p,c],toD t]/\Eu p/\Xx t/\aP t<=8/\fV p<=3/\d=fdD (cQ p t)
theorem LG(x y z:V):pM [] ([(Sum.inr (Str.ofString "hole"),x),(Sum.inr (Str.ofString "gap"),y),(Sum.inr (Str.ofString "slot"),z)]:List (Key×V))=[(Sum.inr (Str.ofString "hole"),x),(Sum.inr (Str.ofString "gap"),y),(Sum.inr (Str.ofString "slot"),z)]:=rfl
variable{K:qs}
theorem Nd{e:TE}{f d:TS}{c:jF}{a:L2.St}{H:Hp}(h:e a H λx b=>∃k,zI K x b k/\if (!k)=true then f {c with nx:=d c} a b else d c a b):a6 (md (Mp (λa H Q=>e a H λx b=>∃k,zI K x b k/\Q k b)) f DT) d c a H:=h
theorem AB(T:Txt P w K mg)(Qd:Ok P w base k T.OM (Bh K oD 3)):Ok P w base (k+1) T.O4 (Xp K r8):=by
 refine Xd T.O4.f Bb λvs H Q E nd h=>?_;obtain⟨ds,d,hd,⟨nm,p,cs,t,rfl,XH,XM,Yd,dpp,rfl⟩,post⟩:=h;obtain⟨v0,v1,rfl,h0,h1⟩:=iF hd;refine⟨rfl,λ_ _ _ _ hr=>?_⟩;refine'⟨_,?YT,?yread⟩
 case' YT=>refine' aC ?a ?b
 case' a=>refine' tX (i:=2) ?c ?d ?e ?f
 case c=>exact nd
 case d=>exact rfl
 case e=>exact Or.inl rfl
 case' f=>refine' Ju ?g ?h ?i ?j ?k
 case' g=>refine' tW ?l ?m ?n
 case l=>exact aI
 case m=>exact(bQ a7)
 case' n=>refine' tW ?o ?p ?q
 case o=>exact aI
 case p=>exact(bQ a7)
 case' q=>refine' tW ?r ?s ?t
 case r=>exact aI
 case s=>exact(bQ a7)
 case t=>exact JG
 case h=>exact rfl
 case i=>exact rfl
 case j=>simp
 case k=>decide
 case' b=>refine' aC ?u ?v
 case' u=>refine' bA ?w ?x ?y
 case w=>exact(cI (bL (pc (D:=T.OM) Qd hr (z3 (a8 a9 (pv 0) aD) (pv 1) (pv 2))) (λ_=>rfl)))
 case' x=>refine' aX ?z
 case z=>exact(kI jH)
 case y=>exact aO
 case' v=>refine' aX ?aa
 case aa=>exact(kI (aU (z3 (eF dD rfl T.Os fC (z1 (rR (Dc hr) (pv 2) aI (λ_ _=>rfl)))) (eF dD rfl T.Os fC (z1 (rR (Dc hr) (pv 2) aI (λ_ _=>rfl)))) (eF dD rfl T.Os fC (z1 (rR (Dc hr) (pv 2) aI (λ_ _=>rfl)))))))
 show let W5:=_;let Xc:=a6 _ W5;a6 _ Xc _ _ _;intro W5 Xc;refine eE (λf hf=>⟨cK ⋯,λA Y=>⟨cK ⋯,λB C=>⟨cK ⋯,λI hl2=>⟨?_,[(Sum.inr "hole",.ref A),(Sum.inr "gap",.ref B),(Sum.inr "slot",.ref I)],rfl,by simp,?_⟩⟩⟩⟩)
 ·rw[aR (aN (by rw[aR (aN (by rw[aR (aN aF Y)];exact aF) C),aR (aN aF Y)];exact aF) hl2),aR (aN (by rw[aR (aN aF Y)];exact aF) C),aR (aN aF Y)];exact aF
 rw[LG];have J:f≠A:=aN aF Y;have L:f≠B:=aN (by rw[aR J];exact aF) C;have O:A≠B:=aN aF C;have U:f≠I:=aN (by rw[aR L,aR J];exact aF) hl2;have n20:A≠I:=aN (by rw[aR O];exact aF) hl2;have n21:B≠I:=aN aF hl2;generalize hG:upd (upd (upd (upd (upd H f (.dK [])) A (.lst [])) B (.lst [])) I (.lst [])) f (.dK [(Sum.inr "hole",V.ref A),(Sum.inr "gap",.ref B),(Sum.inr "slot",.ref I)])=G;have gf:G f=some (oD A B I):=by rw[<- hG];exact aF
 have Z8:Zc A B I G [] [] []:=by
  rw[<- hG];refine⟨?_,?_,?_,O,n20,n21⟩
  ·rw[aR (Tf J),aR n20,aR O];exact aF
  ·rw[aR (Tf L),aR n21];exact aF
  ·rw[aR (Tf U)];exact aF
 have sG:WV H G:=λx o N=>by have zf:=aN N hf;have z0:x≠A:=aN (by rw[aR zf];exact N) Y;have z1:x≠B:=aN (by rw[aR z0,aR zf];exact N) C;have z2:x≠I:=aN (by rw[aR z1,aR z0,aR zf];exact N) hl2;rw[<- hG,aR zf,aR z2,aR z1,aR z0,aR zf];exact N
 have free0:H A=none:=by rw[aR (Tf J)]at Y;exact Y
 have free1:H B=none:=by rw[aR (Tf O),aR (Tf L)]at C;exact C
 have free2:H I=none:=by rw[aR (Tf n21),aR (Tf n20),aR (Tf U)]at hl2;exact hl2
 refine Nd (K:=K) (jf (gZ (RE.use (K:=K) (d:=Z7 p) (bC (k:=1) (aB (sG.dat h0)) aE rfl) λw0 G1 s1 q0=>?_)));refine⟨_,rfl,_,rfl,p,t,w0,v1,f,A,B,I,[],[],[],rfl,XH,XM,Yd,dpp,⋯,q0,(sG.trans s1).dat h1,s1 _ _ gf,J,L,U,Z8.same s1,⋯,⋯,⋯,λH' a' b' c' bb M _ _ _ dd=>⟨_,rfl,?_⟩⟩;have sm:WV H H':=λx o N=>bb x o (aN N free0) (aN N free1) (aN N free2) (s1 _ _ (sG _ _ N))
 cases hft:cQ p t with
 |none =>refine lE ?_;rw[hft]at post;exact post _ _ sm Dat.Y3
 |some fd =>refine lD ?_;obtain⟨d0,d1,d2⟩:=dd fd hft;have gf':H' f=some (.dK [(Sum.inr "hole",V.ref A),(Sum.inr "gap",.ref B),(Sum.inr "slot",.ref I)]):=bb _ _ J L U (s1 _ _ gf);rw[hft]at post;exact bE (K:=K) (d:=fdD (some fd)) (aZ (aA (p9 gf' (Dm A B I) M.h0 d0) (aA (p9 gf' (GO A B I) M.h1 d1) (aA (p9 gf' (Dn A B I) M.h2 d2) aG)))) λv Xy s qq=>post v Xy (sm.trans s) qq
abbrev LPD:List D:=[.tup [.str "inc",.tup [.str "add",.tup [.str "hole",.int 0],.tup [.str "num",.int 1]],.tup [.int 12,.int 1]],
 .tup [.str "both",.tup [.str "add",.tup [.str "slot",.int 0],.tup [.str "slot",.int 1]],.tup [.int 3,.tup [.str "arg",.int 0],.int 3,.tup [.str "arg",.int 1],.int 4]],
 .tup [.str "twofold",.tup [.str "mul",.tup [.str "hole",.int 0],.tup [.str "num",.int 2]],.tup [.int 13,.int 4]],
 .tup [.str "fewer",.tup [.str "sub",.tup [.str "hole",.int 0],.tup [.str "gap",.int 0,.int 99]],.tup [.int 1,.tup [.str "low",.int 0],.int 5]],
 .tup [.str "addmul",.tup [.str "add",.tup [.str "mul",.tup [.str "hole",.int 0],.tup [.str "hole",.int 1]],.tup [.str "gap",.int 0,.int 99]],.tup [.int 6,.int 12,.tup [.str "low",.int 0]]],
 .tup [.str "turned",.tup [.str "less",.tup [.str "gap",.int 0,.int 99],.tup [.str "hole",.int 0]],.tup [.int 1,.tup [.str "low",.int 0],.int 14,.int 7]],
 .tup [.str "far",.tup [.str "add",.tup [.str "hole",.int 0],.tup [.str "gap",.int 0,.int 9999]],.tup [.int 2,.tup [.str "low",.int 0],.tup [.str "high",.int 0],.int 4]],
 .tup [.str "pair",.tup [.str "sub",.tup [.str "gap",.int 0,.int 99],.tup [.str "gap",.int 1,.int 99]],.tup [.int 1,.tup [.str "low",.int 0],.int 1,.tup [.str "low",.int 1],.int 5]]]
theorem tL(T:Txt P w K mg)  : Ok P w base (k+1) T.Ox (jR K λds es=>ds=[]/\es=LPD):=by
 refine Xd T.Ox.f ux λvs H Q E I h=>?_;obtain⟨ds,es,hd,⟨rfl,rfl⟩,post⟩:=h;have ez:=hd.X5;subst ez;refine⟨rfl,λ_ _ _ _ hr=>?_⟩;refine'⟨_,?YT,?yread⟩
 case' YT=>refine' aC ?a ?b
 case' a=>refine' gY ?c ?d ?e ?f
 case' c=>refine' aU ?g
 case' g=>refine' aY ?h ?i
 case h=>exact(aU (z2 aI aD))
 case' i=>refine' aY ?j ?k
 case j=>exact(aU (z2 aI aD))
 case' k=>refine' aY ?l ?m
 case l=>exact(aU (z3 aI aD aD))
 case m=>exact a7
 case d=>exact(fX rfl (bB (zg 0 I) (bB (zg 1 I) (bB (zg 2 I) dH))))
 case e=>rfl
 case f=>kernel_rfl
 case' b=>refine' aC ?n ?o
 case' n=>refine' tX (i:=3) ?p ?q ?r ?s
 case p=>exact I
 case q=>exact rfl
 case r=>exact Or.inl rfl
 case' s=>refine' bQ ?t
 case' t=>refine' aY ?u ?v
 case' u=>refine' aU ?w
 case' w=>refine' aY ?x ?y
 case x=>exact aI
 case' y=>refine' aY ?z ?aa
 case' z=>refine' aU ?ab
 case' ab=>refine' aY ?ac ?ad
 case ac=>exact aI
 case' ad=>refine' aY ?ae ?af
 case ae=>exact(pv 0)
 case' af=>refine' aY ?ag ?ah
 case ag=>exact(aU (z2 aI aD))
 case ah=>exact a7
 case' aa=>refine' aY ?ai ?aj
 case ai=>exact(aU (z2 aD aD))
 case aj=>exact a7
 case v=>exact a7
 case' o=>refine' aC ?ak ?al
 case' ak=>refine' bK ?am
 case' am=>refine' dW ?an ?ao ?ap ?aq ?ar ?au
 case an=>exact Tg
 case ao=>exact TU
 case ap=>exact TZ
 case aq=>exact cC
 case ar=>exact(pv 3)
 case' au=>refine' aY ?av ?aw
 case' av=>refine' aU ?ax
 case' ax=>refine' aY ?ay ?az
 case ay=>exact aI
 case' az=>refine' aY ?ba ?bb
 case' ba=>refine' aU ?bc
 case' bc=>refine' aY ?bd ?be
 case bd=>exact aI
 case' be=>refine' aY ?bf ?bg
 case bf=>exact(aU (z2 aI aD))
 case' bg=>refine' aY ?bh ?bi
 case bh=>exact(aU (z2 aI aD))
 case bi=>exact a7
 case' bb=>refine' aY ?bj ?bk
 case' bj=>refine' aU ?bl
 case' bl=>refine' aY ?bm ?bn
 case bm=>exact aD
 case' bn=>refine' aY ?bo ?bp
 case bo=>exact(aU (z2 aI aD))
 case' bp=>refine' aY ?bq ?br
 case bq=>exact aD
 case' br=>refine' aY ?bs ?bt
 case bs=>exact(aU (z2 aI aD))
 case' bt=>refine' aY ?bu ?bv
 case bu=>exact aD
 case bv=>exact a7
 case bk=>exact a7
 case aw=>exact a7
 case' al=>refine' aC ?bw ?bx
 case' bw=>refine' bK ?bz
 case' bz=>refine' dW ?ca ?cb ?cc ?cd ?ce ?cf
 case ca=>exact Tg
 case cb=>exact TU
 case cc=>exact TZ
 case cd=>exact cC
 case ce=>exact(pv 3)
 case' cf=>refine' aY ?cg ?ch
 case' cg=>refine' aU ?ci
 case' ci=>refine' aY ?cj ?ck
 case cj=>exact aI
 case' ck=>refine' aY ?cl ?cm
 case' cl=>refine' aU ?cn
 case' cn=>refine' aY ?co ?cp
 case co=>exact aI
 case' cp=>refine' aY ?cq ?cr
 case cq=>exact(pv 0)
 case' cr=>refine' aY ?cs ?ct
 case cs=>exact(aU (z2 aI aD))
 case ct=>exact a7
 case' cm=>refine' aY ?cu ?cv
 case cu=>exact(aU (z2 aD aD))
 case cv=>exact a7
 case ch=>exact a7
 case' bx=>refine' aC ?cw ?cx
 case' cw=>refine' bK ?cy
 case' cy=>refine' dW ?cz ?da ?db ?dc ?dd ?de
 case cz=>exact Tg
 case da=>exact TU
 case db=>exact TZ
 case dc=>exact cC
 case dd=>exact(pv 3)
 case' de=>refine' aY ?df ?dg
 case' df=>refine' aU ?dh
 case' dh=>refine' aY ?di ?dj
 case di=>exact aI
 case' dj=>refine' aY ?dk ?dl
 case dk=>exact(aU (z3 aI (pv 0) (pv 2)))
 case' dl=>refine' aY ?dm ?dn
 case' dm=>refine' aU ?dp
 case' dp=>refine' aY ?dq ?dr
 case dq=>exact aD
 case' dr=>refine' aY ?ds ?dt
 case ds=>exact(aU (z2 aI aD))
 case' dt=>refine' aY ?du ?dv
 case du=>exact aD
 case dv=>exact a7
 case dn=>exact a7
 case dg=>exact a7
 case' cx=>refine' aC ?dw ?dx
 case' dw=>refine' bK ?dy
 case' dy=>refine' dW ?dz ?ea ?eb ?ec ?ed ?ee
 case dz=>exact Tg
 case ea=>exact TU
 case eb=>exact TZ
 case ec=>exact cC
 case ed=>exact(pv 3)
 case' ee=>refine' aY ?ef ?eg
 case' ef=>refine' aU ?eh
 case' eh=>refine' aY ?ei ?ej
 case ei=>exact aI
 case' ej=>refine' aY ?ek ?el
 case' ek=>refine' aU ?em
 case' em=>refine' aY ?en ?eo
 case en=>exact aI
 case' eo=>refine' aY ?ep ?eq
 case ep=>exact(aU (z3 aI (pv 0) (pv 1)))
 case' eq=>refine' aY ?er ?es
 case er=>exact(pv 2)
 case es=>exact a7
 case' el=>refine' aY ?et ?eu
 case' et=>refine' aU ?ev
 case' ev=>refine' aY ?ew ?ex
 case ew=>exact aD
 case' ex=>refine' aY ?ey ?ez
 case ey=>exact aD
 case' ez=>refine' aY ?fa ?fb
 case fa=>exact(aU (z2 aI aD))
 case fb=>exact a7
 case eu=>exact a7
 case eg=>exact a7
 case' dx=>refine' aC ?fc ?fd
 case' fc=>refine' bK ?fe
 case' fe=>refine' dW ?ff ?fg ?fh ?fi ?fj ?fk
 case ff=>exact Tg
 case fg=>exact TU
 case fh=>exact TZ
 case fi=>exact cC
 case fj=>exact(pv 3)
 case' fk=>refine' aY ?fl ?fm
 case' fl=>refine' aU ?fn
 case' fn=>refine' aY ?fo ?fp
 case fo=>exact aI
 case' fp=>refine' aY ?fq ?fr
 case fq=>exact(aU (z3 aI (pv 2) (pv 0)))
 case' fr=>refine' aY ?fs ?ft
 case' fs=>refine' aU ?fu
 case' fu=>refine' aY ?fv ?fw
 case fv=>exact aD
 case' fw=>refine' aY ?fx ?fy
 case fx=>exact(aU (z2 aI aD))
 case' fy=>refine' aY ?fz ?ga
 case fz=>exact aD
 case' ga=>refine' aY ?gb ?gc
 case gb=>exact aD
 case gc=>exact a7
 case ft=>exact a7
 case fm=>exact a7
 case' fd=>refine' aC ?gd ?ge
 case' gd=>refine' bK ?gf
 case' gf=>refine' dW ?gg ?gh ?gi ?gj ?gk ?gl
 case gg=>exact Tg
 case gh=>exact TU
 case gi=>exact TZ
 case gj=>exact cC
 case gk=>exact(pv 3)
 case' gl=>refine' aY ?gm ?gn
 case' gm=>refine' aU ?go
 case' go=>refine' aY ?gp ?gq
 case gp=>exact aI
 case' gq=>refine' aY ?gr ?gs
 case' gr=>refine' aU ?gt
 case' gt=>refine' aY ?gu ?gv
 case gu=>exact aI
 case' gv=>refine' aY ?gw ?gx
 case gw=>exact(pv 0)
 case' gx=>refine' aY ?gy ?gz
 case gy=>exact(aU (z3 aI aD aD))
 case gz=>exact a7
 case' gs=>refine' aY ?ha ?hb
 case' ha=>refine' aU ?hc
 case' hc=>refine' aY ?hd ?he
 case hd=>exact aD
 case' he=>refine' aY ?hf ?hg
 case hf=>exact(aU (z2 aI aD))
 case' hg=>refine' aY ?hh ?hi
 case hh=>exact(aU (z2 aI aD))
 case' hi=>refine' aY ?hj ?hk
 case hj=>exact aD
 case hk=>exact a7
 case hb=>exact a7
 case gn=>exact a7
 case' ge=>refine' aC ?hl ?hm
 case' hl=>refine' bK ?hn
 case' hn=>refine' dW ?ho ?hp ?hq ?hr ?hs ?ht
 case ho=>exact Tg
 case hp=>exact TU
 case hq=>exact TZ
 case hr=>exact cC
 case hs=>exact(pv 3)
 case' ht=>refine' aY ?hu ?hv
 case' hu=>refine' aU ?hw
 case' hw=>refine' aY ?hx ?hy
 case hx=>exact aI
 case' hy=>refine' aY ?hz ?ia
 case' hz=>refine' aU ?ib
 case' ib=>refine' aY ?ic ?id
 case ic=>exact aI
 case' id=>refine' aY ?ie ?ig
 case ie=>exact(aU (z3 aI aD aD))
 case' ig=>refine' aY ?ih ?ii
 case ih=>exact(aU (z3 aI aD aD))
 case ii=>exact a7
 case' ia=>refine' aY ?ij ?ik
 case' ij=>refine' aU ?il
 case' il=>refine' aY ?im ?io
 case im=>exact aD
 case' io=>refine' aY ?ip ?iq
 case ip=>exact(aU (z2 aI aD))
 case' iq=>refine' aY ?ir ?it
 case ir=>exact aD
 case' it=>refine' aY ?iu ?iv
 case iu=>exact(aU (z2 aI aD))
 case' iv=>refine' aY ?iw ?ix
 case iw=>exact aD
 case ix=>exact a7
 case ik=>exact a7
 case hv=>exact a7
 case' hm=>refine' aX ?iy
 case iy=>exact(kI (pv 3))
 show let W5:=a6 _ _;let Xc:=a6 _ W5;let Xv:=a6 _ Xc;let XF:=a6 _ Xv;let X6:=a6 _ XF;let YC:=a6 _ X6;let Zd:=a6 _ YC;let B:=a6 _ Zd;a6 _ B _ _ _;intro W5 Xc Xv XF X6 YC Zd B;refine yK (K:=K) (d:=.tup [.str "hole",.int 0]) (e:=.tup [.str "hole",.int 1]) (f:=.tup [.str "gap",.int 0,.int 99]) (aZ (aA (aZ (aA aJ (aA aE aG))) (aA (aZ (aA aJ (aA aE aG))) (aA (aZ (aA aJ (aA aE (aA aE aG)))) aG)))) λvh vo vg H1 s1 dh A dg=>?_;refine fG (K:=K) (fY (aA (aZ (aA aJ (aA (aZ (aA aJ (aA (aB dh) (aA (aZ (aA aJ (aA aE aG))) aG)))) (aA (aZ (aA aE (aA aE aG))) aG)))) aG)) λlb x0 G0 hb J h0 e0=>?_;have C:H lb=none:=s1.free hb;have dh:=J.dat dh;have A:=J.dat A;have dg:=J.dat dg;have bb0:Xb lb H G0:=(s1.trans J).but;have l0:=e0.length;simp only[SX,T8,M1]at l0;refine iY (K:=K) (aZ (aA aJ (aA (aZ (aA aJ (aA (aZ (aA aJ (aA aE aG))) (aA (aZ (aA aJ (aA aE aG))) aG)))) (aA (aZ (aA aE (aA (aZ (aA aJ (aA aE aG))) (aA aE (aA (aZ (aA aJ (aA aE aG))) (aA aE aG)))))) aG)))) h0 (by first|lia | (simp only[M1,SX,T8];lia)) λy1 G1 b1 h1 Z4=>?_;have L:eI K _ G1:=b1.grow h0 h1;have dh:=Dat.mono L _ dh;have A:=Dat.mono L _ A;have dg:=Dat.mono L _ dg;have e1:=WU.append (WU.mono L _ e0) (WU.cons Z4 WU.nil);have l1:=e1.length;have bb1:=bb0.trans b1;simp only[SX,T8,M1]at l1;refine iY (K:=K) (aZ (aA aJ (aA (aZ (aA aJ (aA (aB dh) (aA (aZ (aA aJ (aA aE aG))) aG)))) (aA (aZ (aA aE (aA aE aG))) aG)))) h1 (by first|lia | (simp only[M1,SX,T8];lia)) λy2 G2 b2 h2 e2'=>?_;have M:eI K _ G2:=b2.grow h1 h2;have dh:=Dat.mono M _ dh;have A:=Dat.mono M _ A;have dg:=Dat.mono M _ dg;have e2:=WU.append (WU.mono M _ e1) (WU.cons e2' WU.nil);have l2:=e2.length;have bb2:=bb1.trans b2;simp only[SX,T8,M1]at l2;refine iY (K:=K) (aZ (aA aJ (aA (aZ (aA aJ (aA (aB dh) (aA (aB dg) aG)))) (aA (aZ (aA aE (aA (aZ (aA aJ (aA aE aG))) (aA aE aG)))) aG)))) h2 (by first|lia | (simp only[M1,SX,T8];lia)) λy3 G3 b3 h3 e3'=>?_;have N:eI K _ G3:=b3.grow h2 h3;have dh:=Dat.mono N _ dh;have A:=Dat.mono N _ A;have dg:=Dat.mono N _ dg;have e3:=WU.append (WU.mono N _ e2) (WU.cons e3' WU.nil);have l3:=e3.length;have bb3:=bb2.trans b3;simp only[SX,T8,M1]at l3;refine iY (K:=K) (aZ (aA aJ (aA (aZ (aA aJ (aA (aZ (aA aJ (aA (aB dh) (aA (aB A) aG)))) (aA (aB dg) aG)))) (aA (aZ (aA aE (aA aE (aA (aZ (aA aJ (aA aE aG))) aG)))) aG)))) h3 (by first|lia | (simp only[M1,SX,T8];lia)) λy4 G4 b4 h4 e4'=>?_;have O:eI K _ G4:=b4.grow h3 h4;have dh:=Dat.mono O _ dh;have A:=Dat.mono O _ A;have dg:=Dat.mono O _ dg;have e4:=WU.append (WU.mono O _ e3) (WU.cons e4' WU.nil);have l4:=e4.length;have bb4:=bb3.trans b4;simp only[SX,T8,M1]at l4;refine iY (K:=K) (aZ (aA aJ (aA (aZ (aA aJ (aA (aB dg) (aA (aB dh) aG)))) (aA (aZ (aA aE (aA (aZ (aA aJ (aA aE aG))) (aA aE (aA aE aG))))) aG)))) h4 (by first|lia | (simp only[M1,SX,T8];lia)) λy5 G5 b5 h5 e5'=>?_;have U:eI K _ G5:=b5.grow h4 h5;have dh:=Dat.mono U _ dh;have A:=Dat.mono U _ A;have dg:=Dat.mono U _ dg;have e5:=WU.append (WU.mono U _ e4) (WU.cons e5' WU.nil);have l5:=e5.length;have bb5:=bb4.trans b5;simp only[SX,T8,M1]at l5;refine iY (K:=K) (aZ (aA aJ (aA (aZ (aA aJ (aA (aB dh) (aA (aZ (aA aJ (aA aE (aA aE aG)))) aG)))) (aA (aZ (aA aE (aA (aZ (aA aJ (aA aE aG))) (aA (aZ (aA aJ (aA aE aG))) (aA aE aG))))) aG)))) h5 (by first|lia | (simp only[M1,SX,T8];lia)) λy6 G6 b6 h6 e6'=>?_;have Y:eI K _ G6:=b6.grow h5 h6;have dh:=Dat.mono Y _ dh;have A:=Dat.mono Y _ A;have dg:=Dat.mono Y _ dg;have e6:=WU.append (WU.mono Y _ e5) (WU.cons e6' WU.nil);have l6:=e6.length;have bb6:=bb5.trans b6;simp only[SX,T8,M1]at l6;refine iY (K:=K) (aZ (aA aJ (aA (aZ (aA aJ (aA (aZ (aA aJ (aA aE (aA aE aG)))) (aA (aZ (aA aJ (aA aE (aA aE aG)))) aG)))) (aA (aZ (aA aE (aA (aZ (aA aJ (aA aE aG))) (aA aE (aA (aZ (aA aJ (aA aE aG))) (aA aE aG)))))) aG)))) h6 (by first|lia | (simp only[M1,SX,T8];lia)) λy7 G7 b7 h7 e7'=>?_;have g7:eI K _ G7:=b7.grow h6 h7;have dh:=Dat.mono g7 _ dh;have A:=Dat.mono g7 _ A;have dg:=Dat.mono g7 _ dg;have e7:=WU.append (WU.mono g7 _ e6) (WU.cons e7' WU.nil);have l7:=e7.length;have bb7:=bb6.trans b7;have sm:WV H G7:=λb o G=>bb7 b o (aN G C) G;exact⟨_,rfl,post lb _ G7 sm h7 C e7⟩
end
section
variable{w:World}
structure Pc where
 nm:Str
 pt:Pa
 cs:List D
noncomputable def XX(p:Pc):D:=.tup [.str p.nm,Z7 p.pt,.tup p.cs]
noncomputable def fQ:Pa->Bool
 | .hole _=>false
 |_=>true
structure Jm(p:Pc):Prop where
 nm:p.nm≠"pick"
 ok:Eu p.pt
 dp:fV p.pt<=3
 cs:p.cs.length<=12
 nh:fQ p.pt=true
structure Wy where
 nm:Str
 cs:List D
 ts:List Tr
noncomputable def wyD(w:Wy):D:=.tup [.str w.nm,.tup w.cs,.tup (w.ts.map toD)]
noncomputable def rb(t:Tr)(p:Pc):Option Wy:=(cQ p.pt t).map λf=>⟨p.nm,p.cs,f.1⟩
noncomputable def Ej:Tr->Bool
 | .pick _ _ _=>true
 |_=>false
noncomputable def jE(a:List Pc)(t:Tr):List Wy:=if Ej t=true then [⟨"pick",[],bT t⟩]else a.filterMap (rb t)
noncomputable def fW(b c a:Int):List Int:=if a<=9 then [b,a]else [c,a%100,a / 100]
noncomputable def kF(a:Int):Int:=if a<=9 then 2 else 3
theorem kQ(b c a:Int):((fW b c a).length:Int)=kF a:=by unfold fW kF;split<;>rfl
theorem xN(a:Int):2<=kF a/\kF a<=3:=by unfold kF;split<;>lia
noncomputable def AM(y z:Int):Int:=kF (y+kF z)+kF z
noncomputable def vk(w:Wy)(a:vc):Int:=if w.nm="pick" then AM (a.getD 1 0) (a.getD 2 0)else (w.cs.length:Int)
noncomputable def eQ(w:Wy)(a:vc):Int:=vk w a+a.sum
noncomputable abbrev Yz:Type:=Option (Int×D)
noncomputable def bD:Yz->D
 |none=>.W3
 |some b=>.tup [.int b.1,b.2]
noncomputable def iJ:List Yz->Option (List (Int×D))
 |[]=>some []
 |none::_=>none
 |some b::r=>(iJ r).map (b::·)
noncomputable def Z9(a:Str)(bs:List (Int×D)):D:=.tup [.str a,.tup (bs.map (·.2))]
noncomputable def jG(a:Yz)(l:Int)(c:D):Yz:=match a with
 |none=>some (l,c)
 |some b=>if l<b.1 then some (l,c)else some b
noncomputable def DP(a:Yz)(w:Wy):Option (List (Int×D))->Yz
 |none=>a
 |some bs=>jG a (eQ w (bs.map (·.1))) (Z9 w.nm bs)
noncomputable def fT(f:Tr->Yz)(a:Yz)(w:Wy):Yz:=DP a w (iJ (w.ts.map f))
noncomputable def kE:Tr->Bool
 | .call _=>true
 |_=>false
noncomputable def gX(a:List Pc)(f:Tr->Yz)(t:Tr):Yz:=if kE t=true then some (3,.tup [])else (jE a t).foldl (fT f) none
theorem vO(h:(jE a t).foldl (fT f) none=(jE a t).foldl (fT g) none):gX a f t=gX a g t:=by unfold gX;rw[h]
noncomputable def qr(a:List Pc):Nat->Tr->Yz
 |0,_=>none
 |n+1,t=>gX a (qr a n) t
noncomputable def dP(a:List Pc)(t:Tr):Yz:=qr a (aM t) t
theorem xc(t:Tr):1<=aM t:=by cases t<;>simp[aM]
theorem sN:∀(p:Pa)(t:Tr)(f:Yb),cQ p t=some f->∀x∈f.1,x∈aS t
 | .hole i,t,f,h,x,hx=>by cases h;simp at hx;rw[hx,gL];exact Tn
 | .gap i m,t,f,h,x,hx=>by
  cases t with
  |num n =>
   have c:(if n<=m then some ([],[n],[])else none:Option Yb)=some f:=h;by_cases z:n<=m
   ·rw[SV z]at c;cases c;simp at hx
   ·rw[PC z]at c;cases c
  |_=>cases h
 | .slot i,t,f,h,x,hx=>by
  cases t with
  |arg n=>cases h;simp at hx
  |_=>cases h
 | .num m,t,f,h,x,hx=>by
  cases t with
  |num n =>
   have c:(if n=m then some ([],[],[])else none:Option Yb)=some f:=h;by_cases z:n=m
   ·rw[SV z]at c;cases c;simp at hx
   ·rw[PC z]at c;cases c
  |_=>cases h
 | .two o a b,t,f,h,x,hx=>by
  cases t with
  |two r u v =>
   obtain⟨_,e,g,j,l,q⟩:=fJ h;subst q;have d:x∈e.1++g.1:=hx;simp only[aS,S0,Tq];rcases Tq.mp d with hx|hx
   ·exact .inr (.inl (sN a u e j x hx))
   ·exact .inr (.inr (sN b v g l x hx))
  |_=>cases h
theorem oC(j:fQ p=true)(h:cQ p t=some f):∀x∈f.1,x∈(bT t).flatMap aS:=by
 intro x hx
 cases p with
 |hole i=>cases j
 |gap i m =>
  cases t with
  |num n =>
   have c:(if n<=m then some ([],[n],[])else none:Option Yb)=some f:=h;by_cases z:n<=m
   ·rw[SV z]at c;cases c;simp at hx
   ·rw[PC z]at c;cases c
  |_=>cases h
 |slot i =>
  cases t with
  |arg n=>cases h;simp at hx
  |_=>cases h
 |num m =>
  cases t with
  |num n =>
   have c:(if n=m then some ([],[],[])else none:Option Yb)=some f:=h;by_cases z:n=m
   ·rw[SV z]at c;cases c;simp at hx
   ·rw[PC z]at c;cases c
  |_=>cases h
 |two o a b =>
  cases t with
  |two s u v =>
   obtain⟨_,e,g,l,q,r⟩:=fJ h;subst r;have d:x∈e.1++g.1:=hx;simp only[bT,List.flatMap_cons,List.flatMap_nil,To,Tq];rcases Tq.mp d with hx|hx
   ·exact .inl (sN a u e l x hx)
   ·exact .inr (sN b v g q x hx)
  |_=>cases h
theorem ES(t:Tr):t∈aS t:=by rw[gL];exact Tn
theorem r6{c:List Pc}(d:∀p∈c,fQ p.pt=true){t:Tr}{w:Wy}(b:w∈jE c t):∀x∈w.ts,x∈(bT t).flatMap aS:=by
 unfold jE at b;split at b
 ·rw[Tp.mp b];intro x g;exact V8.mpr ⟨x,g,ES x⟩
 ·obtain⟨p,h,a⟩:=U6.mp b;unfold rb at a
  cases e:cQ p.pt t with
  |none=>rw[e]at a;cases a
  |some f =>rw[e]at a;cases a;exact oC (d p h) e
theorem fE:∀(t x:Tr),x∈aS t->aM x<=aM t/\aP x<=aP t
 | .num n,x,h=>by
  have e:x=.num n:=by simpa[aS]using h
  subst e;exact⟨SY _,SY _⟩
 | .arg n,x,h=>by
  have e:x=.arg n:=by simpa[aS]using h
  subst e;exact⟨SY _,SY _⟩
 | .call n,x,h=>by
  have e:x=.call n:=by simpa[aS]using h
  subst e;exact⟨SY _,SY _⟩
 | .two o a b,x,h=>by
  simp only[aS,S0,Tq]at h;rcases h with rfl|h|h
  ·exact⟨SY _,SY _⟩
  ·have:=fE a x h;simp only[aM,aP];lia
  ·have:=fE b x h;simp only[aM,aP];lia
 | .pick a b c,x,h=>by
  simp only[aS,S0,Tq]at h;rcases h with rfl | (h|h)|h
  ·exact⟨SY _,SY _⟩
  ·have:=fE a x h;simp only[aM,aP];lia
  ·have:=fE b x h;simp only[aM,aP];lia
  ·have:=fE c x h;simp only[aM,aP];lia
theorem jq:∀(t x:Tr),Xx t->x∈aS t->Xx x
 | .num n,x,k,h=>by
  have e:x=.num n:=by simpa[aS]using h
  subst e;exact k
 | .arg n,x,k,h=>by
  have e:x=.arg n:=by simpa[aS]using h
  subst e;exact k
 | .call n,x,k,h=>by
  have e:x=.call n:=by simpa[aS]using h
  subst e;exact k
 | .two o a b,x,k,h=>by
  simp only[aS,S0,Tq]at h;rcases h with rfl|h|h
  ·exact k
  ·exact jq a x k.2.1 h
  ·exact jq b x k.2.2 h
 | .pick a b c,x,k,h=>by
  simp only[aS,S0,Tq]at h;rcases h with rfl | (h|h)|h
  ·exact k
  ·exact jq a x k.1 h
  ·exact jq b x k.2.1 h
  ·exact jq c x k.2.2 h
theorem wC(h:x∈bT t):aM x<aM t/\aP x<aP t:=by
 cases t with
 |num n=>simp[bT]at h
 |arg n=>simp[bT]at h
 |call n=>simp[bT]at h
 |two o a b =>simp only[bT,S0,Ti,T9]at h;simp only[aM,aP];rcases h with rfl|rfl<;>lia
 |pick a b c =>simp only[bT,S0,Ti,T9]at h;simp only[aM,aP];rcases h with rfl|rfl|rfl<;>lia
theorem lP(h:x∈(bT t).flatMap aS):aM x<aM t/\aP x<aP t:=by obtain⟨k,a,b⟩:=V8.mp h;have:=wC a;have:=fE k x b;lia
theorem lh(h:x∈(bT t).flatMap aS):x∈aS t:=by rw[gL];exact Th _ h
theorem Cw{w:Wy}(h:∀x∈w.ts,f x=g x)(b:Yz):fT f b w=fT g b w:=by unfold fT;rw[VG h]
theorem nM:∀(a:List Wy)(b:Yz),(∀w∈a,∀x∈w.ts,f x=g x)->a.foldl (fT f) b=a.foldl (fT g) b
 |[],_,_=>rfl
 |w::a,b,h=>by rw[VI,VI,Cw (h w Tn)];exact nM a _ λc d=>h c (Th _ d)
theorem qt(b:∀p∈a,fQ p.pt=true):∀(n:Nat)(t:Tr),aM t<=n->qr a (n+1) t=qr a n t
 |0,t,h=>by have:=xc t;lia
 |n+1,t,h=>by show gX a (qr a (n+1)) t=gX a (qr a n) t;refine vO (nM _ _ λw c x d=>qt b n x ?_);have:=lP (r6 b c x d);lia
theorem zP(b:∀p∈a,fQ p.pt=true):∀{n:Nat},aM t<=n->qr a n t=dP a t:=by
 intro n
 induction n with
 |zero=>intro h;have:=xc t;lia
 |succ n c =>
  intro h;by_cases e:aM t=n+1
  ·unfold dP;rw[e]
  ·rw[qt b n t ⋯];exact c ⋯
theorem kN(b:∀p∈a,fQ p.pt=true)(t:Tr):dP a t=gX a (dP a) t:=by rw[<- zP b (V0 (aM t))];show gX a (qr a (aM t)) t=_;refine vO (nM _ _ λw c x d=>zP b ?_);exact UN (lP (r6 b c x d)).1
theorem ql(a:p∈b)(c:Ej t=false)(h:cQ p.pt t=some f):(⟨p.nm,p.cs,f.1⟩:Wy)∈jE b t:=by unfold jE;rw[PC (by rw[c];exact SW)];exact U6.mpr ⟨p,a,by unfold rb;rw[h];rfl⟩
noncomputable def jc:Pa->Nat
 | .hole _=>1
 | .two _ a b=>jc a+jc b
 |_=>0
theorem mW:∀(p:Pa)(t:Tr)(f:Yb),cQ p t=some f->f.1.length=jc p
 | .hole i,t,f,h=>by cases h;rfl
 | .gap i m,t,f,h=>by
  cases t with
  |num n =>
   have c:(if n<=m then some ([],[n],[])else none:Option Yb)=some f:=h;by_cases z:n<=m
   ·rw[SV z]at c;cases c;rfl
   ·rw[PC z]at c;cases c
  |_=>cases h
 | .slot i,t,f,h=>by
  cases t with
  |arg n=>cases h;rfl
  |_=>cases h
 | .num m,t,f,h=>by
  cases t with
  |num n =>
   have c:(if n=m then some ([],[],[])else none:Option Yb)=some f:=h;by_cases z:n=m
   ·rw[SV z]at c;cases c;rfl
   ·rw[PC z]at c;cases c
  |_=>cases h
 | .two o a b,t,f,h=>by
  cases t with
  |two q u v =>obtain⟨_,d,e,g,j,l⟩:=fJ h;subst l;show(d.1++e.1).length=jc a+jc b;rw[M1,mW a u d g,mW b v e j]
  |_=>cases h
noncomputable abbrev NF:Pc:=⟨"add",.two "add" (.hole 0) (.hole 1),[.int 4]⟩
noncomputable abbrev BP:List Pc:=[⟨"one",.gap 0 99,[.int 1,.tup [.str "low",.int 0]]⟩,⟨"two",.gap 0 9999,[.int 2,.tup [.str "low",.int 0],.tup [.str "high",.int 0]]⟩,⟨"slot",.slot 0,[.int 3,.tup [.str "arg",.int 0]]⟩,
 NF,⟨"sub",.two "sub" (.hole 0) (.hole 1),[.int 5]⟩,⟨"mul",.two "mul" (.hole 0) (.hole 1),[.int 6]⟩,⟨"less",.two "less" (.hole 0) (.hole 1),[.int 7]⟩,⟨"more",.two "add" (.hole 0) (.gap 0 99),[.int 12,.tup [.str "low",.int 0]]⟩]
theorem FZ(o:Str)(x y:Tr):cQ (.two o (.hole 0) (.hole 1)) (.two o x y)=some ([x,y],[],[]):=by show(if o=o then _ else _)=_;rw[SV rfl];rfl
theorem AI(h:okB o):∃c:D,(⟨o,.two o (.hole 0) (.hole 1),[c]⟩:Pc)∈BP:=by
 rcases h with rfl|rfl|rfl|rfl
 ·exact⟨.int 4,by simp[BP]⟩
 ·exact⟨.int 5,by simp[BP]⟩
 ·exact⟨.int 6,by simp[BP]⟩
 ·exact⟨.int 7,by simp[BP]⟩
theorem GS(h:okB o):¬ o="pick":=by rcases h with rfl|rfl|rfl|rfl<;>decide +kernel
theorem Ah:∀(a:List Wy)(b x:Yz),a.foldl (fT f) b=x->x=b\/∃w∈a,∃bs,iJ (w.ts.map f)=some bs/\x=some (eQ w (bs.map (·.1)),Z9 w.nm bs)
 |[],b,x,h=>.inl h.symm
 |w::a,b,x,h=>by
  rw[VI]at h;rcases Ah a _ x h with e|⟨d,g,r⟩
  ·unfold fT at e
   cases c:iJ (w.ts.map f)with
   |none=>rw[c]at e;exact .inl e
   |some bs =>
    rw[c]at e;have e:x=jG b (eQ w (bs.map (·.1))) (Z9 w.nm bs):=e
    have two:jG b (eQ w (bs.map (·.1))) (Z9 w.nm bs)=b\/jG b (eQ w (bs.map (·.1))) (Z9 w.nm bs)=some (eQ w (bs.map (·.1)),Z9 w.nm bs):=by
     unfold jG
     cases b with
     |none=>exact .inr rfl
     |some y =>
      dsimp only;split
      ·exact .inr rfl
      ·exact .inl rfl
    rcases two with z|z
    ·exact .inl (e.trans z)
    ·exact .inr ⟨w,Tn,bs,c,e.trans z⟩
  ·exact .inr ⟨d,Th _ g,r⟩
theorem zK:∀{a:List Tr}{bs:List (Int×D)},iJ (a.map f)=some bs->a.map f=bs.map some
 |[],bs,h=>by cases h;rfl
 |t::a,bs,h=>by
  cases e:f t with
  |none=>rw[S8,e]at h;cases h
  |some b =>
   rw[S8,e]at h;have c:(iJ (a.map f)).map (b::·)=some bs:=h
   cases d:iJ (a.map f)with
   |none=>rw[d]at c;cases c
   |some r =>rw[d]at c;cases c;rw[S8,S8,e,zK d]
theorem Cy{f:Tr->Yz}{b:Yz}{w:Wy}(h:b≠none):fT f b w≠none:=by
 unfold fT
 cases iJ (w.ts.map f)with
 |none=>exact h
 |some bs =>
  show jG b _ _≠none;unfold jG
  cases b with
  |none=>exactλz=>nomatch z
  |some y=>dsimp only;split<;>exactλz=>nomatch z
theorem EW{w:Wy}(h:iJ (w.ts.map f)≠none):fT f b w≠none:=by
 unfold fT
 cases e:iJ (w.ts.map f)with
 |none=>exact absurd e h
 |some bs =>
  show jG b _ _≠none;unfold jG
  cases b with
  |none=>exactλz=>nomatch z
  |some y=>dsimp only;split<;>exactλz=>nomatch z
theorem sR:∀(a:List Wy)(b:Yz),b≠none->a.foldl (fT f) b≠none
 |[],_,h=>h
 |_::a,_,h=>sR a _ (Cy h)
theorem wg:∀(a:List Wy)(b:Yz)(w:Wy),w∈a->iJ (w.ts.map f)≠none->a.foldl (fT f) b≠none
 |w'::a,b,w,hw,h=>by
  rcases S0.mp hw with rfl|hw
  ·exact sR a _ (EW h)
  ·exact wg a _ w hw h
theorem ow{a:List Pc}(c:∀p∈a,fQ p.pt=true){t:Tr}{w:Wy}(d:w∈jE a t)(h:iJ (w.ts.map (dP a))≠none):∃b,dP a t=some b:=by
 rw[kN c];unfold gX;split
 ·exact⟨_,rfl⟩
 ·have z:=wg (f:=dP a) (jE a t) none w d h
  cases e:(jE a t).foldl (fT (dP a)) none with
  |none=>exact absurd e z
  |some b=>exact⟨b,rfl⟩
theorem jT(d:∀p∈i,fQ p.pt=true)(g:∀p∈BP,p∈i):∀t:Tr,Xx t->∃b,dP i t=some b
 | .num n,h=>by
  have e:cQ (.gap 0 9999) (.num n)=some ([],[n],[]):=by show(if n<=9999 then _ else _)=_;rw[SV h.2]
  exact ow d (ql (t:=.num n) (p:=⟨"two",.gap 0 9999,[.int 2,.tup [.str "low",.int 0],.tup [.str "high",.int 0]]⟩) (g _ (by simp[BP])) rfl e) (λz=>nomatch z)
 | .arg k,h=>ow d (ql (t:=.arg k) (p:=⟨"slot",.slot 0,[.int 3,.tup [.str "arg",.int 0]]⟩) (f:=([],[],[k])) (g _ (by simp[BP])) rfl rfl) (λz=>nomatch z)
 | .two o a b,h=>by obtain⟨x,j⟩:=jT d g a h.2.1;obtain⟨y,l⟩:=jT d g b h.2.2;obtain⟨c,q⟩:=AI h.1;refine ow d (ql (t:=.two o a b) (g _ q) rfl (FZ o a b)) ?_;show iJ [dP i a,dP i b]≠none;rw[j,l];exactλz=>nomatch z
 | .pick a b c,h=>by obtain⟨x,j⟩:=jT d g a h.1;obtain⟨y,l⟩:=jT d g b h.2.1;obtain⟨z,r⟩:=jT d g c h.2.2;refine ow (w:=⟨"pick",[],[a,b,c]⟩) d (Tp.mpr rfl) ?_;show iJ [dP i a,dP i b,dP i c]≠none;rw[j,l,r];exactλz=>nomatch z
 | .call k,h=>⟨(3,.tup []),by rw[kN d];rfl⟩
end
section
variable{K:qs}
def CL(a b:List D):Prop:=∃m n f,a=[.int m,.tup [.int n,.int f]]/\b=(fW n f m).map D.int
theorem KG(h:c d H λa b=>a.length<=sizeLine/\∀p,b p=none->Q (.ref p) (upd b p (.tup a))):CA c d H Q:=h
theorem m7{a:jF}(h:a.nx b H):DT a b H:=h
theorem J4{a:jF}(h:a.ct b H):KS a b H:=h
theorem yH{g:jF}(h:RE K p f G d)(i:G l=some (.lst c))(t:c.length<=900)
  (q:∀y e,Xb l G e->e l=some (.lst (c++[y]))->Dat K e d y->g.nx f e) (r:f[j]?=some (some (.ref l)):=by rfl):nK (tBM K "list" ko (fR j) (bU p dR)) g f G:=by
 refine⟨_,r,.inl ⟨rfl,_,W2.of i⟩,h.use λy n o s=>?_⟩;have a:=o _ _ i;refine⟨l,c,y,rfl,rfl,a,cU ⋯,?_⟩;have b:Xb l n (upd n l (.lst (c++[y]))):=Xb.upd (WV.refl _).but;exact q y _ (o.but.trans b) aF (Dat.mono (b.grow a aF) _ s)
theorem yJ{b:jF}(h:RE K e c H d)(q:∀v a,WV H a->Dat K a d v->b.nx (c.set k (some v)) a):rH e (dE k) b c H:=h.use q
theorem ye(T:Txt P w K mg)  : Ok P w base (k+1) T.Pg (jR K CL):=by
 refine Xd T.Pg.f yX λC H Q E x h=>?_;obtain⟨G,I,g,⟨m,n,f,rfl,rfl⟩,post⟩:=h;obtain⟨J,L,rfl,d,y⟩:=iF g;refine⟨rfl,λ_ _ _ _ M=>⟨_,(aC (gY (pv 1) (fX rfl (bB (zg 2 x) (bB (zg 3 x) dH))))
 (aC (bA (zt lS (pv 0) (bO (v:=.int 9) rfl T.RD ⟨_,rfl⟩)) (zr (bQ (z2 (pv 2) (pv 0)))) aO)
 (zr (bQ (z3 (pv 3) (bF fI (pv 0) aD) (bF oQ (pv 0) aD)))))),?_⟩⟩
 refine lK (K:=K) (aB y) λv w N o z A=>?_;have d:=o.dat d;refine aT (K:=K) (b:=decide (m<=9)) (aH (cP (p:=λi j=>decide (i<=j)) (aB d) aE)) (λc B a=>?_) (λc B a=>?_)
 ·have e:fW n f m=[n,m]:=by unfold fW;rw[SV (S1 c)]
  rw[e]at post;exact jM (RC.use (K:=K) (fY (aA (aB (a.dat z)) (aA (aB (a.dat d)) aG))) λl q r t s u g=>post l q r (o.trans (a.trans s)) u ((o.trans a).free t) g)
 ·have e:fW n f m=[f,m%100,m / 100]:=by unfold fW;rw[PC (S5 c)]
  rw[e]at post;exact jM (RC.use (K:=K) (fY (aA (aB (a.dat A)) (aA (jI (aB (a.dat d)) aE ⋯) (aA (yC (aB (a.dat d)) aE ⟨⋯,⋯⟩) aG)))) λl q r t s u g=>post l q r (o.trans (a.trans s)) u ((o.trans a).free t) g)
def zw(K:qs):Sp:=λf H Q _=>∃y z:Int,f=[.int y,.int z]/\∀(p a b:Addr)(d e:List V)(c:Hp),WV H c->Xo K c p [.ref a,.ref b]->c a=some (.lst d)->c b=some (.lst e)->H a=none->H b=none->a≠b ->
 WU K c ((fW 10 11 (y+kF z)).map D.int) d->WU K c ((fW 8 9 z).map D.int) e->Q (.ref p) c
theorem pP(T:Txt P w K mg)(j:Ok P w base k T.Pg (jR K CL)):Ok P w base (k+1) T.Oe (zw K):=by
 refine Xd T.Oe.f qb λI H Q E l h=>?_;obtain⟨y,z,rfl,post⟩:=h;refine⟨rfl,λ_ _ _ _ n=>⟨_,(aC (zs 2 l (pc (D:=T.Pg) j n (z2 (pv 1) (bO (v:=.ref T.QN) rfl T.Sk rfl))))
 (aC (zs 3 l (pc (D:=T.Pg) j n (z2 (bF cJ (pv 0) (aV aQ rfl T.NZ bP (z1 (pv 2)))) (bO (v:=.ref T.Ra) rfl T.So rfl))))
 (zr (aU (z2 (pv 3) (pv 2)))))),?_⟩⟩
 refine fG (K:=K) (lJ (R:=CL) (aA (aB (k:=1) (Dat.WY z)) (aA (mH T.Si) aG)) ⟨z,8,9,rfl,rfl⟩) λb o J x q c r=>?_;have A:(o.length:Int)=kF z:=by rw[<- r.length,tB,kQ]
 have s:=rV (K:=K) (σ:=(start ["second","third","behind","ahead"] [.int y,.int z]).set 2 (some (.ref b))) (k:=2) c;rw[A]at s;refine fG (K:=K) (lJ (R:=CL) (aA (dC (aB (k:=0) (Dat.WY y)) s) (aA (mH T.Sm) aG)) ⟨_,10,11,rfl,rfl⟩) λa B t u e g C=>?_;refine jM (KG ⟨_,rfl,_,rfl,cK (by simp),λp G=>?_⟩);have d:WV t (upd t p (.tup [.ref a,.ref b])):=aL G _;have i:a≠b:=Tf (aN c u);exact post p a b B o _ (q.trans (e.trans d)) (Xo.of aF) (d _ _ g) (d _ _ (e _ _ c)) (q.free u) x i (d.W0 C) ((e.trans d).W0 r)
theorem wM{o:Str}(h:o="num"\/o="arg"\/okB o):decide (o=("pick":Str))=false/\o≠"call":=by rcases h with rfl|rfl|rfl|rfl|rfl|rfl<;>exact⟨⋯,⋯⟩
theorem Gi(t:Tr)(e:Xx t):∃d r,toD t=.tup (.str d::r)/\decide (d="pick")=Ej t/\(decide (d="call")=kE t)/\(Ej t=true->r=(bT t).map toD):=by
 cases t with
 |num n=>exact⟨_,_,rfl,(wM (.inl rfl)).1,S3 (wM (.inl rfl)).2,λz=>nomatch z⟩
 |arg n=>exact⟨_,_,rfl,(wM (.inr (.inl rfl))).1,S3 (wM (.inr (.inl rfl))).2,λz=>nomatch z⟩
 |two o a b=>exact⟨_,_,rfl,(wM (.inr (.inr e.1))).1,S3 (wM (.inr (.inr e.1))).2,λz=>nomatch z⟩
 |pick a b c=>exact⟨_,_,rfl,S9 rfl,S3 ⋯,λ_=>rfl⟩
 |call k=>exact⟨_,_,rfl,S3 ⋯,S9 rfl,λz=>nomatch z⟩
structure qG(ps:List Pc):Prop where
 ok:∀p∈ps,Jm p
 few:ps.length<=100
def Fw(as:List Ar)(b:List D):Prop:=∃a t,as=[.d (toD t),.l (a.map XX)]/\qG a/\Xx t/\aP t<=8/\b=(jE a t).map wyD
theorem FX(f:Yb):fdD (some f)=.tup [.tup (f.1.map toD),.tup (f.2.1.map D.int),.tup (f.2.2.map D.int)]:=rfl
theorem BZ(T:Txt P w K mg)(Qs:Ok P w base k T.O4 (Xp K r8)):Ok P w base (k+1) T.Qj (mS K Fw):=by
 refine Xd T.Qj.f Cr λvs H Q E nd h=>?_;obtain⟨as,es,hd,⟨j,t,rfl,YW,XM,Yd,rfl⟩,post⟩:=h;obtain⟨v0,v1,rfl,h0,h1⟩:=zM hd;have h0:Dat K H (toD t) v0:=h0;have h1:LD K H (j.map XX) v1:=h1;refine⟨rfl,λ_ _ _ _ hr=>⟨_,(aC (bA (zt cE (a8 a9 (pv 0) aD) aI) (zr (bQ (z1 (aU (z3 aI (aU a7) (jw uD (pv 0) (iV aD) oS)))))) aO)
 (aC (zs 2 nd (bQ a7))
 (aC (iD Uc rfl (fM (pv 1)) (zg 3 nd) (aC (zs 4 nd (pc (D:=T.O4) Qs hr (z2 (pv 3) (pv 0))))
 (aX (bA (zt Js (pv 4) jH) (aX (bK (dW Tg TU TZ cC (pv 2) (z1 (aU (z3 (a8 a9 (pv 3) aD) (a8 a9 (pv 3) aD) (a8 a9 (pv 4) aD))))))) aO))))
 (zr (pv 2))))),?_⟩⟩
 dsimp only[XQ];show let W5:=_;let Xc:=a6 _ W5;let Xv:=a6 (Bk _ _ Xc) _;let XF:=a6 _ Xv;a6 _ XF _ _ _;intro W5 Xc Xv XF;obtain⟨kd,r,ek,hpk,_,v⟩:=Gi t XM;have C:Dat K H (.tup (.str kd::r)) v0:=by rw[<- ek];exact h0
 refine aT (K:=K) (b:=Ej t) (RT.as (aH (bN (bC (k:=0) (aB C) aE rfl) aJ)) hpk) (λc H1 z=>?_) (λc H1 z=>?_)
 ·have e:(jE j t).map wyD=[.tup [.str "pick",.tup [],.tup r]]:=by
   unfold jE;rw[SV c,v c];rfl
  rw[e]at post;exact jM (RC.use (K:=K) (fY (aA (aZ (aA aJ (aA (aZ aG) (aA (m6 (aB (z.dat C))) aG)))) aG)) λl g H' hl s hy hd=>post l g H' (z.trans s) hy (z.free hl) hd)
 have ew:jE j t=j.filterMap (rb t):=by unfold jE;rw[PC (by rw[c];exact SW)]
 rw[ew]at post;refine eE ⟨cK ⋯,λI J=>?_⟩;have u:WV H1 (upd H1 I (.lst [])):=aL J _;have L:=z.trans u;obtain⟨a,vs,rfl,ha,M⟩:=h1;have la:=M.length;rw[tB]at la;have hps:=YW.few;have N:H I=none:=z.free J;let Zk:Nat->L2.St->Hp->Prop:=λi σ G=>∃(z3 z4:Option V)(g:List V),σ=[some v0,some (.ref a),some (.ref I),z3,z4]/\WV H G/\G I=some (.lst g)/\WU K G (((j.take i).filterMap (rb t)).map wyD) g;refine dI ⟨_,rfl,a,rfl,⟨vs,(L.XR ha).Yk⟩,sS (xs:=vs) Zk ?_ (λi σ G _ ⟨_,_,_,_,p,_⟩=>(p.XR ha).Yk) ?_ ?_⟩
 ·exact⟨none,none,[],rfl,L,aF,by rw[US];exact WU.nil⟩
 ·rintro i vx σ G hi ⟨z3,z4,g,rfl,A,ZF,B⟩;obtain⟨dx,ex,O⟩:=(A.W0 M).XI hi;rw[SR]at ex
  cases hp:j[i]? with
  |none=>rw[hp]at ex;cases ex
  |some p =>
   rw[hp]at ex;cases ex;have XH:=YW.ok p (S4 hp);have et:j.take (i+1)=j.take i++[p]:=by rw[Ug,hp];rfl
   have lys:g.length<=100:=by have l1:=B.length;rw[tB]at l1;have l2:=List.length_filterMap_le (rb t) (j.take i);rw[T4]at l2;lia
   refine jQ ?_;dsimp only;refine d6 (K:=K) (d:=fdD (cQ p.pt t)) (bJ (R:=r8) (aA (aB (k:=3) O) (aA (aB (k:=0) (A.dat h0)) aG)) ⟨.str p.nm,p.pt,.tup p.cs,t,rfl,XH.ok,XM,Yd,XH.dp,rfl⟩) λvf G2 u U=>?_;have Y:=u _ _ ZF
   cases n:cQ p.pt t with
   |none =>
    have eW:rb t p=none:=by unfold rb;rw[n];rfl
    rw[n]at U;refine iH (b:=false) (aH (DG (K:=K) (aB (k:=4) U))) (λc=>nomatch c) (λ_ G3 q=>m7 ?_);refine⟨_,_,g,rfl,A.trans (u.trans q),q _ _ Y,?_⟩;rw[et,List.filterMap_append];simp only[Vm,List.filterMap_nil,eW,To];exact(u.trans q).W0 B
   |some f =>
    have eW:rb t p=some ⟨p.nm,p.cs,f.1⟩:=by unfold rb;rw[n];rfl
    rw[n,FX]at U;refine iH (b:=true) (aH (DG (K:=K) (aB (k:=4) U))) (λ_ G3 q=>?_) (λc=>nomatch c);have hw3:=q _ _ Y;have hx3:=(u.trans q).dat O;refine yH (K:=K) (d:=.tup [.str p.nm,.tup p.cs,.tup (f.1.map toD)]) (aZ (aA (bC (k:=0) (aB (k:=3) hx3) aE rfl) (aA (bC (k:=2) (aB (k:=3) hx3) aE rfl) (aA (bC (k:=0) (aB (k:=4) (q.dat U)) aE rfl) aG)))) hw3 ⋯ λy G4 b4 hw4 q4=>?_;have g4:eI K G3 G4:=b4.grow hw3 hw4;refine⟨_,_,g++[y],rfl,λx o O=>b4 x o (aN O N) (q _ _ (u _ _ (A _ _ O))),hw4,?_⟩;rw[et,List.filterMap_append,Tj];simp only[Vm,List.filterMap_nil,eW];exact WU.append (WU.mono g4 _ ((u.trans q).W0 B)) (WU.cons q4 WU.nil)
 ·rintro σ G ⟨z3,z4,g,rfl,A,ZF,B⟩;rw[<- la,UR]at B;exact⟨_,rfl,post I g G A ZF N B⟩
end
section
variable{w:World}
theorem yI(h:b a H λx c=>g x a c (d e)):a6 (rH b g) d e a H:=h
def K8(as:List Ar)(d:D):Prop:=∃(w:Wy)(a:vc),as=[.d (.str w.nm),.d (.tup w.cs),.l (a.map D.int)]/\(w.nm="pick"->a.length=3)/\d=.int (eQ w a)
variable{K:qs}
theorem yg(T:Txt P w K mg)(Ph:Ok P w base k T.Oe (zw K)):Ok P w base (k+1) T.PL (Yi K K8):=by
 refine Xd T.PL.f yZ λvs H Q E l h=>?_;obtain⟨as,d,hd,⟨w,i,rfl,h3,rfl⟩,post⟩:=h;obtain⟨B,C,I,rfl,u,A,n⟩:=Iq hd;have u:Dat K H (.str w.nm) B:=u;have A:Dat K H (.tup w.cs) C:=A;have n:LD K H (i.map D.int) I:=n;refine⟨rfl,λ_ _ _ _ hr=>⟨_,(aC (zs 3 l (aV aQ rfl T.NZ bP (z1 (pv 1))))
 (aC (bA (zt cE (pv 0) aI) (aC (gY (pc (D:=T.Oe) Ph hr (z2 (a8 bY (pv 2) aD) (a8 bY (pv 2) aD))) (fX rfl (bB (zg 4 l) (bB (zg 5 l) dH))))
 (aX (zs 3 l (bF cJ (aV aQ rfl T.NZ bP (z1 (pv 4))) (aV aQ rfl T.NZ bP (z1 (pv 5))))))) aO)
 (zr (bF cJ (pv 3) (aV (zU rfl) rfl T.Sx FF (z1 (pv 2))))))),?_⟩⟩
 dsimp only[XQ];show let J:=a6 _ _;let L:=a6 (md _ J _) _;a6 _ L _ _ _;intro J L;refine d6 (K:=K) (fZ (aB A)) λvo H1 o qo=>?_;have eo:=qo.W4;subst eo;refine rX (λM G=>∃N O:Option V,M=[some B,some C,some I,some (.int (vk w i)),N,O]/\WV H G) ?_ (λg=>?_)
 case refine_2 =>
  refine iH (b:=decide (w.nm="pick")) (aH (bN (K:=K) (aB (k:=0) (o.dat u)) aJ)) (λc H2 r=>?_) (λc H2 r=>?_)
  ·have t:=S1 c
   obtain⟨x,y,z,rfl⟩:∃x y z,i=[x,y,z]:=by
    match i,h3 t with
    |[x,y,z],_=>exact⟨x,y,z,rfl⟩
   have j:=(o.trans r).ld n;refine yI (jf (gZ (RE.use (K:=K) (d:=.int y) (gP (k:=1) (aW (k:=2) j) aE rfl) λw1 H3 U q3=>gZ (RE.use (K:=K) (d:=.int z) (gP (k:=2) (aW (k:=2) (U.ld j)) aE rfl) λw2 H4 s4 q4=>?_))));have e3:=q3.W4;have e4:=q4.W4;subst e3 e4;refine⟨y,z,rfl,λp a b us ws H5 s5 hp ha hb _ _ _ Zo ZA=>?_⟩;have lu:(us.length:Int)=kF (y+kF z):=by rw[<- Zo.length,tB,kQ]
   have lw:(ws.length:Int)=kF z:=by rw[<- ZA.length,tB,kQ]
   refine⟨p,_,rfl,hp,rfl,_,_,rfl,_,_,rfl,rfl,?_⟩;dsimp only;refine yJ (K:=K) (d:=.int (vk w [x,y,z])) (RE.as (dC (rV (k:=4) ha) (rV (k:=5) hb)) ?_) λv H6 s6 q6=>?_
   ·rw[lu,lw];unfold vk;rw[SV t];rfl
   ·have e6:=q6.W4;subst e6;exact g _ _ ⟨_,_,rfl,o.trans (r.trans (U.trans (s4.trans (s5.trans s6))))⟩
  ·have t:¬ w.nm="pick":=S5 c;refine m7 (g _ _ ⟨none,none,?_,o.trans r⟩);have e:vk w i=(w.cs.length:Int):=by unfold vk;rw[PC t]
   rw[e];rfl
 rintro M G ⟨N,O,rfl,Y⟩;exact bE (K:=K) (d:=.int (eQ w i)) (dC (aB (k:=3) (Dat.WY _)) (DI (aW (k:=2) (Y.ld n)))) λv H' s q=>post v H' (Y.trans s) q
theorem M4:¬ ("num":Str)="arg":=⋯
theorem MH:¬ ("arg":Str)="num":=⋯
theorem IH(h:W6 (toD (.num n)) (toD b)=true):b=.num n:=by
 cases b with
 |num m =>simp only[toD,eO,bV,cY,cX,cW,eK,eJ,TQ,TX,S2,TH]at h;rw[h.2]
 |arg m =>simp only[toD,eO,bV,cY,cX,cW,eK,eJ,TQ,TX,S2,TH]at h;exact absurd h.1 M4
 |two o x y =>simp only[toD,eO,bV,cY,cX,cW,eK,eJ,TQ,TX,S2,TH]at h;cases h
 |pick x y z =>simp only[toD,eO,bV,cY,cX,cW,eK,eJ,TQ,TX,S2,TH]at h;cases h
 |call m =>simp only[toD,eO,bV,cY,cX,cW,eK,eJ,TQ,TX,S2,TH]at h;exact absurd h.1 ⋯
theorem IG(h:W6 (toD (.arg n)) (toD b)=true):b=.arg n:=by
 cases b with
 |num m =>simp only[toD,eO,bV,cY,cX,cW,eK,eJ,TQ,TX,S2,TH]at h;exact absurd h.1 MH
 |arg m =>simp only[toD,eO,bV,cY,cX,cW,eK,eJ,TQ,TX,S2,TH]at h;rw[h.2]
 |two o x y =>simp only[toD,eO,bV,cY,cX,cW,eK,eJ,TQ,TX,S2,TH]at h;cases h
 |pick x y z =>simp only[toD,eO,bV,cY,cX,cW,eK,eJ,TQ,TX,S2,TH]at h;cases h
 |call m =>simp only[toD,eO,bV,cY,cX,cW,eK,eJ,TQ,TX,S2,TH]at h;exact absurd h.1 ⋯
theorem FV(h:W6 (toD (.call n)) (toD b)=true):b=.call n:=by
 cases b with
 |num m =>simp only[toD,eO,bV,cY,cX,cW,eK,eJ,TQ,TX,S2,TH]at h;exact absurd h.1 ⋯
 |arg m =>simp only[toD,eO,bV,cY,cX,cW,eK,eJ,TQ,TX,S2,TH]at h;exact absurd h.1 ⋯
 |two o x y =>simp only[toD,eO,bV,cY,cX,cW,eK,eJ,TQ,TX,S2,TH]at h;cases h
 |pick x y z =>simp only[toD,eO,bV,cY,cX,cW,eK,eJ,TQ,TX,S2,TH]at h;cases h
 |call m =>simp only[toD,eO,bV,cY,cX,cW,eK,eJ,TQ,TX,S2,TH]at h;rw[h.2]
theorem II(h:W6 (toD (.two o x y)) (toD b)=true):∃a c,b=.two o a c/\W6 (toD x) (toD a)=true/\W6 (toD y) (toD c)=true:=by
 cases b with
 |num m =>simp only[toD,eO,bV,cY,cX,cW,eK,eJ,TQ,TX,S2,TH]at h;cases h
 |arg m =>simp only[toD,eO,bV,cY,cX,cW,eK,eJ,TQ,TX,S2,TH]at h;cases h
 |two d a c =>simp only[toD,eO,bV,cY,cX,cW,eK,eJ,TQ,TX,S2,TH]at h;exact⟨a,c,by rw[h.1],h.2.1,h.2.2⟩
 |pick x y z =>simp only[toD,eO,bV,cY,cX,cW,eK,eJ,TQ,TX,S2,TH]at h;cases h
 |call m =>simp only[toD,eO,bV,cY,cX,cW,eK,eJ,TQ,TX,S2,TH]at h;cases h
theorem FW(h:W6 (toD (.pick x y z)) (toD b)=true):∃a c d,b=.pick a c d/\W6 (toD x) (toD a)=true/\W6 (toD y) (toD c)=true/\W6 (toD z) (toD d)=true:=by
 cases b with
 |num m =>simp only[toD,eO,bV,cY,cX,cW,eK,eJ,TQ,TX,S2,TH]at h;cases h
 |arg m =>simp only[toD,eO,bV,cY,cX,cW,eK,eJ,TQ,TX,S2,TH]at h;cases h
 |two e a c =>simp only[toD,eO,bV,cY,cX,cW,eK,eJ,TQ,TX,S2,TH]at h;cases h
 |pick a c d =>simp only[toD,eO,bV,cY,cX,cW,eK,eJ,TQ,TX,S2,TH]at h;exact⟨a,c,d,rfl,h.2.1,h.2.2.1,h.2.2.2⟩
 |call m =>simp only[toD,eO,bV,cY,cX,cW,eK,eJ,TQ,TX,S2,TH]at h;cases h
theorem pf(a:Tr):∀b:Tr,W6 (toD a) (toD b)=true->a=b:=by
 induction a with
 |num n=>intro b h;exact(IH h).symm
 |arg n=>intro b h;exact(IG h).symm
 |call n=>intro b h;exact(FV h).symm
 |two o x y c d =>intro b h;obtain⟨e,f,rfl,g,i⟩:=II h;rw[c e g,d f i]
 |pick x y z c d j =>intro b h;obtain⟨e,f,l,rfl,g,i,p⟩:=FW h;rw[c e g,d f i,j l p]
theorem lj:∀t:Tr,gK (toD t)=aP t
 | .num n=>by unfold toD aP;simp[gK,WZ]
 | .arg n=>by unfold toD aP;simp[gK,WZ]
 | .call n=>by unfold toD aP;simp[gK,WZ]
 | .two o a b=>by unfold toD aP;simp[gK,WZ,lj a,lj b]
 | .pick a b c=>by unfold toD aP;simp[gK,WZ,lj a,lj b,lj c]
theorem eH:∀t:Tr,XC (toD t)=true
 | .num n=>by unfold toD;simp[XC,Xe]
 | .arg n=>by unfold toD;simp[XC,Xe]
 | .call n=>by unfold toD;simp[XC,Xe]
 | .two o a b=>by unfold toD;simp[XC,Xe,eH a,eH b]
 | .pick a b c=>by unfold toD;simp[XC,Xe,eH a,eH b,eH c]
theorem iR:∀a:List Tr,Xe (a.map toD)=true
 |[]=>by simp[Xe]
 |t::a=>by simp[Xe,eH t,iR a]
theorem jV:∀a:List Tr,(∀x∈a,aP x<=n)->WZ (a.map toD)<=n
 |[],_=>by simp[WZ]
 |t::a,h=>by have c:=h t (by simp);have d:=jV a λx b=>h x (by simp[b]);simp only[S8,WZ,lj];lia
theorem Af:∀{a:List Tr},(∀y∈a,Xx y)->Xx x->x∈a->∃j:Nat,a[j]?=some x/\∀(m:Nat) e,m<j->(a.map toD)[m]?=some e->W6 e (toD x)=false
 |[],_,_,h=>by simp at h
 |y::a,c,i,h=>by
  by_cases e:W6 (toD y) (toD x)=true
  ·have:=pf y x e;exact⟨0,by rw[this];rfl,λm _ f=>absurd f (Nat.not_lt_zero m)⟩
  ·have b:x∈a:=by
    rcases S0.mp h with rfl|h
    ·exact absurd (gC _ (eH x)) e
    ·exact h
   obtain⟨j,l,n⟩:=Af (λz o=>c z (Th _ o)) i b;refine⟨j+1,by simpa using l,λm d f g=>?_⟩
   cases m with
   |zero =>
    have p:toD y=d:=by simpa using g
    rw[<- p];exact VY.mpr e
   |succ m=>exact n m d ⋯ (by simpa using g)
theorem zJ:∀bs:List Yz,(bs.map λb=>isN (bD b)).any id=(iJ bs).isNone
 |[]=>rfl
 |none::bs=>rfl
 |some b::bs=>by have a:=zJ bs;show(false||(bs.map λb=>isN (bD b)).any id)=((iJ bs).map (b::·)).isNone;rw[a,Uw];cases iJ bs<;>rfl
theorem zL:∀{bs:List Yz}{a:List (Int×D)},iJ bs=some a->bs=a.map some
 |[],a,h=>by cases h;rfl
 |none::bs,a,h=>by cases h
 |some b::bs,a,h=>by
  have c:(iJ bs).map (b::·)=some a:=h
  cases e:iJ bs with
  |none=>rw[e]at c;cases c
  |some r =>rw[e]at c;cases c;rw[zL e];rfl
theorem sW:∀p:Pa,jc p<=2 ^ (fV p - 1)
 | .hole _=>by simp[jc,fV]
 | .gap _ _=>by simp[jc,fV]
 | .slot _=>by simp[jc,fV]
 | .num _=>by simp[jc,fV]
 | .two o a b=>by
  have c:=sW a;have d:=sW b;have f:=pD a;have g:=pD b;have e:fV (.two o a b) - 1=(max (fV a) (fV b) - 1)+1:=by simp only[fV];lia
  rw[e,WT];have p1:2 ^ (fV a - 1)<=2 ^ (max (fV a) (fV b) - 1):=U0 ⋯ ⋯;have p2:2 ^ (fV b - 1)<=2 ^ (max (fV a) (fV b) - 1):=U0 ⋯ ⋯;simp only[jc];lia
def Fk(as:List Ar)(d:D):Prop:=∃(b:List Pc)(t:Tr)(f:Tr->Yz)(a:List Tr),as=[.d (toD t),.l (b.map XX),.l (a.map toD),.l (a.map λx=>bD (f x))]/\qG b/\Xx t/\aP t<=8/\a.length<=200/\(∀x∈a,Xx x/\aP x<=8) /\
 (∀w∈jE b t,∀x∈w.ts,x∈a)/\d=bD (gX b f t)
theorem Mu{i:List Pc}(h:∀p∈i,Jm p){t:Tr}{w:Wy}(g:w∈jE i t):w.ts.length<=8/\(w.nm="pick"->w.ts.length=3):=by
 unfold jE at g;split at g
 ·rename_i c;rw[Tp.mp g]
  cases t with
  |pick a b c=>exact⟨by simp[bT],λ_=>rfl⟩
  |_=>cases c
 ·obtain⟨p,j,d⟩:=U6.mp g;unfold rb at d
  cases e:cQ p.pt t with
  |none=>rw[e]at d;cases d
  |some f =>
   rw[e]at d;cases d;refine⟨?_,λz=>absurd z (h p j).nm⟩;show f.1.length<=8;rw[mW _ _ _ e];have:=sW p.pt;have l:=(h p j).dp
   calc jc p.pt<=2 ^ (fV p.pt - 1):=this
    _<=2 ^ 2:=U0 ⋯ ⋯
    _<=8:=by decide
theorem rp(T:Txt P w K mg)(Se:Ok P w base k T.Qj (mS K Fw))(Rt:Ok P w base k T.PL (Yi K K8)):Ok P w base (k+1) T.O1 (Yi K Fk):=by
 refine Xd T.O1.f rF λvs H Q E nd h=>?_;obtain⟨as,d,g,⟨M,t,f,ts,rfl,YW,XM,Yd,fts,I,hts,rfl⟩,post⟩:=h;obtain⟨v0,v1,v2,v3,rfl,h0,h1,h2,h3⟩:=Ir g;have h0:Dat K H (toD t) v0:=h0;have h1:LD K H (M.map XX) v1:=h1;have h2:LD K H (ts.map toD) v2:=h2;have h3:LD K H (ts.map λx=>bD (f x)) v3:=h3;refine⟨rfl,λ_ _ _ _ hr=>⟨_,(aC (bA (zt cE (a8 a9 (pv 0) aD) aI) (zr (aU (z2 (bO (v:=.int 3) rfl T.Rc ⟨_,rfl⟩) (aU a7)))) aO)
 (aC (zs 4 nd jH)
 (aC (iD Uc rfl (fM (pc (D:=T.Qj) Se hr (z2 (pv 0) (pv 1)))) (fX rfl (bB (zg 5 nd) (bB (zg 6 nd) (bB (zg 7 nd) dH)))) (aC (j9 (i:=8) (own:=["one"]) (fr:=[2,3]) (N':=["one","done","bests"]) (kH (pv 7)) rfl (by show iB ["tree","some","done","bests","best","name","cells","trees","within","length"] (λx=>(aK kj).names.lookup x) _ _ _ _=true;decide +kernel) rfl (λ_ _ _ _ _=>(f9 (i:=0) (by show List.Nodup [("one":Str),("done":Str),("bests":Str)];decide +kernel) rfl (Or.inl rfl))) (λ_ _ _ _ _=>jx) (λ_ _ _ _ _=>(a8 (r:=B8 K) bY (pv 2) (LU (r:=rT K) K rfl Tg WI F.type_list_index (wF hr) (pv 1) (z1 (pv 0))))) nd rfl rfl rfl)
 (aC (bA (bL (aV (zS rfl) rfl T.Su FB (z1 (zc [] ["one"] (fM (pv 8)) (λ_ _ _ _ _=>(fL yn (pv 0) jH (iT _)))))) (λ_=>rfl)) (aX AQ) aO)
 (aC (zs 9 nd (pc (D:=T.PL) Rt hr (z3 (pv 5) (pv 6) (zc [] ["one"] (fM (pv 8)) (λ_ _ _ _ _=>(a8 (r:=lZ K) a9 (pv 0) aD))))))
 (aX (bA (PW.pt (fH (zt yn (pv 4) jH) (eV (zt kT (pv 9) (a8 a9 (pv 4) aD))))) (aX (zs 4 nd (aU (z2 (pv 9) (aU (z2 (pv 5) (eF dD rfl T.Os fC (z1 (zc [] ["one"] (fM (pv 8)) (λ_ _ _ _ _=>(a8 (r:=lZ K) a9 (pv 0) aD))))))))))) aO))))))
 (zr (pv 4))))),?_⟩⟩
 dsimp only[XQ];show let W5:=_;let Xc:=a6 _ W5;let Xv:=a6 _ Xc;let XF:=a6 _ Xv;let X6:=a6 (Bk _ _ XF) _;let YC:=a6 _ X6;a6 _ YC _ _ _;intro W5 Xc Xv XF X6 YC;obtain⟨kd,r,ek,hpk,hcall,hkids⟩:=Gi t XM;have h0':Dat K H (.tup (.str kd::r)) v0:=by rw[<- ek];exact h0
 refine aT (K:=K) (b:=kE t) (RT.as (aH (bN (bC (k:=0) (aB h0') aE rfl) aJ)) hcall) (λc H1 N=>?_) (λc H1 N=>?_)
 ·have e:gX M f t=some (3,.tup []):=by unfold gX;rw[SV c]
  rw[e]at post;exact bE (K:=K) (d:=.tup [.int 3,.tup []]) (aZ (aA aE (aA (aZ aG) aG))) λv H' s q=>post v H' (N.trans s) q
 have ebb:gX M f t=(jE M t).foldl (fT f) none:=by unfold gX;rw[PC (by rw[c];exact SW)]
 rw[ebb]at post;refine eE (DK ?_);refine dI (RC.use (K:=K) (hV (R:=Fw) (iW (aB (k:=0) (N.dat h0)) (gH (aW (k:=1) (N.ld h1)) dS)) ⟨M,t,rfl,YW,XM,Yd,rfl⟩) λl ys H2 hl s2 hy hdy=>?_);have s12:=N.trans s2;have ly:=hdy.length;rw[tB]at ly;refine⟨l,rfl,⟨ys,W2.of hy⟩,sS (xs:=ys) (λi σ G=>∃(B:V)(z5 z6 z7 z8 z9:Option V),σ=[some v0,some v1,some v2,some v3,some B,z5,z6,z7,z8,z9]/\WV H2 G/\Dat K G (bD (((jE M t).take i).foldl (fT f) none)) B) ?_ (λi σ G _ ⟨_,_,_,_,_,_,_,p,_⟩=>W2.of (p _ _ hy)) ?_ ?_⟩
 ·exact⟨.W3,_,_,_,_,_,rfl,WV.refl _,Dat.Y3⟩
 ·rintro i vx σ G hi ⟨B,z5,z6,z7,z8,z9,rfl,sG,hb⟩;have sHG:=s12.trans sG;obtain⟨dx,ex,o⟩:=(sG.W0 hdy).XI hi;rw[SR]at ex
  cases hw:(jE M t)[i]? with
  |none=>rw[hw]at ex;cases ex
  |some w =>
   rw[hw]at ex;cases ex;have hwm:=S4 hw;obtain⟨few,few3⟩:=Mu YW.ok hwm;have et:(jE M t).take (i+1)=(jE M t).take i++[w]:=by rw[Ug,hw];rfl
   rw[et,List.foldl_append,VI,List.foldl_nil];generalize ((jE M t).take i).foldl (fT f) none=J at hb ⊢;obtain⟨pa,us,rfl,hpa,hus⟩:=(show Dat K G (.tup [.str w.nm,.tup w.cs,.tup (w.ts.map toD)]) vx from o).Xf;obtain⟨x5,x6,x7,rfl,k5,k6,k7⟩:=vU hus;refine⟨pa,_,rfl,hpa,rfl,_,_,rfl,_,_,rfl,_,_,rfl,rfl,?_⟩;dsimp only;refine fG (K:=K) (tZ (aB (k:=7) k7) (by rw[tB];lia) (w.ts.map λx=>bD (f x)) (by rw[tB,tB]) rfl (λG1 j c v d N a g O=>?_)) λlw zs G2 hlw s2 hzs dzs=>?_
   ·rw[SR]at a g
    cases o:w.ts[j]? with
    |none=>rw[o]at a;cases a
    |some x =>rw[o]at a g;cases a;cases g;have hxt:=hts w hwm x (S4 o);obtain⟨m,hm1,hm2⟩:=Af (λy hy=>(I y hy).1) (I x hxt).1 hxt;have sH1:=sHG.trans N;refine gP (k:=m) (aW (k:=2) (sH1.ld h3)) (AY (k:=1) (sH1.ld h2) (aB (k:=0) O) (iR ts) (eH x) (Tz (jV (n:=8) ts λy hy=>(I y hy).2) ⋯) (by rw[tB];lia) ⟨toD x,by rw[SR,hm1];rfl,gC _ (eH x)⟩ hm2) (by rw[SR,hm1];rfl)
   have U:LD K G2 (w.ts.map λx=>bD (f x)) (.ref lw):=LD.of hzs dzs;have eM:(w.ts.map λx=>bD (f x))=(w.ts.map f).map bD:=by rw[Up];rfl
   have lM:(w.ts.map f).length<=8:=by rw[tB];exact few
   rw[eM]at U;generalize hfb:w.ts.map f=Y at U lM;have eS:∀b,fT f b w=DP b w (iJ Y):=λb=>by unfold fT;rw[hfb]
   rw[eS];refine aT (K:=K) (b:=(iJ Y).isNone) (RT.as (bI (DE (bs:=Y.map λb=>isN (bD b)) (gN (aW (k:=8) U) (by rw[tB];lia) _ (by simp) rfl (λG1 j c v d N a g O=>?_)))) (zJ Y)) (λcN G3 s3=>J4 ?_) (λcS G3 s3=>?_)
   ·rw[SR]at a g;rw[SR]at g
    cases o:Y[j]? with
    |none=>rw[o]at a;cases a
    |some b =>rw[o]at a g;cases a;cases g;exact pY (aB (k:=0) O)
   ·have eN:iJ Y=none:=by cases e:iJ Y with|none=>rfl|some _=>rw[e]at cN;cases cN
    refine⟨B,_,_,_,_,_,rfl,sG.trans (s2.trans s3),?_⟩;rw[eN];exact(s2.trans s3).dat hb
   ·cases eb:iJ Y with
    |none=>rw[eb]at cS;cases cS
    |some bs =>
     have u:=zL eb;have lbs:bs.length<=8:=by rw[u,tB]at lM;exact lM
     have lbw:bs.length=w.ts.length:=by have:=Tu List.length hfb;rw[u,tB,tB]at this;exact this.symm
     have hL3:=s3.ld U;have s23:=s2.trans s3;refine d6 (K:=K) (d:=.int (eQ w (bs.map (·.1)))) (eR (R:=K8) (iW (aB (k:=5) (s23.dat k5)) (iW (aB (k:=6) (s23.dat k6)) (gH (ds:=(bs.map (·.1)).map D.int) (jB (gN (aW (k:=8) hL3) (by rw[tB];lia) _ (by rw[u];simp) rfl (λG1 j c v d N a g O=>?_))) dS))) ⟨w,bs.map (·.1),rfl,λz=>by rw[tB,lbw];exact few3 z,rfl⟩) λvl G4 s4 q4=>?_
     ·rw[u]at a;simp only[SR]at a g
      cases o:bs[j]? with
      |none=>rw[o]at a;cases a
      |some b =>rw[o]at a g;cases a;cases g;exact bC (k:=0) (aB (k:=0) O) aE rfl
     have s24:=s23.trans s4;have el:=q4.W4;subst el;have hb4:=s24.dat hb
     have new:∀{C:Hp},WV G4 C->RE K (CA (bU (fR 9) (bU (CA (bU (fR 5) (bU (YM (λxs H Q=>∃p ys,xs=[.ref p]/\((W2 K H p ys/\∀l,H l=none->Q (.ref l) (upd H l (.tup ys)))\/(Xo K H p ys/\Q (.ref p) H))) (bU (jC (wt K (fR 8)) (mkS ["one"] []) (dE 0) i5 (XT (lZ K) (fR 0) (tC (.int 1)))) dR)) dR))) dR))) [some v0,some v1,some v2,some v3,some B,some x5,some x6,some x7,some (.ref lw),some (.int (eQ w (bs.map (·.1))))] C (.tup [.int (eQ w (bs.map (·.1))),Z9 w.nm bs]):=λ{C} A=>by
      refine aZ (aA (aB (k:=9) (Dat.WY _)) (aA (aZ (aA (aB (k:=5) ((s24.trans A).dat k5)) (aA (pZ (es:=bs.map (·.2)) (gN (aW (k:=8) ((s4.trans A).ld hL3)) (by rw[tB];lia) _ (by rw[u];simp) rfl (λG1 j c v d N a g O=>?_))) aG))) aG));rw[u]at a;simp only[SR]at a g
      cases o:bs[j]? with
      |none=>rw[o]at a;cases a
      |some b =>rw[o]at a g;cases a;cases g;exact bC (k:=1) (aB (k:=0) O) aE rfl
     have done:∀{C:Hp}{d:D},WV G4 C->d=bD (jG J (eQ w (bs.map (·.1))) (Z9 w.nm bs))->∀v,Dat K C d v->∃(B:V)(z5 z6 z7 z8 z9:Option V),[some v0,some v1,some v2,some v3,some v,some x5,some x6,some x7,some (.ref lw),some (.int (eQ w (bs.map (·.1))))]=[some v0,some v1,some v2,some v3,some B,z5,z6,z7,z8,z9]/\WV H2 C/\Dat K C (bD (jG J (eQ w (bs.map (·.1))) (Z9 w.nm bs))) B:=λ{C d} A e v O =>
      ⟨v,_,_,_,_,_,rfl,sG.trans (s24.trans A),e▸O⟩
     cases J with
     |none =>refine iH (b:=true) (RT.as (dJ (b:=true) (c:=true) (aH (pY (K:=K) (aB (k:=4) hb4))) λc=>nomatch c) rfl) (λ_ C A=>?_) (λc=>nomatch c);exact yJ (K:=K) (new A) λv G6 s6 q6=>done (A.trans s6) rfl v q6
     |some b0 =>
      have L:Dat K G4 (.tup [.int b0.1,b0.2]) B:=hb4;refine iH (b:=decide (eQ w (bs.map (·.1))<b0.1)) (RT.as (dJ (b:=false) (aH (pY (K:=K) (aB (k:=4) L))) λ_=>aH (cP (p:=λi j=>decide (i<j)) (aB (k:=9) (Dat.WY _)) (bC (k:=0) (aB (k:=4) L) aE rfl))) (Uw _)) (λc C A=>?_) (λc C A=>m7 ?_)
      ·refine yJ (K:=K) (new A) λv G6 s6 q6=>done (A.trans s6) ?_ v q6;show _=bD (if eQ w (bs.map (·.1))<b0.1 then _ else _);rw[SV (S1 c)];rfl
      ·refine done (d:=bD (some b0)) A ?_ B (A.dat L);show _=bD (if eQ w (bs.map (·.1))<b0.1 then _ else _);rw[PC (S5 c)]
 ·rintro σ G ⟨B,z5,z6,z7,z8,z9,rfl,sG,hb⟩;rw[<- ly,UR]at hb;exact⟨_,rfl,post B G (s12.trans sG) hb⟩
end
section
theorem i8:∀(t:Tr)(j:Nat)(x:Tr),(aS t)[j]?=some x->∃r,(aS t).drop j=aS x++r
 | .num n,j,x,h=>by
  cases j with
  |zero=>cases h;exact⟨[],rfl⟩
  |succ j=>simp[aS]at h
 | .arg n,j,x,h=>by
  cases j with
  |zero=>cases h;exact⟨[],rfl⟩
  |succ j=>simp[aS]at h
 | .call n,j,x,h=>by
  cases j with
  |zero=>cases h;exact⟨[],rfl⟩
  |succ j=>simp[aS]at h
 | .two o a b,j,x,h=>by
  cases j with
  |zero=>cases h;exact⟨[],by rw[List.drop_zero,To]⟩
  |succ j =>
   have d:(aS a++aS b)[j]?=some x:=by simpa[aS]using h
   show ∃r,(aS a++aS b).drop j=aS x++r;by_cases f:j<(aS a).length
   ·rw[UT f]at d;obtain⟨r,e⟩:=i8 a j x d;exact⟨r++aS b,by rw[Vt (UN f),e,TJ]⟩
   ·rw[Ue ⋯]at d;obtain⟨r,e⟩:=i8 b _ x d;refine⟨r,?_⟩;rw[V9,V3 ⋯,UU];exact e
 | .pick a b c,j,x,h=>by
  cases j with
  |zero=>cases h;exact⟨[],by rw[List.drop_zero,To]⟩
  |succ j =>
   have d:(aS a++(aS b++aS c))[j]?=some x:=by simpa[aS]using h
   show ∃r,(aS a++aS b++aS c).drop j=aS x++r;rw[TJ];by_cases f:j<(aS a).length
   ·rw[UT f]at d;obtain⟨r,e⟩:=i8 a j x d;exact⟨r++(aS b++aS c),by rw[Vt (UN f),e,TJ]⟩
   ·rw[Ue ⋯]at d;rw[V9,V3 (l:=aS a) ⋯,UU];generalize j - (aS a).length=i at d ⊢;by_cases g:i<(aS b).length
    ·rw[UT g]at d;obtain⟨r,e⟩:=i8 b i x d;exact⟨r++aS c,by rw[Vt (UN g),e,TJ]⟩
    ·rw[Ue ⋯]at d;obtain⟨r,e⟩:=i8 c _ x d;refine⟨r,?_⟩;rw[V9,V3 ⋯,UU];exact e
theorem vI(c:i<aM t)(h:(aS t)[aM t - 1 - i]?=some x)(a:y∈(bT x).flatMap aS):y∈(aS t).reverse.take i:=by
 obtain⟨r,e⟩:=i8 t _ x h
 have b:(aS t).drop (aM t - i)=(bT x).flatMap aS++r:=by
  have:aM t - i=aM t - 1 - i+1:=by lia
  rw[this,<- List.drop_drop,e,gL x];rfl
 rw[List.take_reverse,List.mem_reverse,bX,b];exact VA _ a
theorem JZ{α:Type}{l:List α}(h:i<l.length):l.reverse[i]?=l[l.length - 1 - i]?:=List.getElem?_reverse h
def K5(as:List Ar)(d:D):Prop:=∃(a:List Pc)(t:Tr)(b:Int×D),as=[.d (toD t),.l (a.map XX)]/\qG a/\Xx t/\aP t<=8/\aM t<=200/\dP a t=some b/\d=.tup [.int b.1,b.2]
variable{K:qs}
theorem Ma{e:jF}(h:o b H λp l=>∃a f,p=[.ref a]/\W2 K l a f/\∃W:Nat->Nat->L2.St->Hp->Prop,(∃m,W 0 m b l)/\∀i m b H,W i m b H ->
   ((Itv K a f).stop i H/\e.nx b H)\/((Itv K a f).go i H/\∃N:L2.St->Hp->Prop,(∀c d,N c d->∃n,n<m/\W (i+1) n c d)/\∀x d,(Itv K a f).YZ i H x d->g x b d λj q=>r {e with nx:=N,ct:=N,bk:=e.nx} j q)):Bk (MP K o) g r e b H:=h
theorem Kx(h:qG a):∀p∈a,fQ p.pt=true:=λp b=>(h.ok p b).nh
theorem pO(T:Txt P w K mg)(P3:Ok P w base k T.O2 (jR K (i7 8)))(QM:Ok P w base k T.O1 (Yi K Fk)):Ok P w base (k+1) T.OH (Yi K K5):=by
 refine Xd T.OH.f qa λvs H Q E nd h=>?_;obtain⟨as,d,hd,⟨j,t,b,rfl,YW,XM,Yd,ZR,J,rfl⟩,post⟩:=h;obtain⟨v0,v1,rfl,h0,h1⟩:=zM hd;have h0:Dat K H (toD t) v0:=h0;have h1:LD K H (j.map XX) v1:=h1;refine⟨rfl,λ_ _ _ _ hr=>⟨_,(aC (zs 2 nd (bQ a7))
 (aC (zs 3 nd (bQ a7))
 (aC (iD Uc rfl (L4 rfl T.QQ (z1 (pc (D:=T.O2) P3 hr (z1 (pv 0))))) (zg 4 nd) (aC (bK (dW Tg TU TZ cC (pv 3) (z1 (pc (D:=T.O1) QM hr (aY (pv 4) (aY (pv 1) (aY (pv 2) (aY (pv 3) a7))))))))
 (aX (bK (dW Tg TU TZ cC (pv 2) (z1 (pv 4)))))))
 (aC (bA (zt yn (a8 bY (pv 3) (Dt zD aD)) jH) (aX cZ) aO)
 (zr (a8 bY (pv 3) (Dt zD aD))))))),?_⟩⟩
 dsimp only[XQ];show let W5:=a6 _ _;let Xc:=a6 _ W5;a6 _ Xc _ _ _;intro W5 Xc;refine eE ⟨cK ⋯,λld l=>?_⟩;refine eE ⟨cK ⋯,λe n=>?_⟩;have q:ld≠e:=aN aF n;have s1:WV H (upd (upd H ld (.lst [])) e (.lst [])):=(aL l _).trans (aL n _);have L:H e=none:=(aL l _).free n;have r:upd (upd H ld (.lst [])) e (.lst []) ld=some (.lst []):=by rw[aR q];exact aF
 have s:upd (upd H ld (.lst [])) e (.lst []) e=some (.lst []):=aF;generalize upd (upd H ld (.lst [])) e (.lst [])=G1 at s1 r s ⊢;refine dI (Ma (K:=K) (gZ (RC.use (K:=K) (lJ (R:=i7 8) (aA (aB (k:=0) (s1.dat h0)) aG) ⟨t,rfl,XM,Yd,ZR,rfl⟩) λlw A G2 M s2 N O=>?_)));have nwd:ld≠lw:=aN r M;have nwb:e≠lw:=aN s M;have lx:=O.length;rw[tB,bX]at lx;refine⟨lw,A,rfl,W2.of N,IL (xs:=A) (λi σ G=>∃(z4:Option V)(B C:List V),σ=[some v0,some v1,some (.ref ld),some (.ref e),z4]/\WV H G/\G lw=some (.lst A)/\WU K G ((aS t).map toD) A/\G ld=some (.lst B)/\WU K G (((aS t).reverse.take i).map toD) B/\G e=some (.lst C)/\WU K G (((aS t).reverse.take i).map λx=>bD (dP j x)) C) ?_ (λi σ G _ ⟨_,_,_,_,_,p,_⟩=>W2.of p) ?_ ?_⟩
 ·exact⟨none,[],[],rfl,s1.trans s2,N,O,s2 _ _ r,WU.nil,s2 _ _ s,WU.nil⟩
 ·rintro i vx σ G hi hx ⟨z4,B,C,rfl,sG,ZF,u,z,Zo,g,I⟩;obtain⟨dx,ex,U⟩:=u.XI hx;rw[SR]at ex
  cases hp:(aS t)[A.length - 1 - i]? with
  |none=>rw[hp]at ex;cases ex
  |some x =>
   rw[hp]at ex;cases ex;have Y:(aS t)[aM t - 1 - i]?=some x:=by rw[lx];exact hp
   have hxm:=S4 hp;have okx:=jq t x XM hxm;have dpx:=(fE t x hxm).2;have hi':i<(aS t).reverse.length:=by rw[Ud,bX];lia
   have ei:(aS t).reverse[i]?=some x:=by rw[JZ (by rw[bX];lia),bX];exact Y
   have et:(aS t).reverse.take (i+1)=(aS t).reverse.take i++[x]:=by rw[Ug,ei];rfl
   have lus:B.length<=200:=by rw[<- Zo.length,tB,T4];lia
   have lws:C.length<=200:=by rw[<- I.length,tB,T4];lia
   refine jQ ?_;dsimp only;refine iY (K:=K) (d:=bD (dP j x)) (eR (R:=Fk) (iW (aB (k:=4) U) (gH (aW (k:=1) (sG.ld h1)) (gH (aW (k:=2) (LD.of z Zo)) (gH (aW (k:=3) (LD.of g I)) dS)))) ⟨j,x,dP j,(aS t).reverse.take i,rfl,YW,okx,⋯,by rw[T4];rw[Ud,bX];lia,λy hy=>?_,λw hw y hy=>vI ⋯ Y (r6 (Kx YW) hw y hy),by rw[<- kN (Kx YW)]⟩) g ⋯ λy G3 b3 hb3 q3=>?_
   ·have hym:y∈aS t:=List.mem_reverse.mp (Vh hy);have:=(fE t y hym).2;exact⟨jq t y XM hym,⋯⟩
   have g3:eI K G G3:=b3.grow g hb3;have hd3:=b3 _ _ q z;have hw3:=b3 _ _ (Tf nwb) ZF;refine yH (K:=K) (d:=toD x) (aB (k:=4) (Dat.mono g3 _ U)) hd3 ⋯ λy4 G4 b4 hd4 q4=>?_;have g4:eI K G3 G4:=b4.grow hd3 hd4;refine⟨_,B++[y4],C++[y],rfl,λa o ha=>b4 a o (aN ha l) (b3 a o (aN ha L) (sG _ _ ha)),b4 _ _ (Tf nwd) hw3,WU.mono g4 _ (WU.mono g3 _ u),hd4,?_,b4 _ _ (Tf q) hb3,?_⟩
   ·rw[et,Tj];exact WU.append (WU.mono g4 _ (WU.mono g3 _ Zo)) (WU.cons q4 WU.nil)
   ·rw[et,Tj];exact WU.append (WU.mono g4 _ (WU.mono g3 _ I)) (WU.cons (Dat.mono g4 _ q3) WU.nil)
 ·rintro σ G ⟨z4,B,C,rfl,sG,ZF,u,z,Zo,g,I⟩
  have ea:((aS t).reverse.take A.length).map (λx=>bD (dP j x))=(((bT t).flatMap aS).reverse.map λx=>bD (dP j x))++[bD (some b)]:=by rw[<- lx,<- bX,<- Ud,UR,gL,Vv,Tj,S8,UO,J]
  rw[ea]at I;have hL:LD K G ((((bT t).flatMap aS).reverse.map λx=>bD (dP j x))++[bD (some b)]) (.ref e):=LD.of g I;refine aT (K:=K) (b:=false) (aH (pY (m5 (aW (k:=3) hL) (DJ aE)))) (λc=>nomatch c) (λ_ G3 s3=>?_);exact bE (K:=K) (d:=bD (some b)) (m5 (aW (k:=3) (s3.ld hL)) (DJ aE)) λv G4 s4 q4=>post v G4 (sG.trans (s3.trans s4)) q4
structure xF(ps:List Pc):Prop where
 lo:1<=ps.length
 hi:ps.length<=16
 pc:∀p∈ps,tT (XX p)=some true/\p.nm.length<=sizeLine
 nd:(ps.map (·.nm)).Nodup
def Lb(as:List Ar)(d:D):Prop:=∃a,as=[.l (a.map XX)]/\xF a/\d=.bl true
theorem Ew(T:Txt P w K mg)(A:Ok P w base k T.PY (Xp K Bw)):Ok P w base (k+1) T.Qy (Yi K Lb):=by
 refine Xd T.Qy.f EM λO H Q E U h=>?_;obtain⟨as,d,g,⟨l,rfl,o,rfl⟩,post⟩:=h;obtain⟨B,rfl,a⟩:=D1 g;have a:LD K H (l.map XX) B:=a;have C:=o.lo;have G:=o.hi;refine⟨rfl,λ_ _ _ _ I=>⟨_,(aC (bA (PW.pt (fH (cI (bL (aV (fU xG) rfl T.N4 cH (cO (pv 0) (cO (gS (v:=.ty "list") rfl T.QP oy rfl) a7))) (λ_=>rfl))) (eV (cI (oT lS lS aD (aV aQ rfl T.NZ bP (z1 (pv 0))) (bO (v:=.int 16) rfl T.QZ ⟨_,rfl⟩)))))) (zr dU) aO)
 (aC (bA (cI (bL (aV (iO rfl) rfl T.Qx lB (z1 (zc [] ["piece"] (fM (pv 0)) (λ_ _ _ _ _=>(pc (D:=T.PY) A I (z1 (pv 0))))))) (λ_=>rfl))) (zr dU) aO)
 (zr (fL cE (aV zT rfl T.NZ bP (z1 (eF (D6 rfl) rfl T.SK Lk (z1 (zc [] ["piece"] (fM (pv 0)) (λ_ _ _ _ _=>(a8 (r:=lZ K) a9 (pv 0) aD))))))) (aV aQ rfl T.NZ bP (z1 (pv 0))) (iT _))))),?_⟩⟩
 dsimp only[XQ];show let x:=_;let y:=a6 _ x;a6 _ y _ _ _;intro x y;refine aT (K:=K) (b:=false) ?_ (λc=>nomatch c) (λ_ Y t=>?_)
 ·refine RT.as (dJ (b:=false) (RT.as (bR (bI (cR (aB a.lst)))) rfl) λ_=>bR (aH (mG (p:=λi j=>decide (i<=j)) (r:=λi j=>decide (i<=j)) aE (dB (aW a)) λ_=>aE))) ?_;rw[tB,Uw,S9 (show(1:Int)<=(l.length:Int) by lia),S9 (show(l.length:Int)<=16 by lia)];rfl
 have a:=t.ld a;refine aT (K:=K) (b:=false) ?_ (λc=>nomatch c) (λ_ H2 z=>?_)
 ·refine RT.as (bR (bI (kq (bs:=l.map λ_=>true) (gN (aW a) (by rw[tB];lia) _ (by simp) rfl (λJ j c v d t e g u=>?_))))) ?_
  ·simp only[SR]at e g
   cases n:l[j]? with
   |none=>rw[n]at e;cases e
   |some p =>rw[n]at e g;cases e;cases g;obtain⟨L,M⟩:=o.pc p (S4 n);exact bJ (R:=Bw) (aA (aB (k:=0) u) aG) ⟨XX p,true,rfl,M,L,rfl⟩
  ·rw[Wl];simp
 have a:=z.ld a;refine bE (K:=K) (d:=.bl true) (RE.as (nU (EI (zs:=l.map (·.nm)) (gN (aW a) (by rw[tB];lia) _ (by simp) rfl (λJ j c v d t e g u=>?_)) (by rw[tB];lia)) (dB (aW a))) ?_) λv N s q=>post v N (t.trans (z.trans s)) q
 ·simp only[SR]at e g
  cases n:l[j]? with
  |none=>rw[n]at e;cases e
  |some p =>rw[n]at e g;cases e;cases g;exact bC (k:=0) (aB (k:=0) u) aE rfl
 ·rw[(ID _).mpr o.nd,tB,tB];simp
def Bv(as:List Ar)(d:D):Prop:=∃a,as=[.l (a.map XX)]/\xF a/\d=.W3
theorem AG(T:Txt P w K mg)(g:Ok P w base k T.Qy (Yi K Lb)):Ok P w base (k+1) T.P0 (Yi K Bv):=by refine Xd T.P0.f Bg λq H Q E r h=>?_;obtain⟨as,d,i,⟨e,rfl,j,rfl⟩,post⟩:=h;obtain⟨l,rfl,a⟩:=D1 i;have a:LD K H (e.map XX) l:=a;refine⟨rfl,λ_ _ _ _ n=>⟨_,(aX (bA (cI (bL (pc (D:=T.Qy) g n (z1 (pv 0))) (λ_=>rfl))) (aX cZ) aO)),?_⟩⟩;exact iH (b:=false) (bR (bI (eR (K:=K) (R:=Lb) (gH (aW a) dS) ⟨e,rfl,j,rfl⟩))) (λc=>nomatch c) (λ_ o p=>post _ o p Dat.Y3)
end
section
variable{k:Nat}
noncomputable def wm:Pa->Nat
 | .gap _ _=>1
 | .two _ a b=>wm a+wm b
 |_=>0
noncomputable def qi:Pa->Nat
 | .slot _=>1
 | .two _ a b=>qi a+qi b
 |_=>0
theorem sO:∀(p:Pa)(t:Tr)(f:Yb),cQ p t=some f->f.2.1.length=wm p/\f.2.2.length=qi p
 | .hole i,t,f,h=>by cases h;exact⟨rfl,rfl⟩
 | .gap i m,t,f,h=>by
  cases t with
  |num n =>
   have c:(if n<=m then some ([],[n],[])else none:Option Yb)=some f:=h;by_cases z:n<=m
   ·rw[SV z]at c;cases c;exact⟨rfl,rfl⟩
   ·rw[PC z]at c;cases c
  |_=>cases h
 | .slot i,t,f,h=>by
  cases t with
  |arg n=>cases h;exact⟨rfl,rfl⟩
  |_=>cases h
 | .num m,t,f,h=>by
  cases t with
  |num n =>
   have c:(if n=m then some ([],[],[])else none:Option Yb)=some f:=h;by_cases z:n=m
   ·rw[SV z]at c;cases c;exact⟨rfl,rfl⟩
   ·rw[PC z]at c;cases c
  |_=>cases h
 | .two o a b,t,f,h=>by
  cases t with
  |two s u v =>
   obtain⟨_,d,e,l,q,r⟩:=fJ h;subst r;have g:=sO a u d l;have j:=sO b v e q;refine⟨?_,?_⟩
   ·show(d.2.1++e.2.1).length=wm a+wm b;rw[M1,g.1,j.1]
   ·show(d.2.2++e.2.2).length=qi a+qi b;rw[M1,g.2,j.2]
  |_=>cases h
inductive Cl where
 |n (i:Int)
 |arg (k:Nat)
 |low (k:Nat)
 |high (k:Nat)
noncomputable def clD:Cl->D
 | .n i=>.int i
 | .arg k=>.tup [.str "arg",.int k]
 | .low k=>.tup [.str "low",.int k]
 | .high k=>.tup [.str "high",.int k]
noncomputable def Lm(g s:Nat):Cl->Bool
 | .n _=>true
 | .arg k=>decide (k<s)
 | .low k=>decide (k<g)
 | .high k=>decide (k<g)
noncomputable def lR(a b:vc):Cl->Int
 | .n i=>i
 | .arg k=>b.getD k 0
 | .low k=>a.getD k 0%100
 | .high k=>a.getD k 0 / 100
structure Kk(p:Pc)(cl:List Cl):Prop where
 eq:p.cs=cl.map clD
 ok:∀c∈cl,Lm (wm p.pt) (qi p.pt) c=true
noncomputable def m8(a b:Int)(n:Nat):List D:=(fW a b n).map D.int
theorem oG(a b:Int)(n:Nat):((m8 a b n).length:Int)=kF n:=by unfold m8;rw[tB,kQ]
noncomputable def gQ(x y z:List D):List D:=x++m8 10 11 (y++m8 8 9 z.length).length++(y++m8 8 9 z.length)++z
noncomputable def gD(a:List (List D))(f:Yb)(b:List Cl):List D:=a.flatten++b.map λc=>D.int (lR f.2.1 f.2.2 c)
noncomputable def pC:D->Option (Str×List D)
 | .tup [.str a,.tup b]=>some (a,b)
 |_=>none
theorem D9(h:pC c=some x):c=.tup [.str x.1,.tup x.2]:=by
 unfold pC at h;split at h
 ·cases h;rfl
 ·cases h
structure LF(ps:List Pc):Prop where
 nd:(ps.map (·.nm)).Nodup
 nl:∀p∈ps,XC (XX p)=true/\gK (XX p)<=19
noncomputable def Ji(a:Str):D->Bool
 | .tup (.str x::_)=>decide (x=a)
 |_=>false
theorem vY:∀{a:List Pc},(∀p∈a,p.nm≠b)->(a.map XX).filter (Ji b)=[]
 |[],_=>rfl
 |p::a,h=>by
  rw[S8,Um,PC]
  ·exact vY λq c=>h q (Th _ c)
  ·show ¬ decide (p.nm=b)=true;rw[S3 (h p Tn)];exact SW
theorem Ae:∀{a:List Pc},(a.map (·.nm)).Nodup->p∈a->(a.map XX).filter (Ji p.nm)=[XX p]
 |[],_,h=>by cases h
 |q::a,b,h=>by
  rw[S8,Vr]at b;rcases S0.mp h with rfl|h
  ·rw[S8,Um,SV (show Ji p.nm (XX p)=true from S9 rfl),vY λx c z=>b.1 (T5.mpr ⟨x,c,z⟩)]
  ·rw[S8,Um,PC]
   ·exact Ae b.2 h
   ·show ¬ decide (q.nm=p.nm)=true;rw[S3 λz=>b.1 (T5.mpr ⟨p,h,z.symm⟩)];exact SW
theorem Gz{α:Type}{a:List (List α)}(h:a.flatten.length<=n):∀{i:Nat}{x:List α},a[i]?=some x->(a.take i).flatten.length+x.length<=n:=by
 intro i x b;have e:a.take (i+1)=a.take i++[x]:=by rw[Ug,b];rfl
 have l:(a.take (i+1)).flatten.length<=a.flatten.length:=by have z:a=a.take (i+1)++a.drop (i+1):=(UD _ _).symm;rw[Tu List.flatten z,U1,M1];lia
 rw[e,U1,M1]at l;simp only[TV,List.flatten_nil,To]at l;lia
noncomputable def NG:D->Cl
 | .tup [.str k,.int j]=>if k="arg" then .arg j.toNat else if k="low" then .low j.toNat else .high j.toNat
 | .int i=>.n i
 |_=>.n 0
noncomputable def bS(p:Pc):List Cl:=p.cs.map NG
noncomputable def sM(a:Str)(b:List Pc):Option Pc:=b.find? λp=>decide (p.nm=a)
noncomputable def xk:List (Option (List D))->Option (List (List D))
 |[]=>some []
 |none::_=>none
 |some x::r=>(xk r).map (x::·)
noncomputable def hU(f:Tr->D->Option (List D))(a:List Tr)(b:List D):List (Option (List D)):=(a.zip b).map λp=>f p.1 p.2
noncomputable def LB:List (List D)->Option (List D)
 |[a,b,c]=>some (gQ a b c)
 |_=>none
noncomputable def oJ(f:Tr->D->Option (List D))(t:Tr)(c:List D):Option (List D):=match t with
 | .pick a b d=>if c.length=3 then (xk (hU f [a,b,d] c)).bind LB else none
 |_=>none
noncomputable def mr(f:Tr->D->Option (List D))(c:List Pc)(t:Tr)(d:Str)(b:List D):Option (List D):=match sM d c with
 |none=>none
 |some p=>match cQ p.pt t with
  |none=>none
  |some g=>if g.1.length=b.length then (xk (hU f g.1 b)).map λa=>gD a g (bS p)else none
noncomputable def ml(a:vc):Tr->List D
 | .call k=>[.int 15,.int (a.getD k.toNat 0%100),.int (a.getD k.toNat 0 / 100)]
 |_=>[]
noncomputable def fP(a:List Pc)(b:vc):Nat->Tr->D->Option (List D)
 |0,_,_=>none
 |n+1,t,c=>if kE t=true then some (ml b t)else match pC c with
  |none=>none
  |some x=>if x.1="pick" then oJ (fP a b n) t x.2 else mr (fP a b n) a t x.1 x.2
theorem vK:∀{os:List (Option (List D))},os.any Option.isNone=true->xk os=none
 |[],h=>by cases h
 |none::os,_=>rfl
 |some x::os,h=>by rw[Vd]at h;have a:=vK (os:=os) (by simpa using h);show(xk os).map _=none;rw[a];rfl
theorem si:∀a:List (List D),xk (a.map some)=some a
 |[]=>rfl
 |x::a=>by show(xk (a.map some)).map _=_;rw[si a];rfl
theorem EA(b:d[k]?=some t)(e:g[k]?=some c)(a:(hU f d g)[k]?=some o):o=f t c:=by unfold hU at a;rw[SR,(VM (z:=(t,c))).mpr ⟨b,e⟩]at a;cases a;rfl
theorem EB{a:List Tr}{b:List D}(h:a.length=b.length):(hU f a b).length=a.length:=by unfold hU;rw[tB,List.length_zip];lia
theorem wK(b:∀t c d,f t c=some d->d.length<=12*aM t):∀{ts:List Tr}{cs:List D}{a:List (List D)},ts.length=cs.length->hU f ts cs=a.map some->a.flatten.length<=12*(ts.map aM).sum
 |[],[],a,_,h=>by
  have:a=[]:=by cases a with|nil=>rfl|cons _ _=>cases h
  subst this;simp
 |t::ts,c::cs,a,e,h=>by
  cases a with
  |nil=>cases h
  |cons x a =>have g:f t c::hU f ts cs=some x::a.map some:=h;injection g with i j;have l:=b t c x i;have n:=wK b (ts:=ts) (cs:=cs) (by simpa using e) j;rw[TV,M1,S8,Vf];lia
 |[],c::cs,_,h,_=>by simp at h
 |t::ts,[],_,h,_=>by simp at h
structure Jd(ps:List Pc):Prop where
 ls:LF ps
 cl:∀p∈ps,Kk p (bS p)
theorem xy:∀(p:Pa)(t:Tr)(f:Yb),cQ p t=some f->(f.1.map aM).sum<=aM t/\(fQ p=true->(f.1.map aM).sum+1<=aM t)
 | .hole i,t,f,h=>by cases h;exact⟨by simp,λz=>nomatch z⟩
 | .gap i m,t,f,h=>by
  cases t with
  |num n =>
   have c:(if n<=m then some ([],[n],[])else none:Option Yb)=some f:=h;by_cases z:n<=m
   ·rw[SV z]at c;cases c;exact⟨by simp,λ_=>by simp[aM]⟩
   ·rw[PC z]at c;cases c
  |_=>cases h
 | .slot i,t,f,h=>by
  cases t with
  |arg n=>cases h;exact⟨by simp,λ_=>by simp[aM]⟩
  |_=>cases h
 | .num m,t,f,h=>by
  cases t with
  |num n =>
   have c:(if n=m then some ([],[],[])else none:Option Yb)=some f:=h;by_cases z:n=m
   ·rw[SV z]at c;cases c;exact⟨by simp,λ_=>by simp[aM]⟩
   ·rw[PC z]at c;cases c
  |_=>cases h
 | .two o a b,t,f,h=>by
  cases t with
  |two r u v =>
   obtain⟨_,d,g,j,l,q⟩:=fJ h;subst q;have s:=(xy a u d j).1;have w:=(xy b v g l).1;have e:((d.1++g.1).map aM).sum=(d.1.map aM).sum+(g.1.map aM).sum:=by simp
   refine⟨?_,λ_=>?_⟩
   ·show((d.1++g.1).map aM).sum<=_;simp only[aM];lia
   ·show((d.1++g.1).map aM).sum+1<=_;simp only[aM];lia
  |_=>cases h
theorem i9(h:sM a b=some p):p∈b/\p.nm=a:=by unfold sM at h;have c:decide (p.nm=a)=true:=List.find?_some (p:=λp:Pc=>decide (p.nm=a)) h;exact⟨List.mem_of_find?_eq_some h,S1 c⟩
theorem jd(h:mr f i t j a=some o):∃p g b,sM j i=some p/\cQ p.pt t=some g/\g.1.length=a.length/\hU f g.1 a=b.map some/\o=gD b g (bS p):=by
 unfold mr at h
 cases l:sM j i with
 |none=>rw[l]at h;cases h
 |some p =>
  rw[l]at h;dsimp only at h
  cases c:cQ p.pt t with
  |none=>rw[c]at h;cases h
  |some g =>
   rw[c]at h;dsimp only at h;by_cases d:g.1.length=a.length
   ·rw[SV d]at h
    cases n:(hU f g.1 a).any Option.isNone with
    |true=>rw[vK n]at h;cases h
    |false =>obtain⟨b,e⟩:=vM n;rw[e,si]at h;cases h;exact⟨p,g,b,rfl,c,d,e,rfl⟩
   ·rw[PC d]at h;cases h
theorem je(h:oJ f t j=some r):∃a b d c g i l n o,t=.pick a b d/\j=[c,g,i]/\f a c=some l/\f b g=some n/\f d i=some o/\r=gQ l n o:=by
 cases t with
 |pick a b d =>
  have h:(if j.length=3 then (xk (hU f [a,b,d] j)).bind LB else none)=some r:=h;by_cases s:j.length=3
  ·rw[SV s]at h
   match j,s with
   |[c,g,i],_ =>
    have e:hU f [a,b,d] [c,g,i]=[f a c,f b g,f d i]:=rfl;rw[e]at h
    cases p:f a c with
    |none=>rw[p]at h;cases h
    |some l =>
     cases q:f b g with
     |none=>rw[p,q]at h;cases h
     |some n =>
      cases u:f d i with
      |none=>rw[p,q,u]at h;cases h
      |some o =>rw[p,q,u]at h;have h:some (gQ l n o)=some r:=h;cases h;exact⟨a,b,d,c,g,i,l,n,o,rfl,rfl,p,q,u,rfl⟩
  ·rw[PC s]at h;cases h
 |_=>cases h
theorem kR(ok:∀p∈l,Jm p):∀(n:Nat)(t:Tr)(c:D)(o:List D),fP l q n t c=some o->o.length<=12*aM t
 |0,_,_,_,h=>by cases h
 |n+1,t,c,o,h=>by
  have h:(if kE t=true then some (ml q t)else match pC c with|none=>none|some x=>if x.1="pick" then oJ (fP l q n) t x.2 else mr (fP l q n) l t x.1 x.2)=some o:=h;by_cases i:kE t=true
  ·rw[SV i]at h
   cases t with
   |call k=>cases h;simp[ml,aM]
   |_=>cases i
  rw[PC i]at h
  cases s:pC c with
  |none=>rw[s]at h;cases h
  |some x =>
   rw[s]at h;dsimp only at h;by_cases u:x.1="pick"
   ·rw[SV u]at h;obtain⟨a,b,d,y,A,B,r,j,f,rfl,_,C,E,ld,rfl⟩:=je h;have G:=kR ok n a y r C;have H:=kR ok n b A j E;have I:=kR ok n d B f ld;have N:=oG 8 9 f.length;have O:=oG 10 11 (j++m8 8 9 f.length).length;have Q:=xN (f.length:Int);have T:=xN ((j++m8 8 9 f.length).length:Int);have U:(gQ r j f).length=r.length+(m8 10 11 (j++m8 8 9 f.length).length).length+(j.length+(m8 8 9 f.length).length)+f.length:=by unfold gQ;simp only[M1]
    simp only[aM];lia
   ·rw[PC u]at h;obtain⟨p,g,v,J,L,M,e,rfl⟩:=jd h;have w:=ok p (i9 J).1;have G:=wK (kR ok n) M e;have H:=(xy _ _ _ L).2 w.nh;have I:=w.cs;have z:(gD v g (bS p)).length=v.flatten.length+p.cs.length:=by unfold gD bS;rw[M1,tB,tB]
    lia
theorem F0(h:fQ p=true)(a b c:Tr):cQ p (.pick a b c)=none:=by
 cases p with
 |hole i=>cases h
 |_=>rfl
theorem vZ:∀{a:List Pc},(a.map (·.nm)).Nodup->p∈a->sM p.nm a=some p
 |[],_,h=>by cases h
 |q::a,b,h=>by
  rw[S8,Vr]at b;unfold sM;rcases S0.mp h with rfl|h
  ·rw[UW,S9 rfl]
  ·rw[UW,S3 λz=>b.1 (T5.mpr ⟨p,h,z.symm⟩)];exact vZ b.2 h
theorem Dj(g:∀x b,aP x<=n->dP d x=some b->∃e,fP d f n x b.2=some e/\(e.length:Int)=b.1):∀{c:List Tr}{bs:List (Int×D)},(∀x∈c,aP x<=n)->c.map (dP d)=bs.map some ->
  ∃a:List (List D),hU (fP d f n) c (bs.map (·.2))=a.map some/\(a.flatten.length:Int)=(bs.map (·.1)).sum
 |[],[],_,_=>⟨[],rfl,rfl⟩
 |[],b::bs,_,h=>by cases h
 |t::c,[],_,h=>by cases h
 |t::c,b::bs,i,h=>by
  rw[S8,S8]at h;injection h with j l;obtain⟨e,o,r⟩:=g t b (i t Tn) j;obtain⟨a,p,s⟩:=Dj g (λx q=>i x (Th _ q)) l;refine⟨e::a,?_,?_⟩
  ·show fP d f n t b.2::hU (fP d f n) c (bs.map (·.2))=some e::a.map some;rw[o,p]
  ·rw[TV,M1,S8,Vf];lia
theorem jU{a:List Pc}(d:vc)(v:∀p∈a,fQ p.pt=true/\p.nm≠"pick")(B:(a.map (·.nm)).Nodup):∀(n:Nat)(t:Tr)(b:Int×D),aP t<=n->dP a t=some b->∃T,fP a d n t b.2=some T/\(T.length:Int)=b.1
 |0,t,b,h,_=>by have:=e8 t;lia
 |n+1,t,b,h,A=>by
  have U:∀p∈a,fQ p.pt=true:=λp q=>(v p q).1;rw[kN U]at A;unfold gX at A;by_cases i:kE t=true
  ·rw[SV i]at A;cases A;refine⟨ml d t,?_,?_⟩
   ·show(if kE t=true then some (ml d t)else _)=_;rw[SV i]
   ·cases t with
    |call k=>rfl
    |_=>cases i
  rw[PC i]at A;rcases Ah _ _ _ A with e|⟨w,C,bs,ea,e⟩
  ·cases e
  injection e with e;subst e
  have cK:∀x∈w.ts,aP x<=n:=λx hx=>by have:=(lP (r6 U C x hx)).2;lia
  have j:=zK ea;obtain⟨r,g,J⟩:=Dj (jU d v B n) cK j
  have eL:∀L,fP a d (n+1) t (Z9 L bs)=if L="pick" then oJ (fP a d n) t (bs.map (·.2))else mr (fP a d n) a t L (bs.map (·.2)):=λL=>by show(if kE t=true then some (ml d t)else _)=_;rw[PC i];rfl
  rw[show(eQ w (bs.map (·.1)),Z9 w.nm bs).2=Z9 w.nm bs from rfl,eL];have s:bs.length=w.ts.length:=by have:=Tu List.length j;rw[tB,tB]at this;exact this.symm
  unfold jE at C;split at C
  ·rename_i c;have ew:=Tp.mp C;subst ew;rw[SV rfl]
   cases t with
   |pick x y z =>
    match bs,s,g,J,j with
    |[u,l,o],_,g,J,j =>
     have j:[dP a x,dP a y,dP a z]=[some u,some l,some o]:=j;injection j with m1 j;injection j with m2 j;injection j with m3 _;have lx:r.length=3:=by have:=Tu List.length g;rw[tB]at this;exact this.symm
     match r,lx,g,J with
     |[Y,M,E],_,g,J =>
      have g:[fP a d n x u.2,fP a d n y l.2,fP a d n z o.2]=[some Y,some M,some E]:=g;injection g with i1 g;injection g with i2 g;injection g with i3 _;obtain⟨_,N,j1⟩:=jU d v B n x u (cK x (by simp[bT])) m1;obtain⟨_,G,j2⟩:=jU d v B n y l (cK y (by simp[bT])) m2;obtain⟨_,O,j3⟩:=jU d v B n z o (cK z (by simp[bT])) m3;rw[i1]at N;rw[i2]at G;rw[i3]at O;cases N;cases G;cases O;refine⟨gQ Y M E,?_,?_⟩
      ·show(if ([u,l,o].map (·.2)).length=3 then (xk [fP a d n x u.2,fP a d n y l.2,fP a d n z o.2]).bind LB else none)=_;rw[i1,i2,i3];rfl
      ·show _=eQ ⟨"pick",[],[x,y,z]⟩ [u.1,l.1,o.1]
       have el:eQ ⟨"pick",[],[x,y,z]⟩ [u.1,l.1,o.1]=AM l.1 o.1+(u.1+l.1+o.1):=by unfold eQ vk;rw[SV rfl];simp;lia
       rw[el];unfold gQ AM;have N:=oG 8 9 E.length;have G:=oG 10 11 (M++m8 8 9 E.length).length;rw[M1]at G;simp only[M1];rw[j3]at N;have O:((M.length+(m8 8 9 E.length).length:Nat):Int)=l.1+kF o.1:=by lia
       rw[O]at G;lia
   |_=>cases c
  ·rename_i c;obtain⟨p,h1,H⟩:=U6.mp C;unfold rb at H
   cases Q:cQ p.pt t with
   |none=>rw[Q]at H;cases H
   |some f =>
    rw[Q]at H;cases H;have I:=(v p h1).2;rw[PC I];have s:bs.length=f.1.length:=s;refine⟨gD r f (bS p),?_,?_⟩
    ·unfold mr;rw[vZ B h1];dsimp only;rw[Q];dsimp only;rw[SV (by rw[tB];exact s.symm),g,si];rfl
    ·show((r.flatten++(bS p).map _).length:Int)=eQ ⟨p.nm,p.cs,f.1⟩ (bs.map (·.1));have lc:(bS p).length=p.cs.length:=by unfold bS;rw[tB]
     unfold eQ vk;rw[PC I,M1,tB];show _=(p.cs.length:Int)+_;lia
noncomputable def YF(m:Nat):Tr->Bool
 | .call k=>decide (0<=k)&&decide (k.toNat<m)
 | .two _ a b=>YF m a&&YF m b
 | .pick a b c=>YF m a&&(YF m b&&YF m c)
 |_=>true
theorem kO:∀(t x:Tr),YF m t=true->x∈aS t->YF m x=true
 | .num n,x,k,h=>by
  have e:x=.num n:=by simpa[aS]using h
  subst e;exact k
 | .arg n,x,k,h=>by
  have e:x=.arg n:=by simpa[aS]using h
  subst e;exact k
 | .call n,x,k,h=>by
  have e:x=.call n:=by simpa[aS]using h
  subst e;exact k
 | .two o a b,x,k,h=>by
  have d:=k;simp only[YF,S2]at d;simp only[aS,S0,Tq]at h;rcases h with rfl|h|h
  ·exact k
  ·exact kO a x d.1 h
  ·exact kO b x d.2 h
 | .pick a b c,x,k,h=>by
  have d:=k;simp only[YF,S2]at d;simp only[aS,S0,Tq]at h;rcases h with rfl | (h|h)|h
  ·exact k
  ·exact kO a x d.1 h
  ·exact kO b x d.2.1 h
  ·exact kO c x d.2.2 h
end
section
theorem rP{a:vc}(h:k<a.length):(a.map D.int)[k]?=some (.int (a.getD k 0)):=by rw[SR,Td,SN h];rfl
def Br(e:List D)(d:D):Prop:=∃(c:Cl)(a b:vc),e=[clD c,.tup (a.map D.int),.tup (b.map D.int)]/\Lm a.length b.length c=true/\d=.int (lR a b c)
variable{K:qs}
theorem tN(T:Txt P w K mg)  : Ok P w base (k+1) T.Pb (Xp K Br):=by
 refine Xd T.Pb.f uz λJ H Q E L h=>?_;obtain⟨M,d,C,⟨c,i,G,rfl,Xd,rfl⟩,post⟩:=h;obtain⟨r,N,O,rfl,a,z,I⟩:=vU C;refine⟨rfl,λ_ _ _ _ U=>⟨_,(aC (bA (bL (aV (fU Gk) rfl T.N4 cH (cO (pv 0) (cO (gS (v:=.ty "int") rfl T.Sv FC rfl) a7))) (λ_=>rfl)) (zr (pv 0)) aO)
 (aC (bA (zt cE (a8 a9 (pv 0) aD) aI) (zr (bF fI (a8 a9 (pv 1) (a8 a9 (pv 0) aD)) aD)) aO)
 (aC (bA (zt cE (a8 a9 (pv 0) aD) aI) (zr (bF oQ (a8 a9 (pv 1) (a8 a9 (pv 0) aD)) aD)) aO)
 (zr (a8 a9 (pv 2) (a8 a9 (pv 0) aD)))))),?_⟩⟩
 show let A:=a6 _ _;let B:=a6 _ A;a6 _ B _ _ _;intro A B
 cases c with
 |n j =>have a:Dat K H (.int j) r:=a;refine aT (K:=K) (b:=true) (bI (cR (aB (k:=0) a))) (λ_ t g=>?_) (λc=>nomatch c);exact bE (K:=K) (d:=.int j) (aB (k:=0) (g.dat a)) λv s l q=>post v s (g.trans l) q
 |low j =>have a:Dat K H (.tup [.str "low",.int j]) r:=a;have Xd:=S1 Xd;refine aT (K:=K) (b:=false) (bI (cR (aB (k:=0) a))) (λc=>nomatch c) (λ_ t g=>?_);refine aT (K:=K) (b:=true) (RT.as (aH (bN (bC (k:=0) (aB (k:=0) (g.dat a)) aE rfl) aJ)) (S9 rfl)) (λ_ s l=>?_) (λc=>nomatch c);have e:=g.trans l;exact bE (K:=K) (d:=.int (i.getD j 0%100)) (jI (bC (k:=j) (aB (k:=1) (e.dat z)) (bC (k:=1) (aB (k:=0) (e.dat a)) aE rfl) (rP Xd)) aE ⋯) λv u p q=>post v u (e.trans p) q
 |high j =>have a:Dat K H (.tup [.str "high",.int j]) r:=a;have Xd:=S1 Xd;refine aT (K:=K) (b:=false) (bI (cR (aB (k:=0) a))) (λc=>nomatch c) (λ_ t g=>?_);refine aT (K:=K) (b:=false) (RT.as (aH (bN (bC (k:=0) (aB (k:=0) (g.dat a)) aE rfl) aJ)) (S3 ⋯)) (λc=>nomatch c) (λ_ s l=>?_);have e:=g.trans l;refine aT (K:=K) (b:=true) (RT.as (aH (bN (bC (k:=0) (aB (k:=0) (e.dat a)) aE rfl) aJ)) (S9 rfl)) (λ_ u p=>?_) (λc=>nomatch c);have o:=e.trans p;exact bE (K:=K) (d:=.int (i.getD j 0 / 100)) (yC (bC (k:=j) (aB (k:=1) (o.dat z)) (bC (k:=1) (aB (k:=0) (o.dat a)) aE rfl) (rP Xd)) aE ⟨⋯,⋯⟩) λv x y q=>post v x (o.trans y) q
 |arg j =>have a:Dat K H (.tup [.str "arg",.int j]) r:=a;have Xd:=S1 Xd;refine aT (K:=K) (b:=false) (bI (cR (aB (k:=0) a))) (λc=>nomatch c) (λ_ t g=>?_);refine aT (K:=K) (b:=false) (RT.as (aH (bN (bC (k:=0) (aB (k:=0) (g.dat a)) aE rfl) aJ)) (S3 ⋯)) (λc=>nomatch c) (λ_ s l=>?_);have e:=g.trans l;refine aT (K:=K) (b:=false) (RT.as (aH (bN (bC (k:=0) (aB (k:=0) (e.dat a)) aE rfl) aJ)) (S3 ⋯)) (λc=>nomatch c) (λ_ u p=>?_);have o:=e.trans p;exact bE (K:=K) (d:=.int (G.getD j 0)) (bC (k:=j) (aB (k:=2) (o.dat I)) (bC (k:=1) (aB (k:=0) (o.dat a)) aE rfl) (rP Xd)) λv x y q=>post v x (o.trans y) q
def me(n:Nat)(as:List Ar)(e:List D):Prop:=∃(a:List Pc)(b:vc)(t:Tr)(c:D),as=[.d (toD t),.l (a.map XX),.d c,.l (b.map D.int)]/\qG a/\(Jd a/\YF b.length t=true)/\Xx t/\aP t<=n/\n<=8/\aM t<=40/\fP a b n t c=some e
def K7(n:Nat)(as:List Ar)(f:List D):Prop:=∃(e:List Pc)(c:vc)(a b d:Tr)(g h i:D)(j o p:List D),as=[.d (.tup [.str "pick",toD a,toD b,toD d]),.l (e.map XX),.d (.tup [.str "pick",.tup [g,h,i]]),.l (c.map D.int)]/\qG e/\(Jd e/\(YF c.length a=true/\YF c.length b=true/\YF c.length d=true))/\(Xx a/\Xx b/\Xx d)/\(aP a<=n/\aP b<=n/\aP d<=n)/\n<=8/\(aM a<=40/\aM b<=40/\aM d<=40) /\
 fP e c n a g=some j/\fP e c n b h=some o/\fP e c n d i=some p/\f.length<=900/\f=gQ j o p
def K6(n:Nat)(as:List Ar)(e:List D):Prop:=∃(a:List Pc)(b:vc)(t:Tr)(p:Pc)(c:List D)(g:Yb)(f:List (List D)),as=[.d (toD t),.l (a.map XX),.d (.tup [.str p.nm,.tup c]),.l (b.map D.int)]/\qG a/\(Jd a/\YF b.length t=true)/\Xx t/\aP t<=n+1/\n+1<=8/\aM t<=40/\p∈a/\cQ p.pt t=some g/\g.1.length=c.length/\hU (fP a b n) g.1 c=f.map some/\e.length<=900/\e=gD f g (bS p)
theorem Ak(x y z:List D):gQ x y z=x++(fW 10 11 ((y.length:Int)+kF z.length)).map D.int++y++(fW 8 9 z.length).map D.int++z:=by
 unfold gQ m8
 have e:((y++(fW 8 9 (z.length:Int)).map D.int).length:Int)=(y.length:Int)+kF z.length:=by rw[M1,tB];have:=kQ 8 9 z.length;lia
 rw[e];simp only[TJ]
theorem yf(T:Txt P w K mg)(OP:Ok P w base k T.Oc (mS K (me n)))(Ph:Ok P w base k T.Oe (zw K)):Ok P w base (k+1) T.PJ (mS K (K7 n)):=by
 refine Xd T.PJ.f yY λvs H Q E t h=>?_;obtain⟨as,es,hd,⟨A,B,a,b,d,L,M,N,C,o,c,rfl,O,⟨s,U,Y,hd_⟩,⟨oa,ob,od⟩,⟨da,db,dd⟩,n8,⟨za,zb,zd⟩,la,lb,ld,ZS,rfl⟩,post⟩:=h;obtain⟨v0,v1,v2,v3,rfl,h0,h1,h2,h3⟩:=Ir hd;have h0:Dat K H (.tup [.str "pick",toD a,toD b,toD d]) v0:=h0;have h1:LD K H (A.map XX) v1:=h1;have h2:Dat K H (.tup [.str "pick",.tup [L,M,N]]) v2:=h2;have h3:LD K H (B.map D.int) v3:=h3;rw[Ak]at post ZS;refine⟨rfl,λ_ _ _ _ hr=>⟨_,(aC (gY (mZ (own:=["one","within"]) (fr:=[1,3]) (N':=["one","within","some","places"]) (Hb rfl T.R7 (z2 (jw uD (pv 0) (iV aD) oS) (a8 a9 (pv 2) aD))) rfl (by show iB ["tree","some","cover","places","first","second","third","ahead","behind"] (λx=>(aK mP).names.lookup x) _ _ _ _=true;decide +kernel) rfl (λ_ _ _ _ _=>(yu (K:=K) (n:=2) rfl rfl (bB (f9 (i:=0) (by show List.Nodup [("one":Str),("within":Str),("some":Str),("places":Str)];decide +kernel) rfl (Or.inl rfl)) (bB (f9 (i:=1) (by show List.Nodup [("one":Str),("within":Str),("some":Str),("places":Str)];decide +kernel) rfl (Or.inl rfl)) dH)))) (λ_ _ _ _ _=>jx) (λ_ _ _ _ _=>(pc (D:=T.Oc) OP hr (aY (pv 0) (aY (pv 2) (aY (pv 1) (aY (pv 3) a7))))))) (JB rfl (bB (zg 4 t) (bB (zg 5 t) (bB (zg 6 t) dH)))))
 (aC (gY (pc (D:=T.Oe) Ph hr (z2 (aV aQ rfl T.NZ bP (z1 (pv 5))) (aV aQ rfl T.NZ bP (z1 (pv 6))))) (fX rfl (bB (zg 7 t) (bB (zg 8 t) dH))))
 (zr (bF jn (bF jn (bF jn (bF jn (pv 4) (pv 7)) (pv 5)) (pv 8)) (pv 6))))),?_⟩⟩
 dsimp only[XQ];show let W5:=a6 _ _;a6 _ W5 _ _ _;intro W5;refine yI (RCL.use (K:=K) (JQ (cs:=[toD a,toD b,toD d]) (ds:=[L,M,N]) (aA (m6 (aB (k:=0) h0)) (aA (bC (k:=1) (aB (k:=2) h2) aE rfl) aG)) rfl (by simp) [C,o,c] rfl ⋯ rfl (λG j x y z v w sG g e q hv hw=>?_)) λl ys H1 hl s1 e dy=>?_)
 ·have hL:=sG.ld h1;have hP:=sG.ld h3
  match j,g,e,q with
  |0,g,e,q=>cases g;cases e;cases q;exact hV (R:=me n) (iW (aB (k:=0) hv) (gH (aW (k:=2) hL) (iW (aB (k:=1) hw) (gH (aW (k:=3) hP) dS)))) ⟨A,B,a,L,rfl,O,⟨s,U⟩,oa,da,n8,za,la⟩
  |1,g,e,q=>cases g;cases e;cases q;exact hV (R:=me n) (iW (aB (k:=0) hv) (gH (aW (k:=2) hL) (iW (aB (k:=1) hw) (gH (aW (k:=3) hP) dS)))) ⟨A,B,b,M,rfl,O,⟨s,Y⟩,ob,db,n8,zb,lb⟩
  |2,g,e,q=>cases g;cases e;cases q;exact hV (R:=me n) (iW (aB (k:=0) hv) (gH (aW (k:=2) hL) (iW (aB (k:=1) hw) (gH (aW (k:=3) hP) dS)))) ⟨A,B,d,N,rfl,O,⟨s,hd_⟩,od,dd,n8,zd,ld⟩
  |j+3,g,e,q=>cases g
 obtain⟨w4,w5,w6,rfl,k4,I,J⟩:∃w4 w5 w6,ys=[w4,w5,w6]/\LD K H1 C w4/\LD K H1 o w5/\LD K H1 c w6:=by
  cases dy with
  |cons k4 r =>
   cases r with
   |cons I r =>
    cases r with
    |cons J r =>cases r;exact⟨_,_,_,rfl,k4,I,J⟩
 refine⟨l,_,rfl,W2.of e,rfl,_,_,rfl,_,_,rfl,_,_,rfl,rfl,?_⟩
 try dsimp only
 refine yI (jf (gZ (RE.use (K:=K) (d:=.int o.length) (dB (aW (k:=5) I)) λw1 H3 s3 q3=>gZ (RE.use (K:=K) (d:=.int c.length) (dB (aW (k:=6) (s3.ld J))) λw2 H4 s4 q4=>?_))));have e3:=q3.W4;have e4:=q4.W4;subst e3 e4;refine⟨_,_,rfl,λp aa bb us ws H5 s5 hp ha hb _ _ _ Zo ZA=>?_⟩;refine⟨p,_,rfl,hp,rfl,_,_,rfl,_,_,rfl,rfl,?_⟩
 try dsimp only
 have u:=s3.trans (s4.trans s5);have kA:LD K H5 _ (.ref aa):=LD.of ha Zo;have kB:LD K H5 _ (.ref bb):=LD.of hb ZA;have ll:(C++(fW 10 11 ((o.length:Int)+kF c.length)).map D.int++o++(fW 8 9 c.length).map D.int++c).length=C.length+((fW 10 11 ((o.length:Int)+kF c.length)).map D.int).length+o.length+((fW 8 9 (c.length:Int)).map D.int).length+c.length:=by simp only[M1]
 generalize (fW 10 11 ((o.length:Int)+kF c.length)).map D.int=ja at kA post ll ZS;generalize (fW 8 9 (c.length:Int)).map D.int=jb at kB post ll ZS;exact jM (RC.use (K:=K) (js (jB (js (jB (js (jB (js (aW (k:=4) (u.ld k4)) (aW (k:=7) kA) ⋯)) (aW (k:=5) (u.ld I)) (by rw[M1];lia))) (aW (k:=8) kB) (by rw[M1,M1];lia))) (aW (k:=6) (u.ld J)) (by rw[M1,M1,M1];lia)) λl3 us H7 hl3 s7 hu du=>post l3 us H7 (s1.trans (u.trans s7)) hu ((s1.trans u).free hl3) du)
theorem ve(T:Txt P w K mg)(OP:Ok P w base k T.Oc (mS K (me n)))(Qs:Ok P w base k T.O4 (Xp K r8))(QW:Ok P w base k T.Pb (Xp K Br)):Ok P w base (k+1) T.Pl (mS K (K6 n)):=by
 refine Xd T.Pl.f vD λvs H Q E C h=>?_;obtain⟨as,es,hd,⟨ps,pl,t,p,cv,g,e,rfl,YW,⟨N,hcn⟩,XM,Yd,n8,ZR,hp,O,hlen,aaa,ZS,rfl⟩,post⟩:=h;obtain⟨v0,v1,v2,v3,rfl,h0,h1,h2,h3⟩:=Ir hd;have h0:Dat K H (toD t) v0:=h0;have h1:LD K H (ps.map XX) v1:=h1;have h2:Dat K H (.tup [.str p.nm,.tup cv]) v2:=h2;have h3:LD K H (pl.map D.int) v3:=h3;have XH:=YW.ok p hp;have U:=N.cl p hp;have few:=YW.few;refine⟨rfl,λ_ _ _ _ hr=>⟨_,(aC (gY (pv 2) (fX rfl (bB (zg 4 C) (bB (zg 5 C) dH))))
 (aC (zs 6 C (a8 bY (mZ (own:=["one"]) (fr:=[4]) (N':=["one","name"]) (fM (pv 1)) rfl (by show iB ["tree","some","cover","places","name","within","piece","holes","nums","ks","cells","hole","inner"] (λx=>(aK lO).names.lookup x) _ _ _ _=true;decide +kernel) rfl (λ_ _ _ _ _=>(f9 (i:=0) (by show List.Nodup [("one":Str),("name":Str)];decide +kernel) rfl (Or.inl rfl))) (λ_ _ _ _ _=>(tU (zt cE (a8 (r:=lZ K) a9 (pv 0) aD) (pv 1)))) (λ_ _ _ _ _=>(pv 0))) aD))
 (aC (gY (pc (D:=T.O4) Qs hr (z2 (pv 6) (pv 0))) (fX rfl (bB (zg 7 C) (bB (zg 8 C) (bB (zg 9 C) dH)))))
 (aC (zs 10 C (bQ a7))
 (aC (iD Uc rfl (Hb rfl T.R7 (z2 (pv 7) (pv 5))) (fX rfl (bB (zg 11 C) (bB (zg 12 C) dH))) (aX (bK (dW Tg Us Ux gI (pv 10) (z1 (pc (D:=T.Oc) OP hr (aY (pv 11) (aY (pv 1) (aY (pv 12) (aY (pv 3) a7))))))))))
 (zr (bF jn (pv 10) (zc [8,9] ["cell","nums","ks"] (kH (a8 a9 (pv 6) aD)) (λ_ _ _ _ _=>(pc (D:=T.Pb) QW hr (z3 (pv 0) (pv 1) (pv 2)))))))))))),?_⟩⟩
 dsimp only[XQ];show let W5:=a6 _ _;let Xc:=a6 _ W5;let Xv:=a6 _ Xc;let XF:=a6 _ Xv;a6 _ XF _ _ _;intro W5 Xc Xv XF;refine lK (K:=K) (aB (k:=2) h2) λv4 v5 H1 s1 q4 q5=>?_;refine d6 (K:=K) (d:=XX p) (gP (k:=0) (ds:=[XX p]) (jB (RC.as (JM (aW (k:=1) (s1.ld h1)) (by rw[tB];lia) (Ji p.nm) rfl (λG j c v I l hv=>?_)) (Ae N.ls.nd hp))) aE rfl) λv6 H2 s2 q6=>?_
 ·rw[SR]at l
  cases b:ps[j]? with
  |none=>rw[b]at l;cases l
  |some q =>rw[b]at l;cases l;exact⟨aH (bN (bC (k:=0) (aB (k:=0) (show Dat K G (.tup [.str q.nm,Z7 q.pt,.tup q.cs]) v from hv)) aE rfl) (aB (k:=1) (I.dat q4))),aB (k:=0) hv⟩
 have s12:=s1.trans s2;have q6:Dat K H2 (.tup [.str p.nm,Z7 p.pt,.tup p.cs]) v6:=q6;refine yK (K:=K) (RE.as (bJ (R:=r8) (d:=fdD (cQ p.pt t)) (aA (aB (k:=6) q6) (aA (aB (k:=0) (s12.dat h0)) aG)) ⟨.str p.nm,p.pt,.tup p.cs,t,rfl,XH.ok,XM,⋯,XH.dp,rfl⟩) (by rw[O];rfl)) λv7 v8 v9 H3 s3 q7 q8 q9=>?_;have Xi:=s12.trans s3;refine eE ⟨cK ⋯,λlc Y=>?_⟩;have s4:WV H3 (upd H3 lc (.lst [])):=aL Y _;have X0:=Xi.trans s4;obtain⟨ah,us,rfl,hah,Zo⟩:=(s4.dat q7).Xf;obtain⟨aw,ws,rfl,haw,ZA⟩:=((s2.trans (s3.trans s4)).dat q5).Xf;have lu:=Zo.length;have lw:=ZA.length;rw[tB]at lu;have less:e.length=g.1.length:=by have:=Tu List.length aaa;rw[EB hlen,tB]at this;exact this.symm
 have hlcn:H lc=none:=Xi.free Y
 have lle:e.flatten.length+(bS p).length<=900:=by
  have z:(gD e g (bS p)).length=e.flatten.length+(bS p).length:=by unfold gD;rw[M1,tB]
  lia
 have lfl:e.flatten.length<=900:=by lia
 generalize hG4:upd H3 lc (.lst [])=G4 at s4 X0 hah haw Zo ZA;have hc4:G4 lc=some (.lst []):=by rw[<- hG4];exact aF
 let Zk:Nat->L2.St->Hp->Prop:=λi σ G=>∃(ZT Ze:Option V)(zs:List V),σ=[some v0,some v1,some v2,some v3,some v4,some (.ref aw),some v6,some (.ref ah),some v8,some v9,some (.ref lc),ZT,Ze]/\WV H3 G/\Xo K G ah us/\Xo K G aw ws/\WU K G (g.1.map toD) us/\WU K G cv ws/\G lc=some (.lst zs)/\WU K G (e.take i).flatten zs;refine dI ⟨_,rfl,_,rfl,ah,aw,us,ws,rfl,hah,haw,C8 (K:=K) (xs:=us) (ys:=ws) Zk ⋯ ?_ (λi σ G _ ⟨_,_,_,_,_,p1,p2,_⟩=>⟨p1,p2⟩) ?_ ?_⟩
 ·exact⟨none,none,[],rfl,s4,hah,haw,Zo,ZA,hc4,by rw[US];exact WU.nil⟩
 ·rintro i u w pp σ G hu hw hpp ⟨ZT,Ze,zs,rfl,I,L,M,duG,dwG,J,dz⟩;have s:WV G (upd G pp (.tup [u,w])):=aL hpp _;obtain⟨du,y,hdu⟩:=duG.XI hu;obtain⟨dw,edw,hdw⟩:=dwG.XI hw;rw[SR]at y
  cases b:g.1[i]? with
  |none=>rw[b]at y;cases y
  |some x =>
   rw[b]at y;cases y;have hix:i<e.length:=by rw[less];exact(S6.mp b).1
   have hx:e[i]?=some e[i]:=SN hix;have lz:=Gz lfl hx;have hlx:fP ps pl n x dw=some e[i]:=(EA b edw (by rw[aaa,SR,hx];rfl)).symm;have A:=oC XH.nh O x (S4 b);have dsm:=lP A;refine⟨pp,_,rfl,Xo.of aF,rfl,_,_,rfl,_,_,rfl,rfl,?_⟩;dsimp only;have B:=Xi.trans (I.trans s);have lzs:=dz.length;refine J5 (K:=K) (hV (R:=me n) (iW (aB (k:=11) (s.dat hdu)) (gH (aW (k:=1) (B.ld h1)) (iW (aB (k:=12) (s.dat hdw)) (gH (aW (k:=3) (B.ld h3)) dS)))) ⟨ps,pl,x,dw,rfl,YW,⟨N,kO t x hcn (lh A)⟩,jq t x XM (lh A),⋯,⋯,⋯,hlx⟩) (s _ _ J) ⋯ λys G2 b2 hc2 dy=>?_;have g2:eI K (upd G pp (.tup [u,w])) G2:=b2.grow (s _ _ J) hc2;refine⟨_,_,zs++ys,rfl,λa o ha=>b2 a o (aN ha Y) ((I.trans s) _ _ ha),g2.tup _ _ (s.Zn L),g2.tup _ _ (s.Zn M),WU.mono g2 _ (s.W0 duG),WU.mono g2 _ (s.W0 dwG),hc2,?_⟩;rw[Ug,hx,U1];simp only[Option.toList_some,TV,List.flatten_nil,To];exact WU.append (WU.mono g2 _ (s.W0 dz)) dy
 ·rintro σ G ⟨ZT,Ze,zs,rfl,I,L,M,duG,dwG,J,dz⟩;rw[<- lu,<- less,UR]at dz;dsimp only;have B:=Xi.trans I
  have q6G:Dat K G (.tup [.str p.nm,Z7 p.pt,.tup ((bS p).map clD)]) v6:=by have z:=(s3.trans I).dat q6;rw[U.eq]at z;exact z
  obtain⟨g1,g2⟩:=sO _ _ _ O;have lcl:(bS p).length<=12:=by have:=XH.cs;rw[U.eq,tB]at this;exact this
  refine jM (RC.use (K:=K) (es:=gD e g (bS p)) (js (aW (k:=10) (LD.of J dz)) (jB (tZ (cs:=(bS p).map clD) (bC (k:=2) (aB (k:=6) q6G) aE rfl) (by rw[tB];lia) ((bS p).map λc=>D.int (lR g.2.1 g.2.2 c)) (by rw[tB,tB]) rfl (λG1 j c v d s1 l hd hv=>?_))) (by rw[tB];lia)) λl3 vs G2 hl3 s2 hw dw=>post l3 vs G2 (B.trans s2) hw (B.free hl3) dw);rw[SR]at l hd
  cases b:(bS p)[j]? with
  |none=>rw[b]at l;cases l
  |some x =>rw[b]at l hd;cases l;cases hd;refine bJ (R:=Br) (aA (aB (k:=0) hv) (aA (aB (k:=1) ((I.trans s1).dat q8)) (aA (aB (k:=2) ((I.trans s1).dat q9)) aG))) ⟨x,g.2.1,g.2.2,rfl,?_,rfl⟩;rw[g1,g2];exact U.ok x (S4 b)
theorem uZ(T:Txt P w K mg)(Rr:Ok P w base k T.PJ (mS K (K7 n)))(Q8:Ok P w base k T.Pl (mS K (K6 n))):Ok P w base (k+1) T.Oc (mS K (me (n+1))):=by
 refine Xd T.Oc.f vC λvs H Q E nd h=>?_;obtain⟨as,es,hd,⟨q,s,t,c,rfl,YW,⟨I,o⟩,J,Yd,n8,ZR,i⟩,post⟩:=h;obtain⟨v0,v1,v2,v3,rfl,u,h1,h2,L⟩:=Ir hd;have u:Dat K H (toD t) v0:=u;have h1:LD K H (q.map XX) v1:=h1;have h2:Dat K H c v2:=h2;have L:LD K H (s.map D.int) v3:=L;have ZS:es.length<=900:=by have:=kR YW.ok (n+1) t c es i;lia
 refine⟨rfl,λ_ _ _ _ hr=>⟨_,(aC (bA (zt cE (a8 a9 (pv 0) aD) aI) (aC (zs 4 nd (a8 bY (pv 3) (a8 a9 (pv 0) aD)))
 (zr (bQ (z3 (bO (v:=.int 15) rfl T.SA ⟨_,rfl⟩) (bF fI (pv 4) aD) (bF oQ (pv 4) aD))))) aO)
 (aC (bA (zt cE (a8 a9 (pv 0) aD) aI) (zr (pc (D:=T.PJ) Rr hr (aY (pv 0) (aY (pv 1) (aY (pv 2) (aY (pv 3) a7)))))) aO)
 (zr (pc (D:=T.Pl) Q8 hr (aY (pv 0) (aY (pv 1) (aY (pv 2) (aY (pv 3) a7)))))))),?_⟩⟩
 dsimp only[XQ];show let W5:=a6 _ _;a6 _ W5 _ _ _;intro W5;obtain⟨kd,r,ek,hpk,A,hkids⟩:=Gi t J;have M:Dat K H (.tup (.str kd::r)) v0:=by rw[<- ek];exact u
 have i:(if kE t=true then some (ml s t)else match pC c with|none=>none|some x=>if x.1="pick" then oJ (fP q s n) t x.2 else mr (fP q s n) q t x.1 x.2)=some es:=i;refine aT (K:=K) (b:=kE t) (RT.as (aH (bN (bC (k:=0) (aB (k:=0) M) aE rfl) aJ)) A) (λy H1 B=>?_) (λy H1 B=>?_)
 ·rw[SV y]at i
  cases t with
  |call k =>
   have u:Dat K H (.tup [.str "call",.int k]) v0:=u;simp only[YF,S2,TH]at o;have ek2:k=((k.toNat:Nat):Int):=by lia
   rw[ek2]at u;refine d6 (K:=K) (d:=.int (s.getD k.toNat 0)) (gP (k:=k.toNat) (aW (k:=3) (B.ld L)) (bC (k:=1) (aB (k:=0) (B.dat u)) aE rfl) (rP o.2)) λv4 H2 N q4=>?_;have j:=B.trans N;refine jM (RC.use (K:=K) (fY (aA aE (aA (jI (aB (k:=4) q4) aE ⋯) (aA (yC (aB (k:=4) q4) aE ⟨⋯,⋯⟩) aG)))) λl O U C Y hy dy=>post l O U (j.trans Y) hy (j.free C) ?_);cases i;exact dy
  |_=>cases y
 rw[PC (by rw[y];exact SW)]at i
 obtain⟨G,cv,rfl⟩:∃G cv,c=.tup [.str G,.tup cv]:=by
  cases e:pC c with
  |none =>have h:=i;rw[e]at h;cases h
  |some x=>exact⟨x.1,x.2,D9 e⟩
 have i:(if G="pick" then oJ (fP q s n) t cv else mr (fP q s n) q t G cv)=some es:=i;refine aT (K:=K) (b:=Ej t) (RT.as (aH (bN (bC (k:=0) (aB (k:=0) (B.dat M)) aE rfl) aJ)) hpk) (λcp H2 N=>?_) (λcp H2 N=>?_)
 ·have j:=B.trans N
  have hn:G="pick":=by
   apply Classical.byContradiction;intro z;rw[PC z]at i;obtain⟨p,g,Xa,e1,e2,_⟩:=jd i
   cases t with
   |pick a b d=>rw[F0 (YW.ok p (i9 e1).1).nh]at e2;cases e2
   |_=>cases cp
  subst hn;rw[SV rfl]at i;obtain⟨a,b,d,ca,cb,cd,xa,xb,xd,rfl,rfl,la,lb,ld,rfl⟩:=je i;simp only[aP]at Yd;simp only[aM]at ZR;exact jM (RC.use (K:=K) (hV (R:=K7 n) (iW (aB (k:=0) (j.dat u)) (gH (aW (k:=1) (j.ld h1)) (iW (aB (k:=2) (j.dat h2)) (gH (aW (k:=3) (j.ld L)) dS)))) ⟨q,s,a,b,d,ca,cb,cd,xa,xb,xd,rfl,YW,⟨I,by simp only[YF,S2]at o;exact o⟩,⟨J.1,J.2.1,J.2.2⟩,⟨⋯,⋯,⋯⟩,⋯,⟨⋯,⋯,⋯⟩,la,lb,ld,ZS,rfl⟩) λl O U C Y hy dy=>post l O U (j.trans Y) hy (j.free C) dy)
 ·have j:=B.trans N
  have hn:¬ G="pick":=by intro z;rw[SV z]at i;obtain⟨a,b,d,_,_,_,_,_,_,e,_⟩:=je i;subst e;cases cp
  rw[PC hn]at i;obtain⟨p,g,Xa,e1,e2,C,aaa,rfl⟩:=jd i;obtain⟨hp,rfl⟩:=i9 e1;exact jM (RC.use (K:=K) (hV (R:=K6 n) (iW (aB (k:=0) (j.dat u)) (gH (aW (k:=1) (j.ld h1)) (iW (aB (k:=2) (j.dat h2)) (gH (aW (k:=3) (j.ld L)) dS)))) ⟨q,s,t,p,cv,g,Xa,rfl,YW,⟨I,o⟩,J,Yd,n8,ZR,hp,e2,C,aaa,ZS,rfl⟩) λl O U C Y hy dy=>post l O U (j.trans Y) hy (j.free C) dy)
end
section
variable{K:qs}
abbrev LPP:List Pc:=[⟨"inc",.two "add" (.hole 0) (.num 1),[.int 12,.int 1]⟩,⟨"both",.two "add" (.slot 0) (.slot 1),[.int 3,.tup [.str "arg",.int 0],.int 3,.tup [.str "arg",.int 1],.int 4]⟩,⟨"twofold",.two "mul" (.hole 0) (.num 2),[.int 13,.int 4]⟩,⟨"fewer",.two "sub" (.hole 0) (.gap 0 99),[.int 1,.tup [.str "low",.int 0],.int 5]⟩,⟨"addmul",.two "add" (.two "mul" (.hole 0) (.hole 1)) (.gap 0 99),[.int 6,.int 12,.tup [.str "low",.int 0]]⟩,⟨"turned",.two "less" (.gap 0 99) (.hole 0),[.int 1,.tup [.str "low",.int 0],.int 14,.int 7]⟩,⟨"far",.two "add" (.hole 0) (.gap 0 9999),[.int 2,.tup [.str "low",.int 0],.tup [.str "high",.int 0],.int 4]⟩,⟨"pair",.two "sub" (.gap 0 99) (.gap 1 99),[.int 1,.tup [.str "low",.int 0],.int 1,.tup [.str "low",.int 1],.int 5]⟩]
theorem Nz:BP.map XX=BAS:=rfl
noncomputable abbrev Zl:List Pc:=BP++LPP
structure gdP(p:Pc):Prop where
 ok:Jm p
 pc:tT (XX p)=some true/\p.nm.length<=sizeLine
 nl:XC (XX p)=true/\gK (XX p)<=19
 cl:Kk p (bS p)
theorem Lq:∀p∈Zl,gdP p:=by intro p a;simp only[Zl,BP,LPP,List.cons_append,UU,To,S0,Ti,T9]at a;rcases a with rfl|rfl|rfl|rfl|rfl|rfl|rfl|rfl|rfl|rfl|rfl|rfl|rfl|rfl|rfl|rfl<;>exact⟨⟨⋯,by simp[Eu,okB],⋯,⋯,rfl⟩,⟨⋯,⋯⟩,⟨⋯,⋯⟩,by kernel_rfl,λc b=>UE.mp (show List.all (bS _) (Lm _ _)=true by decide +kernel) c b⟩
theorem K0:(Zl.map (·.nm)).Nodup:=⋯
structure gdS(ps:List Pc):Prop where
 gs:xF ps
 ok:qG ps
 la:Jd ps
 hp:∀p∈ps,fQ p.pt=true/\p.nm≠"pick"
 bp:∀p∈BP,p∈ps
theorem IM{sub:List Pc}(h:sub.Sublist LPP):gdS (BP++sub):=by have b:(BP++sub).Sublist Zl:=(WK BP).append h;have c:=(b.map (·.nm)).nodup K0;have d:sub.length<=8:=h.length_le;have g:∀p∈BP++sub,gdP p:=λp a=>Lq p (b.subset a);exact⟨⟨by rw[M1];show 1<=8+sub.length;lia,by rw[M1];show 8+sub.length<=16;lia,λp a=>(g p a).pc,c⟩,⟨λp a=>(g p a).ok,by rw[M1];show 8+sub.length<=100;lia⟩,⟨⟨c,λp a=>(g p a).nl⟩,λp a=>(g p a).cl⟩,λp a=>⟨(g p a).ok.nh,(g p a).ok.nm⟩,λp a=>VA _ a⟩
def KO(K:qs):Sp:=λe H Q _=>∃(a t:Addr)(f:vc)(p q:Int)(rest:List V),e=[.ref a,.ref t]/\Zb K H a f/\H t=some (.lst (.int p::.int q::rest))/\0<=p /\
 ∀(sub:List Pc)(l:Addr)(c:List V)(b:Hp)(d g:Int),Xb t H b->b t=some (.lst (.int d::.int g::rest))->0<=d->sub.Sublist LPP->H l=none->b l=some (.lst c)->WU K b ((BP++sub).map XX) c->Q (.ref l) b
theorem Az(T:Txt P w K mg)(QU:Ok P w base k T.Ox (jR K λds es=>ds=[]/\es=LPD))(Of:Ok P w base k T.Oa (uF K)):Ok P w base (k+1) T.PX (KO K):=by
 refine Xd T.PX.f A9 λvs H Q E nd h=>?_;obtain⟨a,t,ns,p,q,rest,rfl,hS,hT,hp,post⟩:=h;refine⟨rfl,λ_ _ _ _ u=>⟨_,(aC (j9 (i:=2) (own:=["_law_piece"]) (fr:=[0,1]) (N':=["_law_piece","_law_script","_law_town"]) (fM (AJ QU u rfl T.Ox.m T.Ox.f.kp T.Ox.b .nil gW)) rfl (by show iB ["_law_script","_law_town","_law_more"] (λx=>(aK nV).names.lookup x) _ _ _ _=true;decide +kernel) rfl (λ_ _ _ _ _=>(f9 (i:=0) (by show List.Nodup [("_law_piece":Str),("_law_script":Str),("_law_town":Str)];decide +kernel) rfl (Or.inl rfl))) (λ_ _ _ _ _=>(tU (zt cE (pc (D:=T.Oa) Of u (z3 (pv 1) (pv 2) aD)) aD))) (λ_ _ _ _ _=>(pv 0)) nd rfl rfl rfl)
 (zr (bF jn (bO (v:=.ref T.Rb) rfl T.Sq rfl) (pv 2)))),?_⟩⟩
 dsimp only[XQ];refine eE (AV (K:=K) (λr g y=>WV H y/\H r=none/\WU K y LPD g) (λR hR=>⟨[],LPD,WU.nil,⟨rfl,rfl⟩,λr g y U u z hd=>hR r g y u ⟨U,z,hd⟩⟩) rfl (λr g y l u hM hl=>?_));obtain⟨U,z,hd⟩:=hM;have A:=U _ _ hT;have nrt:r≠t:=Tf (aN hT z);have B:l≠t:=Tf (aN A hl);have nlr:r≠l:=aN u hl;have lu:=hd.length;have lu8:g.length=8:=by rw[<- lu];rfl
 refine⟨
  (λi G=>∃(sub:List Pc)(n:List V)(Y q':Int),Xb t y G/\G t=some (.lst (.int Y::.int q'::rest))/\0<=Y/\sub.Sublist (LPP.take i)/\G l=some (.lst n)/\WU K G (sub.map XX) n/\sub.length<=i),?_,(λi G hi ⟨_,_,_,_,b,_⟩=>W2.of (b _ _ nrt u)),(λi G hi pn=>?_),(λG pn=>?_)⟩
 ·exact⟨[],[],p,q,(aL hl _).but,by rw[aR (Tf B)];exact A,hp,List.nil_sublist _,aF,WU.nil,SY _⟩
 ·obtain⟨sub,n,Y,q',C,tG,gp,d,I,dG,lsub⟩:=pn;have ly:=dG.length;rw[tB]at ly;have gG:eI K y G:=C.grow A tG;have hdG:WU K G LPD g:=WU.mono gG _ hd;obtain⟨dx,ex,hx⟩:=hdG.XI (SN hi);have j:(LPP.map XX)[i]?=some dx:=ex;rw[SR]at j
  cases J:LPP[i]? with
  |none=>rw[J]at j;cases j
  |some pp =>
   rw[J]at j;cases j;have et:LPP.take (i+1)=LPP.take i++[pp]:=by rw[Ug,J];rfl
   have L:g.getD i .W3=g[i]:=by rw[Td,SN hi];rfl
   refine⟨_,rfl,_,rfl,a,t,ns,2,Y,q',rest,rfl,hS.but (U.but.trans C) hT,tG,gp,⋯,⋯,λr3 G3 p3 q3 b3 t3 g3 r3a r3b=>?_⟩;refine⟨rfl,_,rfl,?_⟩;have M:=b3 _ _ B I;have N:eI K G G3:=b3.grow tG t3;refine uS (λc=>?_) (λc=>?_)
   ·refine⟨_,rfl,n,M,cU ⋯,⟨_,rfl⟩,?_⟩;rw[L];have b4:Xb l G3 (upd G3 l (.lst (n++[g[i]]))):=Xb.upd (WV.refl _).but;have g4:eI K G3 (upd G3 l (.lst (n++[g[i]]))):=b4.grow M aF;refine⟨sub++[pp],n++[g[i]],p3,q3,λb o nb hb=>b4 b o (aN hb hl) (b3 b o nb (C b o nb hb)),b4 _ _ (Tf B) t3,g3,?_,aF,?_,?_⟩
    ·rw[et];exact d.append (WK _)
    ·rw[Tj];exact WU.append (WU.mono g4 _ (WU.mono N _ dG)) (WU.cons (Dat.mono g4 _ (Dat.mono N _ hx)) WU.nil)
    ·rw[M1];simp;lia
   ·refine⟨⟨_,rfl⟩,sub,n,p3,q3,C.trans b3,t3,g3,?_,M,WU.mono N _ dG,⋯⟩;rw[et];exact d.trans (List.sublist_append_left _ _)
 ·obtain⟨sub,n,Y,q',C,tG,gp,d,I,dG,lsub⟩:=pn;have hL:LD K G (sub.map XX) (.ref l):=LD.of I dG;have O:sub.Sublist LPP:=d.trans (List.take_sublist _ _);refine jM (RC.use (K:=K) (js (Mf T.Sn) (aW (k:=2) hL) (by rw[tB];show 8+sub.length<=1000;lia)) λlz zs G2 s s2 hzs dzs=>?_);refine post sub lz zs G2 Y q' ((U.but.trans C).trans s2.but) (s2 _ _ tG) gp O ?_ hzs ?_
  ·cases h:H lz with
   |none=>rfl
   |some o =>
    have h1:=U _ _ h;by_cases e:lz=t
    ·rw[e,tG]at s;cases s
    ·rw[C _ _ e h1]at s;cases s
  ·rw[Tj,Nz];exact dzs
end
section
variable{k:Nat}
noncomputable def uR(a:List Tr)(t:Tr):Option Nat:=a.findIdx? λx=>W6 (toD x) (toD t)
noncomputable def atC(a:List Tr)(t b:Tr):Tr:=match uR a t with
 |some i=>.call ((i:Int)+1)
 |none=>b
noncomputable def XS(d:List Tr):Tr->Tr
 | .num n=>atC d (.num n) (.num n)
 | .arg k=>atC d (.arg k) (.arg k)
 | .two o a b=>atC d (.two o a b) (.two o (XS d a) (XS d b))
 | .pick a b c=>atC d (.pick a b c) (.pick (XS d a) (XS d b) (XS d c))
 | .call k=>atC d (.call k) (.call k)
noncomputable def YX(d:List Tr):Tr->Tr
 | .two o a b=>.two o (XS d a) (XS d b)
 | .pick a b c=>.pick (XS d a) (XS d b) (XS d c)
 |t=>t
theorem KY(a:List Tr)(t:Tr):XS a t=atC a t (YX a t):=by cases t<;>rfl
theorem sX(h:uR a t=some i):i<a.length/\a[i]?=some t/\∀m,m<i->a[m]?≠some t:=by
 unfold uR at h;obtain⟨c,d,f⟩:=List.findIdx?_eq_some_iff_getElem.mp h;refine⟨c,?_,λm g e=>?_⟩
 ·rw[SN c,pf _ _ d]
 ·have b:m<a.length:=by lia
  rw[SN b]at e;have:=f m g;rw[TY e,gC _ (eH t)]at this;exact this rfl
theorem Gr(h:uR a t=none):(a.map toD).any (λe=>W6 e (toD t))=false:=by unfold uR at h;rw[List.findIdx?_eq_none_iff]at h;rw[Vy,WE];intro x b;have:=h x b;show ¬ W6 (toD x) (toD t)=true;rw[this];exact SW
theorem Gs(h:uR a t=some i):(a.map toD).any (λe=>W6 e (toD t))=true:=by obtain⟨_,b,_⟩:=sX h;rw[Vy,Wa];exact⟨t,S4 b,gC _ (eH t)⟩
structure YG(ps:List Tr):Prop where
 ok:∀p∈ps,XJ p/\aP p<=8/\aM p<=40
 few:ps.length<=6
theorem CO{a:List Tr}(h:a.length<=6)(c:1<=aP t)(d:1<=aM t)(f:Xx b)(g:aP b<=aP t)(j:aM b<=aM t)(l:YF (a.length+1) b=true):Xx (atC a t b)/\aP (atC a t b)<=aP t/\aM (atC a t b)<=aM t/\YF (a.length+1) (atC a t b)=true:=by
 unfold atC
 cases e:uR a t with
 |none=>exact⟨f,g,j,l⟩
 |some i =>have:=(sX e).1;refine⟨⟨⋯,⋯⟩,c,d,?_⟩;show(decide (0<=(i:Int)+1)&&decide (((i:Int)+1).toNat<a.length+1))=true;rw[S9 ⋯,S9 ⋯];rfl
theorem mx2(h:a<=c)(k:b<=d):max a b+1<=max c d+1:=U4 (Nat.max_le.mpr ⟨Tz h (Nat.le_max_left _ _),Tz k (Nat.le_max_right _ _)⟩)
theorem mx3(h:a<=d)(k:b<=e)(l:c<=f):max a (max b c)+1<=max d (max e f)+1:=mx2 h (Nat.le_of_succ_le_succ (mx2 k l))
theorem mU{e:List Tr}(h:e.length<=6):∀t:Tr,XJ t->Xx (XS e t)/\aP (XS e t)<=aP t/\aM (XS e t)<=aM t/\YF (e.length+1) (XS e t)=true
 | .num n,d=>CO h (SY _) (SY _) d (SY _) (SY _) rfl
 | .arg k,d=>CO h (SY _) (SY _) d (SY _) (SY _) rfl
 | .two o a b,d=>by obtain⟨f,g,i,j⟩:=mU h a d.2.1;obtain⟨l,p,q,r⟩:=mU h b d.2.2;exact CO h (e8 _) (by simp[aM]) ⟨d.1,f,l⟩ (mx2 g p) (U4 (Vz i q)) (by simp only[YF,j,r,WC])
 | .pick a b c,d=>by obtain⟨f,g,i,j⟩:=mU h a d.1;obtain⟨l,p,q,r⟩:=mU h b d.2.1;obtain⟨s,u,v,w⟩:=mU h c d.2.2;exact CO h (e8 _) (by simp[aM]) ⟨f,l,s⟩ (mx3 g p u) (U4 (Vz (Vz i q) v)) (by simp only[YF,j,r,w,WC])
 | .call _,d=>d.elim
theorem Ny{e:List Tr}(h:e.length<=6):∀t:Tr,XJ t->Xx (YX e t)/\aP (YX e t)<=aP t/\aM (YX e t)<=aM t/\YF (e.length+1) (YX e t)=true
 | .num n,d=>⟨d,SY _,SY _,rfl⟩
 | .arg k,d=>⟨d,SY _,SY _,rfl⟩
 | .two o a b,d=>by obtain⟨f,g,i,j⟩:=mU h a d.2.1;obtain⟨l,p,q,r⟩:=mU h b d.2.2;exact⟨⟨d.1,f,l⟩,mx2 g p,U4 (Vz i q),by simp only[YX,YF,j,r,WC]⟩
 | .pick a b c,d=>by obtain⟨f,g,i,j⟩:=mU h a d.1;obtain⟨l,p,q,r⟩:=mU h b d.2.1;obtain⟨s,u,v,w⟩:=mU h c d.2.2;exact⟨⟨f,l,s⟩,mx3 g p u,U4 (Vz (Vz i q) v),by simp only[YX,YF,j,r,w,WC]⟩
 | .call _,d=>d.elim
def Rwc(n:Nat)(as:List Ar)(d:D):Prop:=∃(t:Tr)(a:List Tr),as=[.d (toD t),.l (a.map toD)]/\XJ t/\aP t<=n/\n<=8/\YG a/\d=toD (XS a t)
def Rww(n:Nat)(as:List Ar)(d:D):Prop:=∃(t:Tr)(a:List Tr),as=[.d (toD t),.l (a.map toD)]/\XJ t/\aP t<=n+1/\n<=7/\YG a/\d=toD (YX a t)
theorem YG.deep(h:YG a):WZ (a.map toD)<=20:=Tz (jV (n:=8) a λx b=>(h.ok x b).2.1) ⋯
variable{K:qs}
theorem DL(h:RE K t c H (.tup d)):RT (λc H Q=>t c H λx f=>∃k,zI K x f k/\Q k f) c H (!d.isEmpty):=λg s Q q=>h g s _ λv i j l=>by
 obtain⟨a,b,rfl,n,o⟩:=l.Xf;refine⟨!b.isEmpty,.inr (.inl ⟨b,n,rfl⟩),?_⟩
 have e:b.isEmpty=d.isEmpty:=by have:=o.length;cases d<;>cases b<;>simp at this ⊢
 rw[e];exact q i j
theorem vj(T:Txt P w K mg)(B:Ok P w base k T.N8 (Yi K (Rww n))):Ok P w base (k+1) T.Ow (Yi K (Rwc (n+1))):=by
 refine Xd T.Ow.f vF λvs H Q E nd h=>?_;obtain⟨as,d,C,⟨t,a,rfl,G,I,n8,p,rfl⟩,post⟩:=h;obtain⟨J,L,rfl,l,o⟩:=zM C;have l:Dat K H (toD t) J:=l;have o:LD K H (a.map toD) L:=o;refine⟨rfl,λ_ _ _ _ r=>⟨_,(aC (bA (zt (GT r) (pv 0) (pv 1)) (zr (aU (z2 aI (bF cJ (dW Tg WI F.type_list_index (wF r) (pv 1) (z1 (pv 0))) aD)))) aO)
 (zr (pc (D:=T.N8) B r (z2 (pv 0) (pv 1))))),?_⟩⟩
 rw[KY]at post;unfold atC at post;have M:=p.few
 cases e:uR a t with
 |some i =>
  rw[e]at post;obtain⟨hl,N,u⟩:=sX e;refine aT (K:=K) (b:=true) (RT.as (aH (pX (neg:=false) (aB (k:=0) l) (aW (k:=1) o) (iR a) (eH t) p.deep)) (Gs e)) (λ_ O j=>?_) (λc=>nomatch c);refine bE (K:=K) (d:=.tup [.str "call",.int ((i:Int)+1)]) (aZ (aA aJ (aA (dC (AY (k:=1) (j.ld o) (aB (k:=0) (j.dat l)) (iR a) (eH t) p.deep (by rw[tB];lia) ⟨toD t,by rw[SR,N];rfl,gC _ (eH t)⟩ λm g U z=>?_) aE) aG))) λv y s q=>post v y (j.trans s) q;rw[SR]at z;obtain⟨x,A,rfl⟩:=Tt.mp z
  cases Y:W6 (toD x) (toD t)with
  |false=>rfl
  |true=>rw[pf _ _ Y]at A;exact absurd A (u m U)
 |none =>rw[e]at post;refine aT (K:=K) (b:=false) (RT.as (aH (pX (neg:=false) (aB (k:=0) l) (aW (k:=1) o) (iR a) (eH t) p.deep)) (Gr e)) (λc=>nomatch c) (λ_ O j=>?_);exact bE (K:=K) (d:=toD (YX a t)) (eR (R:=Rww n) (iW (aB (k:=0) (j.dat l)) (gH (aW (k:=1) (j.ld o)) dS)) ⟨t,a,rfl,G,I,⋯,p,rfl⟩) λv y s q=>post v y (j.trans s) q
theorem Kj(h:XJ t)(d:List Tr):∃e r,toD t=.tup (.str e::r)/\((bT t=[]/\YX d t=t)\/(bT t≠[]/\toD (YX d t)=.tup ([.str e]++(bT t).map λx=>toD (XS d x)))):=by
 cases t with
 |num n=>exact⟨_,_,rfl,.inl ⟨rfl,rfl⟩⟩
 |arg n=>exact⟨_,_,rfl,.inl ⟨rfl,rfl⟩⟩
 |two o a b=>exact⟨_,_,rfl,.inr ⟨λz=>(nomatch z),rfl⟩⟩
 |pick a b c=>exact⟨_,_,rfl,.inr ⟨λz=>(nomatch z),rfl⟩⟩
 |call k=>exact h.elim
theorem jv(T:Txt P w K mg)(N5:Ok P w base k T.N0 (Xp K iM))(PU:Ok P w base k T.Ow (Yi K (Rwc n))):Ok P w base (k+1) T.N8 (Yi K (Rww n)):=by
 refine Xd T.N8.f mR λvs H Q E nd h=>?_;obtain⟨as,d,l,⟨t,p,rfl,e,Yd,n8,XH,rfl⟩,post⟩:=h;obtain⟨U,v1,rfl,A,C⟩:=zM l;have A:Dat K H (toD t) U:=A;have C:LD K H (p.map toD) v1:=C;refine⟨rfl,λ_ _ _ _ Y=>⟨_,(aC (zs 2 nd (pc (D:=T.N0) N5 Y (z1 (pv 0))))
 (aC (bA (cI (bL (pv 2) (λ_=>rfl))) (zr (pv 0)) aO)
 (zr (bF Jq (aU (z1 (a8 a9 (pv 0) aD))) (eF dD rfl T.Os fC (z1 (zc [1] ["one","parts"] (kH (pv 2)) (λ_ _ _ _ _=>(pc (D:=T.Ow) PU Y (z2 (pv 0) (pv 1))))))))))),?_⟩⟩
 dsimp only[XQ];show let W5:=_;let Xc:=a6 _ W5;a6 _ Xc _ _ _;intro W5 Xc;obtain⟨I,r,ek,hw⟩:=Kj e p;have u:Dat K H (.tup (.str I::r)) U:=by rw[<- ek];exact A
 refine d6 (K:=K) (d:=.tup ((bT t).map toD)) (RE.as (bJ (R:=iM) (aA (aB (k:=0) u) aG) ⟨I,r,rfl,rfl⟩) (by rw[<- ek,Ku t (qH e)])) λv2 H1 J L=>?_;rcases hw with⟨k0,M⟩|⟨k0,M⟩
 ·refine aT (K:=K) (b:=true) (RT.as (bR (DL (aB (k:=2) L))) (by rw[k0];rfl)) (λ_ H2 y=>?_) (λc=>nomatch c);rw[M]at post;exact bE (K:=K) (d:=toD t) (aB (k:=0) ((J.trans y).dat A)) λv N s q=>post v N (J.trans (y.trans s)) q
 ·have ke:((bT t).map toD).isEmpty=false:=by cases hk:bT t with|nil=>exact absurd hk k0|cons _ _=>rfl
  refine aT (K:=K) (b:=false) (RT.as (bR (DL (aB (k:=2) L))) (by rw[ke];rfl)) (λc=>nomatch c) (λ_ H2 y=>?_);have g:=J.trans y;rw[M]at post;have l3:(bT t).length<=3:=by cases t<;>simp[bT]
  refine bE (K:=K) (d:=.tup ([.str I]++(bT t).map λx=>toD (XS p x))) (JR (aZ (aA (bC (k:=0) (aB (k:=0) (g.dat u)) aE rfl) aG)) (pZ (tZ (aB (k:=2) (y.dat L)) (by rw[tB];lia) ((bT t).map λx=>toD (XS p x)) (by rw[tB,tB]) rfl (λG i c v d sG z l hv=>?_))) (by rw[tB];show 1+_<=1000;lia)) λv N s q=>post v N (g.trans s) q;rw[SR]at z l
  cases B:(bT t)[i]? with
  |none=>rw[B]at z;cases z
  |some x =>
   rw[B]at z l;cases z;cases l;obtain⟨k1,k2⟩:=wC (S4 B)
   have O:XJ x:=by
    have j:=S4 B
    cases t with
    |num n=>simp[bT]at j
    |arg n=>simp[bT]at j
    |call n=>simp[bT]at j
    |two o a b=>simp only[bT,S0,Ti,T9]at j;rcases j with rfl|rfl;exact e.2.1;exact e.2.2
    |pick a b c=>simp only[bT,S0,Ti,T9]at j;rcases j with rfl|rfl|rfl;exact e.1;exact e.2.1;exact e.2.2
   exact eR (R:=Rwc n) (iW (aB (k:=0) hv) (gH (aW (k:=1) ((g.trans sG).ld C)) dS)) ⟨x,p,rfl,O,⋯,⋯,XH,rfl⟩
theorem Ki(as:List Ar)(d:D):¬ Rwc 0 as d:=λ⟨t,_,_,_,h,_⟩=>by have:=e8 t;lia
def Fi(as:List Ar)(d:D):Prop:=∃(t:Tr)(a:List Tr),as=[.l (a.map toD),.d (toD t)]/\XJ t/\aP t<=8/\aM t<=40/\YG a/\(∀p∈a,p∈aS t)/\a.Nodup/\d=.bl true
theorem Gu{x:Tr}{l:List Tr}(h:x∈l):(l.map toD).any (λe=>W6 e (toD x))=true:=by rw[Vy,Wa];exact⟨x,h,gC _ (eH x)⟩
theorem Ax{x:Tr}{l:List Tr}(h:x∉l):(l.map toD).any (λe=>W6 e (toD x))=false:=by rw[Vy,WE];intro y a z;rw[pf y x z]at a;exact h a
theorem Jh{l:List Tr}(h:l.Nodup)(e:l[i]?=some x):x∉l.take i:=λf=>by
 obtain⟨j,b⟩:=Wf.mp f
 have a:j<i:=by have:=(S6.mp b).1;rw[T4]at this;lia
 rw[List.getElem?_take_of_lt a]at b;have c:=(S6.mp e).1;have d:=(S6.mp b).1;have g:=(S6.mp e).2;have n:=(S6.mp b).2;exact List.pairwise_iff_getElem.mp h j i d c a (n.trans g.symm)
theorem yb(T:Txt P w K mg)(QD:Ok P w base k T.Pp (Xp K rK))(P3:Ok P w base k T.O2 (jR K (i7 8))):Ok P w base (k+1) T.PF (Yi K Fi):=by
 refine Xd T.PF.f yU λvs H Q E nd h=>?_;obtain⟨as,d,o,⟨t,r,rfl,XM,U,ZR,B,C,I,rfl⟩,post⟩:=h;obtain⟨v0,v1,rfl,a,u⟩:=zM o;have a:LD K H (r.map toD) v0:=a;have u:Dat K H (toD t) v1:=u;have few:=B.few;refine⟨rfl,λ_ _ _ _ y=>⟨_,(aC (bA (PW.pt (fH (cI (bL (aV (fU xG) rfl T.N4 cH (cO (pv 0) (cO (gS (v:=.ty "list") rfl T.QP oy rfl) a7))) (λ_=>rfl))) (eV (zt kn (aV aQ rfl T.NZ bP (z1 (pv 0))) (bO (v:=.int 6) rfl T.Q0 ⟨_,rfl⟩))))) (zr dU) aO)
 (aC (bA (cI (bL (aV (iO rfl) rfl T.Qx lB (z1 (zc [] ["part"] (fM (pv 0)) (λ_ _ _ _ _=>(pc (D:=T.Pp) QD y (z1 (pv 0))))))) (λ_=>rfl))) (zr dU) aO)
 (aC (zs 2 nd (pc (D:=T.O2) P3 y (z1 (pv 1))))
 (zr (aV (iO rfl) rfl T.Qx lB (z1 (mZ (own:=["at","part"]) (fr:=[0,2]) (N':=["at","part","thing","there"]) (AL rfl T.QF (z1 (pv 0))) rfl (by show iB ["thing","tree","there"] (λx=>(aK mN).names.lookup x) _ _ _ _=true;decide +kernel) rfl (λ_ _ _ _ _=>(yu (K:=K) (n:=2) rfl rfl (bB (f9 (i:=0) (by show List.Nodup [("at":Str),("part":Str),("thing":Str),("there":Str)];decide +kernel) rfl (Or.inl rfl)) (bB (f9 (i:=1) (by show List.Nodup [("at":Str),("part":Str),("thing":Str),("there":Str)];decide +kernel) rfl (Or.inl rfl)) dH)))) (λ_ _ _ _ _=>jx) (λ_ _ _ _ _=>(kG (fL (show XG _ _ (B7 K false) from GT y) (pv 1) (pv 3) (by with_unfolding_all rfl)) (j8 (fL (show XG _ _ (B7 K true) from pS y) (pv 1) (jw (show SlR _ (JJ K) from zm) (pv 2) oS (iV (pv 0))) (by with_unfolding_all rfl)))))))))))),?_⟩⟩
 dsimp only[XQ];show let Y:=_;let Xc:=a6 _ Y;let Xv:=a6 _ Xc;a6 _ Xv _ _ _;intro Y Xc Xv;refine aT (K:=K) (b:=false) (RT.as (dJ (b:=false) (c:=false) (RT.as (bR (bI (cR (aB (k:=0) a.lst)))) rfl) λ_=>RT.as (aH (cP (p:=λi j=>decide (j<i)) (dB (aW (k:=0) a)) aE)) (S3 (by rw[tB];lia))) rfl) (λc=>nomatch c) (λ_ H1 z=>?_);have a:=z.ld a;refine aT (K:=K) (b:=false) (RT.as (bR (bI (kq (bs:=r.map λ_=>true) (gN (aW (k:=0) a) (by rw[tB];lia) _ (by simp) rfl (λG1 j c v d z l o A=>?_))))) (by rw[Wl];simp)) (λc=>nomatch c) (λ_ H2 J=>?_)
 ·simp only[SR]at l o
  cases g:r[j]? with
  |none=>rw[g]at l;cases l
  |some p =>rw[g]at l o;cases l;cases o;obtain⟨k1,k2,k3⟩:=B.ok p (S4 g);exact bJ (R:=rK) (aA (aB (k:=0) A) aG) ⟨toD p,rfl,by rw[DX k1 k2 k3]⟩
 have a:=J.ld a;have u:=(z.trans J).dat u;refine fG (K:=K) (lJ (R:=i7 8) (aA (aB (k:=1) u) aG) ⟨t,rfl,qH XM,U,⋯,rfl⟩) λlw xs H3 hlw s3 L M=>?_;have N:WZ ((aS t).map toD)<=20:=Tz (jV (n:=8) _ λx g=>Tz (fE t x g).2 U) ⋯;have a:=s3.ld a;refine bE (K:=K) (d:=.bl true) (RE.as (kq (bs:=r.map λ_=>true) (AU (aW (k:=0) a) (by rw[tB];lia) _ (by simp) ⋯ rfl (λG j c e v s l O A=>?_))) (by rw[Wl];simp)) λv H' s q=>post v H' (z.trans (J.trans (s3.trans s))) q;simp only[SR]at l O
 cases g:r[j]? with
 |none=>rw[g]at l;cases l
 |some p =>rw[g]at l O;cases l;cases O;have hm:=S4 g;have kt:=Jh I g;refine RE.as (fF (b:=true) (c:=true) (RE.as (pX (neg:=false) (aB (k:=1) A) (aW (k:=3) (s.ld (LD.of L M))) (iR _) (eH p) N) (Tu D.bl (Gu (C p hm)))) λ_=>RE.as (pX (neg:=true) (aB (k:=1) A) (jB (RC.as (Hu (n:=j) (aW (k:=2) (s.ld a)) (aB (k:=0) (Dat.WY (j:Int)))) (WD).symm)) (iR _) (eH p) (Tz (jV (n:=8) _ λx g=>(B.ok x (Vh g)).2.1) ⋯)) (Tu D.bl (by rw[Ax kt];rfl))) rfl
def Bu(as:List Ar)(d:D):Prop:=∃(t:Tr)(a:List Tr),as=[.l (a.map toD),.d (toD t)]/\XJ t/\aP t<=8/\aM t<=40/\YG a/\(∀p∈a,p∈aS t)/\a.Nodup/\d=.W3
theorem vi(T:Txt P w K mg)(l:Ok P w base k T.PF (Yi K Fi)):Ok P w base (k+1) T.Pm (Yi K Bu):=by refine Xd T.Pm.f vE λz H Q E A h=>?_;obtain⟨as,d,n,⟨t,j,rfl,o,p,q,r,a,e,rfl⟩,post⟩:=h;obtain⟨s,u,rfl,g,i⟩:=zM n;have g:LD K H (j.map toD) s:=g;have i:Dat K H (toD t) u:=i;refine⟨rfl,λ_ _ _ _ v=>⟨_,(aX (bA (cI (bL (pc (D:=T.PF) l v (z2 (pv 0) (pv 1))) (λ_=>rfl))) (aX cZ) aO)),?_⟩⟩;exact iH (b:=false) (bR (bI (eR (K:=K) (R:=Fi) (gH (aW (k:=0) g) (iW (aB (k:=1) i) dS)) ⟨t,j,rfl,o,p,q,r,a,e,rfl⟩))) (λc=>nomatch c) (λ_ x y=>post _ x y Dat.Y3)
theorem IP(F:gdS c)(e:vc)(h:Xx t)(d:aP t<=8):∃b a,dP c t=some b/\fP c e 8 t b.2=some a/\(a.length:Int)=b.1/\a.length<=12*aM t:=by obtain⟨b,f⟩:=jT (λp i=>(F.hp p i).1) F.bp t h;obtain⟨a,g,j⟩:=jU e F.hp F.la.ls.nd 8 t b d f;exact⟨b,a,f,g,j,kR F.ok.ok 8 t b.2 a g⟩
end
section
noncomputable def cG(a:List Tr)(t:Tr):List Tr:=XS a t::a.map (YX a)
noncomputable def Yl(a:List Pc)(r:Tr):Int×D:=(dP a r).getD (0,.W3)
noncomputable def pA(a:vc)(i:Nat):Int:=((a.take i).map (·+1)).sum
noncomputable def kX(a:vc):List Int:=(List.range a.length).map (pA a)
noncomputable def eZ(n:Nat):List Int:=0::List.replicate n 16
noncomputable def i4(a:List Pc)(b:vc)(x:Tr×Int):List D:=(fP a b 8 x.1 (Yl a x.1).2).getD []++[.int x.2]
noncomputable def iU(b:List Pc)(a:List Tr)(t:Tr):List D:=(((cG a t).zip (eZ a.length)).map (i4 b (kX ((cG a t).map λr=>(Yl b r).1)))).flatten
theorem iX(h:YG e)(f:XJ t)(j:aP t<=8)(l:aM t<=40):∀r∈cG e t,Xx r/\aP r<=8/\aM r<=40/\YF (e.length+1) r=true:=λr hr=>by
 rcases S0.mp hr with rfl|hr
 ·obtain⟨a,b,c,d⟩:=mU h.few t f;exact⟨a,⋯,⋯,d⟩
 ·obtain⟨p,g,rfl⟩:=T5.mp hr;obtain⟨i,n,o⟩:=h.ok p g;obtain⟨a,b,c,d⟩:=Ny h.few p i;exact⟨a,⋯,⋯,d⟩
theorem gT(a:List Tr)(t:Tr):(cG a t).length=a.length+1:=by unfold cG;rw[SX,tB]
theorem oz(n:Nat):(eZ n).length=n+1:=by unfold eZ;rw[SX,List.length_replicate]
theorem Jt(h:a[i]?=some x):pA a (i+1)=pA a i+(x+1):=by unfold pA;rw[Ug,h,Tj,List.sum_append];simp
theorem pG(F:gdS a)(f:vc)(h:Xx t)(d:aP t<=8):∃c,dP a t=some (Yl a t)/\fP a f 8 t (Yl a t).2=some c/\(c.length:Int)=(Yl a t).1/\c.length<=12*aM t:=by
 obtain⟨b,c,g,i,j,l⟩:=IP F f h d;have e:Yl a t=b:=by unfold Yl;rw[g];rfl
 rw[e];exact⟨c,g,i,j,l⟩
variable{K:qs}
theorem JO{e:L2.St}{a:List D}{n:Nat}(h:RC K i e H a)(j:RE K o e H (.int n))(r:a.length*n<=1000)(B:n<=1000):RC K (XT Nb i o) e H (List.replicate n a).flatten:=λt s Q q =>
 h t s _ λl b u C f v c=>j u (s.trans f) _ λw x d y=>by
  have z:=y.W4;subst z;refine⟨l,n,b,rfl,rfl,d _ _ v,⋯,⋯,cK (by rw[<- c.length,UJ];exact r),λp g=>?_⟩;rw[UJ];refine q p _ _ ((f.trans d).free g) (f.trans (d.trans (aL g _))) aF ?_;have c:=(d.trans (aL g (.lst (List.replicate n b).flatten))).W0 c
  have:∀m,WU K (upd x p (.lst (List.replicate n b).flatten)) (List.replicate m a).flatten (List.replicate m b).flatten:=λm=>by
   induction m with
   |zero=>exact WU.nil
   |succ m A=>rw[UM,UM,TV,TV];exact WU.append c A
  exact this n
theorem J3{g:jF}(h:RE K p f G d)(i:G l=some (.lst c))(r:c.length<=10000)
  (q:∀y e,Xb l G e->e l=some (.lst (c++[y]))->Dat K e d y->g.nx f e) (s:f[j]?=some (some (.ref l)):=by rfl):nK (tBM K "list" ko (fR j) (bU p dR)) g f G:=by
 refine⟨_,s,.inl ⟨rfl,_,W2.of i⟩,h.use λy n o t=>?_⟩;have a:=o _ _ i;refine⟨l,c,y,rfl,rfl,a,U8 r ⋯,?_⟩;have b:Xb l n (upd n l (.lst (c++[y]))):=Xb.upd (WV.refl _).but;exact q y _ (o.but.trans b) aF (Dat.mono (b.grow a aF) _ t)
theorem J6{i:jF}(h:RC K v f G n)(o:G l=some (.lst a))(x:a.length+n.length<=10000)
  (q:∀r d,Xb l G d->d l=some (.lst (a++r))->WU K d n r->i.nx f d) (w:f[j]?=some (some (.ref l)):=by rfl):nK (tBM K "list" rS (fR j) (bU v dR)) i f G:=by
 refine⟨_,w,.inl ⟨rfl,_,W2.of o⟩,h.use λp e s y t g u=>?_⟩;have c:=t _ _ o;have z:=u.length;refine⟨l,p,a,e,rfl,rfl,c,g,Tz (by lia:a.length+e.length<=10000) ⋯,?_⟩;have b:Xb l s (upd s l (.lst (a++e))):=Xb.upd (WV.refl _).but;exact q e _ (t.but.trans b) aF (WU.mono (b.grow c aF) _ u)
def Ft(as:List Ar)(c:List D):Prop:=∃(a:List Pc)(b:List Tr)(t:Tr),as=[.d (toD t),.l (a.map XX),.l (b.map toD)]/\gdS a/\XJ t/\aP t<=8/\aM t<=40/\YG b/\c=iU a b t/\c.length<=10000
theorem yc(T:Txt P w K mg)(PU:Ok P w base k T.Ow (Yi K (Rwc 8)))(OG:Ok P w base k T.N8 (Yi K (Rww 7)))(QH:Ok P w base k T.OH (Yi K K5))(OP:Ok P w base k T.Oc (mS K (me 8))):Ok P w base (k+1) T.PH (mS K Ft):=by
 refine Xd T.PH.f yV λvs H Q E A h=>?_;obtain⟨as,es,B,⟨l,b,t,rfl,F,XM,Yd,ZR,XH,rfl,len⟩,post⟩:=h;obtain⟨v0,v1,v2,rfl,h0,h1,h2⟩:=Iq B;have h0:Dat K H (toD t) v0:=h0;have h1:LD K H (l.map XX) v1:=h1;have h2:LD K H (b.map toD) v2:=h2;have few:=XH.few;have rok:=iX XH XM Yd ZR;refine⟨rfl,λ_ _ _ _ q=>⟨_,(aC (zs 3 A (bF jn (bQ (z1 (pc (D:=T.Ow) PU q (z2 (pv 0) (pv 2))))) (zc [2] ["part","parts"] (fM (pv 2)) (λ_ _ _ _ _=>(pc (D:=T.N8) OG q (z2 (pv 0) (pv 1)))))))
 (aC (zs 4 A (bF jn (bQ (z1 (bO (v:=.int 0) rfl T.SH ⟨_,rfl⟩))) (bF LO (bQ (z1 (bO (v:=.int 16) rfl T.Sz ⟨_,rfl⟩))) (aV aQ rfl T.NZ bP (z1 (pv 2))))))
 (aC (j9 (i:=5) (own:=["root"]) (fr:=[1]) (N':=["root","some"]) (fM (pv 3)) rfl (by show iB ["tree","some","parts","roots","closings","bests","places","place","length","cover","code","root","closing"] (λx=>(aK mO).names.lookup x) _ _ _ _=true;decide +kernel) rfl (λ_ _ _ _ _=>(f9 (i:=0) (by show List.Nodup [("root":Str),("some":Str)];decide +kernel) rfl (Or.inl rfl))) (λ_ _ _ _ _=>jx) (λ_ _ _ _ _=>(pc (D:=T.OH) QH q (z2 (pv 0) (pv 1)))) A rfl rfl rfl)
 (aC (zs 6 A (bQ a7))
 (aC (zs 7 A aD)
 (aC (iD Uc rfl (fM (pv 5)) (fX rfl (bB (zg 8 A) (bB (zg 9 A) dH))) (aC (bK (dW UI VQ VR cC (pv 6) (z1 (pv 7))))
 (aX (yz (i:=7) A rfl (Or.inl rfl) (bF cJ (pv 8) aD) sY))))
 (aC (zs 10 A (bQ a7))
 (aC (iD Uc rfl (JD rfl T.R7 (z3 (pv 3) (pv 5) (pv 4))) (fX rfl (bB (zg 11 A) (bB (fX rfl (bB (zg 8 A) (bB (zg 9 A) dH))) (bB (zg 12 A) dH)))) (aC (bK (dW UI PySem.F.slot_list_extend PySem.F.type_list_extend gI (pv 10) (z1 (pc (D:=T.Oc) OP q (aY (pv 11) (aY (pv 1) (aY (pv 9) (aY (pv 6) a7))))))))
 (aX (bK (dW UI VQ VR cC (pv 10) (z1 (pv 12)))))))
 (zr (pv 10)))))))))),?_⟩⟩
 dsimp only[XQ];show let W5:=a6 _ _;let Xc:=a6 _ W5;let Xv:=a6 _ Xc;let XF:=a6 _ Xv;let X6:=a6 _ XF;let YC:=a6 _ X6;let Zd:=a6 _ YC;a6 _ Zd _ _ _;intro W5 Xc Xv XF X6 YC Zd;refine fG (K:=K) (js (jB (fY (aA (eR (R:=Rwc 8) (iW (aB (k:=0) h0) (gH (aW (k:=2) h2) dS)) ⟨t,b,rfl,XM,Yd,⋯,XH,rfl⟩) aG))) (jB (gN (aW (k:=2) h2) (by rw[tB];lia) (b.map λp=>toD (YX b p)) (by rw[tB,tB]) rfl (λG j c v d s z B hv=>?_))) (by rw[tB];show 1+_<=1000;lia)) λlr rv H1 hlr s1 hrv C=>?_
 ·rw[SR]at z B
  cases N:b[j]? with
  |none=>rw[N]at z;cases z
  |some p =>rw[N]at z B;cases z;cases B;obtain⟨k1,k2,k3⟩:=XH.ok p (S4 N);exact eR (R:=Rww 7) (iW (aB (k:=0) hv) (gH (aW (k:=1) (s.ld h2)) dS)) ⟨p,b,rfl,k1,⋯,⋯,XH,rfl⟩
 have C:WU K H1 ((cG b t).map toD) rv:=by
  have e:(cG b t).map toD=[toD (XS b t)]++b.map λp=>toD (YX b p):=by unfold cG;rw[S8,Up];rfl
  rw[e];exact C
 refine fG (K:=K) (js (jB (fY (aA aE aG))) (jB (JO (n:=b.length) (fY (aA aE aG)) (RE.as (dB (aW (k:=2) (s1.ld h2))) (by rw[tB])) (by show 1*_<=1000;lia) ⋯)) (by rw[Dk];show 1+_*1<=1000;lia)) λlc cv H2 hlc s2 hcv O=>?_
 have O:WU K H2 ((eZ b.length).map D.int) cv:=by
  have e:(eZ b.length).map D.int=[D.int 0]++(List.replicate b.length [D.int 16]).flatten:=by unfold eZ;rw[S8,List.map_replicate,List.flatten_replicate_singleton];rfl
  rw[e];exact O
 have ZU:=gT b t;have lclos:=oz b.length;have s12:=s1.trans s2;refine fG (K:=K) (gN (aW (k:=3) (s2.ld (LD.of hrv C))) (by rw[tB];lia) ((cG b t).map λr=>.tup [.int (Yl l r).1,(Yl l r).2]) (by rw[tB,tB]) rfl (λG j c v d s z B hv=>?_)) λlb bv H3 hlb s3 U dbv=>?_
 ·rw[SR]at z B
  cases N:(cG b t)[j]? with
  |none=>rw[N]at z;cases z
  |some r =>rw[N]at z B;cases z;cases B;obtain⟨k1,k2,k3,k4⟩:=rok r (S4 N);obtain⟨_,hb,_,_,_⟩:=pG F [] k1 k2;exact eR (R:=K5) (iW (aB (k:=0) hv) (gH (aW (k:=1) ((s12.trans s).ld h1)) dS)) ⟨l,r,_,rfl,F.ok,k1,k2,⋯,hb,rfl⟩
 have Xi:=s12.trans s3;refine eE ⟨cK ⋯,λlp hlp=>?_⟩;have s4:WV H3 (upd H3 lp (.lst [])):=aL hlp _;refine eE (DK ?_);generalize hls:(cG b t).map (λr=>(Yl l r).1)=g;have lls:g.length=b.length+1:=by rw[<- hls,tB];exact ZU
 have lbv:=dbv.length;rw[tB]at lbv;generalize hG4:upd H3 lp (.lst [])=G4 at s4;have hp4:G4 lp=some (.lst []):=by rw[<- hG4];exact aF
 refine dI ⟨_,rfl,lb,rfl,⟨bv,W2.of (s4 _ _ U)⟩,sS (K:=K) (xs:=bv) (λi Y G=>∃(z8 z9:Option V)(ys:List V),Y=[some v0,some v1,some v2,some (.ref lr),some (.ref lc),some (.ref lb),some (.ref lp),some (.int (pA g i)),z8,z9,none,none,none]/\WV H3 G/\G lp=some (.lst ys)/\WU K G ((List.range i).map λi=>D.int (pA g i)) ys) ?_ (λi Y G _ ⟨_,_,_,_,p1,_⟩=>W2.of (p1 _ _ U)) ?_ ?_⟩
 ·exact⟨none,none,[],rfl,s4,hp4,WU.nil⟩
 ·rintro i x Y G N ⟨z8,z9,ys,rfl,M,hpG,dy⟩;obtain⟨d,ed,B⟩:=(M.W0 dbv).XI N;rw[SR]at ed
  cases q:(cG b t)[i]? with
  |none=>rw[q]at ed;cases ed
  |some r =>
   rw[q]at ed;cases ed;obtain⟨pp,us,rfl,hpp,Zo⟩:=B.Xf;obtain⟨u,c,rfl,hu,z⟩:=iF Zo;have eu:=hu.W4;subst eu;refine⟨pp,_,rfl,hpp,rfl,_,_,rfl,_,_,rfl,rfl,?_⟩;dsimp only;have il:i<b.length+1:=by rw[<- ZU];exact(S6.mp q).1
   have ly:=dy.length;rw[tB,Vu]at ly;refine iY (K:=K) (aB (k:=7) (Dat.WY _)) hpG ⋯ λy G2 b2 hp2 dy2=>?_;have g2:eI K G G2:=b2.grow hpG hp2;have eli:g[i]?=some (Yl l r).1:=by rw[<- hls,SR,q];rfl
   refine⟨_,rfl,RE.use (K:=K) (dC (aB (k:=8) (Dat.WY _)) aE) λv7 G3 s3' q7=>⟨_,_,rfl,q7.W4,?_⟩⟩;refine⟨some (.int (Yl l r).1),some c,ys++[y],by rw[Jt eli];rfl,λa o ha=>s3' _ _ (b2 a o (aN ha hlp) (M _ _ ha)),s3' _ _ hp2,?_⟩;rw[Wm,Tj];exact s3'.W0 (WU.append (WU.mono g2 _ dy) (WU.cons dy2 WU.nil))
 ·rintro Y G ⟨z8,z9,ys,rfl,M,hpG,dy⟩;dsimp only;have ebl:bv.length=g.length:=by lia
  rw[ebl]at dy;have dy:WU K G ((kX g).map D.int) ys:=by unfold kX;rw[Up];exact dy
  have lpl:(kX g).length=b.length+1:=by unfold kX;rw[tB,Vu];exact lls
  refine eE ⟨cK ⋯,λlk hlk=>?_⟩;have s5:WV G (upd G lk (.lst [])):=aL hlk _;generalize hG5:upd G lk (.lst [])=G5 at s5;have hk5:G5 lk=some (.lst []):=by rw[<- hG5];exact aF
  have lrv:=C.length;have lcv:=O.length;rw[tB]at lrv lcv;have s35:=M.trans s5;have s25:=s3.trans s35;have ZG:=s2.trans s25;unfold iU at post len;rw[hls]at post len;generalize hzs:(cG b t).zip (eZ b.length)=I at post len
  have ezp:∀i,i<=I.length->((I.take i).map (i4 l (kX g))).flatten.length<=((I.map (i4 l (kX g))).flatten).length:=λi _=>by
   have e:I.map (i4 l (kX g))=(I.take i).map (i4 l (kX g))++(I.drop i).map (i4 l (kX g)):=by rw[<- Tj,UD]
   rw[e,U1,M1];lia
  have lzp:I.length=b.length+1:=by rw[<- hzs,List.length_zip,ZU,lclos];lia
  let Zk:Nat->L2.St->Hp->Prop:=λi Y F=>∃(z8 z9 ZT Ze:Option V)(ks:List V),Y=[some v0,some v1,some v2,some (.ref lr),some (.ref lc),some (.ref lb),some (.ref lp),some (.int (pA g bv.length)),z8,z9,some (.ref lk),ZT,Ze]/\WV G F/\F lk=some (.lst ks)/\WU K F (((I.take i).map (i4 l (kX g))).flatten) ks;refine dI ⟨_,rfl,_,rfl,_,rfl,lr,lb,lc,rv,bv,cv,rfl,W2.of (ZG _ _ hrv),W2.of (s35 _ _ U),W2.of (s25 _ _ hcv),F6 (K:=K) (xs:=rv) (ys:=bv) (zs:=cv) Zk ⋯ ⋯ ?_ (λi Y F _ ⟨_,_,_,_,_,_,p1,_⟩=>⟨W2.of ((s2.trans (s3.trans (M.trans p1))) _ _ hrv),W2.of ((M.trans p1) _ _ U),W2.of ((s3.trans (M.trans p1)) _ _ hcv)⟩) ?_ ?_⟩
  ·exact⟨z8,z9,none,none,[],rfl,s5,hk5,by rw[US];exact WU.nil⟩
  ·rintro i u w c pp Y F2 hu hw z hpp ⟨z8,z9,ZT,Ze,ks,rfl,sF,hkF,dk⟩;have sn:WV F2 (upd F2 pp (.tup [u,w,c])):=aL hpp _;have sGn:=sF.trans sn;have s3n:=M.trans sGn;have ZE:=s3.trans s3n;have s1n:=s2.trans ZE;obtain⟨du,J,hdu⟩:=(s1n.W0 C).XI hu;obtain⟨dw,edw,hdw⟩:=(s3n.W0 dbv).XI hw;obtain⟨dc,L,hdc⟩:=(ZE.W0 O).XI z;rw[SR]at J edw L
   cases q:(cG b t)[i]? with
   |none=>rw[q]at J;cases J
   |some r =>
   cases hci:(eZ b.length)[i]? with
   |none=>rw[hci]at L;cases L
   |some ci =>
    rw[q]at J edw;rw[hci]at L;cases J;cases edw;cases L;obtain⟨qq,us,rfl,hqq,Zo⟩:=hdw.Xf;obtain⟨u1,c1,rfl,hu1,hc1⟩:=iF Zo;obtain⟨k1,k2,k3,k4⟩:=rok r (S4 q);obtain⟨es,hb,hlay,hle,l12⟩:=pG F (kX g) k1 k2;have hz:I[i]?=some (r,ci):=by rw[<- hzs,VM];exact⟨q,hci⟩
    have eb:i4 l (kX g) (r,ci)=es++[.int ci]:=by unfold i4;dsimp only;rw[hlay];rfl
    have et:((I.take (i+1)).map (i4 l (kX g))).flatten=((I.take i).map (i4 l (kX g))).flatten++(es++[.int ci]):=by rw[Ug,hz,Tj,U1];simp only[Option.toList_some,S8,UO,TV,List.flatten_nil,To,eb]
    have lt:=ezp (i+1) (S6.mp hz).1;rw[et,M1,M1]at lt;have lk1:=dk.length;have l1:([D.int ci]:List D).length=1:=rfl;have lks:ks.length+es.length+1<=10000:=by lia
    refine⟨pp,_,rfl,Xo.of aF,rfl,_,_,rfl,_,_,rfl,qq,_,rfl,hqq,rfl,_,_,rfl,_,_,rfl,rfl,_,_,rfl,rfl,?_⟩;dsimp only;refine dI (J6 (K:=K) (hV (R:=me 8) (iW (aB (k:=11) hdu) (gH (aW (k:=1) ((s1.trans s1n).ld h1)) (iW (aB (k:=9) hc1) (gH (aW (k:=6) (LD.of (sGn _ _ hpG) (sGn.W0 dy))) dS)))) ⟨l,kX g,r,_,rfl,F.ok,⟨F.la,by rw[lpl];exact k4⟩,k1,k2,⋯,k3,hlay⟩) (sn _ _ hkF) ⋯ λys2 G2 b2 hc2 dy2=>?_);have g2:eI K (upd F2 pp (.tup [u,.ref qq,c])) G2:=b2.grow (sn _ _ hkF) hc2;have ly2:=dy2.length;refine J3 (K:=K) (aB (k:=12) (Dat.mono g2 _ hdc)) hc2 (by rw[M1];lia) λy3 G3 b3 hc3 dy3=>?_;have g3:eI K G2 G3:=b3.grow hc2 hc3;refine⟨_,_,_,_,ks++ys2++[y3],rfl,λa o ha=>b3 a o (aN ha hlk) (b2 a o (aN ha hlk) (sGn _ _ ha)),hc3,?_⟩;rw[et,<- TJ];exact WU.append (WU.mono g3 _ (WU.append (WU.mono g2 _ (sn.W0 dk)) dy2)) (WU.cons dy3 WU.nil)
  ·rintro Y F2 ⟨z8,z9,ZT,Ze,ks,rfl,sF,hkF,dk⟩;dsimp only;rw[U5 ⋯]at dk;exact⟨_,rfl,post lk ks F2 (Xi.trans (M.trans sF)) hkF ((Xi.trans M).free hlk) dk⟩
end
section
variable{K:qs}
theorem ML(h:XJ x)(d:aP x=1):aM x=1:=by
 cases x with
 |num n=>rfl
 |arg n=>rfl
 |call n=>rfl
 |two o a b=>have:=e8 a;simp only[aP]at d;lia
 |pick a b c=>have:=e8 a;simp only[aP]at d;lia
def DN(K:qs):Sp:=λf H Q _=>∃(a t:Addr)(g:vc)(p q c:Int),f=[.ref a,.ref t]/\Zb K H a g/\H t=some (.lst [.int p,.int q,.int c])/\0<=p/\0<=c/\c<=60 /\
 ∀(v:V)(b:Hp)(X:Tr)(e h d:Int),Xb t H b->b t=some (.lst [.int e,.int h,.int d])->0<=e->0<=d->d<=c->XJ X->aP X<=3->aM X<=7->Dat K b (toD X) v->Q v b
theorem uT(T:Txt P w K mg)(N9:Ok P w base k T.N3 (nX K))(OK:Ok P w base k T.Od (qj K 4)):Ok P w base (k+1) T.O0 (DN K):=by
 refine Xd T.O0.f vp λO H Q E nd h=>?_;obtain⟨a,t,ns,p,q,c,rfl,hS,A,hp,hc,hc2,post⟩:=h;refine⟨rfl,λ_ _ _ _ hr=>⟨_,(aC (j9 (i:=2) (own:=["_law_k"]) (fr:=[0,1]) (N':=["_law_k","_law_script","_law_town"]) (iG rfl T.Pi (z1 aD)) rfl (by show iB ["_law_script","_law_town","_law_four"] (λx=>(aK lN).names.lookup x) _ _ _ _=true;decide +kernel) rfl (λ_ _ _ _ _=>(f9 (i:=0) (by show List.Nodup [("_law_k":Str),("_law_script":Str),("_law_town":Str)];decide +kernel) rfl (Or.inl rfl))) (λ_ _ _ _ _=>jx) (λ_ _ _ _ _=>(pc (D:=T.Od) OK hr (z3 (pv 1) (pv 2) aD))) nd rfl rfl rfl)
 (zr (aU (z3 (pc (D:=T.N3) N9 hr (z3 (pv 0) (pv 1) (bQ (z2 aI aI)))) (aU (z3 aI (a8 bY (pv 2) aD) (a8 bY (pv 2) aD))) (aU (z3 aI (a8 bY (pv 2) aD) (a8 bY (pv 2) aD))))))),?_⟩⟩
 dsimp only[XQ];show let W5:=_;a6 _ W5 _ _ _;intro W5
 refine eE (nT 4 (λR hR=>hR) ⋯ rfl
  (λl i n=>∃(y:List Tr)(g:List V)(B J r:Int),Xb t H n/\n t=some (.lst [.int B,.int J,.int r])/\0<=B/\0<=r/\r<=c/\n l=some (.lst g)/\y.length=i/\(∀x∈y,XJ x/\aP x=1/\aM x=1)/\WU K n (y.map toD) g) (λl d=>?_) (λl i n d hi pn=>?_) (λl n d pn=>?_))
 ·have C:l≠t:=λz=>by rw[z,A]at d;cases d
  exact⟨[],[],p,q,c,(aL d _).but,(by rw[aR (Tf C)];exact A),hp,hc,Ut _,aF,rfl,(λx hx=>absurd hx (by simp)),WU.nil⟩
 ·obtain⟨y,g,B,J,r,U,G,gp,gc,L,j,Y,I,dT⟩:=pn;have C:l≠t:=λz=>by rw[z,A]at d;cases d
  have ly:g.length=i:=by rw[<- dT.length,tB,Y]
  refine⟨_,rfl,_,rfl,a,t,ns,1,B,J,r,rfl,hS.but U A,G,gp,gc,⋯,⋯,⋯,λv G2 X p2 q2 c2 bb t2 g2 h2 h2' Xx ZQ szX dX=>?_⟩;have hl2:=bb l _ C j;have g1:eI K n G2:=bb.grow G t2;have g3:eI K G2 (upd G2 l (.lst (g++[v]))):=Xb.grow (t:=l) (Xb.upd (WV.refl G2).but) hl2 aF;refine⟨g,hl2,cU ⋯,⟨_,rfl⟩,y++[X],g++[v],p2,q2,c2,?_,?_,g2,h2,⋯,aF,by rw[M1,Y];rfl,?_,?_⟩
  ·intro b o hb M;have nb:b≠l:=aN M d;rw[aR nb];exact bb b o hb (U b o hb M)
  ·rw[aR (Tf C)];exact t2
  ·intro x hx;rcases Tq.mp hx with hx|hx
   ·exact I x hx
   ·rw[Tp.mp hx];have:=e8 X;have d1:aP X=1:=by lia
    exact⟨Xx,d1,ML Xx d1⟩
  ·rw[Tj];exact WU.append (WU.mono g3 _ (WU.mono g1 _ dT)) (WU.cons (Dat.mono g3 _ dX) WU.nil)
 obtain⟨y,g,B,J,r,U,G,gp,gc,L,j,Y,I,dT⟩:=pn
 match y,Y with
 |[a0,a1,a2,a3],_ =>
  obtain⟨k0,d0,z0⟩:=I a0 (by simp);obtain⟨k1,d1,z1⟩:=I a1 (by simp);obtain⟨k2,d2,z2⟩:=I a2 (by simp);obtain⟨k3,d3,z3⟩:=I a3 (by simp);have C:l≠t:=λz=>by rw[z,A]at d;cases d
  refine jM (KG (gZ (jf ?_)));refine⟨_,rfl,_,rfl,cK ⋯,λl2 hl2=>?_⟩;have N:l2≠t:=λz=>by rw[z,G]at hl2;cases hl2
  have b4:=U.trans (aL hl2 (.lst [.str "mul",.str "sub"])).but;have n2:l≠l2:=aN j hl2;refine⟨a,t,l2,ns,_,B,J,[.int r],rfl,hS.but b4 A,W2.of aF,N,⋯,⋯,(by rw[aR (Tf N)];exact G),gp,λi x H5 p5 q5 b5 t5 g5 hx=>?_⟩
  obtain⟨s,en,hnm⟩:∃s:Str,x=.str s/\(s="add"\/s="sub"\/s="mul"\/s="less"):=by
   have:=S4 hx;simp only[S0,Ti,T9]at this;rcases this with e|e
   ·exact⟨_,e,.inr (.inr (.inl rfl))⟩
   ·exact⟨_,e,.inr (.inl rfl)⟩
  subst en;have gG:eI K n H5:=((aL hl2 (.lst [.str "mul",.str "sub"])).but.trans b5).grow G t5;have ZN:H5 l=some (.lst g):=b5 _ _ C (by rw[aR n2];exact j);have hL:LD K H5 ([a0,a1,a2,a3].map toD) (.ref l):=LD.of ZN (WU.mono gG _ dT);have rr:∀{tA:TA}{σ:L2.St}{H:Hp}{ds:List D}{Q:List V->Hp->Prop},RA K tA σ H ds->(∀O H',WV H H'->WU K H' ds O->Q O H')->tA σ H Q:=λh q=>h _ (WV.refl _) _ q;refine rr (ds:=[.tup [.str "sub",toD a0,toD a1],.tup [.str "less",toD a2,toD a3]]) (aA (aZ (aA aJ (aA (gP (k:=0) (aW (k:=2) hL) aE rfl) (aA (gP (k:=1) (aW (k:=2) hL) aE rfl) aG)))) (aA (aZ (aA aJ (aA (gP (k:=2) (aW (k:=2) hL) aE rfl) (aA (gP (k:=3) (aW (k:=2) hL) aE rfl) aG)))) aG)) λO H6 s6 q6=>?_;obtain⟨u1,u2,rfl,e1,e2⟩:=iF q6;refine⟨cK (by simp),λu hu=>?_⟩;have s7:=s6.trans (aL hu (.tup [.str s,u1,u2]));refine post (.ref u) _ (.two s (.two "sub" a0 a1) (.two "less" a2 a3)) p5 q5 r ((b4.trans b5).trans s7.but) (s7 _ _ t5) g5 gc L ⟨hnm,⟨.inr (.inl rfl),k0,k1⟩,⟨.inr (.inr (.inr rfl)),k2,k3⟩⟩ (by simp only[aP];lia) (by simp only[aM];lia) ?_;exact Dat.tupI (Xo.of aF) (WU.cons (Dat.Xn _) ((aL hu _).W0 q6))
noncomputable abbrev FM(X Y Z M:Tr):List Tr:=[(.two "add" X X),(.two "mul" (.two "sub" X Y) X),(.pick X Y X),(.two "less" Y X),(.two "add" (.two "mul" X X) (.two "sub" X Y)),(.two "sub" (.two "add" X (.num 1)) X),(.two "add" Z Z),(.two "add" (.two "mul" Z Z) (.two "sub" Z (.arg 0))),(.two "less" (.two "add" Z Z) (.two "sub" M M)),(.pick Z Z (.num 5))]
theorem Zm(c:aP a<=n)(d:aP b<=n):aP (.two o a b)<=n+1:=U4 (Nat.max_le.mpr ⟨c,d⟩)
theorem dp3(d:aP a<=n)(e:aP b<=n)(f:aP c<=n):aP (.pick a b c)<=n+1:=U4 (Nat.max_le.mpr ⟨d,Nat.max_le.mpr ⟨e,f⟩⟩)
theorem Mv(x:aP X<=4)(y:aP Y<=4)(z:aP Z<=4)(m:aP M<=4):∀W∈FM X Y Z M,aP W<=6:=by
 have k:∀{W:Tr},aP W<=5->aP W<=6:=λh=>VZ h;have o:∀n:Int,aP (.num n)<=4:=λ_=>by simp[aP]
 have r:∀n:Int,aP (.arg n)<=4:=λ_=>by simp[aP]
 have j:∀{W:Tr},aP W<=4->aP W<=5:=λh=>VZ h;intro W a;simp only[FM,S0,Ti,T9]at a;rcases a with rfl|rfl|rfl|rfl|rfl|rfl|rfl|rfl|rfl|rfl
 ·exact k (Zm x x)
 ·exact Zm (Zm x y) (j x)
 ·exact k (dp3 x y x)
 ·exact k (Zm y x)
 ·exact Zm (Zm x x) (Zm x y)
 ·exact Zm (Zm x (o 1)) (j x)
 ·exact k (Zm z z)
 ·exact Zm (Zm z z) (Zm z (r 0))
 ·exact Zm (Zm z z) (Zm m m)
 ·exact k (dp3 z z (o 5))
theorem Mx(b:aM X+aM Y<=11)(z3:aM Z<=7)(c:aM M<=7):∀W∈FM X Y Z M,aM W<=40:=by
 have d:1<=aM Y:=by cases Y<;>simp[aM]
 intro W a;simp only[FM,S0,Ti,T9]at a;rcases a with rfl|rfl|rfl|rfl|rfl|rfl|rfl|rfl|rfl|rfl<;>simp only[aM]<;>lia
theorem Mw(b:XJ X)(c:aP X<=4)(d:XJ Y)(e:aP Y<=4)(f:aM X+aM Y<=11)(z1:XJ Z)(z2:aP Z<=3)(z3:aM Z<=7)(g:XJ M)(h:aP M<=3)(i:aM M<=7):∀W∈FM X Y Z M,XJ W/\aP W<=8/\aM W<=40:=by intro W a;refine⟨?_,Tz (Mv c e (VZ z2) (VZ h) W a) ⋯,Mx f z3 i W a⟩;simp only[FM,S0,Ti,T9]at a;rcases a with rfl|rfl|rfl|rfl|rfl|rfl|rfl|rfl|rfl|rfl<;>simp[XJ,b,d,z1,g]
def HK(K:qs):Sp:=λf H Q _=>∃(a t:Addr)(g:vc)(p q c:Int),f=[.ref a,.ref t]/\Zb K H a g/\H t=some (.lst [.int p,.int q,.int c])/\0<=p/\0<=c/\c<=3 /\
 ∀(v:V)(b:Hp)(X:Tr)(e h d:Int),Xb t H b->b t=some (.lst [.int e,.int h,.int d])->0<=e->0<=d->d<=c->XJ X->aP X<=8->aM X<=40->Dat K b (toD X) v->Q v b
theorem rn(T:Txt P w K mg)(N9:Ok P w base k T.N3 (nX K))(OK:Ok P w base k T.Od (qj K 4))(Qw:Ok P w base k T.O0 (DN K)):Ok P w base (k+1) T.OZ (HK K):=by
 refine Xd T.OZ.f rE λvs H Q E nd h=>?_;obtain⟨a,t,J,p,q,c,rfl,L,N,hp,hc,hc2,post⟩:=h;refine⟨rfl,λ_ _ _ _ O=>⟨_,(aC (nR (i:=2) (j:=3) rfl nd rfl rfl ⋯ rfl rfl (z2 (pc (D:=T.Od) OK O (z3 (pv 0) (pv 1) aD)) (pc (D:=T.Od) OK O (z3 (pv 0) (pv 1) aD))) (by kernel_rfl))
 (aC (zs 4 nd (bQ (z3 (aU (z3 aI (pv 2) (pv 2))) (aU (z3 aI (aU (z3 aI (pv 2) (pv 3))) (pv 2))) (aU (aY aI (aY (pv 2) (aY (pv 3) (aY (pv 2) a7))))))))
 (aC (bK (dW Tg Us Ux gI (pv 4) (z1 (bQ (z1 (aU (z3 aI (pv 3) (pv 2))))))))
 (aC (bK (dW Tg Us Ux gI (pv 4) (z1 (bQ (z2 (aU (z3 aI (aU (z3 aI (pv 2) (pv 2))) (aU (z3 aI (pv 2) (pv 3))))) (aU (z3 aI (aU (z3 aI (pv 2) (aU (z2 aI aD)))) (pv 2))))))))
 (aC (nR (i:=5) (j:=6) rfl nd rfl rfl ⋯ rfl rfl (z2 (pc (D:=T.O0) Qw O (z2 (pv 0) (pv 1))) (pc (D:=T.O0) Qw O (z2 (pv 0) (pv 1)))) (by kernel_rfl))
 (aC (bK (dW Tg Us Ux gI (pv 4) (z1 (bQ (z2 (aU (z3 aI (pv 5) (pv 5))) (aU (z3 aI (aU (z3 aI (pv 5) (pv 5))) (aU (z3 aI (pv 5) (aU (z2 aI aD)))))))))))
 (aC (bK (dW Tg Us Ux gI (pv 4) (z1 (bQ (z2 (aU (z3 aI (aU (z3 aI (pv 5) (pv 5))) (aU (z3 aI (pv 6) (pv 6))))) (aU (aY aI (aY (pv 5) (aY (pv 5) (aY (aU (z2 aI aD)) a7))))))))))
 (zr (pc (D:=T.N3) N9 O (z3 (pv 0) (pv 1) (pv 4))))))))))),?_⟩⟩
 dsimp only[XQ];show let W5:=a6 _ _;let Xc:=a6 _ W5;let Xv:=a6 _ Xc;let XF:=a6 _ Xv;let X6:=a6 _ XF;let YC:=a6 _ X6;a6 _ YC _ _ _;intro W5 Xc Xv XF X6 YC;refine dI (gZ (jf ?_));refine⟨_,rfl,_,rfl,a,t,J,4,p,q,c,rfl,L,N,hp,hc,⋯,⋯,⋯,λva G2 X p2 q2 c2 b2 t2 g2 gc2 gd2 Xx ZQ szX dX=>gZ (jf ?_)⟩;refine⟨_,rfl,_,rfl,a,t,J,3,p2,q2,c2,rfl,L.but b2 N,t2,g2,gc2,⋯,⋯,⋯,λvb G3 Y p3 q3 c3 b3 t3 g3 gc3 gd3 okY dpY szY dY=>⟨va,vb,rfl,?_⟩⟩;dsimp only;have b:=Dat.mono (b3.grow t2 t3) _ dX;have n:=dY;have u:=b2.trans b3;refine fG (K:=K) (es:=([(.two "add" X X),(.two "mul" (.two "sub" X Y) X),(.pick X Y X)]:List Tr).map toD) (fY (aA (aZ (aA aJ (aA (aB (k:=2) b) (aA (aB (k:=2) b) aG)))) (aA (aZ (aA aJ (aA (aZ (aA aJ (aA (aB (k:=2) b) (aA (aB (k:=3) n) aG)))) (aA (aB (k:=2) b) aG)))) (aA (aZ (aA aJ (aA (aB (k:=2) b) (aA (aB (k:=3) n) (aA (aB (k:=2) b) aG))))) aG)))) λlf y1 G4 g U hf d1=>?_;have v:lf≠t:=λz=>by rw[z,t3]at g;cases g
 have l1:=d1.length;have l1:3=y1.length:=l1;have bt4:=u.trans U.but;have t4:=U _ _ t3;have b:=U.dat b;have n:=U.dat n;refine rW (K:=K) (es:=([(.two "less" Y X)]:List Tr).map toD) (aA (aZ (aA aJ (aA (aB (k:=3) n) (aA (aB (k:=2) b) aG)))) aG) hf ⋯ λy2 G5 b5 y d2=>?_;have g5:eI K G4 G5:=b5.grow hf y;have l2:=d2.length;have l2:1=y2.length:=l2;have b:=Dat.mono g5 _ b;have n:=Dat.mono g5 _ n;refine rW (K:=K) (es:=([(.two "add" (.two "mul" X X) (.two "sub" X Y)),(.two "sub" (.two "add" X (.num 1)) X)]:List Tr).map toD) (aA (aZ (aA aJ (aA (aZ (aA aJ (aA (aB (k:=2) b) (aA (aB (k:=2) b) aG)))) (aA (aZ (aA aJ (aA (aB (k:=2) b) (aA (aB (k:=3) n) aG)))) aG)))) (aA (aZ (aA aJ (aA (aZ (aA aJ (aA (aB (k:=2) b) (aA (aZ (aA aJ (aA aE aG))) aG)))) (aA (aB (k:=2) b) aG)))) aG)) y (by rw[M1];lia) λy3 G6 b6 hf6 d3=>?_;have g6:eI K G5 G6:=b6.grow y hf6;have l3:=d3.length;have l3:2=y3.length:=l3;have t6:=b6 _ _ (Tf v) (b5 _ _ (Tf v) t4);have A:=WU.append (WU.mono g6 _ (WU.append (WU.mono g5 _ d1) d2)) d3
 have bt6:Xb t H G6:=λx o I l=>by have z:=u x o I l;have nx:x≠lf:=aN z g;exact b6 x o nx (b5 x o nx (U _ _ z))
 refine dI (gZ (jf ?_));refine⟨_,rfl,_,rfl,a,t,J,p3,q3,c3,rfl,L.but bt6 N,t6,g3,gc3,⋯,λvz G7 Z p7 q7 c7 b7 t7 g7 gc7 gd7 okZ dpZ szZ dZ=>gZ (jf ?_)⟩;have bt7:=bt6.trans b7;refine⟨_,rfl,_,rfl,a,t,J,p7,q7,c7,rfl,L.but bt7 N,t7,g7,gc7,⋯,λvm G8 M p8 q8 c8 b8 t8 g8 gc8 gd8 okM dpM szM dM=>⟨vz,vm,rfl,?_⟩⟩;dsimp only;have bt8:=bt7.trans b8;have hf8:=b8 _ _ v (b7 _ _ v hf6);have A:=WU.mono (b8.grow t7 t8) _ (WU.mono (b7.grow t6 t7) _ A);have e:=Dat.mono (b8.grow t7 t8) _ dZ;have hM:=dM;refine rW (K:=K) (es:=([(.two "add" Z Z),(.two "add" (.two "mul" Z Z) (.two "sub" Z (.arg 0)))]:List Tr).map toD) (aA (aZ (aA aJ (aA (aB (k:=5) e) (aA (aB (k:=5) e) aG)))) (aA (aZ (aA aJ (aA (aZ (aA aJ (aA (aB (k:=5) e) (aA (aB (k:=5) e) aG)))) (aA (aZ (aA aJ (aA (aB (k:=5) e) (aA (aZ (aA aJ (aA aE aG))) aG)))) aG)))) aG)) hf8 (by rw[M1,M1];lia) λy4 G9 b9 B d4=>?_;have g9:eI K G8 G9:=b9.grow hf8 B;have l4:=d4.length;have l4:2=y4.length:=l4;have e:=Dat.mono g9 _ e;have hM:=Dat.mono g9 _ hM;refine rW (K:=K) (es:=([(.two "less" (.two "add" Z Z) (.two "sub" M M)),(.pick Z Z (.num 5))]:List Tr).map toD) (aA (aZ (aA aJ (aA (aZ (aA aJ (aA (aB (k:=5) e) (aA (aB (k:=5) e) aG)))) (aA (aZ (aA aJ (aA (aB (k:=6) hM) (aA (aB (k:=6) hM) aG)))) aG)))) (aA (aZ (aA aJ (aA (aB (k:=5) e) (aA (aB (k:=5) e) (aA (aZ (aA aJ (aA aE aG))) aG))))) aG)) B (by rw[M1,M1,M1];lia) λy5 C G r d5=>?_;have g10:eI K G9 C:=G.grow B r;have l5:=d5.length;have l5:2=y5.length:=l5;have t10:=G _ _ (Tf v) (b9 _ _ (Tf v) t8);have dF:WU K C ((FM X Y Z M).map toD) (y1++y2++y3++y4++y5):=WU.append (WU.mono g10 _ (WU.append (WU.mono g9 _ A) d4)) d5
 have s:Xb t H C:=λx o I l=>by have z:=u x o I l;have nx:x≠lf:=aN z g;exact G x o nx (b9 x o nx (bt8 x o I l))
 refine jM (jf ?_);refine⟨_,rfl,_,rfl,_,rfl,a,t,lf,J,_,p8,q8,[.int c8],rfl,L.but s N,W2.of r,v,by rw[<- dF.length];simp,by rw[<- dF.length];simp,t10,g8,λi x G11 p11 q11 b11 t11 g11 I=>?_⟩;obtain⟨d,ed,hd⟩:=dF.XI I;rw[SR]at ed
 cases hw:(FM X Y Z M)[i]? with
 |none=>rw[hw]at ed;cases ed
 |some W =>rw[hw]at ed;cases ed;obtain⟨w1,w2,w3⟩:=Mw Xx ⋯ okY ⋯ ⋯ okZ dpZ szZ okM dpM szM W (S4 hw);exact post x G11 W p11 q11 c8 (s.trans b11) t11 g11 gc8 ⋯ w1 w2 w3 (Dat.mono (b11.grow t10 t11) _ hd)
noncomputable def Jg(c:List Tr)(t:Tr):Bool:=(c.map toD).any λe=>W6 e (toD t)
theorem mem_iff:Jg c t=true↔t∈c:=by unfold Jg;rw[Vy,Wa];exact⟨λ⟨x,a,e⟩=>by rw[<- pf x t e];exact a,λh=>⟨t,h,gC _ (eH t)⟩⟩
theorem kU:∀(t x:Tr),XJ t->x∈aS t->XJ x
 | .num n,x,k,h=>by
  have e:x=.num n:=by simpa[aS]using h
  subst e;exact k
 | .arg n,x,k,h=>by
  have e:x=.arg n:=by simpa[aS]using h
  subst e;exact k
 | .call n,x,k,h=>k.elim
 | .two o a b,x,k,h=>by
  simp only[aS,S0,Tq]at h;rcases h with rfl|h|h
  ·exact k
  ·exact kU a x k.2.1 h
  ·exact kU b x k.2.2 h
 | .pick a b c,x,k,h=>by
  simp only[aS,S0,Tq]at h;rcases h with rfl | (h|h)|h
  ·exact k
  ·exact kU a x k.1 h
  ·exact kU b x k.2.1 h
  ·exact kU c x k.2.2 h
def MF(a:List D)(d:D):Prop:=∃x,a=[x]/\jk x=true/\d=.W3
theorem zG(F:gdS b)(a:vc):∀{rs:List Tr}{cs:vc},rs.length=cs.length->(∀r∈rs,Xx r/\aP r<=8/\aM r<=40)->((((rs.zip cs).map (i4 b a)).flatten.length:Nat):Int)=(rs.map λr=>(Yl b r).1+1).sum/\((rs.zip cs).map (i4 b a)).flatten.length<=481*rs.length
 |[],[],_,_=>⟨rfl,Uk _⟩
 |[],c::cs,h,_=>by cases h
 |r::rs,[],h,_=>by cases h
 |r::rs,c::cs,h,ok=>by
  obtain⟨d,e,l⟩:=ok r Tn;obtain⟨f,_,g,n,o⟩:=pG F a d e;obtain⟨p,q⟩:=zG F a (rs:=rs) (cs:=cs) (by simpa using h) λx i=>ok x (Th _ i);have j:i4 b a (r,c)=f++[.int c]:=by unfold i4;dsimp only;rw[g];rfl
  rw[List.zip_cons_cons,S8,TV,M1,j,M1,S8,Vf];have s:([D.int c]:List D).length=1:=rfl;refine⟨⋯,?_⟩;show _<=481*(rs.length+1);lia
theorem tQ(F:gdS e)(f:YG d)(g:XJ t)(h:aP t<=8)(i:aM t<=40):((iU e d t).length:Int)=((cG d t).map λr=>(Yl e r).1+1).sum/\(iU e d t).length<=10000:=by
 have z:=zG F (kX ((cG d t).map λr=>(Yl e r).1)) (rs:=cG d t) (cs:=eZ d.length) (by rw[gT,oz]) λr j=>by obtain⟨a,b,c,_⟩:=iX f g h i r j;exact⟨a,b,c⟩
 have l:=f.few;rw[gT]at z;exact⟨z.1,by unfold iU;lia⟩
def Bs(as:List Ar)(c:List D):Prop:=∃(b:List Pc)(a:List Tr)(t:Tr),as=[.d (toD t),.l (b.map XX),.l (a.map toD)]/\gdS b/\XJ t/\aP t<=8/\aM t<=40/\YG a/\(∀p∈a,p∈aS t)/\a.Nodup/\c=iU b a t
theorem AE(T:Txt P w K mg)(x:Ok P w base k T.PN (Xp K MF))(y:Ok P w base k T.P0 (Yi K Bv))(z:Ok P w base k T.Pm (Yi K Bu))(A:Ok P w base k T.PH (mS K Ft)):Ok P w base (k+1) T.PZ (mS K Bs):=by
 refine Xd T.PZ.f Be λvs H Q E nd h=>?_;obtain⟨as,es,B,⟨p,q,t,rfl,F,e,g,i,r,s,u,rfl⟩,post⟩:=h;obtain⟨C,G,I,rfl,b,j,n⟩:=Iq B;have b:Dat K H (toD t) C:=b;have j:LD K H (p.map XX) G:=j;have n:LD K H (q.map toD) I:=n;refine⟨rfl,λ_ _ _ _ o=>⟨_,(aC (bK (pc (D:=T.PN) x o (z1 (pv 0))))
 (aC (bK (pc (D:=T.P0) y o (z1 (pv 1))))
 (aC (bK (pc (D:=T.Pm) z o (z2 (pv 2) (pv 0))))
 (zr (pc (D:=T.PH) A o (z3 (pv 0) (pv 1) (pv 2))))))),?_⟩⟩
 refine jg (RE.use (bJ (R:=MF) (d:=.W3) (aA (aB (K:=K) (k:=0) b) aG) ⟨toD t,rfl,DX e g i,rfl⟩) λv4 H1 v _=>?_);refine jg (RE.use (eR (R:=Bv) (d:=.W3) (gH (aW (K:=K) (k:=1) (v.ld j)) dS) ⟨p,rfl,F.gs,rfl⟩) λv5 H2 J _=>?_);have a:=v.trans J;refine jg (RE.use (eR (R:=Bu) (d:=.W3) (gH (aW (K:=K) (k:=2) (a.ld n)) (iW (aB (k:=0) (a.dat b)) dS)) ⟨t,q,rfl,e,g,i,r,s,u,rfl⟩) λv6 H3 L _=>?_);have c:=a.trans L;exact jM (RC.use (K:=K) (hV (R:=Ft) (iW (aB (k:=0) (c.dat b)) (gH (aW (k:=1) (c.ld j)) (gH (aW (k:=2) (c.ld n)) dS))) ⟨p,q,t,rfl,F,e,g,i,r,rfl,(tQ F r e g i).2⟩) λl M N O U Y dy=>post l M N (c.trans U) Y (c.free O) dy)
theorem jY:∀t:Tr,(aS t).length=aM t
 | .num _=>rfl
 | .arg _=>rfl
 | .call _=>rfl
 | .two o a b=>by simp only[aS,aM,SX,M1,jY a,jY b]
 | .pick a b c=>by simp only[aS,aM,SX,M1,jY a,jY b,jY c]
def KP(K:qs):Sp:=λg H Q _=>∃(a t:Addr)(h:vc)(X:Tr)(d:V)(m:Nat)(p q:Int)(rest:List V),g=[.ref a,.ref t,d,.int m]/\Zb K H a h/\Dat K H (toD X) d/\XJ X/\aP X<=8/\aM X<=40/\1<=m/\m<=3/\H t=some (.lst (.int p::.int q::rest))/\0<=p /\
 ∀(b:List Tr)(l:Addr)(e:List V)(c:Hp)(f i:Int),Xb t H c->c t=some (.lst (.int f::.int i::rest))->0<=f->H l=none->c l=some (.lst e)->WU K c (b.map toD) e->(∀x∈b,x∈aS X)->b.Nodup->1<=b.length->b.length<=3->Q (.ref l) c
theorem tS(X:Tr)(h:aP X<=8){b:List Tr}(a:∀x∈b,x∈aS X):WZ (b.map toD)<=20:=Tz (jV (n:=8) _ λx c=>Tz (fE X x (a x c)).2 h) ⋯
theorem tM(T:Txt P w K mg)(N9:Ok P w base k T.N3 (nX K))(PR:Ok P w base k T.Ot (jR K (i7 8))):Ok P w base (k+1) T.O9 (KP K):=by
 refine Xd T.O9.f uy λvs H Q E nd h=>?_;obtain⟨a,t,ns,X,v2,m,p,q,rest,rfl,hS,hX,Xx,ZQ,szX,m1,m3,hT,hp,post⟩:=h;refine⟨rfl,λ_ _ _ _ C=>⟨_,(aC (zs 4 nd (bQ a7))
 (aC (iD Uc rfl (iG rfl T.Pi (z1 (pv 3))) (zg 5 nd) (aC (zs 6 nd (pc (D:=T.N3) N9 C (z3 (pv 0) (pv 1) (pc (D:=T.Ot) PR C (z1 (pv 2))))))
 (aX (bA (zt (show XG _ _ (B7 K true) from pS C) (pv 6) (pv 4)) (aX (bK (dW Tg TU TZ cC (pv 4) (z1 (pv 6))))) aO))))
 (zr (pv 4)))),?_⟩⟩
 dsimp only[XQ];show let W5:=a6 _ _;let Xc:=a6 (Bk _ _ W5) _;a6 _ Xc _ _ _;intro W5 Xc;refine eE ⟨cK ⋯,λl O=>?_⟩;have nl:l≠t:=λz=>by rw[z,hT]at O;cases O
 refine dI ⟨_,rfl,(m:Int),rfl,⋯,⋯,?_⟩;rw[UJ];let Zk:Nat->L2.St->Hp->Prop:=λi σ G=>∃(z5 z6:Option V)(c:List Tr)(I:List V)(M U:Int),σ=[some (.ref a),some (.ref t),some v2,some (.int m),some (.ref l),z5,z6]/\Xb t H G/\G t=some (.lst (.int M::.int U::rest))/\0<=M/\G l=some (.lst I)/\WU K G (c.map toD) I/\(∀x∈c,x∈aS X)/\c.Nodup/\(0<i->1<=c.length)/\c.length<=i;refine mX (n:=m) Zk ?_ ?_ ?_
 ·exact⟨none,none,[],[],p,q,rfl,(aL O _).but,(by rw[aR (Tf nl)];exact hT),hp,aF,WU.nil,(λx hx=>(nomatch hx)),List.nodup_nil,(λh=>absurd h ⋯),SY _⟩
 ·rintro i σ G hi ⟨z5,z6,c,I,M,U,rfl,N,J,gp,s,dG,g,v,B,hle⟩;refine jQ ?_;dsimp only;have hXG:Dat K G (toD X) v2:=Dat.mono (N.grow hT J) _ hX;refine eE (jf ⟨_,rfl,_,rfl,gZ (RC.use (K:=K) (lJ (R:=i7 8) (aA (aB (k:=2) hXG) aG) ⟨X,rfl,qH Xx,ZQ,⋯,rfl⟩) λlw xs G1 A Y hxs dxs=>?_)⟩);have nlw:lw≠t:=λz=>by rw[z,J]at A;cases A
  have nll:lw≠l:=λz=>by rw[z,s]at A;cases A
  have lx:=dxs.length;rw[tB,jY]at lx;have sz1:1<=aM X:=by cases X<;>simp[aM]
  refine⟨a,t,lw,ns,xs,M,U,rest,rfl,(hS.but N hT).same Y,W2.of hxs,nlw,⋯,⋯,Y _ _ J,gp,λj x G2 p2 q2 b2 t2 g2 hx=>?_⟩;obtain⟨d,ed,hd⟩:=dxs.XI hx;rw[SR]at ed
  cases C:(aS X)[j]? with
  |none=>rw[C]at ed;cases ed
  |some y =>
   rw[C]at ed;cases ed;have L:=Y.but.trans b2;have gg:eI K G G2:=L.grow J t2;have hy2:Dat K G2 (toD y) x:=Dat.mono (b2.grow (Y _ _ J) t2) _ hd;have hl2:=b2 _ _ nl (Y _ _ s);have d2:=WU.mono gg _ dG;refine iH (b:=!Jg c y) (RT.as (aH (pX (K:=K) (neg:=true) (aB (k:=6) hy2) (aW (k:=4) (LD.of hl2 d2)) (iR c) (eH y) (tS X ZQ g))) rfl) (λe G3 r=>?_) (λe G3 r=>m7 ?_)
   ·have ny:y∉c:=λh=>by rw[mem_iff.mpr h]at e;cases e
    have hl3:=r _ _ hl2;refine yH (K:=K) (aB (k:=6) (r.dat hy2)) hl3 (by rw[<- d2.length,tB];lia) λz G4 b4 hl4 q4=>?_;have g4:eI K G3 G4:=b4.grow hl3 hl4;refine⟨_,_,c++[y],I++[z],p2,q2,rfl,λu o hu ho=>?_,b4 _ _ (Tf nl) (r _ _ t2),g2,hl4,?_,?_,?_,?_,?_⟩
    ·exact b4 u o (aN ho O) (r _ _ (L u o hu (N u o hu ho)))
    ·rw[Tj];exact WU.append (WU.mono g4 _ (r.W0 d2)) (WU.cons q4 WU.nil)
    ·intro u hu;rcases Tq.mp hu with hu|hu
     ·exact g u hu
     ·rw[Tp.mp hu];exact S4 C
    ·rw[List.nodup_append];refine⟨v,by simp,λu hu w hw e=>ny ?_⟩;rw[<- Tp.mp hw,<- e];exact hu
    ·intro _;rw[M1];exact Nat.le_add_left _ _
    ·rw[M1,Vx];lia
   ·have hy:y∈c:=mem_iff.mp (by cases h:Jg c y with|true=>rfl|false=>rw[h]at e;cases e);refine⟨_,_,c,I,p2,q2,rfl,N.trans (L.trans r.but),r _ _ t2,g2,r _ _ hl2,r.W0 d2,g,v,λ_=>List.length_pos_of_mem hy,⋯⟩
 ·rintro σ G ⟨z5,z6,c,I,M,U,rfl,N,J,gp,s,dG,g,v,B,hle⟩;dsimp only;exact⟨_,rfl,post c l I G M U N J gp O s dG g v (B m1) ⋯⟩
end
section
noncomputable def two(o:Str)(x y b:Int):Int:=if o="less" then (if x<y then 1 else 0)else if o="add" then (x+y)%b else if o="sub" then (x - y)%b else x*y%b
theorem jK(a:2<=b):0<=two o x y b/\two o x y b<b:=by
 unfold two;split
 ·split<;>lia
 ·split
  ·exact⟨Ub _ ⋯,T6 _ ⋯⟩
  ·split
   ·exact⟨Ub _ ⋯,T6 _ ⋯⟩
   ·exact⟨Ub _ ⋯,T6 _ ⋯⟩
def Fu(a:List D)(d:D):Prop:=∃s m,a=[.int s,.int m]/\2<=s/\s<=m/\d=.W3
def Fj(a:List D)(d:D):Prop:=∃(as:vc)(s:Int),a=[.tup (as.map D.int),.int s]/\as.length=4/\(∀x∈as,0<=x/\x<s)/\d=.W3
def Kl(a:List D)(d:D):Prop:=∃o x y b,a=[.str o,.int x,.int y,.int b]/\2<=b/\b<=10000/\0<=x/\x<b/\0<=y/\y<b/\d=.int (two o x y b)
variable{K:qs}
theorem Kp(h:WU K H [a,b,c,e] d):∃u v w x,d=[u,v,w,x]/\Dat K H a u/\Dat K H b v/\Dat K H c w/\Dat K H e x:=by obtain⟨u,r,e,f,h⟩:=h.Xu;obtain⟨v,w,x,q,g⟩:=vU h;subst q e;exact⟨u,v,w,x,rfl,f,g⟩
theorem Hv(h:RA K c f H a)(g:∀H,WU K H b i)(e:R (a++b) d):RE K (lg (Xp K R) i E c) f H d:=λj s Q q =>
 h j s _ λr t l n=>⟨a++b,d,WU.append n (g _),e,λv u o p=>q _ _ (l.trans o) p⟩
theorem yj(T:Txt P w K mg)(f:Ok P w base k T.NY (Xp K f6)):Xj P w K mg base Yg (k+1) T.Pu T.Pw ["size","most"] (Xp K Fu):=by
 refine T.Px.ok Ys (λg H Q E h=>?_) (λi A outer s H g Q E j h=>?_)
 ·obtain⟨l,d,a,⟨s,m,rfl,_⟩,_⟩:=h;exact a.length.symm
 have t:=Ys.nd;obtain⟨l,d,a,⟨s,m,rfl,n,o,rfl⟩,post⟩:=h;obtain⟨u,v,rfl,p,q⟩:=iF a;refine⟨_,(aX (bA (cI (bL (pc (D:=T.NY) f j (z3 (pv 0) aD (pv 1))) (λ_=>rfl))) (aX cZ) aO)),?_⟩;refine iH (b:=!dN (.int s) 2 m) (bR (bI (bJ (aA (aB p) (aA aE (aA (aB q) aG))) ⟨_,_,_,rfl,rfl⟩))) (λc r e=>?_) (λc r e=>?_)
 ·simp[dN,n,o]at c
 ·exact post _ _ e Dat.Y3
theorem yh(T:Txt P w K mg)(t:Ok P w base k T.NY (Xp K f6)):Ok P w base (k+1) T.PM (Xp K Fj):=by
 refine Xd T.PM.f y8 λI H Q E J h=>?_;obtain⟨L,d,u,⟨as,s,rfl,y,z,rfl⟩,post⟩:=h;obtain⟨M,N,rfl,j,A⟩:=iF u;refine⟨rfl,λ_ _ _ _ B=>⟨_,(aC (bA (PW.pt (fH (cI (bL (aV (fU mq) rfl T.N4 cH (cO (pv 0) (cO (gS (v:=.ty "tuple") rfl T.Os fC rfl) a7))) (λ_=>rfl))) (eV (zt lU (aV aQ rfl T.NZ bP (z1 (pv 0))) (bO (v:=.int 4) rfl T.Rx ⟨_,rfl⟩))))) (aX cZ) aO)
 (aX (bA (cI (bL (aV (iO rfl) rfl T.Qx lB (z1 (zc [1] ["number","size"] (kH (pv 0)) (λ_ _ _ _ _=>(pc (D:=T.NY) t B (z3 (pv 0) aD (bF nQ (pv 1) aD))))))) (λ_=>rfl))) (aX cZ) aO))),?_⟩⟩
 dsimp only[XQ];show let q:=_;a6 _ q _ _ _;intro q;refine aT (K:=K) (b:=false) ?_ (λc=>nomatch c) (λ_ O l=>?_)
 ·refine RT.as (dJ (bR (bI (cR (aB j)))) λ_=>aH (kJ (fZ (aB j)) aE)) ?_;rw[tB,y];rfl
 have n:=l.dat j;have o:=l.dat A;refine iH (b:=!(as.map λ_=>true).all id) (bR (bI (Cb (aB n) (by rw[tB];lia) (as.map λ_=>true) (by simp) rfl (λr i c v b g a e C=>?_)))) (λc r g=>?_) (λc r g=>?_)
 ·rw[SR]at a e
  cases p:as[i]? with
  |none=>rw[p]at a;cases a
  |some x =>
   rw[p]at a e;cases a;cases e;have e:=z x (S4 p);refine RE.as (bJ (R:=f6) (aA (aB C) (aA aE (aA (uc (aB (g.dat o)) aE) aG))) ⟨_,_,_,rfl,rfl⟩) ?_;have G:x<=s - 1:=by lia
   simp[dN,e.1,G]
 ·simp at c
 ·exact post _ _ (l.trans g) Dat.Y3
theorem pR(T:Txt P w K mg)  : Ok P w base (k+1) T.OJ (Xp K Kl):=by
 refine Xd T.OJ.f qg λvs H Q E nd h=>?_;obtain⟨ds,d,I,⟨o,x,y,b,rfl,hb,J,hx,L,hy,M,rfl⟩,post⟩:=h;obtain⟨v0,v1,v2,v3,rfl,t,n,r,u⟩:=Kp I;refine⟨rfl,λ_ _ _ _ hr=>⟨_,(aC (bA (zt cE (pv 0) aI) (zr (gF (zt kT (pv 1) (pv 2)) aD aD)) aO)
 (aC (bA (zt cE (pv 0) aI) (zr (bF fI (bF cJ (pv 1) (pv 2)) (pv 3))) aO)
 (aC (bA (zt cE (pv 0) aI) (zr (bF fI (bF nQ (pv 1) (pv 2)) (pv 3))) aO)
 (zr (bF fI (bF nP (pv 1) (pv 2)) (pv 3)))))),?_⟩⟩
 show let C:=a6 _ _;a6 _ C _ _ _;intro C;refine aT (K:=K) (b:=decide (o="less")) (aH (bN (aB t) aJ)) (λc N a=>?_) (λc N a=>?_)
 ·refine bE (K:=K) (d:=.int (two o x y b)) ?_ λv z s q=>post v z (a.trans s) q;have e:two o x y b=if x<y then 1 else 0:=by unfold two;rw[SV (S1 c)]
  rw[e];refine qJ (b:=decide (x<y)) (aH (cP (p:=λi j=>decide (i<j)) (aB (a.dat n)) (aB (a.dat r)))) (λA=>?_) (λA=>?_)
  ·rw[SV (S1 A)];exact aE
  ·rw[PC (S5 A)];exact aE
 have t:=a.dat t;have n:=a.dat n;have r:=a.dat r;have u:=a.dat u;have B:=S5 c;refine aT (K:=K) (b:=decide (o="add")) (aH (bN (aB t) aJ)) (λc O g=>?_) (λc O g=>?_)
 ·refine bE (K:=K) (d:=.int (two o x y b)) ?_ λv z s q=>post v z (a.trans (g.trans s)) q;have e:two o x y b=(x+y)%b:=by unfold two;rw[PC B,SV (S1 c)]
  rw[e];exact jI (dC (aB (g.dat n)) (aB (g.dat r))) (aB (g.dat u)) ⋯
 have t:=g.dat t;have n:=g.dat n;have r:=g.dat r;have u:=g.dat u;have G:=S5 c;refine aT (K:=K) (b:=decide (o="sub")) (aH (bN (aB t) aJ)) (λc U l=>?_) (λc U l=>?_)
 ·refine bE (K:=K) (d:=.int (two o x y b)) ?_ λv z s q=>post v z (a.trans (g.trans (l.trans s))) q;have e:two o x y b=(x - y)%b:=by unfold two;rw[PC B,PC G,SV (S1 c)]
  rw[e];exact jI (uc (aB (l.dat n)) (aB (l.dat r))) (aB (l.dat u)) ⋯
 have Y:=S5 c;refine bE (K:=K) (d:=.int (two o x y b)) ?_ λv z s q=>post v z (a.trans (g.trans (l.trans s))) q;have e:two o x y b=x*y%b:=by unfold two;rw[PC B,PC G,PC Y]
 rw[e];exact jI (t9 (aB (l.dat n)) (aB (l.dat r)) (.inr ⟨⋯,⋯⟩)) (aB (l.dat u)) ⋯
noncomputable def CS(d:D):Bool:=dN d 0 99
noncomputable def qx(a:List D):Bool:=(decide (1<=(a.length:Int))&&decide ((a.length:Int)<=1000))&&(a.map CS).all id
def Fm(as:List Ar)(d:D):Prop:=∃a,as=[.l a]/\a.length<=1000/\d=.bl (qx a)
theorem BR(T:Txt P w K mg)(u:Ok P w base k T.NY (Xp K f6)):Ok P w base (k+1) T.Qf (Yi K Fm):=by
 refine Xd T.Qf.f Cj λJ H Q E L h=>?_;obtain⟨as,d,n,⟨a,rfl,g,rfl⟩,post⟩:=h;obtain⟨y,rfl,l⟩:=D1 n;have l:LD K H a y:=l;refine⟨rfl,λ_ _ _ _ A=>⟨_,(aC (bA (PW.pt (fH (cI (bL (aV (fU xG) rfl T.N4 cH (cO (pv 0) (cO (gS (v:=.ty "list") rfl T.QP oy rfl) a7))) (λ_=>rfl))) (eV (cI (oT lS lS aD (aV aQ rfl T.NZ bP (z1 (pv 0))) (bO (v:=.int 1000) rfl T.Re ⟨_,rfl⟩)))))) (zr dU) aO)
 (zr (aV (iO rfl) rfl T.Qx lB (z1 (zc [] ["cell"] (fM (pv 0)) (λ_ _ _ _ _=>(pc (D:=T.NY) u A (z3 (pv 0) aD (bO (v:=.int 99) rfl T.P8 ⟨_,rfl⟩))))))))),?_⟩⟩
 refine aT (K:=K) (b:=!(decide (1<=(a.length:Int))&&decide ((a.length:Int)<=1000))) ?_ (λc B o=>?_) (λc B o=>?_)
 ·exact RT.as (dJ (b:=false) (RT.as (bR (bI (cR (aB l.lst)))) rfl) λ_=>bR (aH (mG (p:=λi j=>decide (i<=j)) (r:=λi j=>decide (i<=j)) aE (dB (aW l)) λ_=>aE))) (Uw _)
 ·refine bE (K:=K) (d:=.bl false) gO λv t s q=>post v t (o.trans s) ?_
  have e:qx a=false:=by unfold qx;have z:(decide (1<=(a.length:Int))&&decide ((a.length:Int)<=1000))=false:=(WL _).mp c;rw[z];rfl
  rw[e];exact q
 ·have z:(decide (1<=(a.length:Int))&&decide ((a.length:Int)<=1000))=true:=(VP _).mp c;have e:qx a=(a.map CS).all id:=by unfold qx;rw[z];rfl
  rw[e]at post;refine bE (K:=K) (d:=.bl ((a.map CS).all id)) (kq (bs:=a.map CS) (gN (aW (o.ld l)) g _ (by simp) rfl (λG j x v d s C n I=>?_))) λv t s q=>post v t (o.trans s) q;rw[SR,SR,C]at n;cases n;exact bJ (R:=f6) (aA (aB (k:=0) I) (aA aE (aA aE aG))) ⟨x,0,99,rfl,rfl⟩
def r9(as:List Ar)(d:D):Prop:=∃a,as=[.l a]/\a.length<=1000/\qx a=true/\d=.W3
theorem yi(T:Txt P w K mg)(i:Ok P w base k T.Qf (Yi K Fm)):Ok P w base (k+1) T.ON (Yi K r9):=by refine Xd T.ON.f zi λr H Q E s h=>?_;obtain⟨as,d,j,⟨g,rfl,a,l,rfl⟩,post⟩:=h;obtain⟨n,rfl,e⟩:=D1 j;have e:LD K H g n:=e;refine⟨rfl,λ_ _ _ _ o=>⟨_,(aX (bA (cI (bL (pc (D:=T.Qf) i o (z1 (pv 0))) (λ_=>rfl))) (aX cZ) aO)),?_⟩⟩;exact iH (b:=false) (RT.as (bR (bI (eR (K:=K) (R:=Fm) (gH (aW e) dS) ⟨g,rfl,a,rfl⟩))) (by rw[l];rfl)) (λc=>nomatch c) (λ_ p q=>post _ p q Dat.Y3)
abbrev NM:List Str:=["end","put","far","load","add","sub","mul","less","skip","jump","zero","none","more","twice","about","call","back"]
noncomputable def bZ(i:Int):Nat:=if i∈([2,9,11,15]:vc)then 2 else if i∈([1,3,8,10,12]:vc)then 1 else 0
structure okC(cs:vc):Prop where
 l0:1<=cs.length
 l1:cs.length<=900
 c:∀(i:Nat)(c:Int),cs[i]?=some c->0<=c/\c<=99
noncomputable abbrev cD(a:vc):List D:=a.map D.int
noncomputable def kC(a:vc)(p m:Nat):List D:=((cD a).drop (p+1)).take m
noncomputable def Xs(c:Int):Str:=NM.getD c.toNat ""
noncomputable def A2(a:vc)(p:Nat)(c:Int):D:=.tup [.int p,.str (Xs c),.tup (kC a p (bZ c))]
noncomputable def jZ(a:vc)(p:Nat)(c:Int):Bool:=decide (16<c)||decide (a.length<=p+bZ c)
noncomputable def jD(a:vc):Nat->Nat->List D×Option Nat
 |0,_=>([],none)
 |n+1,p=>match a[p]? with
  |none=>([],none)
  |some c=>if jZ a p c=true then ([],some p)else (A2 a p c::(jD a n (p+1+bZ c)).1,(jD a n (p+1+bZ c)).2)
theorem IX:∀i:Nat,i<17->INS[i]?=some (.tup [.str (NM.getD i ""),.int ((bZ i:Nat):Int)]):=by
 intro i a
 match i,a with
 |0,_=>rfl
 |1,_=>rfl
 |2,_=>rfl
 |3,_=>rfl
 |4,_=>rfl
 |5,_=>rfl
 |6,_=>rfl
 |7,_=>rfl
 |8,_=>rfl
 |9,_=>rfl
 |10,_=>rfl
 |11,_=>rfl
 |12,_=>rfl
 |13,_=>rfl
 |14,_=>rfl
 |15,_=>rfl
 |16,_=>rfl
 |n+17,h=>lia
theorem Lu:∀i:Nat,i<17->NM[i]?=some (NM.getD i ""):=by
 intro i a
 match i,a with
 |0,_=>rfl
 |1,_=>rfl
 |2,_=>rfl
 |3,_=>rfl
 |4,_=>rfl
 |5,_=>rfl
 |6,_=>rfl
 |7,_=>rfl
 |8,_=>rfl
 |9,_=>rfl
 |10,_=>rfl
 |11,_=>rfl
 |12,_=>rfl
 |13,_=>rfl
 |14,_=>rfl
 |15,_=>rfl
 |16,_=>rfl
 |n+17,h=>lia
theorem Iz(c:Int):bZ c<=2:=by
 unfold bZ;split
 ·exact SY _
 ·split<;>lia
theorem Ko{a:vc}{p:Nat}{c:Int}(h:a[p]?=some c):(cD a)[p]?=some (.int c):=by rw[SR,h];rfl
theorem sy:(kC a p m).length=min m (a.length - (p+1)):=by unfold kC;rw[T4,U3,tB]
theorem vN(h:jZ a p c=false):c<=16/\p+bZ c<a.length:=by unfold jZ at h;rw[Uz]at h;have b:=S5 h.1;have d:=S5 h.2;lia
def zH(as:List Ar)(d:D):Prop:=∃(a:vc)(p:Nat)(c:Int),as=[.l (cD a),.d (.int p)]/\okC a/\a[p]?=some c/\jZ a p c=false/\d=.tup [.str (Xs c),.tup (kC a p (bZ c))]
noncomputable def zO(a:vc)(p:Nat):Bool:=match a[p]? with
 |none=>true
 |some c=>jZ a p c
theorem nO(T:Txt P w K mg)  : Ok P w base (k+1) T.N1 (Yi K zH):=by
 refine Xd T.N1.f ky λvs H Q E o h=>?_;obtain⟨as,d,J,⟨l,p,c,rfl,ok,r,L,rfl⟩,post⟩:=h;obtain⟨M,N,rfl,g,a⟩:=zM J;have g:LD K H (cD l) M:=g;have a:Dat K H (.int (p:Int)) N:=a;obtain rfl:=a.W4;have hp:p<l.length:=(S6.mp r).1;obtain⟨c0,O⟩:=ok.c p c r;have z:c=((c.toNat:Nat):Int):=by lia
 have n:=Ko r;refine⟨rfl,λ_ _ _ _ hr=>⟨_,(aC (bA (PW.pt (fH (zt wI (pv 1) (aV aQ rfl T.NZ bP (z1 (pv 0)))) (eV (zt wI (a8 bY (pv 0) (pv 1)) (aV aQ rfl T.NZ bP (z1 (bO (v:=.ref T.Oi) rfl T.OW rfl))))))) (aX cZ) aO)
 (aC (gY (a8 a9 (bO (v:=.ref T.Oi) rfl T.OW rfl) (a8 bY (pv 0) (pv 1))) (fX rfl (bB (zg 2 o) (bB (zg 3 o) dH))))
 (aC (zs 4 o (eF dD rfl T.Os fC (z1 (jw zm (pv 0) (iV (bF cJ (pv 1) aD)) (iV (bF cJ (bF cJ (pv 1) aD) (pv 3)))))))
 (aC (bA (zt kT (aV aQ rfl T.NZ bP (z1 (pv 4))) (pv 3)) (aX cZ) aO)
 (zr (aU (z2 (pv 2) (pv 4)))))))),?_⟩⟩
 dsimp only[XQ];show let A:=a6 _ _;let B:=a6 _ A;a6 _ B _ _ _;intro A B;obtain⟨U,Y⟩:=vN L;have lb:(kC l p (bZ c)).length=bZ c:=by rw[sy];lia
 refine aT (K:=K) (b:=false) (RT.as (dJ (b:=false) (c:=false) (RT.as (aH (cP (p:=λi j=>decide (j<=i)) (aB a) (dB (aW g)))) (S3 (by rw[tB];lia))) λ_=>RT.as (aH (cP (p:=λi j=>decide (j<=i)) (gP (k:=p) (aW g) (aB a) n) (fZ (mH T.OT)))) (S3 (by show ¬ (17:Int)<=c;lia))) rfl) (λc=>nomatch c) (λ_ H1 t=>?_);have g:=t.ld g;have a:=t.dat a;have C:=IX c.toNat ⋯;rw[<- z]at C;refine lK (K:=K) (d:=.str (Xs c)) (e:=.int (bZ c)) (bC (k:=c.toNat) (mH T.OT) (RE.as (gP (k:=p) (aW g) (aB a) n) (Tu D.int z)) C) λv2 v3 H2 u h2 G=>?_;have g:=u.ld g;have a:=u.dat a;have el:(p:Int)+1=((p+1:Nat):Int):=by lia
 have eh:(p:Int)+1+(bZ c:Int)=((p+1+bZ c:Nat):Int):=by lia
 refine d6 (K:=K) (d:=.tup (kC l p (bZ c))) (RE.as (pZ (DD (lo:=p+1) (hi:=p+1+bZ c) (aW g) (RE.as (dC (aB a) aE) (Tu D.int el)) (RE.as (dC (dC (aB a) aE) (aB G)) (Tu D.int eh)))) (by unfold kC;rw[show p+1+bZ c - (p+1)=bZ c by lia])) λv4 H3 x I=>?_;refine aT (K:=K) (b:=false) (RT.as (aH (cP (p:=λi j=>decide (i<j)) (fZ (aB I)) (aB (x.dat G)))) (S3 (by rw[lb];lia))) (λc=>nomatch c) (λ_ H4 y=>?_);exact bE (K:=K) (d:=.tup [.str (Xs c),.tup (kC l p (bZ c))]) (aZ (aA (aB (y.dat (x.dat h2))) (aA (aB (y.dat I)) aG))) λv H' s q=>post v H' (t.trans (u.trans (x.trans (y.trans s)))) q
noncomputable def iK(b:vc):Int:=b.foldr (λc a=>a*100+c) 0
def Fs(b:List D)(d:D):Prop:=∃a:List Int,b=[.tup (a.map D.int)]/\a.length<=2/\(∀n∈a,0<=n/\n<=99)/\d=.int (iK a)
theorem GN{ns:vc}:ns.length<=2->(∀n∈ns,0<=n/\n<=99)->0<=iK ns/\iK ns<=9999:=by
 intro c h
 match ns,c with
 |[],_=>exact⟨Ut _,⋯⟩
 |[a],_ =>have d:=h a (by simp);show 0<=(0:Int)*100+a/\(0:Int)*100+a<=9999;lia
 |[a,b],_ =>have d:=h a (by simp);have e:=h b (by simp);show 0<=((0:Int)*100+b)*100+a/\((0:Int)*100+b)*100+a<=9999;lia
theorem tP(T:Txt P w K mg)  : Ok P w base (k+1) T.Pe (Xp K Fs):=by
 refine Xd T.Pe.f uC λl H Q E p h=>?_;obtain⟨ds,d,C,⟨b,rfl,l2,r,rfl⟩,post⟩:=h;obtain⟨v0,rfl,I⟩:=iP C;refine⟨rfl,λ_ _ _ _ hr=>⟨_,(aC (zs 1 p aD)
 (aC (iD Uc rfl (JC rfl T.QQ (z1 (pv 0))) (zg 2 p) (aX (zs 1 p (bF cJ (bF nP (pv 1) aD) (pv 2)))))
 (zr (pv 1)))),?_⟩⟩
 refine d6 (K:=K) (d:=.int 0) aE λv1 J t L=>?_;obtain rfl:=L.W4;obtain⟨a,l,rfl,u,g⟩:=(t.dat I).Xf;have M:=qz g;have y:=g.length;rw[tB]at y;let N:Nat->L2.St->Hp->Prop:=λi o G=>∃z:Option V,o=[some (.ref a),some (.int (iK (b.drop (b.length - i)))),z]/\WV J G;refine dI ⟨_,rfl,a,l,rfl,u,F1 (K:=K) (a:=a) (xs:=l) N ?_ ?_ ?_ ?_⟩
 ·refine⟨none,?_,WV.refl _⟩;rw[Nat.sub_zero,List.drop_length];rfl
 ·rintro i o G O ⟨z,rfl,j⟩;exact j.Zn u
 ·rintro i x o G O A ⟨z,rfl,j⟩;refine jQ ?_;dsimp only;rw[M,SR,tB]at A;obtain⟨c,q,rfl⟩:=Tt.mp A;have U:=r c (S4 q);have nb:=GN (ns:=b.drop (b.length - i)) (by rw[U3];lia) (λn Y=>r n (Wo Y))
  have e:b.drop (b.length - (i+1))=c::b.drop (b.length - i):=by
   have B:b.length - (i+1)<b.length:=by lia
   rw[VN B];have h2:b.length - (i+1)+1=b.length - i:=by lia
   rw[h2];congr 1;have h3:b.length - 1 - i=b.length - (i+1):=by lia
   rw[h3,SN B]at q;exact TY q
  refine Mg (K:=K) (d:=.int (iK (b.drop (b.length - i))*100+c)) (dC (t9 (aB (k:=1) (Dat.WY _)) aE (.inr ⟨⋯,⋯⟩)) (aB (k:=2) (Dat.WY c))) λv H' s d=>⟨some (.int c),?_,j.trans s⟩
  rw[e,d.W4];rfl
 ·rintro o G ⟨z,rfl,j⟩;have e:b.drop (b.length - l.length)=b:=by rw[<- y,Nat.sub_self];rfl
  rw[e];exact⟨_,rfl,post _ _ (t.trans j) (Dat.WY _)⟩
end
section
variable{K:qs}{k:Nat}
structure MS where
 pile:List Int
 place:Nat
 kept:List Nat
 ended:Bool
structure MC where
 cs:List Int
 as:List Int
 b:Int
structure pN(mc:MC):Prop where
 cs:okC mc.cs
 as:mc.as.length=4
 ai:∀x∈mc.as,0<=x/\x<mc.b
 b2:2<=mc.b
 b9:mc.b<=10000
structure kl(mc:MC)(st:MS):Prop where
 p:∀x∈st.pile,0<=x/\x<mc.b
 l:st.pile.length<=64
 k:st.kept.length<=16
noncomputable def eT(st:MS):Option (Int×MS):=match st.pile with
 |[]=>none
 |x::r=>some (x,{st with pile:=r})
noncomputable def cF(a:MC)(n:Int)(st:MS):Option MS:=if st.pile.length=64 then none else some {st with pile:=(n%a.b)::st.pile}
noncomputable def jL(a:Str)(num on:Nat)(st:MS):Option (Nat×MS) :=
 if a∈(["skip","jump"]:vn)then some (on+num,st)
 else if a∈(["zero","none"]:vn)then (eT st).map λp=>(if p.1=0 then on+num else on,p.2)
 else if a="call" then (if st.kept.length=16 then none else some (num,{st with kept:=on::st.kept}))
 else match st.kept with
  |[]=>none
  |k::r=>some (k,{st with kept:=r})
noncomputable def jP(st:MS):Option MS:=if st.pile.length=1 then some {st with ended:=true} else none
noncomputable def cM(a:MC)(c:Str)(num:Nat)(st:MS):Option MS :=
 if c∈(["put","far"]:vn)then cF a num st
 else if c="load" then cF a (a.as.getD num 0) st
 else (eT st).bind λu =>
  if c="more" then cF a (u.1+num) u.2
  else if c="twice" then (cF a u.1 u.2).bind λs=>cF a u.1 s
  else if c="about" then (eT u.2).bind λl=>(cF a u.1 l.2).bind λs=>cF a l.1 s
  else (eT u.2).bind λl=>cF a (two c l.1 u.1 a.b) l.2
structure MA where
 m:Addr
 dx:Addr
 lp:Addr
 lk:Addr
 lc:Addr
 vg:V
noncomputable def mF(A:MA)(a:MC)(st:MS):List (Str×V):=[("cells",.ref A.lc),("given",A.vg),("size",.int a.b),("pile",.ref A.lp),("place",.int st.place),("kept",.ref A.lk),("ended",.bl st.ended)]
noncomputable def pV(l:vc):List V:=l.reverse.map V.int
noncomputable def YK(l:List Nat):List V:=l.reverse.map λ(n:Nat)=>V.int n
theorem gR(x:Int)(l:vc):pV (x::l)=pV l++[.int x]:=by unfold pV;rw[Vv,Tj];rfl
theorem oI(x:Nat)(l:List Nat):YK (x::l)=YK l++[.int x]:=by unfold YK;rw[Vv,Tj];rfl
theorem yq(l:vc):(pV l).length=l.length:=by unfold pV;rw[tB,Ud]
theorem Di(l:List Nat):(YK l).length=l.length:=by unfold YK;rw[tB,Ud]
structure W7(K:qs)(C:Addr)(A:MA)(mc:MC)(st:MS)(H:Hp):Prop where
 ins:H A.m=some (.ins C A.dx (mF A mc st))
 cells:H A.lc=some (.lst (mc.cs.map V.int))
 given:Dat K H (.tup (mc.as.map D.int)) A.vg
 pile:H A.lp=some (.lst (pV st.pile))
 kept:H A.lk=some (.lst (YK st.kept))
 ne:A.lp≠A.lk
 c1:A.lc≠A.lp
 c2:A.lc≠A.lk
def XN(A:MA)(H a:Hp):Prop:=∀x o,x≠A.m->x≠A.lp->x≠A.lk->H x=some o->a x=some o
theorem XN.trans(a:XN A H g)(b:XN A g h):XN A H h:=λx o c d f e=>b x o c d f (a x o c d f e)
theorem jJ(s:WV H a):XN A H a:=λx o _ _ _ e=>s x o e
theorem XN.lp:XN A H (upd H A.lp o):=λx u _ n _ e=>by rw[aR n];exact e
theorem XN.lk:XN A H (upd H A.lk o):=λx u _ _ n e=>by rw[aR n];exact e
theorem XN.m:XN A H (upd H A.m o):=λx u n _ _ e=>by rw[aR n];exact e
section
variable{C:Addr}{A:MA}{mc:MC}{st:MS}{H H':Hp}
theorem W7.same(M:W7 K C A mc st H)(s:WV H H'):W7 K C A mc st H':=⟨s _ _ M.ins,s _ _ M.cells,s.dat M.given,s _ _ M.pile,s _ _ M.kept,M.ne,M.c1,M.c2⟩
theorem W7.np(M:W7 K C A mc st H):A.m≠A.lp:=λz=>by have:=M.ins;rw[z,M.pile]at this;cases this
theorem W7.nk(M:W7 K C A mc st H):A.m≠A.lk:=λz=>by have:=M.ins;rw[z,M.kept]at this;cases this
theorem sV(h:H b=some o)(e:(∃c,o=.lst c)\/∃C g fs,o=.ins C g fs)(i:∀c,o=.lst c->∃f,j=.lst f):eI K H (upd H b j):=by
 refine⟨λa c q=>?_,λa c q=>?_⟩
 ·rcases q with(q|⟨u,q⟩)|q
  ·refine .inl (.inl ?_);rw[aR (λz=>?_)]
   ·exact q
   ·rw[z,h]at q;rcases e with⟨_,rfl⟩|⟨_,_,_,rfl⟩<;>cases q
  ·refine .inl (.inr ⟨u,?_⟩);rw[aR (λz=>?_)]
   ·exact q
   ·rw[z,h]at q;rcases e with⟨_,rfl⟩|⟨_,_,_,rfl⟩<;>cases q
  ·exact .inr q
 ·by_cases d:a=b
  ·subst d;rcases q with(q|⟨u,q⟩)|q
   ·rw[h]at q;cases q;obtain⟨f,rfl⟩:=i _ rfl;exact⟨f,W2.of aF⟩
   ·rw[h]at q;rcases e with⟨_,rfl⟩|⟨_,_,_,rfl⟩<;>cases q
   ·exact⟨c,.inr q⟩
  ·rcases q with(q|⟨u,q⟩)|q
   ·exact⟨c,.inl (.inl (by rw[aR d];exact q))⟩
   ·exact⟨c,.inl (.inr ⟨u,by rw[aR d];exact q⟩)⟩
   ·exact⟨c,.inr q⟩
theorem W7.aab(M:W7 K C A mc st H)(r:vc):W7 K C A mc {st with pile:=r} (upd H A.lp (.lst (pV r))) :=
 ⟨by rw[aR M.np];exact M.ins,by rw[aR M.c1];exact M.cells,Dat.mono (sV M.pile (.inl ⟨_,rfl⟩) λ_ _=>⟨_,rfl⟩) _ M.given,aF,by rw[aR (Tf M.ne)];exact M.kept,M.ne,M.c1,M.c2⟩
theorem W7.aac(M:W7 K C A mc st H)(r:List Nat):W7 K C A mc {st with kept:=r} (upd H A.lk (.lst (YK r))) :=
 ⟨by rw[aR M.nk];exact M.ins,by rw[aR M.c2];exact M.cells,Dat.mono (sV M.kept (.inl ⟨_,rfl⟩) λ_ _=>⟨_,rfl⟩) _ M.given,by rw[aR M.ne];exact M.pile,aF,M.ne,M.c1,M.c2⟩
theorem W7.nc(M:W7 K C A mc st H):A.m≠A.lc:=λz=>by have:=M.ins;rw[z,M.cells]at this;cases this
theorem W7.setM(M:W7 K C A mc st H)(e:fs=mF A mc a)(b:a.pile=st.pile)(hk:a.kept=st.kept):W7 K C A mc a (upd H A.m (.ins C A.dx fs)):=by subst e;exact⟨aF,by rw[aR (Tf M.nc)];exact M.cells,Dat.mono (sV M.ins (.inr ⟨_,_,_,rfl⟩) λ_ z=>by cases z) _ M.given,by rw[aR (Tf M.np),b];exact M.pile,by rw[aR (Tf M.nk),hk];exact M.kept,M.ne,M.c1,M.c2⟩
theorem pT(p:Nat):lI "place" (.int p) (mF A mc st)=mF A mc {st with place:=p}:=by kernel_rfl
theorem EF(b:Bool):lI "ended" (.bl b) (mF A mc st)=mF A mc {st with ended:=b}:=by kernel_rfl
theorem j6(M:W7 K C A mc st H)(c:Y9 K C)(n:Xg K C f)(q:Q v H)(l:(mF A mc st).lookup f=some v:=by kernel_rfl)(e:a[i]?=some (some (.ref A.m)):=by rfl):rJ K (fR i) f a H Q :=
 ⟨_,e,A.m,C,A.dx,_,v,rfl,M.ins,c,n,l,q⟩
theorem yD(M:W7 K C A mc st H)(c:Y9 K C)(n:Xg K C f)(l:(mF A mc st).lookup f=some (.int z):=by kernel_rfl)(e:a[i]?=some (some (.ref A.m)):=by rfl):RE K (rJ K (fR i) f) a H (.int z) :=
 λ_ s _ q=>j6 (M.same s) c n (q _ _ (WV.refl _) (Dat.WY z)) l e
theorem yG(M:W7 K C A mc st H)(c:Y9 K C)(n:Xg K C "pile")(e:a[i]?=some (some (.ref A.m)):=by rfl):RL K (rJ K (fR i) "pile") a H (st.pile.reverse.map D.int) :=
 λ_ s _ q=>j6 (M.same s) c n (q _ _ (WV.refl _) (LD.of (M.same s).pile (dO _))) (by kernel_rfl) e
theorem J1(M:W7 K C A mc st H)(c:Y9 K C)(n:Xg K C "cells")(e:a[i]?=some (some (.ref A.m)):=by rfl):RL K (rJ K (fR i) "cells") a H (cD mc.cs) :=
 λ_ s _ q=>j6 (M.same s) c n (q _ _ (WV.refl _) (LD.of (M.same s).cells (dO _))) (by kernel_rfl) e
theorem xO(l:List Nat):YK l=(l.reverse.map λ(n:Nat)=>(n:Int)).map V.int:=by unfold YK;rw[Up];rfl
theorem J2(M:W7 K C A mc st H)(c:Y9 K C)(n:Xg K C "kept")(e:a[i]?=some (some (.ref A.m)):=by rfl):RL K (rJ K (fR i) "kept") a H ((st.kept.reverse.map λ(n:Nat)=>(n:Int)).map D.int) :=
 λ_ s _ q=>j6 (M.same s) c n (q _ _ (WV.refl _) (LD.of ((M.same s).kept.trans (by rw[xO])) (dO _))) (by kernel_rfl) e
theorem JS(M:W7 K C A mc st H)(c:Y9 K C)(n:Xg K C "given")(e:a[i]?=some (some (.ref A.m)):=by rfl):RE K (rJ K (fR i) "given") a H (.tup (mc.as.map D.int)) :=
 λ_ s _ q=>j6 (M.same s) c n (q _ _ (WV.refl _) (M.same s).given) (by kernel_rfl) e
theorem rY(M:W7 K C A mc st H)(c:Y9 K C)(n:Xg K C f)(b:H l=some (.lst d))(lk:(mF A mc st).lookup f=some (.ref l):=by kernel_rfl)(e:a[i]?=some (some (.ref A.m)):=by rfl):RT (λa H Q=>rJ K (fR i) f a H λx H'=>∃k,zI K x H' k/\Q k H') a H (!d.isEmpty) :=
 λg s Q q=>j6 (v:=.ref l) (Q:=λx H'=>∃k,zI K x H' k/\Q k H') (M.same s) c n ⟨_,.inl ⟨_,W2.of (s _ _ b),rfl⟩,q _ (WV.refl _)⟩ lk e
def Xl(K:qs)(N C:Addr)(A:MA)(mc:MC)(st:MS)(H:Hp)(Q:VK)(E:XK)(o:Option (V×MS)):Prop :=
 (∀v a,o=some (v,a)->∀H',XN A H H'->W7 K C A mc a H'->Q v H')/\o≠none
end
def zx(K:qs)(N C:Addr):Sp:=λb H Q E=>∃A a st,b=[.ref A.m]/\W7 K C A a st H/\Xl K N C A a st H Q E ((eT st).map λp=>(.int p.1,p.2))
def Cu(K:qs)(N C:Addr):Sp:=λc H Q E=>∃A a st n,c=[.ref A.m,.int n]/\W7 K C A a st H/\2<=a.b/\st.pile.length<=64/\Xl K N C A a st H Q E ((cF a n st).map λs=>(.W3,s))
def KN(K:qs)(N C:Addr):Sp:=λb H Q E=>∃A a st,b=[.ref A.m]/\W7 K C A a st H/\Xl K N C A a st H Q E ((jP st).map λs=>(.W3,s))
def KQ(K:qs)(N C:Addr):Sp:=λc H Q E=>∃A a st b num on,c=[.ref A.m,.str b,.int (num:Nat),.int (on:Nat)]/\W7 K C A a st H/\st.kept.length<=16/\Xl K N C A a st H Q E ((jL b num on st).map λp=>(.int p.1,p.2))
theorem rj(T:Txt P w K mg)  : Xj P w K mg base Yg (k+1) T.Oz T.OA ["self"] (zx K T.NX T.NX):=by
 refine Xd T.P7 rD λg H Q E i h=>?_;obtain⟨A,j,st,rfl,M,ok,bad⟩:=h;refine⟨rfl,λ_ _ _ _ l=>⟨_,(aC (bA (cI (bL (gM (pv 0) rfl) (λ_=>rfl))) (aX cZ) aO)
 (zr (mE Tg UK UZ mB (gM (pv 0) rfl)))),?_⟩⟩
 obtain⟨pile,place,kept,ended⟩:=st
 cases pile with
 |nil =>refine aT (K:=K) (b:=true) (bR (rY M T.WX T.XO M.pile)) (λ_ a d=>?_) (λc=>nomatch c);exact(bad rfl).elim
 |cons x r =>
  have e:pV (x::r)=pV r++[.int x]:=gR x r;refine aT (K:=K) (b:=false) (RT.as (bR (rY M T.WX T.XO M.pile)) ?_) (λc=>nomatch c) (λ_ a d=>?_)
  ·show(!!(pV (x::r)).isEmpty)=false;rw[e];cases pV r<;>rfl
  ·have M:=M.same d;have f:a A.lp=some (.lst (pV r++[.int x])):=by rw[<- e];exact M.pile
   refine j6 (v:=.ref A.lp) (Q:=λx a=>tyV K "list" x a/\Hk x [] a Q) M T.WX T.XO ⟨.inl ⟨rfl,_,W2.of f⟩,A.lp,_,.int x,rfl,rfl,f,by simp,?_⟩;rw[UH];exact ok (.int x) _ rfl _ ((jJ d).trans XN.lp) (M.aab r)
end
section
section
variable{K:qs}{st:MS}
theorem Xl.on{st1:MS}(h:Xl K N C A c st H Q E o)(b:XN A H d)(j:st1.place=st.place):Xl K N C A c st1 d Q E o :=
 ⟨λv a e f g i=>h.1 v a e f (b.trans g) i,h.2⟩
theorem yA(M:W7 K C A a st H)(h:Xl K N C A a st H Q E ((eT st).map λp=>(.int p.1,p.2)))(e:b[i]?=some (some (.ref A.m)):=by rfl):DS C "take" (zx K N C) [] E (fR i) dR b H Q :=
 ⟨_,e,A.m,A.dx,_,rfl,M.ins,by kernel_rfl,A,a,st,rfl,M,h⟩
theorem nS(d:RE K f c H (.int n))(M:W7 K C A a st H)(g:2<=a.b)(l:st.pile.length<=64)(h:Xl K N C A a st H Q E ((cF a n st).map λs=>(.W3,s)))(e:c[i]?=some (some (.ref A.m)):=by rfl) :
  DS C "push" (Cu K N C) [] E (fR i) (bU f dR) c H Q :=
 ⟨_,e,A.m,A.dx,_,rfl,M.ins,by kernel_rfl,d.use λv j s q=>⟨A,a,st,n,by rw[q.W4];rfl,M.same s,g,l,h.on (jJ s) rfl⟩⟩
theorem CM(M:W7 K C A p st H)(c:Y9 K C)(n:Xg K C f)(g:H l=some (.lst a))(u:a.length<=900)(h:RE K j d H (.int z))(q:∀o,WV H o->Q .W3 (upd o l (.lst (a++[.int z]))))
  (lk:(mF A p st).lookup f=some (.ref l):=by kernel_rfl) (e:d[i]?=some (some (.ref A.m)):=by rfl):tBM K "list" ko (rJ K (fR i) f) (bU j dR) d H Q :=
 j6 (v:=.ref l) (Q:=λx b=>tyV K "list" x b/\bU j dR d b λa r=>ko x a r Q) M c n ⟨.inl ⟨rfl,_,W2.of g⟩,h.use λv b s t=>⟨l,a,_,rfl,rfl,s _ _ g,cU ⋯,by rw[t.W4];exact q b s⟩⟩ lk e
theorem JF(M:W7 K C A d st H)(c:Y9 K C)(n:Xg K C f)(a:H l=some (.lst (g++[z])))(q:Q z (upd H l (.lst g)))
  (lk:(mF A d st).lookup f=some (.ref l):=by kernel_rfl) (e:h[i]?=some (some (.ref A.m)):=by rfl):Mn K "list" Hk (rJ K (fR i) f) h H Q :=
 j6 (v:=.ref l) (Q:=λx b=>tyV K "list" x b/\Hk x [] b Q) M c n ⟨.inl ⟨rfl,_,W2.of a⟩,l,_,z,rfl,rfl,a,by simp,by rw[UH];exact q⟩ lk e
theorem jS(h:eT st=some p):p.2.place=st.place/\p.2.kept=st.kept/\st.pile=p.1::p.2.pile/\p.2.ended=st.ended:=by
 unfold eT at h;split at h
 ·cases h
 ·rename_i x r e;cases h;exact⟨rfl,rfl,e,rfl⟩
theorem iA(h:cF a n st=some s):s.place=st.place/\s.kept=st.kept/\s.pile=n%a.b::st.pile/\st.pile.length≠64/\s.ended=st.ended:=by
 unfold cF at h;split at h
 ·cases h
 ·rename_i c;cases h;exact⟨rfl,rfl,rfl,c,rfl⟩
end
theorem jt [Decidable p][Decidable q](h:p↔q):decide p=decide q:=decide_eq_decide.mpr h
variable{K:qs}
theorem rg(T:Txt P w K mg)  : Xj P w K mg base Yg (k+1) T.OR T.OU ["self","number"] (Cu K T.NX T.NX):=by
 refine Xd T.P5 rB λj H Q E l h=>?_;obtain⟨A,d,st,n,rfl,M,o,p,ok,bad⟩:=h;refine⟨rfl,λ_ _ _ _ q=>⟨_,(aC (bA (zt cE (aV aQ rfl T.NZ bP (z1 (gM (pv 0) rfl))) (bO (v:=.int 64) rfl T.RF ⟨_,rfl⟩)) (aX cZ) aO)
 (aX (bK (dW Tg TU TZ cC (gM (pv 0) rfl) (z1 (bF fI (pv 1) (gM (pv 0) rfl))))))),?_⟩⟩
 have g:decide ((((st.pile.reverse.map D.int).length:Nat):Int)=64)=decide (st.pile.length=64):=jt (by rw[tB,Ud];lia);refine aT (K:=K) (b:=decide (st.pile.length=64)) (RT.as (aH (nU (dB (yG M T.WX T.XO)) aE)) g) (λc i a=>?_) (λc i a=>?_)
 ·exact(bad (by unfold cF;rw[SV (S1 c)];rfl)).elim
 ·have M:=M.same a;have c:=S5 c;have lp:=yq st.pile;refine CM M T.WX T.XO M.pile ⋯ (jI (aB (k:=1) (Dat.WY n)) (yD (z:=d.b) M T.WX T.Zj) ⋯) λr f=>?_;have e:=(M.same f).aab (n%d.b::st.pile);rw[gR]at e;exact ok .W3 _ (by unfold cF;rw[PC c];rfl) _ ((jJ (a.trans f)).trans XN.lp) e
theorem oN(T:Txt P w K mg)  : Xj P w K mg base Yg (k+1) T.OC T.OE ["self"] (KN K T.NX T.NX):=by
 refine Xd T.PQ o8 λf H Q E g h=>?_;obtain⟨A,i,st,rfl,M,ok,bad⟩:=h;refine⟨rfl,λ_ _ _ _ j=>⟨_,(aC (bA (zt lU (aV aQ rfl T.NZ bP (z1 (gM (pv 0) rfl))) aD) (aX cZ) aO)
 (aX (lH (pv 0) dU rfl))),?_⟩⟩
 have d:(!decide ((((st.pile.reverse.map D.int).length:Nat):Int)=1))=!decide (st.pile.length=1):=Tu Bool.not (jt (by rw[tB,Ud];lia));refine aT (K:=K) (b:=!decide (st.pile.length=1)) (RT.as (aH (kJ (dB (yG M T.WX T.XO)) aE)) d) (λc e a=>?_) (λc e a=>?_)
 ·have c:=S5 ((WL _).mp c);exact(bad (by unfold jP;rw[PC c];rfl)).elim
 ·have M:=M.same a;have c:=S1 ((VP _).mp c);refine⟨_,rfl,A.m,_,A.dx,_,rfl,M.ins,T.WX,T.YQ,by show 7<1000;decide,?_⟩;exact ok .W3 {st with ended:=true} (by unfold jP;rw[SV c];rfl) _ ((jJ a).trans XN.m) (M.setM (EF true) rfl rfl)
theorem tI(T:Txt P w K mg)(Oy:Xj P w K mg base Yg k T.Oz T.OA ["self"] (zx K T.NX T.NX)):Xj P w K mg base Yg (k+1) T.O6 T.O7 ["self","name","number","onward"] (KQ K T.NX T.NX):=by
 refine Xd T.Qm uv λvs H Q E nd h=>?_;obtain⟨A,mc,st,f,num,on,rfl,M,hk,ok,bad⟩:=h;refine⟨rfl,λ_ _ _ _ hr=>⟨_,(aC (bA (zt fA (pv 1) (aU (z2 aI aI))) (zr (bF cJ (pv 3) (pv 2))) aO)
 (aC (bA (zt fA (pv 1) (aU (z2 aI aI))) (zr (gF (zt cE (kW (pv 0) T.WX T.Xz Oy hr (iN T) .nil gW) aD) (bF cJ (pv 3) (pv 2)) (pv 3))) aO)
 (aC (bA (zt cE (pv 1) aI) (aC (bA (zt cE (aV aQ rfl T.NZ bP (z1 (gM (pv 0) rfl))) (bO (v:=.int 16) rfl T.Rz ⟨_,rfl⟩)) (aX cZ) aO)
 (aC (bK (dW Tg TU TZ cC (gM (pv 0) rfl) (z1 (pv 3))))
 (zr (pv 2)))) aO)
 (aC (bA (cI (bL (gM (pv 0) rfl) (λ_=>rfl))) (aX cZ) aO)
 (zr (mE Tg UK UZ mB (gM (pv 0) rfl))))))),?_⟩⟩
 dsimp only[XQ];show let G:=a6 _ _;let I:=a6 (md _ G _) _;let J:=a6 _ I;a6 _ J _ _ _;intro G I J;refine aT (K:=K) (b:=decide (f∈(["skip","jump"]:vn))) (aH (kg (ys:=["skip","jump"]) (aB (k:=1) (Dat.Xn f)) (aZ (aA aJ (aA aJ aG))))) (λc H1 j=>?_) (λc H1 j=>?_)
 ·have c:=S1 c;refine bE (K:=K) (d:=.int ((on:Int)+num)) (dC (aB (k:=3) (Dat.WY _)) (aB (k:=2) (Dat.WY _))) λv L g q=>?_;rw[q.W4];exact ok _ st (by unfold jL;rw[SV c];show some (V.int ((on+num:Nat):Int),st)=_;rw[Wq]) _ (jJ (j.trans g)) (M.same (j.trans g))
 have o:=S5 c;have M:=M.same j;refine aT (K:=K) (b:=decide (f∈(["zero","none"]:vn))) (aH (kg (ys:=["zero","none"]) (aB (k:=1) (Dat.Xn f)) (aZ (aA aJ (aA aJ aG))))) (λc L g=>?_) (λc L g=>?_)
 ·have c:=S1 c;have M:=M.same g;have a:=j.trans g;have u:jL f num on st=(eT st).map λp=>(if p.1=0 then on+num else on,p.2):=by unfold jL;rw[PC o,SV c]
  rw[u]at ok bad;refine yA M ⟨λv st' e N O U=>?_,λe=>?_⟩
  ·obtain⟨p,y,e2⟩:=Tt.mp e;cases e2;refine⟨rfl,_,rfl,?_⟩;have es:decide (V.int p.1=V.int 0)=decide (p.1=0):=jt ⟨λz=>V.int.inj z,λz=>by rw[z]⟩;rw[es];rw[y]at ok;by_cases s:p.1=0
   ·rw[S9 s];refine lE ⟨_,rfl,_,rfl,on,num,rfl,rfl,?_⟩;exact ok _ p.2 (by show some (V.int ((if p.1=0 then on+num else on:Nat):Int),p.2)=_;rw[SV s,Wq]) _ ((jJ a).trans O) U
   ·rw[S3 s];refine lD ⟨_,rfl,?_⟩;exact ok _ p.2 (by show some (V.int ((if p.1=0 then on+num else on:Nat):Int),p.2)=_;rw[PC s]) _ ((jJ a).trans O) U
  ·have e:eT st=none:=by simpa using e
   exact bad (by rw[e];rfl)
 have B:=S5 c;have M:=M.same g;have a:=j.trans g;refine aT (K:=K) (b:=decide (f="call")) (aH (bN (aB (K:=K) (k:=1) (Dat.Xn f)) aJ)) (λc N l=>?_) (λc N l=>?_)
 ·have c:=S1 c;have M:=M.same l;have C:=a.trans l;have u:jL f num on st=if st.kept.length=16 then none else some (num,{st with kept:=on::st.kept}):=by unfold jL;rw[PC o,PC B,SV c]
  rw[u]at ok bad;have ed:decide (((((st.kept.reverse.map λ(n:Nat)=>(n:Int)).map D.int).length:Nat):Int)=16)=decide (st.kept.length=16):=jt (by rw[tB,tB,Ud];lia);refine aT (K:=K) (b:=decide (st.kept.length=16)) (RT.as (aH (nU (dB (J2 M T.WX T.X8)) aE)) ed) (λc t i=>?_) (λc t i=>?_)
  ·exact(bad (by rw[SV (S1 c)];rfl)).elim
  ·have M:=M.same i;have c:=S5 c;have lk:=Di st.kept;refine jg (CM M T.WX T.X8 M.kept ⋯ (aB (k:=3) (Dat.WY _)) λH5 Y=>?_);have e:=(M.same Y).aac (on::st.kept);rw[oI]at e;exact⟨_,rfl,ok _ _ (by rw[PC c];rfl) _ ((jJ (C.trans (i.trans Y))).trans XN.lk) e⟩
 have n3:=S5 c;have M:=M.same l;have C:=a.trans l;obtain⟨pile,place,kept,ended⟩:=st
 cases kept with
 |nil =>refine aT (K:=K) (b:=true) (bR (rY M T.WX T.X8 M.kept)) (λ_ t i=>?_) (λc=>nomatch c);exact(bad (by unfold jL;rw[PC o,PC B,PC n3];rfl)).elim
 |cons x r =>
  have e:YK (x::r)=YK r++[.int x]:=oI x r;refine aT (K:=K) (b:=false) (RT.as (bR (rY M T.WX T.X8 M.kept)) ?_) (λc=>nomatch c) (λ_ t i=>?_)
  ·show(!!(YK (x::r)).isEmpty)=false;rw[e];cases YK r<;>rfl
  ·have M:=M.same i;have y:t A.lk=some (.lst (YK r++[.int x])):=by rw[<- e];exact M.kept
   exact JF M T.WX T.X8 y (ok (.int x) _ (by unfold jL;rw[PC o,PC B,PC n3];rfl) _ ((jJ (C.trans i)).trans XN.lk) (M.aac r))
end
section
variable{K:qs}
def KM(K:qs)(N C:Addr):Sp:=λc H Q E=>∃A a st b num,c=[.ref A.m,.str b,.int (num:Nat)]/\W7 K C A a st H/\pN a/\kl a st/\(b="load"->num<=3)/\Xl K N C A a st H Q E ((cM a b num st).map λs=>(.W3,s))
section
variable{st:MS}
theorem Dz(h:Xl K N C A a st H Q E (((cF a n st).bind k).map λs=>(.W3,s)))(q:∀s,cF a n st=some s->∀c,XN A H c->W7 K C A a s c->d .W3 c):Xl K N C A a st H d E ((cF a n st).map λs=>(.W3,s)):=by
 refine⟨λv f e c b g=>?_,λe=>?_⟩
 ·obtain⟨s,i,j⟩:=Tt.mp e;cases j;exact q _ i c b g
 ·have e:cF a n st=none:=by simpa using e
  exact h.2 (by rw[e];rfl)
theorem zC(h:Xl K N C A c st H Q E (((eT st).bind k).map λs=>(.W3,s)))(q:∀p,eT st=some p->∀a,XN A H a->W7 K C A c p.2 a->d (.int p.1) a):Xl K N C A c st H d E ((eT st).map λp=>(.int p.1,p.2)):=by
 refine⟨λv f e a b g=>?_,λe=>?_⟩
 ·obtain⟨p,i,j⟩:=Tt.mp e;cases j;exact q _ i a b g
 ·have e:eT st=none:=by simpa using e
  exact h.2 (by rw[e];rfl)
theorem oP(o:kl c st)(h:eT st=some p):kl c p.2/\0<=p.1/\p.1<c.b/\p.2.pile.length+1=st.pile.length:=by obtain⟨_,hk,a,_⟩:=jS h;have l:=o.l;rw[a,SX]at l;refine⟨⟨λx d=>o.p x (by rw[a];exact Th _ d),⋯,by rw[hk];exact o.k⟩,?_⟩;have:=o.p p.1 (by rw[a];exact Tn);exact⟨this.1,this.2,by rw[a,SX]⟩
theorem yl{a:MC}(e:2<=a.b)(o:kl a st)(h:cF a n st=some s):kl a s:=by
 obtain⟨_,hk,c,f,_⟩:=iA h;have l:=o.l;refine⟨λx d=>?_,by rw[c,SX];lia,by rw[hk];exact o.k⟩;rw[c]at d;rcases S0.mp d with z|z
 ·rw[z];exact⟨Ub _ ⋯,T6 _ ⋯⟩
 ·exact o.p x z
end
theorem oM(T:Txt P w K mg)(O:Xj P w K mg base Yg k T.Oz T.OA ["self"] (zx K T.NX T.NX))(r:Xj P w K mg base Yg k T.OR T.OU ["self","number"] (Cu K T.NX T.NX))(QJ:Ok P w base k T.OJ (Xp K Kl)):Xj P w K mg base Yg (k+1) T.OB T.OD ["self","name","number"] (KM K T.NX T.NX):=by
 refine Xd T.PP o7 λvs H Q E nd h=>?_;obtain⟨A,d,st,f,num,rfl,M,U,os,Y,a⟩:=h;have i:=U.b2;refine⟨rfl,λ_ _ _ _ g=>⟨_,(aC (bA (zt fA (pv 1) (aU (z2 aI aI))) (aC (bK (jr (pv 0) T.WX T.W8 r g (eA T) .nil gW (z1 (pv 2))))
 (aX Dx)) aO)
 (aC (bA (zt cE (pv 1) aI) (aC (bK (jr (pv 0) T.WX T.W8 r g (eA T) .nil gW (z1 (a8 a9 (gM (pv 0) rfl) (pv 2)))))
 (aX Dx)) aO)
 (aC (zs 3 nd (kW (pv 0) T.WX T.Xz O g (iN T) .nil gW))
 (aX (bA (zt cE (pv 1) aI) (aX (bK (jr (pv 0) T.WX T.W8 r g (eA T) .nil gW (z1 (bF cJ (pv 3) (pv 2)))))) (aX (bA (zt cE (pv 1) aI) (aC (bK (jr (pv 0) T.WX T.W8 r g (eA T) .nil gW (z1 (pv 3))))
 (aX (bK (jr (pv 0) T.WX T.W8 r g (eA T) .nil gW (z1 (pv 3)))))) (aX (bA (zt cE (pv 1) aI) (aC (zs 4 nd (kW (pv 0) T.WX T.Xz O g (iN T) .nil gW))
 (aC (bK (jr (pv 0) T.WX T.W8 r g (eA T) .nil gW (z1 (pv 3))))
 (aX (bK (jr (pv 0) T.WX T.W8 r g (eA T) .nil gW (z1 (pv 4))))))) (aX (bK (jr (pv 0) T.WX T.W8 r g (eA T) .nil gW (z1 (pc (D:=T.OJ) QJ g (aY (pv 1) (aY (kW (pv 0) T.WX T.Xz O g (iN T) .nil gW) (aY (pv 3) (aY (gM (pv 0) rfl) a7)))))))))))))))))),?_⟩⟩
 dsimp only[XQ];show let W5:=_;let Xc:=md _ _ W5;let Xv:=md _ _ Xc;let XF:=a6 _ Xv;let X6:=a6 _ XF;a6 _ X6 _ _ _;intro W5 Xc Xv XF X6;refine aT (K:=K) (b:=decide (f∈(["put","far"]:vn))) (aH (kg (ys:=["put","far"]) (aB (k:=1) (Dat.Xn f)) (aZ (aA aJ (aA aJ aG))))) (λc H1 x=>?_) (λc H1 x=>?_)
 ·have y:cM d f num st=cF d num st:=by unfold cM;rw[SV (S1 c)]
  rw[y]at a;have a:=Xl.on (st1:=st) a (jJ x) rfl;refine jg (nS (aB (k:=2) (Dat.WY (num:Int))) (M.same x) i os.l ⟨λv j e n b o=>?_,a.2⟩);obtain⟨s,q,p⟩:=Tt.mp e;cases p;exact a.1 _ _ e n b o
 have n1:=S5 c;have M:=M.same x;have a:=Xl.on (st1:=st) a (jJ x) rfl;refine aT (K:=K) (b:=decide (f="load")) (aH (bN (aB (K:=K) (k:=1) (Dat.Xn f)) aJ)) (λc H2 z=>?_) (λc H2 z=>?_)
 ·have c:=S1 c;have y:cM d f num st=cF d (d.as.getD num 0) st:=by unfold cM;rw[PC n1,SV c]
  rw[y]at a;have a:=Xl.on (st1:=st) a (jJ z) rfl;have M:=M.same z;have ln:=Y c;have la:=U.as
  have hg:(d.as.map D.int)[num]?=some (.int (d.as.getD num 0)):=by rw[SR,SN (by lia:num<d.as.length),Td,SN (by lia:num<d.as.length)];rfl
  refine jg (nS (bC (k:=num) (JS M T.WX T.Zx) (aB (k:=2) (Dat.WY (num:Int))) hg) M i os.l ⟨λv j e n b o=>?_,a.2⟩);obtain⟨s,q,p⟩:=Tt.mp e;cases p;exact a.1 _ _ e n b o
 have n2:=S5 c;have M:=M.same z;have a:=Xl.on (st1:=st) a (jJ z) rfl
 have y:cM d f num st=(eT st).bind λu =>
  if f="more" then cF d (u.1+num) u.2
  else if f="twice" then (cF d u.1 u.2).bind λs=>cF d u.1 s
  else if f="about" then (eT u.2).bind λl=>(cF d u.1 l.2).bind λs=>cF d l.1 s
  else (eT u.2).bind λl=>cF d (two f l.1 u.1 d.b) l.2:=by unfold cM;rw[PC n1,PC n2]
 rw[y]at a;refine eE (yA M (zC a λu hu H3 b3 M=>?_));obtain⟨B,u0,u1,ul⟩:=oP os hu;have pu:=(jS hu).1;rw[hu]at a;have a:=Xl.on (st1:=u.2) a b3 pu
 have a:Xl K T.NX T.NX A d u.2 H3 Q E ((if f="more" then cF d (u.1+num) u.2
  else if f="twice" then (cF d u.1 u.2).bind λs=>cF d u.1 s
  else if f="about" then (eT u.2).bind λl=>(cF d u.1 l.2).bind λs=>cF d l.1 s
  else (eT u.2).bind λl=>cF d (two f l.1 u.1 d.b) l.2).map λs=>(.W3,s)):=a
 refine iH (b:=decide (f="more")) (aH (bN (aB (K:=K) (k:=1) (Dat.Xn f)) aJ)) (λc H4 C=>?_) (λc H4 C=>?_)
 ·rw[SV (S1 c)]at a;have a:=Xl.on (st1:=u.2) a (jJ C) rfl;refine nS (dC (aB (k:=3) (Dat.WY u.1)) (aB (k:=2) (Dat.WY (num:Int)))) (M.same C) i B.l ⟨λv j e n b o=>?_,a.2⟩;obtain⟨s,q,p⟩:=Tt.mp e;cases p;exact a.1 _ _ e n b o
 rw[PC (S5 c)]at a;have M:=M.same C;have a:=Xl.on (st1:=u.2) a (jJ C) rfl;refine iH (b:=decide (f="twice")) (aH (bN (aB (K:=K) (k:=1) (Dat.Xn f)) aJ)) (λc H5 G=>?_) (λc H5 G=>?_)
 ·rw[SV (S1 c)]at a;have a:=Xl.on (st1:=u.2) a (jJ G) rfl;refine jg (nS (aB (k:=3) (Dat.WY u.1)) (M.same G) i B.l (Dz a λs q H6 b6 M6=>?_));rw[q]at a;have a:Xl K T.NX T.NX A d s H6 Q E ((cF d u.1 s).map λs=>(.W3,s)):=Xl.on a b6 (iA q).1;refine nS (aB (k:=3) (Dat.WY u.1)) M6 i (yl i B q).l ⟨λv j e n b o=>?_,a.2⟩;obtain⟨s',I,p⟩:=Tt.mp e;cases p;exact a.1 _ _ e n b o
 rw[PC (S5 c)]at a;have M:=M.same G;have a:=Xl.on (st1:=u.2) a (jJ G) rfl;refine iH (b:=decide (f="about")) (aH (bN (aB (K:=K) (k:=1) (Dat.Xn f)) aJ)) (λc H6 J=>?_) (λc H6 J=>?_)
 ·rw[SV (S1 c)]at a;have a:=Xl.on (st1:=u.2) a (jJ J) rfl;refine eE (yA (M.same J) (zC a λl t H7 b7 L=>?_));obtain⟨N,l0,l1,ll⟩:=oP B t;rw[t]at a;have a:Xl K T.NX T.NX A d l.2 H7 Q E (((cF d u.1 l.2).bind λs=>cF d l.1 s).map λs=>(.W3,s)):=Xl.on a b7 (jS t).1;refine jg (nS (aB (k:=3) (Dat.WY u.1)) L i N.l (Dz a λs q H8 b8 M8=>?_));rw[q]at a;have a:Xl K T.NX T.NX A d s H8 Q E ((cF d l.1 s).map λs=>(.W3,s)):=Xl.on a b8 (iA q).1;refine nS (aB (k:=4) (Dat.WY l.1)) M8 i (yl i N q).l ⟨λv j e n b o=>?_,a.2⟩;obtain⟨s',I,p⟩:=Tt.mp e;cases p;exact a.1 _ _ e n b o
 ·rw[PC (S5 c)]at a;have M:=M.same J;have a:=Xl.on (st1:=u.2) a (jJ J) rfl;refine⟨_,rfl,A.m,A.dx,_,rfl,M.ins,by kernel_rfl,_,rfl,?_⟩;refine yA M (zC a λl t H7 b7 L=>?_);obtain⟨N,l0,l1,ll⟩:=oP B t;rw[t]at a;have a:Xl K T.NX T.NX A d l.2 H7 Q E ((cF d (two f l.1 u.1 d.b) l.2).map λs=>(.W3,s)):=Xl.on a b7 (jS t).1;refine⟨_,rfl,j6 (v:=.int d.b) L T.WX T.Zj ?_⟩;refine⟨[.str f,.int l.1,.int u.1,.int d.b],.int (two f l.1 u.1 d.b),WU.cons (Dat.Xn f) (WU.cons (Dat.WY _) (WU.cons (Dat.WY _) (WU.cons (Dat.WY _) WU.nil))),⟨f,l.1,u.1,d.b,rfl,i,U.b9,l0,l1,u0,u1,rfl⟩,λv H8 s8 q8=>?_⟩;have a:=Xl.on (st1:=l.2) a (jJ s8) rfl;refine⟨A,d,l.2,_,by rw[q8.W4];rfl,L.same s8,i,N.l,⟨λv j e n b o=>?_,a.2⟩⟩;obtain⟨s',I,p⟩:=Tt.mp e;cases p;exact a.1 _ _ e n b o
noncomputable def ZC(a:vc)(p:Nat)(c:Int):List Int:=(a.drop (p+1)).take (bZ c)
noncomputable def mD(a:vc)(p:Nat)(c:Int):Nat:=(iK (ZC a p c)).toNat
noncomputable def i0(a:Str)(num:Nat):Bool:=decide (kL a TTO num<(num:Int))
abbrev WS:List Str:=["skip","jump","zero","none","call","back"]
noncomputable def Yj(b:MC)(a:Str)(num on:Nat)(st:MS):Option MS :=
 if a∈WS then (jL a num on st).map λp=>{p.2 with place:=p.1}
 else if a="end" then (jP st).map λs=>{s with place:=on}
 else (cM b a num st).map λs=>{s with place:=on}
noncomputable def fN(a:MC)(st:MS):Option MS:=match a.cs[st.place]? with
 |none=>none
 |some c=>if jZ a.cs st.place c=true then none else if i0 (Xs c) (mD a.cs st.place c)=true then none
  else Yj a (Xs c) (mD a.cs st.place c) (st.place+1+bZ c) st
theorem CP(a:vc)(p:Nat)(c:Int):kC a p (bZ c)=(ZC a p c).map D.int:=by unfold kC ZC;rw[WD,List.map_drop]
theorem GM(ok:okC a):(ZC a p c).length<=2/\∀n∈ZC a p c,0<=n/\n<=99:=by unfold ZC;refine⟨by rw[T4];have:=Iz c;lia,λn b=>?_⟩;obtain⟨i,d⟩:=Wf.mp (Wo (Vh b));exact ok.c i n d
theorem Dl(ok:okC a):iK (ZC a p c)=((mD a p c:Nat):Int)/\mD a p c<=9999:=by obtain⟨b,d⟩:=GM (p:=p) (c:=c) ok;have:=GN b d;unfold mD;lia
theorem Ip:∀p∈TTO,∃i,p.2=.flat (.int i):=by intro p a;simp only[TTO,S0,Ti,T9]at a;rcases a with rfl|rfl|rfl<;>exact⟨_,rfl⟩
theorem Jf(h:i0 "load" num=false):num<=3:=by
 have h:=S5 h;have e:kL "load" TTO num=3:=by kernel_rfl
 rw[e]at h;lia
variable{st:MS}
theorem uG{a:MC}(h:zO a.cs st.place=true):fN a st=none:=by
 unfold fN
 cases b:a.cs[st.place]? with
 |none=>rfl
 |some c =>
  have d:jZ a.cs st.place c=true:=by unfold zO at h;rw[b]at h;exact h
  exact SV d
theorem EV{a:MC}(h:zO a.cs st.place=false):∃c,a.cs[st.place]?=some c/\jZ a.cs st.place c=false:=by
 cases b:a.cs[st.place]? with
 |none =>
  have d:true=false:=by unfold zO at h;rw[b]at h;exact h
  cases d
 |some c=>exact⟨c,rfl,by unfold zO at h;rw[b]at h;exact h⟩
def HQ(K:qs)(N C:Addr):Sp:=λb H Q E=>∃A a st,b=[.ref A.m]/\W7 K C A a st H/\pN a/\kl a st/\Xl K N C A a st H Q E ((fN a st).map λs=>(.W3,s))
theorem rh(T:Txt P w K mg)(Oh:Ok P w base k T.N1 (Yi K zH))(QY:Ok P w base k T.Pe (Xp K Fs))(QS:Xj P w K mg base Yg k T.O6 T.O7 ["self","name","number","onward"] (KQ K T.NX T.NX))(QB:Xj P w K mg base Yg k T.OC T.OE ["self"] (KN K T.NX T.NX))(QA:Xj P w K mg base Yg k T.OB T.OD ["self","name","number"] (KM K T.NX T.NX)):Xj P w K mg base Yg (k+1) T.OS T.OV ["self"] (HQ K T.NX T.NX):=by
 refine Xd T.P6 rC λvs H Q E u h=>?_;obtain⟨A,f,st,rfl,M,N,os,a⟩:=h;have Xd:=N.cs;refine⟨rfl,λ_ _ _ _ x=>⟨_,(aC (gY (pc (D:=T.N1) Oh x (z2 (gM (pv 0) rfl) (gM (pv 0) rfl))) (fX rfl (bB (zg 1 u) (bB (zg 2 u) dH))))
 (aC (zs 3 u (pc (D:=T.Pe) QY x (z1 (pv 2))))
 (aC (bA (zt kn (pv 3) (wL (bO (v:=.ref T.P4) rfl T.RG rfl) (pv 1) (pv 3) ⟨rfl,rfl,rfl,rfl⟩)) (aX cZ) aO)
 (aC (zs 4 u (bF cJ (bF cJ (gM (pv 0) rfl) aD) (aV aQ rfl T.NZ bP (z1 (pv 2)))))
 (aC (bA (zt fA (pv 1) (bO (v:=.ref T.RZ) rfl T.SB rfl)) (aX (zs 4 u (jr (pv 0) T.WX T.YO QS x (uP T) .nil gW (z3 (pv 1) (pv 3) (pv 4))))) (aX (bA (zt cE (pv 1) aI) (aX (bK (kW (pv 0) T.WX T.Yt QB x (pB T) .nil gW))) (aX (bK (jr (pv 0) T.WX T.Yu QA x (pq T) .nil gW (z2 (pv 1) (pv 3))))))))
 (aX (lH (pv 0) (pv 4) rfl))))))),?_⟩⟩
 dsimp only[XQ];show let O:=a6 _ _;let U:=a6 _ O;let Y:=a6 _ U;let XF:=a6 _ Y;a6 _ XF _ _ _;intro O U Y XF;have rA:RB K (bU (rJ K (fR 0) "cells") (bU (rJ K (fR 0) "place") dR)) (start ["self","name","behind","number","onward"] [.ref A.m]) H [.l (cD f.cs),.d (.int st.place)]:=gH (J1 M T.WX T.Zw) (iW (yD (z:=st.place) M T.WX T.XU) dS)
 cases y:zO f.cs st.place with
 |true =>have e:fN f st=none:=uG y;exact(a.2 (by rw[e];rfl)).elim
 |false =>
  obtain⟨c,hc,J⟩:=EV y;obtain⟨h16,hlt⟩:=vN J;obtain⟨en,n9⟩:=Dl (p:=st.place) (c:=c) Xd;obtain⟨l2,n2⟩:=GM (p:=st.place) (c:=c) Xd;have lb:(kC f.cs st.place (bZ c)).length=bZ c:=by rw[sy];lia
  have e:fN f st=if i0 (Xs c) (mD f.cs st.place c)=true then none else Yj f (Xs c) (mD f.cs st.place c) (st.place+1+bZ c) st:=by unfold fN;rw[hc];dsimp only;rw[PC (by rw[J];exact SW)]
  rw[e]at a;refine lK (K:=K) (d:=.str (Xs c)) (e:=.tup (kC f.cs st.place (bZ c))) (eR (R:=zH) rA ⟨f.cs,st.place,c,rfl,Xd,hc,J,rfl⟩) λv1 v2 H1 s1 h1 s=>?_;obtain rfl:=h1.Xh;generalize Xs c=n at *;generalize hnum:mD f.cs st.place c=num at *;refine d6 (K:=K) (d:=.int num) (RE.as (bJ (R:=Fs) (aA (aB (k:=2) s) aG) ⟨ZC f.cs st.place c,by rw[CP],l2,n2,rfl⟩) (by rw[en])) λv3 H2 s2 h3=>?_;obtain rfl:=h3.W4;have s:=s2.dat s;have B:=s1.trans s2;have M:=M.same B;have a:=Xl.on (st1:=st) a (jJ B) rfl;refine aT (K:=K) (b:=i0 n num) (aH (cP (p:=λi j=>decide (j<i)) (aB (k:=3) (Dat.WY (num:Int))) (wN T.RQ (aB (k:=1) (Dat.Xn n)) (aB (k:=3) (Dat.WY (num:Int))) Ip))) (λct H3 I=>?_) (λct H3 I=>?_)
  ·exact(a.2 (by rw[SV ct];rfl)).elim
  ·have M:=M.same I;have a:=Xl.on (st1:=st) a (jJ I) rfl;rw[PC (by rw[ct];exact SW)]at a;have s:=I.dat s;have eo:(st.place:Int)+1+((kC f.cs st.place (bZ c)).length:Int)=((st.place+1+bZ c:Nat):Int):=by rw[lb];lia
   refine d6 (K:=K) (d:=.int ((st.place+1+bZ c:Nat):Int)) (RE.as (dC (dC (yD (z:=st.place) M T.WX T.XU) aE) (fZ (aB (k:=2) s))) (Tu D.int eo)) λv4 H4 s4 h4=>?_;obtain rfl:=h4.W4;have M:=M.same s4;have a:=Xl.on (st1:=st) a (jJ s4) rfl;generalize st.place+1+bZ c=on at *;refine dI (RT.use (b:=decide (n∈WS)) (aH (kg (ys:=WS) (aB (K:=K) (k:=1) (Dat.Xn n)) (mH T.Sy))) λH5 s5=>?_);have M:=M.same s5;have a:=Xl.on (st1:=st) a (jJ s5) rfl;by_cases q:n∈WS
   ·rw[S9 q];refine lE ⟨_,rfl,A.m,A.dx,_,rfl,M.ins,by kernel_rfl,_,rfl,_,rfl,_,rfl,A,f,st,n,num,on,rfl,M,os.k,λv o g H6 b6 M6=>?_,λg=>?_⟩
    ·obtain⟨p,hp,C⟩:=Tt.mp g;cases C;refine⟨_,rfl,_,rfl,A.m,_,A.dx,_,rfl,M6.ins,T.WX,T.XU,by show 7<1000;decide,?_⟩;exact a.1 .W3 {p.2 with place:=p.1} (by unfold Yj;rw[SV q,hp];rfl) _ (b6.trans XN.m) (M6.setM (pT p.1) rfl rfl)
    ·have g:jL n num on st=none:=by simpa using g
     exact a.2 (by unfold Yj;rw[SV q,g];rfl)
   ·rw[S3 q];refine lD (RT.use (b:=decide (n="end")) (aH (bN (aB (K:=K) (k:=1) (Dat.Xn n)) aJ)) λH6 s6=>?_);have M:=M.same s6;have a:=Xl.on (st1:=st) a (jJ s6) rfl;by_cases t:n="end"
    ·rw[S9 t];refine lE ⟨_,rfl,A.m,A.dx,_,rfl,M.ins,by kernel_rfl,A,f,st,rfl,M,λv o g H7 L G=>?_,λg=>?_⟩
     ·obtain⟨s',r,C⟩:=Tt.mp g;cases C;refine⟨_,rfl,_,rfl,A.m,_,A.dx,_,rfl,G.ins,T.WX,T.XU,by show 7<1000;decide,?_⟩;exact a.1 .W3 {o with place:=on} (by unfold Yj;rw[PC q,SV t,r];rfl) _ (L.trans XN.m) (G.setM (pT on) rfl rfl)
     ·have g:jP st=none:=by simpa using g
      exact a.2 (by unfold Yj;rw[PC q,SV t,g];rfl)
    ·rw[S3 t];refine lD ⟨_,rfl,A.m,A.dx,_,rfl,M.ins,by kernel_rfl,_,rfl,_,rfl,A,f,st,n,num,rfl,M,N,os,?_,λv o g H7 L G=>?_,λg=>?_⟩
     ·rintro rfl;exact Jf ct
     ·obtain⟨s',r,C⟩:=Tt.mp g;cases C;refine⟨_,rfl,_,rfl,A.m,_,A.dx,_,rfl,G.ins,T.WX,T.XU,by show 7<1000;decide,?_⟩;exact a.1 .W3 {o with place:=on} (by unfold Yj;rw[PC q,PC t,r];rfl) _ (L.trans XN.m) (G.setM (pT on) rfl rfl)
     ·have g:cM f n num st=none:=by simpa using g
      exact a.2 (by unfold Yj;rw[PC q,PC t,g];rfl)
theorem zR(b:Xb x H d)(h:H x=some (.ins C e fs)):eI K H d:=by
 refine⟨λa c q=>?_,λa c q=>⟨c,?_⟩⟩
 ·rcases q with(q|⟨u,q⟩)|q
  ·exact .inl (.inl (b _ _ (λz=>by rw[z,h]at q;cases q) q))
  ·exact .inl (.inr ⟨u,b _ _ (λz=>by rw[z,h]at q;cases q) q⟩)
  ·exact .inr q
 ·rcases q with(q|⟨u,q⟩)|q
  ·exact .inl (.inl (b _ _ (λz=>by rw[z,h]at q;cases q) q))
  ·exact .inl (.inr ⟨u,b _ _ (λz=>by rw[z,h]at q;cases q) q⟩)
  ·exact .inr q
theorem J7(h:RC K g d H j)(q:∀l b a,H l=none->WV H a->a l=some (.lst b)->WU K a j b->∃C c fs,a x=some (.ins C c fs)/\Y9 K C/\Xg K C f/\fs.length<1000/\o p d (upd a x (.ins C c (lI f (.ref l) fs))))
  (e:d[i]?=some (some (.ref x)):=by rfl):a6 (Ng K (fR i) g f) o p d H :=
 h.use λl b a n s r t=>let⟨C,c,fs,u,v,w,y,z⟩:=q l b a n s r t;⟨_,e,x,C,c,fs,rfl,u,v,w,y,z⟩
def Nj(K:qs)(C:Addr):Sp:=λh H Q _=>∃(x f c:Addr)(d g:V)(a:MC)(r:vc),h=[.ref x,.ref c,d,.int a.b,g]/\H x=some (.ins C f [])/\H c=some (.lst (a.cs.map V.int))/\Dat K H (.tup (a.as.map D.int)) d/\LD K H (r.reverse.map D.int) g/\r.length<=900 /\
 ∀(A:MA)(e:Hp),A.m=x->A.dx=f->A.lc=c->A.vg=d->Xb x H e->H A.lp=none->H A.lk=none->W7 K C A a ⟨r,0,[],false⟩ e->Q .W3 e
theorem m9(T:Txt P w K mg)  : Xj P w K mg base Yg (k+1) T.Oo T.Oq ["self","cells","given","size","pile"] (Nj K T.NX):=by
 refine Xd T.Pr ni λN H Q E nd h=>?_;obtain⟨x,a,f,s,v4,t,r,rfl,j,u,hg,hp,lr,post⟩:=h;refine⟨rfl,λ_ _ _ _ hr=>⟨_,(aC (lH (pv 0) (pv 1) rfl)
 (aC (lH (pv 0) (pv 2) rfl)
 (aC (lH (pv 0) (pv 3) rfl)
 (aC (lH (pv 0) (eF xo rfl T.QP oy (z1 (pv 4))) rfl)
 (aC (lH (pv 0) aD rfl)
 (aC (lH (pv 0) (bQ a7) rfl)
 (aX (lH (pv 0) dU rfl)))))))),?_⟩⟩
 dsimp only[XQ];show let O:=a6 _ _;let U:=a6 _ O;a6 _ U _ _ _;intro O U;have g:f≠x:=λz=>by rw[z,j]at u;cases u
 refine⟨_,rfl,_,rfl,x,_,a,_,rfl,j,T.WX,T.Zw,by show 0<1000;decide,?_⟩;refine⟨_,rfl,_,rfl,x,_,a,_,rfl,aF,T.WX,T.Zx,by show 1<1000;decide,?_⟩;refine⟨_,rfl,_,rfl,x,_,a,_,rfl,aF,T.WX,T.Zj,by show 2<1000;decide,?_⟩;generalize Y:upd (upd (upd H x _) x _) x _=v;have p:Xb x H v:=by rw[<- Y];exact Xb.upd (Xb.upd (Xb.upd (WV.refl _).but))
 have x3:v x=some (.ins T.NX a [("cells",.ref f),("given",s),("size",.int t.b)]):=by rw[<- Y,aF];kernel_rfl
 have p3:LD K v (r.reverse.map D.int) v4:=by
  obtain⟨l,N,e,hq,hd⟩:=hp;refine⟨l,N,e,?_,WU.mono (zR p j) _ hd⟩;rcases hq with q|q
  ·exact .inl (p _ _ (λz=>by rw[z,j]at q;cases q) q)
  ·exact .inr q
 refine J7 (K:=K) (x:=x) (Ca (aW (k:=4) p3)) λlp ys H4 np s4 hy dy=>?_;obtain rfl:=qz dy;refine⟨_,a,_,s4 _ _ x3,T.WX,T.XO,by show 3<1000;decide,?_⟩;refine⟨_,rfl,x,_,a,_,rfl,aF,T.WX,T.XU,by show 4<1000;decide,?_⟩;generalize C:upd (upd H4 x _) x _=i;have y:Xb x H i:=by rw[<- C];exact Xb.upd (Xb.upd (p.trans s4.but))
 have c:lp≠x:=λz=>by rw[z,x3]at np;cases np
 have p6:i lp=some (.lst (pV r)):=by rw[<- C,aR c,aR c];exact hy
 have x6:i x=some (.ins T.NX a [("cells",.ref f),("given",s),("size",.int t.b),("pile",.ref lp),("place",.int 0)]):=by rw[<- C,aF];kernel_rfl
 refine⟨cK ⋯,λlk nk=>?_⟩;have d:lk≠x:=λz=>by rw[z,x6]at nk;cases nk
 have G:lp≠lk:=λz=>by rw[<- z,p6]at nk;cases nk
 have c6:i f=some (.lst (t.cs.map V.int)):=y _ _ g u;have I:f≠lk:=λz=>by rw[<- z,c6]at nk;cases nk
 have J:f≠lp:=λz=>by rw[<- z,p _ _ g u]at np;cases np
 refine⟨_,rfl,x,_,a,_,rfl,by rw[aR (Tf d)];exact x6,T.WX,T.X8,by show 5<1000;decide,?_⟩;refine⟨_,rfl,x,_,a,_,rfl,aF,T.WX,T.YQ,by show 6<1000;decide,?_⟩;generalize L:upd (upd (upd i lk _) x _) x _=A;have B:Xb x i A:=by rw[<- L];exact Xb.upd (Xb.upd (aL nk _).but)
 have k9:A lk=some (.lst (YK [])):=by rw[<- L,aR d,aR d,aF];rfl
 have x9:A x=some (.ins T.NX a (mF ⟨x,a,lp,lk,f,s⟩ t ⟨r,0,[],false⟩)):=by rw[<- L,aF];kernel_rfl
 have nH:∀b,b≠x->i b=none->H b=none:=λb z n=>by
  cases e:H b with
  |none=>rfl
  |some o=>rw[y _ _ z e]at n;cases n
 have M:∀b,b≠x->v b=none->H b=none:=λb z n=>by
  cases e:H b with
  |none=>rfl
  |some o=>rw[p _ _ z e]at n;cases n
 exact post ⟨x,a,lp,lk,f,s⟩ A rfl rfl rfl rfl (y.trans B) (M _ c np) (nH _ d nk) ⟨x9,B _ _ g c6,Dat.mono (zR (y.trans B) j) _ hg,B _ _ c p6,k9,G,J,I⟩
theorem CT(ok:okC a):qx (cD a)=true:=by unfold qx;have n:=ok.l0;have o:=ok.l1;rw[S2,S2];refine⟨⟨S9 (by rw[tB];lia),S9 (by rw[tB];lia)⟩,?_⟩;rw[UE];intro b e;obtain⟨d,f,rfl⟩:=T5.mp e;obtain⟨c,g,rfl⟩:=T5.mp f;obtain⟨i,h⟩:=Wf.mp g;obtain⟨j,l⟩:=ok.c i c h;show(decide (0<=c)&&decide (c<=99))=true;rw[S9 j,S9 l];rfl
section
variable{st:MS}
theorem Ih(o:kl b st)(h:jL c num on st=some p):kl b p.2/\p.2.ended=st.ended:=by
 unfold jL at h;split at h
 ·cases h;exact⟨o,rfl⟩
 ·split at h
  ·obtain⟨q,a,e⟩:=Tt.mp h;cases e;exact⟨(oP o a).1,(jS a).2.2.2⟩
  ·split at h
   ·split at h
    ·cases h
    ·rename_i d;cases h;have:=o.k;exact⟨⟨o.p,o.l,by show st.kept.length+1<=16;lia⟩,rfl⟩
   ·split at h
    ·cases h
    ·rename_i k r e;cases h;have:=o.k;rw[e,SX]at this;exact⟨⟨o.p,o.l,by show r.length<=16;lia⟩,rfl⟩
theorem FP{c:MC}(z:2<=c.b)(o:kl c st)(h:cM c C num st=some s):kl c s/\s.ended=st.ended:=by
 have d:∀{n:Int}{a b:MS},kl c a->cF c n a=some b->kl c b/\b.ended=a.ended:=λi e=>⟨yl z i e,(iA e).2.2.2.2⟩
 have j:∀{p:Int×MS}{a:MS},kl c a->eT a=some p->kl c p.2/\p.2.ended=a.ended:=λi e=>⟨(oP i e).1,(jS e).2.2.2⟩
 unfold cM at h;split at h
 ·exact d o h
 ·split at h
  ·exact d o h
  ·obtain⟨u,A,h⟩:=Uh.mp h;obtain⟨f,g⟩:=j o A;split at h
   ·obtain⟨a,b⟩:=d f h;exact⟨a,b.trans g⟩
   ·split at h
    ·obtain⟨B,q,r⟩:=Uh.mp h;obtain⟨t,v⟩:=d f q;obtain⟨a,b⟩:=d t r;exact⟨a,b.trans (v.trans g)⟩
    ·split at h
     ·obtain⟨l,w,h⟩:=Uh.mp h;obtain⟨x,y⟩:=j f w;obtain⟨B,q,r⟩:=Uh.mp h;obtain⟨t,v⟩:=d x q;obtain⟨a,b⟩:=d t r;exact⟨a,b.trans (v.trans (y.trans g))⟩
     ·obtain⟨l,w,h⟩:=Uh.mp h;obtain⟨x,y⟩:=j f w;obtain⟨a,b⟩:=d x h;exact⟨a,b.trans (y.trans g)⟩
theorem DQ(f:pN d)(o:kl d st)(h:fN d st=some s):kl d s/\(st.ended=false->s.ended=true->s.pile.length=1):=by
 unfold fN at h;split at h
 ·cases h
 ·split at h
  ·cases h
  ·split at h
   ·cases h
   ·unfold Yj at h;split at h
    ·obtain⟨p,c,e⟩:=Tt.mp h;cases e;obtain⟨a,b⟩:=Ih o c;exact⟨⟨a.p,a.l,a.k⟩,λz w=>by rw[show p.2.ended=true from w,z]at b;cases b⟩
    ·split at h
     ·obtain⟨p,c,e⟩:=Tt.mp h;cases e;unfold jP at c;split at c
      ·rename_i g;cases c;exact⟨⟨o.p,o.l,o.k⟩,λ_ _=>g⟩
      ·cases c
     ·obtain⟨p,c,e⟩:=Tt.mp h;cases e;obtain⟨a,b⟩:=FP f.b2 o c;exact⟨⟨a.p,a.l,a.k⟩,λz w=>by rw[show p.ended=true from w,z]at b;cases b⟩
end
inductive Res where
 |ends (v:Int)
 |fault (p:Nat)
 |late
 deriving DecidableEq
noncomputable def jh(a:MC):Nat->MS->Res
 |0,_=>.late
 |n+1,st=>match fN a st with
  |none=>.fault st.place
  |some s=>if s.ended=true then .ends (s.pile.headD 0)else jh a n s
noncomputable abbrev st0:MS:=⟨[],0,[],false⟩
theorem GP:kl a st0:=⟨(λ_ h=>by cases h),by show 0<=64;decide,by show 0<=16;decide⟩
def DO(K:qs)(C:Addr):Sp:=λf H Q _=>∃(d:Addr)(e:V)(a:MC)(n:Nat),f=[.ref d,e,.int a.b,.int n]/\pN a/\H d=some (.lst (a.cs.map V.int))/\Dat K H (.tup (a.as.map D.int)) e/\1<=n/\n<=100000 /\
 ∀(A:MA)(c:Hp),WV H c->H A.m=none->H A.lp=none->H A.lk=none->W7 K C A a st0 c->Q (.ref A.m) c
theorem BY(T:Txt P w K mg)(P2:Ok P w base (k+1) T.ON (Yi K r9))(Rv:Xj P w K mg base Yg (k+1) T.Pu T.Pw ["size","most"] (Xp K Fu))(Ru:Ok P w base (k+1) T.PM (Xp K Fj))(N2:Ok P w base (k+1) T.NY (Xp K f6))(Qp:Xj P w K mg base Yg k T.Oo T.Oq ["self","cells","given","size","pile"] (Nj K T.NX)):Ok P w base (k+1+1) T.Qi (DO K T.NX):=by
 refine Xd T.Qi.f Cq λvs H Q E nd h=>?_;obtain⟨G,vg,g,n,rfl,i,I,J,n1,n9,post⟩:=h;refine⟨rfl,λ_ _ _ _ j=>⟨_,(aC (bK (pc (D:=T.ON) P2 j (z1 (pv 0))))
 (aC (bK (Ds Rv j rfl T.RH T.Px.kp (zN T) (Bm T) gW (z1 (pv 2))))
 (aC (bK (pc (D:=T.PM) Ru j (z2 (pv 1) (pv 2))))
 (aC (bA (cI (bL (pc (D:=T.NY) N2 j (z3 (pv 3) aD (bO (v:=.int 100000) rfl T.Rg ⟨_,rfl⟩))) (λ_=>rfl))) (aX cZ) aO)
 (zr (Jv T.ZP Qp j rfl T.Sf (nL T) .nil gW (aY (pv 0) (aY (pv 1) (aY (pv 2) (aY (bQ a7) a7)))))))))),?_⟩⟩
 dsimp only[XQ];show let L:=a6 _ _;let N:=a6 _ L;a6 _ N _ _ _;intro L N;have Xd:=i.cs;have l1:=Xd.l1;have LC:LD K H (cD g.cs) (.ref G):=LD.of I (dO _);refine jg (RE.use (eR (R:=r9) (d:=.W3) (gH (aW (K:=K) (k:=0) LC) dS) ⟨cD g.cs,rfl,by rw[tB];lia,CT Xd,rfl⟩) λv5 H1 s1 _=>?_);refine jg (RE.use (Hv (R:=Fu) (d:=.W3) (aA (aB (K:=K) (k:=2) (Dat.WY g.b)) aG) (λ_=>WU.cons (Dat.WY _) WU.nil) ⟨g.b,_,rfl,i.b2,i.b9,rfl⟩) λv6 H2 s2 _=>?_);have l:=s1.trans s2;refine jg (RE.use (bJ (R:=Fj) (d:=.W3) (aA (aB (K:=K) (k:=1) (l.dat J)) (aA (aB (k:=2) (Dat.WY g.b)) aG)) ⟨g.as,g.b,rfl,i.as,i.ai,rfl⟩) λv7 H3 s3 _=>?_);have Xi:=l.trans s3
 have ew:dN (.int (n:Int)) 1 100000=true:=by show(decide ((1:Int)<=n)&&decide ((n:Int)<=100000))=true;rw[S9 ⋯,S9 ⋯];rfl
 refine aT (K:=K) (b:=false) (RT.as (bR (bI (bJ (R:=f6) (aA (aB (k:=3) (Dat.WY (n:Int))) (aA aE (aA aE aG))) ⟨_,_,_,rfl,rfl⟩))) (by rw[ew];rfl)) (λc=>nomatch c) (λ_ O s4=>?_);have X0:=Xi.trans s4;refine⟨_,rfl,_,rfl,_,rfl,cK ⋯,λr s x t nx p u=>?_⟩;generalize U:upd O r (.lst [])=q at nx p ⊢;have s5:WV O q:=by rw[<- U];exact aL s _
 have y:=X0.trans s5;have Y:WV q (upd (upd q t (.own x)) x (.ins T.NX t [])):=(aL p _).trans (aL (by rw[aR (Tf u)];exact nx) _);have a:=y.trans Y;have h5:q r=some (.lst []):=by rw[<- U];exact aF
 refine⟨x,t,G,vg,.ref r,g,[],rfl,aF,a _ _ I,a.dat J,LD.of (Y _ _ h5) (dO []),⋯,λA H' em edx elc evg b B C M=>⟨rfl,?_⟩⟩;subst em;refine post A H' (λb' o e=>?_) (y.free nx) (a.free B) (a.free C) M;exact b b' o (λz=>by rw[z,y.free nx]at e;cases e) (a _ _ e)
def HN(K:qs):Sp:=λf H Q _=>∃(c:Addr)(d:V)(a:MC)(n:Nat)(v:Int),f=[.ref c,d,.int a.b,.int n]/\pN a/\H c=some (.lst (a.cs.map V.int))/\Dat K H (.tup (a.as.map D.int)) d/\1<=n/\n<=100000/\jh a n st0=.ends v/\∀e,WV H e->Q (.int v) e
theorem D3(s:WV H G)(b:XN A G a)(c:H A.m=none)(d:H A.lp=none)(f:H A.lk=none):WV H a:=λx o e =>
 b x o (λz=>by rw[z,c]at e;cases e) (λz=>by rw[z,d]at e;cases e) (λz=>by rw[z,f]at e;cases e) (s x o e)
theorem LL(T:Txt P w K mg)(U:Ok P w base k T.Qi (DO K T.NX))(Y:Xj P w K mg base Yg k T.OS T.OV ["self"] (HQ K T.NX T.NX)):Xj P w K mg base Yg (k+1) T.R5 T.R6 ["code","args","size","steps"] (HN K):=by
 refine Xd T.Sj Mj λvs H Q E t h=>?_;obtain⟨u,y,g,n,vv,rfl,l,hc,hg,n1,n9,f,pe⟩:=h;refine⟨rfl,λ_ _ _ _ B=>⟨_,(aC (zs 4 t (pc (D:=T.Qi) U B (aY (pv 0) (aY (pv 1) (aY (pv 2) (aY (pv 3) a7))))))
 (aC (iD Uc rfl (iG rfl T.Pi (z1 (pv 3))) (zg 5 t) (aC (bK (kW (pv 4) T.WX T.YE Y B (sv T) .nil gW))
 (aX (bA (bL (gM (pv 4) rfl) (λ_=>rfl)) (zr (a8 bY (gM (pv 4) rfl) aD)) aO))))
 (aX cZ))),?_⟩⟩
 dsimp only[XQ];show let C:=a6 _ _;a6 _ C _ _ _;intro C;refine eE ⟨_,rfl,_,rfl,_,rfl,_,rfl,u,y,g,n,rfl,l,hc,hg,n1,n9,λA H1 s1 nm np nk M=>?_⟩;refine dI ⟨_,rfl,(n:Int),rfl,⋯,⋯,mX (n:=(n:Int).toNat) (λi o G=>∃(z:Option V)(st:MS),o=[some (.ref u),some y,some (.int g.b),some (.int n),some (.ref A.m),z]/\W7 K T.NX A g st G/\kl g st/\st.ended=false/\WV H G/\jh g n st0=jh g (n - i) st) ?_ ?_ ?_⟩
 ·exact⟨none,st0,rfl,M,GP,rfl,s1,rfl⟩
 ·rintro i o G hi ⟨z,st,rfl,M,os,I,J,a⟩;refine jQ ?_;dsimp only;obtain⟨p,ek⟩:∃p,n - i=p+1:=⟨n - i - 1,⋯⟩
  have r:n - (i+1)=p:=by lia
  rw[ek]at a;refine jg ⟨_,rfl,A.m,A.dx,_,rfl,M.ins,by kernel_rfl,A,g,st,rfl,M,l,os,λv c e H2 b2 M2=>?_,λe=>?_⟩
  ·obtain⟨s',L,e2⟩:=Tt.mp e;cases e2;obtain⟨s,one⟩:=DQ l os L;have N:=D3 J b2 nm np nk;rw[jh,L]at a;dsimp only at a;refine j6 (v:=.bl c.ended) M2 T.WX T.YQ ⟨c.ended,rfl,?_⟩
   cases j:c.ended with
   |true =>
    rw[SV j]at a;have l1:=one I j
    obtain⟨x,O⟩:∃x,c.pile=[x]:=by
     match hq:c.pile,l1 with
     |[x],_=>exact⟨x,rfl⟩
    refine lE (bE (K:=K) (d:=.int x) (gP (k:=0) (yG M2 T.WX T.XO) aE (by rw[O];rfl)) λv H3 s3 q=>?_);rw[q.W4];rw[f,O]at a;injection a with a;have a:vv=x:=a;rw[<- a];exact pe H3 (N.trans s3)
   |false =>rw[PC (by rw[j];exact SW)]at a;exact lD ⟨_,c,rfl,M2,s,j,N,by rw[a,r]⟩
  ·have e:fN g st=none:=by simpa using e
   rw[jh,e]at a;rw[f]at a;cases a
 rintro o G ⟨z,st,rfl,M,os,I,J,a⟩;have e0:n - (n:Int).toNat=0:=by lia
 rw[e0]at a;rw[f]at a;cases a
end
section
variable{k:Nat}
noncomputable def bW(as:vc)(b:Int):Tr->Int
 | .num n=>n%b
 | .arg k=>as.getD k.toNat 0
 | .two o x y=>two o (bW as b x) (bW as b y) b
 | .pick x y z=>if bW as b x=0 then bW as b z else bW as b y
 | .call _=>0
noncomputable def bM(a:List Tr)(as:vc)(b:Int):Tr->Int
 | .num n=>n%b
 | .arg k=>as.getD k.toNat 0
 | .two o x y=>two o (bM a as b x) (bM a as b y) b
 | .pick x y z=>if bM a as b x=0 then bM a as b z else bM a as b y
 | .call k=>bW as b (a.getD (k.toNat - 1) (.num 0))
noncomputable def eG(a:List Tr):Tr->Nat
 | .num _=>1
 | .arg _=>1
 | .two _ x y=>eG a x+eG a y+1
 | .pick x y z=>eG a x+eG a y+eG a z+1
 | .call k=>aM (a.getD (k.toNat - 1) (.num 0))
noncomputable def cT(a:List Tr):Tr->Nat
 | .num _=>1
 | .arg _=>1
 | .two _ x y=>max (cT a x) (cT a y)+1
 | .pick x y z=>max (cT a x) (max (cT a y) (cT a z))+1
 | .call k=>aP (a.getD (k.toNat - 1) (.num 0))
noncomputable def cx(t:Tr):Nat:=if kE t=true then 1 else 0
def clP(n:Nat):Tr->Prop
 | .call k=>1<=k/\k.toNat<=n
 | .two _ x y=>clP n x/\clP n y
 | .pick x y z=>clP n x/\clP n y/\clP n z
 |_=>True
theorem MK(h:kE t=false):cx t=0:=by unfold cx;rw[h];rfl
theorem qI:∀{pa:List Tr}{n:Nat}(t x:Tr),x∈aS t->cT pa x<=cT pa t/\(clP n t->clP n x)
 |pa,m,.num n,x,h=>by
  have e:x=.num n:=by simpa[aS]using h
  subst e;exact⟨SY _,id⟩
 |pa,m,.arg n,x,h=>by
  have e:x=.arg n:=by simpa[aS]using h
  subst e;exact⟨SY _,id⟩
 |pa,m,.call n,x,h=>by
  have e:x=.call n:=by simpa[aS]using h
  subst e;exact⟨SY _,id⟩
 |pa,m,.two o a b,x,h=>by
  simp only[aS,S0,Tq]at h;simp only[cT];rcases h with rfl|h|h
  ·exact⟨SY _,id⟩
  ·obtain⟨f,d⟩:=qI (pa:=pa) (n:=m) a x h;exact⟨⋯,λc=>d c.1⟩
  ·obtain⟨f,d⟩:=qI (pa:=pa) (n:=m) b x h;exact⟨⋯,λc=>d c.2⟩
 |pa,m,.pick a b c,x,h=>by
  simp only[aS,S0,Tq]at h;simp only[cT];rcases h with rfl | (h|h)|h
  ·exact⟨SY _,id⟩
  ·obtain⟨f,d⟩:=qI (pa:=pa) (n:=m) a x h;exact⟨⋯,λc=>d c.1⟩
  ·obtain⟨f,d⟩:=qI (pa:=pa) (n:=m) b x h;exact⟨⋯,λc=>d c.2.1⟩
  ·obtain⟨f,d⟩:=qI (pa:=pa) (n:=m) c x h;exact⟨⋯,λc=>d c.2.2⟩
theorem Nt(h:x∈(bT t).flatMap aS):cT pa x+1<=cT pa t:=by
 obtain⟨k,d,e⟩:=V8.mp h;have e:=(qI (pa:=pa) (n:=0) k x e).1
 cases t with
 |num n=>simp[bT]at d
 |arg n=>simp[bT]at d
 |call n=>simp[bT]at d
 |two o a b =>simp only[bT,S0,Ti,T9]at d;simp only[cT];rcases d with rfl|rfl<;>lia
 |pick a b c =>simp only[bT,S0,Ti,T9]at d;simp only[cT];rcases d with rfl|rfl|rfl<;>lia
theorem sP:∀(p:Pa)(t:Tr)(f:Yb),cQ p t=some f->(f.1.map (eG pa)).sum<=eG pa t/\(fQ p=true->(f.1.map (eG pa)).sum+1<=eG pa t)
 | .hole i,t,f,h=>by cases h;exact⟨by simp,λz=>nomatch z⟩
 | .gap i m,t,f,h=>by
  cases t with
  |num n =>
   have c:(if n<=m then some ([],[n],[])else none:Option Yb)=some f:=h;by_cases z:n<=m
   ·rw[SV z]at c;cases c;exact⟨by simp,λ_=>by simp[eG]⟩
   ·rw[PC z]at c;cases c
  |_=>cases h
 | .slot i,t,f,h=>by
  cases t with
  |arg n=>cases h;exact⟨by simp,λ_=>by simp[eG]⟩
  |_=>cases h
 | .num m,t,f,h=>by
  cases t with
  |num n =>
   have c:(if n=m then some ([],[],[])else none:Option Yb)=some f:=h;by_cases z:n=m
   ·rw[SV z]at c;cases c;exact⟨by simp,λ_=>by simp[eG]⟩
   ·rw[PC z]at c;cases c
  |_=>cases h
 | .two o a b,t,f,h=>by
  cases t with
  |two r u v =>
   obtain⟨_,d,g,j,l,q⟩:=fJ h;subst q;have s:=(sP (pa:=pa) a u d j).1;have w:=(sP (pa:=pa) b v g l).1;have e:((d.1++g.1).map (eG pa)).sum=(d.1.map (eG pa)).sum+(g.1.map (eG pa)).sum:=by simp
   refine⟨?_,λ_=>?_⟩
   ·show((d.1++g.1).map (eG pa)).sum<=_;simp only[eG];lia
   ·show((d.1++g.1).map (eG pa)).sum+1<=_;simp only[eG];lia
  |_=>cases h
inductive Go(mc:MC):Nat->MS->MS->Prop
 |nil {s:MS}:Go mc 0 s s
 |cons {n:Nat} {s s1 s2:MS}:fN mc s=some s1->s1.ended=false->Go mc n s1 s2->Go mc (n+1) s s2
theorem Go.trans(a:Go c n f g)(b:Go c m g h):Go c (n+m) f h:=by
 induction a with
 |nil=>rw[WQ];exact b
 |cons e d _ i=>rw[Nat.succ_add];exact .cons e d (i b)
theorem Go.run(a:Go b n s c)(k:Nat):jh b (n+k) s=jh b k c:=by
 induction a with
 |nil=>rw[WQ]
 |cons e d _ f =>rw[Nat.succ_add];show(match fN b _ with|none=>_|some s=>_)=_;rw[e];dsimp only;rw[d,PC SW];exact f
noncomputable abbrev at_(s:vc)(p:Nat)(k:List Nat):MS:=⟨s,p,k,false⟩
theorem fO{d:MC}{a b args:vc}{s:vc}{k:List Nat}(h:d.cs=a++c::(args++b))(l:c<=16)(e:args.length=bZ c) :
  fN d (at_ s a.length k)=if i0 (Xs c) (iK args).toNat=true then none else Yj d (Xs c) (iK args).toNat (a.length+1+args.length) (at_ s a.length k):=by
 unfold fN
 have f:d.cs[(at_ s a.length k).place]?=some c:=by rw[h];show(a++c::(args++b))[a.length]?=some c;rw[Ue (SY _),Nat.sub_self];rfl
 rw[f]
 have g:jZ d.cs (at_ s a.length k).place c=false:=by
  unfold jZ
  rw[h,S3 ⋯,S3 (by
   show ¬ (a++c::(args++b)).length<=a.length+bZ c;rw[M1,SX,M1];lia)]
  rfl
 have i:mD d.cs (at_ s a.length k).place c=(iK args).toNat:=by
  unfold mD ZC;rw[h];show(iK (((a++c::(args++b)).drop (a.length+1)).take (bZ c))).toNat=_
  have j:(a++c::(args++b)).drop (a.length+1)=args++b:=by rw[V9,List.drop_eq_nil_of_le ⋯,UU,show a.length+1 - a.length=1 by lia];rfl
  rw[j,<- e,List.take_left'];rfl
 dsimp only;rw[g,i,PC SW,e]
theorem go1(h:fN a s=some s1)(e:s1.ended=false):Go a 1 s s1:=.cons h e .nil
theorem iz{a:MC}{s:vc}{k:List Nat}(c:s.length<=63):cF a n (at_ s p k)=some (at_ (n%a.b::s) p k):=by unfold cF;rw[PC (show ¬ s.length=64 by lia)]
theorem iS{a:Str}{n:Nat}(b:¬ a="load")(c:¬ a="skip")(d:¬ a="zero"):¬ i0 a n=true:=by
 unfold i0 kL
 have e:KTD.datumAt a TTO=none:=by show(if decide (a="load")=true then _ else if decide (a="skip")=true then _ else if decide (a="zero")=true then _ else _)=_;rw[PC (by simp[b]),PC (by simp[c]),PC (by simp[d])];rfl
 rw[e];simp
theorem Nu{a:Str}{n:Nat}(h:a="skip"\/a="zero")(b:n<=9):¬ i0 a n=true:=by
 unfold i0;have e:kL a TTO n=9:=by rcases h with rfl|rfl<;>kernel_rfl
 rw[e];simp;lia
theorem NW(a:n<=3):¬ i0 "load" n=true:=by
 unfold i0;have e:kL "load" TTO n=3:=by kernel_rfl
 rw[e];simp;lia
theorem iZ{s:vc}{k:List Nat}:eT (at_ (x::s) p k)=some (x,at_ s p k):=rfl
theorem sU{c:MC}{a b:vc}{s:vc}{k:List Nat}(h:c.cs=a++1::n::b)(f:0<=n)(d:s.length<=63):Go c 1 (at_ s a.length k) (at_ (n%c.b::s) (a.length+2) k):=by
 refine go1 ?_ rfl;rw[fO (args:=[n]) h ⋯ rfl,show Xs 1="put" from rfl,PC (iS ⋯ ⋯ ⋯)];unfold Yj cM;rw[PC ⋯,PC ⋯,SV ⋯,iz d];have e:(((iK [n]).toNat:Nat):Int)=n:=by simp[iK];lia
 rw[e];rfl
theorem Gd{c:MC}{a b:vc}{s:vc}{k:List Nat}(h:c.cs=a++2::n::m::b)(f:0<=n)(g:0<=m)(d:s.length<=63):Go c 1 (at_ s a.length k) (at_ ((m*100+n)%c.b::s) (a.length+3) k):=by
 refine go1 ?_ rfl;rw[fO (args:=[n,m]) h ⋯ rfl,show Xs 2="far" from rfl,PC (iS ⋯ ⋯ ⋯)];unfold Yj cM;rw[PC ⋯,PC ⋯,SV ⋯,iz d];have e:(((iK [n,m]).toNat:Nat):Int)=m*100+n:=by simp[iK];lia
 rw[e];rfl
theorem xC{c:MC}{a b:vc}{s:vc}{k:List Nat}(h:c.cs=a++3::n::b)(f:0<=n)(g:n<=3)(d:s.length<=63):Go c 1 (at_ s a.length k) (at_ (c.as.getD n.toNat 0%c.b::s) (a.length+2) k):=by
 refine go1 ?_ rfl;have e:(iK [n]).toNat=n.toNat:=by simp[iK]
 rw[fO (args:=[n]) h ⋯ rfl,show Xs 3="load" from rfl,e,PC (NW ⋯)];unfold Yj cM;rw[PC ⋯,PC ⋯,PC ⋯,SV rfl,iz d];rfl
theorem xB{c:MC}{a b:vc}{s:vc}{k:List Nat}(h:c.cs=a++4::b)(d:2<=c.b)(e:s.length<=63):Go c 1 (at_ (y::x::s) a.length k) (at_ (two "add" x y c.b::s) (a.length+1) k):=by refine go1 ?_ rfl;rw[fO (args:=[]) h ⋯ rfl,show Xs 4="add" from rfl,PC (iS ⋯ ⋯ ⋯)];unfold Yj cM;rw[PC ⋯,PC ⋯,PC ⋯,PC ⋯,iZ,TR];dsimp only;rw[PC ⋯,PC ⋯,PC ⋯,iZ,TR];dsimp only;rw[iz e,Ua (jK d).1 (jK d).2];rfl
theorem BF{c:MC}{a b:vc}{s:vc}{k:List Nat}(h:c.cs=a++5::b)(d:2<=c.b)(e:s.length<=63):Go c 1 (at_ (y::x::s) a.length k) (at_ (two "sub" x y c.b::s) (a.length+1) k):=by refine go1 ?_ rfl;rw[fO (args:=[]) h ⋯ rfl,show Xs 5="sub" from rfl,PC (iS ⋯ ⋯ ⋯)];unfold Yj cM;rw[PC ⋯,PC ⋯,PC ⋯,PC ⋯,iZ,TR];dsimp only;rw[PC ⋯,PC ⋯,PC ⋯,iZ,TR];dsimp only;rw[iz e,Ua (jK d).1 (jK d).2];rfl
theorem Ge{c:MC}{a b:vc}{s:vc}{k:List Nat}(h:c.cs=a++6::b)(d:2<=c.b)(e:s.length<=63):Go c 1 (at_ (y::x::s) a.length k) (at_ (two "mul" x y c.b::s) (a.length+1) k):=by refine go1 ?_ rfl;rw[fO (args:=[]) h ⋯ rfl,show Xs 6="mul" from rfl,PC (iS ⋯ ⋯ ⋯)];unfold Yj cM;rw[PC ⋯,PC ⋯,PC ⋯,PC ⋯,iZ,TR];dsimp only;rw[PC ⋯,PC ⋯,PC ⋯,iZ,TR];dsimp only;rw[iz e,Ua (jK d).1 (jK d).2];rfl
theorem Da{c:MC}{a b:vc}{s:vc}{k:List Nat}(h:c.cs=a++7::b)(d:2<=c.b)(e:s.length<=63):Go c 1 (at_ (y::x::s) a.length k) (at_ (two "less" x y c.b::s) (a.length+1) k):=by refine go1 ?_ rfl;rw[fO (args:=[]) h ⋯ rfl,show Xs 7="less" from rfl,PC (iS ⋯ ⋯ ⋯)];unfold Yj cM;rw[PC ⋯,PC ⋯,PC ⋯,PC ⋯,iZ,TR];dsimp only;rw[PC ⋯,PC ⋯,PC ⋯,iZ,TR];dsimp only;rw[iz e,Ua (jK d).1 (jK d).2];rfl
theorem xE{c:MC}{a b:vc}{s:vc}{k:List Nat}(h:c.cs=a++12::n::b)(f:0<=n)(d:s.length<=63):Go c 1 (at_ (x::s) a.length k) (at_ ((x+n)%c.b::s) (a.length+2) k):=by
 refine go1 ?_ rfl;rw[fO (args:=[n]) h ⋯ rfl,show Xs 12="more" from rfl,PC (iS ⋯ ⋯ ⋯)];have e:(((iK [n]).toNat:Nat):Int)=n:=by simp[iK];lia
 unfold Yj cM;rw[PC ⋯,PC ⋯,PC ⋯,PC ⋯,iZ,TR];dsimp only;rw[SV rfl,e,iz d];rfl
theorem Gg{c:MC}{a b:vc}{s:vc}{k:List Nat}(h:c.cs=a++13::b)(d:0<=x/\x<c.b)(e:s.length<=62):Go c 1 (at_ (x::s) a.length k) (at_ (x::x::s) (a.length+1) k):=by refine go1 ?_ rfl;rw[fO (args:=[]) h ⋯ rfl,show Xs 13="twice" from rfl,PC (iS ⋯ ⋯ ⋯)];unfold Yj cM;rw[PC ⋯,PC ⋯,PC ⋯,PC ⋯,iZ,TR];dsimp only;rw[PC ⋯,SV rfl,iz ⋯,TR];rw[iz (by rw[SX];lia),Ua d.1 d.2];rfl
theorem Gc{c:MC}{a b:vc}{s:vc}{k:List Nat}(h:c.cs=a++14::b)(d:0<=x/\x<c.b)(e:0<=y/\y<c.b)(f:s.length<=62):Go c 1 (at_ (y::x::s) a.length k) (at_ (x::y::s) (a.length+1) k):=by refine go1 ?_ rfl;rw[fO (args:=[]) h ⋯ rfl,show Xs 14="about" from rfl,PC (iS ⋯ ⋯ ⋯)];unfold Yj cM;rw[PC ⋯,PC ⋯,PC ⋯,PC ⋯,iZ,TR];dsimp only;rw[PC ⋯,PC ⋯,SV rfl,iZ,TR];dsimp only;rw[iz ⋯,TR];rw[iz (by rw[SX];lia),Ua d.1 d.2,Ua e.1 e.2];rfl
theorem IT{mc:MC}{a b:vc}{n:Nat}{s:vc}{k:List Nat}(h:mc.cs=a++(fW 8 9 n++b)):Go mc 1 (at_ s a.length k) (at_ s (a.length+(fW 8 9 n).length+n) k):=by
 refine go1 (s1:=at_ s (a.length+(fW 8 9 n).length+n) k) ?_ rfl;unfold fW at h ⊢;by_cases c:(n:Int)<=9
 ·rw[SV c]at h ⊢;have e:(iK [(n:Int)]).toNat=n:=by simp[iK]
  rw[fO (args:=[(n:Int)]) h ⋯ rfl,show Xs 8="skip" from rfl,e,PC (Nu (.inl rfl) ⋯)];unfold Yj jL;rw[SV ⋯,SV ⋯];rfl
 ·rw[PC c]at h ⊢;have e:(iK [(n:Int)%100,(n:Int) / 100]).toNat=n:=by simp[iK];lia
  rw[fO (args:=[(n:Int)%100,(n:Int) / 100]) h ⋯ rfl,show Xs 9="jump" from rfl,e,PC (iS ⋯ ⋯ ⋯)];unfold Yj jL;rw[SV ⋯,SV ⋯];rfl
theorem IU{mc:MC}{a b:vc}{n:Nat}{x:Int}{s:vc}{k:List Nat}(h:mc.cs=a++(fW 10 11 n++b)):Go mc 1 (at_ (x::s) a.length k) (at_ s (a.length+(fW 10 11 n).length+if x=0 then n else 0) k):=by
 refine go1 (s1:=at_ s (a.length+(fW 10 11 n).length+if x=0 then n else 0) k) ?_ rfl;unfold fW at h ⊢;by_cases c:(n:Int)<=9
 ·rw[SV c]at h ⊢;have e:(iK [(n:Int)]).toNat=n:=by simp[iK]
  rw[fO (args:=[(n:Int)]) h ⋯ rfl,show Xs 10="zero" from rfl,e,PC (Nu (.inr rfl) ⋯)];unfold Yj jL;rw[SV ⋯,PC ⋯,SV ⋯,iZ];by_cases d:x=0
  ·rw[SV d];simp[d]
  ·rw[PC d];simp[d]
 ·rw[PC c]at h ⊢;have e:(iK [(n:Int)%100,(n:Int) / 100]).toNat=n:=by simp[iK];lia
  rw[fO (args:=[(n:Int)%100,(n:Int) / 100]) h ⋯ rfl,show Xs 11="none" from rfl,e,PC (iS ⋯ ⋯ ⋯)];unfold Yj jL;rw[SV ⋯,PC ⋯,SV ⋯,iZ];by_cases d:x=0
  ·rw[SV d];simp[d]
  ·rw[PC d];simp[d]
theorem ji(h:cQ (.gap i m) t=some f):∃n,t=.num n/\n<=m/\f=([],[n],[]):=by
 cases t with
 |num n =>
  have h:(if n<=m then some ([],[n],[])else none:Option Yb)=some f:=h;by_cases c:n<=m
  ·rw[SV c]at h;cases h;exact⟨n,rfl,c,rfl⟩
  ·rw[PC c]at h;cases h
 |_=>cases h
theorem oB(h:cQ (.slot i) t=some f):∃n,t=.arg n/\f=([],[],[n]):=by
 cases t with
 |arg n=>cases h;exact⟨n,rfl,rfl⟩
 |_=>cases h
theorem xx(h:cQ (.num m) t=some f):t=.num m/\f=([],[],[]):=by
 cases t with
 |num n =>
  have h:(if n=m then some ([],[],[])else none:Option Yb)=some f:=h;by_cases c:n=m
  ·rw[SV c]at h;cases h;exact⟨by rw[c],rfl⟩
  ·rw[PC c]at h;cases h
 |_=>cases h
theorem eP(h:cQ (.hole i) t=some f):f=([t],[],[]):=by cases h;rfl
theorem j5(h:cQ (.two o a b) t=some f):∃x y c d,t=.two o x y/\cQ a x=some c/\cQ b y=some d/\f=Ll c d:=by
 cases t with
 |two l x y=>obtain⟨e,c,d,g,i,j⟩:=fJ h;subst e;exact⟨x,y,c,d,rfl,g,i,j⟩
 |_=>cases h
structure okA(mc:MC):Prop where
 len:mc.as.length=4
 ar:∀x∈mc.as,0<=x/\x<mc.b
 b2:2<=mc.b
theorem su{a:MC}(h:okA a){n:Int}(d:0<=n)(f:n<=3):a.as.getD n.toNat 0%a.b=a.as.getD n.toNat 0:=by
 have l:=h.len;have c:n.toNat<a.as.length:=by lia
 have e:a.as.getD n.toNat 0=a.as[n.toNat]:=by rw[Td,SN c];rfl
 have:=h.ar _ (List.getElem_mem c);rw[e];exact Ua this.1 this.2
theorem qm(h:okA a):∀t:Tr,XJ t->0<=bW a.as a.b t/\bW a.as a.b t<a.b
 | .num n,_=>⟨Ub _ (by have:=h.b2;lia),T6 _ (by have:=h.b2;lia)⟩
 | .arg k,c=>by show 0<=a.as.getD k.toNat 0/\a.as.getD k.toNat 0<a.b;rw[<- su h c.1 c.2];exact⟨Ub _ (by have:=h.b2;lia),T6 _ (by have:=h.b2;lia)⟩
 | .two o x y,_=>jK h.b2
 | .pick x y z,c=>by
  show 0<=(if bW a.as a.b x=0 then bW a.as a.b z else bW a.as a.b y)/\(if bW a.as a.b x=0 then bW a.as a.b z else bW a.as a.b y)<a.b;split
  ·exact qm h z c.2.2
  ·exact qm h y c.2.1
 | .call _,c=>c.elim
abbrev okP(a:List Tr):Prop:=∀p∈a,XJ p
theorem NK(b:okP a)(i:Nat):XJ (a.getD i (.num 0)):=by
 rw[Td]
 cases e:a[i]? with
 |none=>exact⟨⋯,⋯⟩
 |some p=>exact b p (S4 e)
theorem mV(e:okP c)(h:okA a):∀t:Tr,Xx t->0<=bM c a.as a.b t/\bM c a.as a.b t<a.b
 | .num n,_=>⟨Ub _ (by have:=h.b2;lia),T6 _ (by have:=h.b2;lia)⟩
 | .arg k,d=>by show 0<=a.as.getD k.toNat 0/\a.as.getD k.toNat 0<a.b;rw[<- su h d.1 d.2];exact⟨Ub _ (by have:=h.b2;lia),T6 _ (by have:=h.b2;lia)⟩
 | .two o x y,_=>jK h.b2
 | .pick x y z,d=>by
  show 0<=(if bM c a.as a.b x=0 then bM c a.as a.b z else bM c a.as a.b y)/\(if bM c a.as a.b x=0 then bM c a.as a.b z else bM c a.as a.b y)<a.b;split
  ·exact mV e h z d.2.2
  ·exact mV e h y d.2.1
 | .call k,_=>qm h _ (NK e _)
def eU(p:Pc):Prop:=∀(d:List Tr)(c:MC)(t:Tr)(f:Yb)(a b s:vc)(k:List Nat),okP d->okA c->Xx t->cQ p.pt t=some f->c.cs=a++((bS p).map (lR f.2.1 f.2.2)++b)->s.length<=61 ->
 ∃m,m<=(bS p).length/\Go c m (at_ ((f.1.map (bM d c.as c.b)).reverse++s) a.length k) (at_ (bM d c.as c.b t::s) (a.length+(bS p).length) k)
theorem hE(h:Go b n s c)(d:s=e)(f:c=a):Go b n e a:=by subst d f;exact h
theorem eY{s a:vc}{k:List Nat}(b:s=a)(c:p=d):at_ s p k=at_ a d k:=by rw[b,c]
theorem rZ(x y b:Int):two "add" x y b=(x+y)%b:=by unfold two;rw[PC ⋯,SV rfl]
theorem Kg(x y b:Int):two "mul" x y b=x*y%b:=by unfold two;rw[PC ⋯,PC ⋯,PC ⋯]
theorem L1:eU ⟨"one",.gap 0 99,[.int 1,.tup [.str "low",.int 0]]⟩:=by
 intro j g t f a b s k l o d h c p;have i:s.length<=63:=by lia
 have q:s.length<=62:=by lia
 obtain⟨n,rfl,r,rfl⟩:=ji h;have c:g.cs=a++1::(n%100)::b:=c;have e:n%100=n:=Ua d.1 ⋯;rw[e]at c;exact⟨1,⋯,sU (s:=s) c d.1 i⟩
theorem L3:eU ⟨"two",.gap 0 9999,[.int 2,.tup [.str "low",.int 0],.tup [.str "high",.int 0]]⟩:=by
 intro i d t f a b s k j l e g c o;have h:s.length<=63:=by lia
 have p:s.length<=62:=by lia
 obtain⟨n,rfl,q,rfl⟩:=ji g;have c:d.cs=a++2::(n%100)::(n / 100)::b:=c;have r:=e.1;exact⟨1,⋯,hE (Gd (s:=s) c ⋯ ⋯ h) rfl (eY (Tu (·%d.b::s) ⋯) rfl)⟩
theorem JA:eU ⟨"slot",.slot 0,[.int 3,.tup [.str "arg",.int 0]]⟩:=by
 intro j e t f a b s k l g c h d o;have i:s.length<=63:=by lia
 have p:s.length<=62:=by lia
 obtain⟨n,rfl,rfl⟩:=oB h;have d:e.cs=a++3::n::b:=d;exact⟨1,⋯,hE (xC (s:=s) d c.1 c.2 i) rfl (eY (Tu (·::s) (su g c.1 c.2)) rfl)⟩
theorem LX:eU ⟨"add",.two "add" (.hole 0) (.hole 1),[.int 4]⟩:=by
 intro l d t f a b s k n e o g c p;have h:s.length<=63:=by lia
 have q:s.length<=62:=by lia
 obtain⟨x,y,r,u,rfl,i,j,rfl⟩:=j5 g;cases eP i;cases eP j;have c:d.cs=a++4::b:=c;exact⟨1,⋯,xB (s:=s) c e.b2 h⟩
theorem yt:eU ⟨"sub",.two "sub" (.hole 0) (.hole 1),[.int 5]⟩:=by
 intro l d t f a b s k n e o g c p;have h:s.length<=63:=by lia
 have q:s.length<=62:=by lia
 obtain⟨x,y,r,u,rfl,i,j,rfl⟩:=j5 g;cases eP i;cases eP j;have c:d.cs=a++5::b:=c;exact⟨1,⋯,BF (s:=s) c e.b2 h⟩
theorem L0:eU ⟨"mul",.two "mul" (.hole 0) (.hole 1),[.int 6]⟩:=by
 intro l d t f a b s k n e o g c p;have h:s.length<=63:=by lia
 have q:s.length<=62:=by lia
 obtain⟨x,y,r,u,rfl,i,j,rfl⟩:=j5 g;cases eP i;cases eP j;have c:d.cs=a++6::b:=c;exact⟨1,⋯,Ge (s:=s) c e.b2 h⟩
theorem Jx:eU ⟨"less",.two "less" (.hole 0) (.hole 1),[.int 7]⟩:=by
 intro l d t f a b s k n e o g c p;have h:s.length<=63:=by lia
 have q:s.length<=62:=by lia
 obtain⟨x,y,r,u,rfl,i,j,rfl⟩:=j5 g;cases eP i;cases eP j;have c:d.cs=a++7::b:=c;exact⟨1,⋯,Da (s:=s) c e.b2 h⟩
theorem Jy:eU ⟨"more",.two "add" (.hole 0) (.gap 0 99),[.int 12,.tup [.str "low",.int 0]]⟩:=by
 intro g c t f a b s k q r i j d u;have l:s.length<=63:=by lia
 have v:s.length<=62:=by lia
 obtain⟨x,y,w,z,rfl,o,p,rfl⟩:=j5 j;cases eP o;obtain⟨n,rfl,A,rfl⟩:=ji p;have h:0<=n:=i.2.2.1;have e:n%100=n:=Ua h ⋯;have d:c.cs=a++12::(n%100)::b:=d;rw[e]at d;exact⟨1,⋯,hE (xE (s:=s) d h l) rfl (eY (Tu (·::s) (by show(bM g c.as c.b x+n)%c.b=two "add" (bM g c.as c.b x) (n%c.b) c.b;rw[rZ];simp[Int.add_emod])) rfl)⟩
theorem LZ:eU ⟨"inc",.two "add" (.hole 0) (.num 1),[.int 12,.int 1]⟩:=by
 intro e c t f a b s k l n o g d p;have h:s.length<=63:=by lia
 have q:s.length<=62:=by lia
 obtain⟨x,y,r,u,rfl,i,j,rfl⟩:=j5 g;cases eP i;obtain⟨rfl,rfl⟩:=xx j;have d:c.cs=a++12::1::b:=d;exact⟨1,⋯,hE (xE (s:=s) d ⋯ h) rfl (eY (Tu (·::s) (by show(bM e c.as c.b x+1)%c.b=two "add" (bM e c.as c.b x) (1%c.b) c.b;rw[rZ];simp[Int.add_emod])) rfl)⟩
theorem Jw:eU ⟨"both",.two "add" (.slot 0) (.slot 1),[.int 3,.tup [.str "arg",.int 0],.int 3,.tup [.str "arg",.int 1],.int 4]⟩:=by
 intro w c t f a b s k z g d q r A;have o:s.length<=63:=by lia
 have B:s.length<=62:=by lia
 obtain⟨x,y,C,E,rfl,u,v,rfl⟩:=j5 q;obtain⟨n,rfl,rfl⟩:=oB u;obtain⟨m,rfl,rfl⟩:=oB v;have e:c.cs=a++3::n::(3::m::4::b):=r;have h:c.cs=(a++[3,n])++3::m::(4::b):=by rw[e];simp
 have i:c.cs=(a++[3,n,3,m])++4::b:=by rw[e];simp
 have p:=xC (s:=s) (k:=k) e d.2.1.1 d.2.1.2 o;have j:=xC (s:=c.as.getD n.toNat 0%c.b::s) (k:=k) h d.2.2.1 d.2.2.2 (by rw[SX];lia);have l:=xB (x:=c.as.getD n.toNat 0%c.b) (y:=c.as.getD m.toNat 0%c.b) (s:=s) (k:=k) i g.b2 o;rw[su g d.2.1.1 d.2.1.2]at p j l;rw[su g d.2.2.1 d.2.2.2]at j l;exact⟨3,⋯,(p.trans (hE j (eY rfl (by simp)) rfl)).trans (hE l (eY rfl (by simp)) (eY rfl (by rw[M1];rfl)))⟩
theorem B3:eU ⟨"twofold",.two "mul" (.hole 0) (.num 2),[.int 13,.int 4]⟩:=by
 intro d c t f a b s k i h j l n w;have o:s.length<=63:=by lia
 have p:s.length<=62:=by lia
 obtain⟨x,y,z,A,rfl,q,r,rfl⟩:=j5 l;cases eP q;obtain⟨rfl,rfl⟩:=xx r;have e:c.cs=a++13::(4::b):=n;have g:c.cs=(a++[13])++4::b:=by rw[e];simp
 have u:=Gg (s:=s) (k:=k) e (mV i h x j.2.1) p;have v:=xB (x:=bM d c.as c.b x) (y:=bM d c.as c.b x) (s:=s) (k:=k) g h.b2 o;refine⟨2,⋯,u.trans (hE v (eY rfl (by simp)) (eY (Tu (·::s) ?_) (by rw[M1];rfl)))⟩;show two "add" _ _ _=two "mul" (bM d c.as c.b x) (2%c.b) c.b;rw[rZ,Kg,show bM d c.as c.b x+bM d c.as c.b x=bM d c.as c.b x*2 by lia];simp[Int.mul_emod]
theorem Ha:eU ⟨"fewer",.two "sub" (.hole 0) (.gap 0 99),[.int 1,.tup [.str "low",.int 0],.int 5]⟩:=by
 intro h c t f a b s k z j l o p A;have q:s.length<=63:=by lia
 have B:s.length<=62:=by lia
 obtain⟨x,y,C,E,rfl,r,u,rfl⟩:=j5 o;cases eP r;obtain⟨n,rfl,G,rfl⟩:=ji u;have i:0<=n:=l.2.2.1;have e:n%100=n:=Ua i ⋯;have d:c.cs=a++1::(n%100)::(5::b):=p;rw[e]at d;have g:c.cs=(a++[1,n])++5::b:=by rw[d];simp
 have v:=sU (s:=bM h c.as c.b x::s) (k:=k) d i (by rw[SX];lia);have w:=BF (x:=bM h c.as c.b x) (y:=n%c.b) (s:=s) (k:=k) g j.b2 q;exact⟨2,⋯,v.trans (hE w (eY rfl (by simp)) (eY rfl (by rw[M1];rfl)))⟩
theorem LY:eU ⟨"far",.two "add" (.hole 0) (.gap 0 9999),[.int 2,.tup [.str "low",.int 0],.tup [.str "high",.int 0],.int 4]⟩:=by
 intro g c t f a b s k v i j l o w;have p:s.length<=63:=by lia
 have z:s.length<=62:=by lia
 obtain⟨x,y,A,B,rfl,q,r,rfl⟩:=j5 l;cases eP q;obtain⟨n,rfl,C,rfl⟩:=ji r;have E:0<=n:=j.2.2.1;have d:c.cs=a++2::(n%100)::(n / 100)::(4::b):=o;have e:c.cs=(a++[2,n%100,n / 100])++4::b:=by rw[d];simp
 have h:=Gd (s:=bM g c.as c.b x::s) (k:=k) d ⋯ ⋯ (by rw[SX];lia);rw[show n / 100*100+n%100=n by lia]at h;have u:=xB (x:=bM g c.as c.b x) (y:=n%c.b) (s:=s) (k:=k) e i.b2 p;exact⟨2,⋯,h.trans (hE u (eY rfl (by simp)) (eY rfl (by rw[M1];rfl)))⟩
theorem EC:eU ⟨"addmul",.two "add" (.two "mul" (.hole 0) (.hole 1)) (.gap 0 99),[.int 6,.int 12,.tup [.str "low",.int 0]]⟩:=by
 intro g c t f a b s k E l o p q G;have i:s.length<=63:=by lia
 have H:s.length<=62:=by lia
 obtain⟨u,y,I,J,rfl,r,v,rfl⟩:=j5 p;obtain⟨x,z,L,M,rfl,w,A,rfl⟩:=j5 r;cases eP w;cases eP A;obtain⟨n,rfl,N,rfl⟩:=ji v;have j:0<=n:=o.2.2.1;have e:n%100=n:=Ua j ⋯;have d:c.cs=a++6::(12::(n%100)::b):=q;rw[e]at d;have h:c.cs=(a++[6])++12::n::b:=by rw[d];simp
 have B:=Ge (x:=bM g c.as c.b x) (y:=bM g c.as c.b z) (s:=s) (k:=k) d l.b2 i;have C:=xE (x:=two "mul" (bM g c.as c.b x) (bM g c.as c.b z) c.b) (s:=s) (k:=k) h j i;refine⟨2,⋯,B.trans (hE C (eY rfl (by simp)) (eY (Tu (·::s) ?_) (by rw[M1];rfl)))⟩;show _=two "add" (two "mul" (bM g c.as c.b x) (bM g c.as c.b z) c.b) (n%c.b) c.b;rw[rZ];simp[Int.add_emod]
theorem ED:eU ⟨"turned",.two "less" (.gap 0 99) (.hole 0),[.int 1,.tup [.str "low",.int 0],.int 14,.int 7]⟩:=by
 intro g c t f a b s k o h i q r E;have u:s.length<=63:=by lia
 have v:s.length<=62:=by lia
 obtain⟨y,x,G,H,rfl,w,z,rfl⟩:=j5 q;cases eP z;obtain⟨n,rfl,I,rfl⟩:=ji w;have p:0<=n:=i.2.1.1;have e:n%100=n:=Ua p ⋯;have d:c.cs=a++1::(n%100)::(14::7::b):=r;rw[e]at d;have j:c.cs=(a++[1,n])++14::(7::b):=by rw[d];simp
 have l:c.cs=(a++[1,n,14])++7::b:=by rw[d];simp
 have A:=sU (s:=bM g c.as c.b x::s) (k:=k) d p (by rw[SX];lia);have B:=Gc (x:=bM g c.as c.b x) (y:=n%c.b) (s:=s) (k:=k) j (mV o h x i.2.2) (mV o h (.num n) i.2.1) v;have C:=Da (x:=n%c.b) (y:=bM g c.as c.b x) (s:=s) (k:=k) l h.b2 u;exact⟨3,⋯,(A.trans (hE B (eY rfl (by simp)) rfl)).trans (hE C (eY rfl (by simp)) (eY rfl (by rw[M1];rfl)))⟩
theorem Jz:eU ⟨"pair",.two "sub" (.gap 0 99) (.gap 1 99),[.int 1,.tup [.str "low",.int 0],.int 1,.tup [.str "low",.int 1],.int 5]⟩:=by
 intro C d t f a b s k E p i q r G;have j:s.length<=63:=by lia
 have H:s.length<=62:=by lia
 obtain⟨x,y,I,J,rfl,u,v,rfl⟩:=j5 q;obtain⟨m,rfl,L,rfl⟩:=ji u;obtain⟨n,rfl,M,rfl⟩:=ji v;have l:0<=n:=i.2.2.1;have e:n%100=n:=Ua l ⋯;have o:0<=m:=i.2.1.1;have w:m%100=m:=Ua o ⋯;have c:d.cs=a++1::(m%100)::(1::(n%100)::5::b):=r;rw[e,w]at c;have g:d.cs=(a++[1,m])++1::n::(5::b):=by rw[c];simp
 have h:d.cs=(a++[1,m,1,n])++5::b:=by rw[c];simp
 have z:=sU (s:=s) (k:=k) c o j;have A:=sU (s:=m%d.b::s) (k:=k) g l (by rw[SX];lia);have B:=BF (x:=m%d.b) (y:=n%d.b) (s:=s) (k:=k) h p.b2 j;exact⟨3,⋯,(z.trans (hE A (eY rfl (by simp)) rfl)).trans (hE B (eY rfl (by simp)) (eY rfl (by rw[M1];rfl)))⟩
theorem IS{mc:MC}{k:List Nat}(e:mc.cs=a++15::l::h::b)(d:0<=l)(f:0<=h)(hk:k.length<=15):Go mc 1 (at_ s a.length k) (at_ s (h*100+l).toNat ((a.length+3)::k)):=by
 refine go1 (s1:=at_ s (h*100+l).toNat ((a.length+3)::k)) ?_ rfl;have c:(iK [l,h]).toNat=(h*100+l).toNat:=by simp[iK]
 rw[fO (args:=[l,h]) e ⋯ rfl,show Xs 15="call" from rfl,c,PC (iS ⋯ ⋯ ⋯)];unfold Yj jL;rw[SV ⋯,PC ⋯,PC ⋯,SV rfl,PC (show ¬ k.length=16 by lia)];rfl
theorem IR{mc:MC}{a b s:vc}{k:List Nat}(e:mc.cs=a++16::b):Go mc 1 (at_ s a.length (r::k)) (at_ s r k):=by refine go1 (s1:=at_ s r k) ?_ rfl;rw[fO (args:=[]) e ⋯ rfl,show Xs 16="back" from rfl,PC (iS ⋯ ⋯ ⋯)];unfold Yj jL;rw[SV ⋯,PC ⋯,PC ⋯,PC ⋯];rfl
def Bx(c:List Tr)(d:MC)(t:Tr)(e:vc):Prop:=∀(a b s:vc)(k:List Nat),d.cs=a++(e++b)->s.length+2*cT c t<=61->k.length+cT c t+cx t<=16 ->
 ∃m,m+2<=14*eG c t+2*cx t/\Go d m (at_ s a.length k) (at_ (bM c d.as d.b t::s) (a.length+e.length) k)
def Fd(a:List Tr)(c:MC)(d:vc)(j:Nat):Prop:=∀(s:vc)(k:List Nat)(r:Nat),s.length+2*aP (a.getD j (.num 0))<=61->k.length+1+aP (a.getD j (.num 0))<=16 ->
 ∃m,m+1<=14*aM (a.getD j (.num 0))/\Go c m (at_ s (d.getD (j+1) 0).toNat (r::k)) (at_ (bW c.as c.b (a.getD j (.num 0))::s) r k)
theorem cx1(t:Tr):cx t<=1:=by unfold cx;split<;>lia
theorem HH:∀(l:List (Tr×List Int)),(∀x∈l,Bx e c x.1 x.2/\cT e x.1<=d)->∀(a b s:vc)(k:List Nat),c.cs=a++((l.map (·.2)).flatten++b)->s.length+l.length+2*d<=62->k.length+d+1<=16 ->
  ∃m,m<=14*(l.map λx=>eG e x.1).sum/\Go c m (at_ s a.length k) (at_ ((l.map λx=>bM e c.as c.b x.1).reverse++s) (a.length+(l.map (·.2)).flatten.length) k)
 |[],_,a,b,s,k,_,_,_=>⟨0,SY _,.nil⟩
 |x::l,h,a,b,s,k,f,g,hk=>by
  rw[S8,TV,TJ]at f;rw[SX]at g;obtain⟨i,r⟩:=h x Tn;have t:=cx1 x.1;obtain⟨j,u,n⟩:=i a _ s k f ⋯ ⋯;obtain⟨o,v,p⟩:=HH l (λy q=>h y (Th _ q)) (a++x.2) b (bM e c.as c.b x.1::s) k (by rw[f,TJ]) (by rw[SX];lia) hk;refine⟨j+o,by rw[S8,Vf];lia,n.trans (hE p (eY rfl (by rw[M1])) (eY ?_ ?_))⟩
  ·rw[S8,Vv,TJ];rfl
  ·rw[S8,TV,M1,M1];lia
theorem Dp{R:Tr->List Int->Prop}:∀{ts:List Tr}{cs:List D}{Xa:List (List D)},ts.length=cs.length->hU f ts cs=Xa.map some->(∀t∈ts,∀c b,f t c=some b->∃a:List Int,b=a.map D.int/\R t a) ->
  ∃l:List (Tr×List Int),l.map (·.1)=ts/\Xa.flatten=((l.map (·.2)).flatten).map D.int/\∀x∈l,R x.1 x.2
 |[],[],Xa,_,h,_=>by
  have:Xa=[]:=by cases Xa with|nil=>rfl|cons _ _=>cases h
  subst this;exact⟨[],rfl,rfl,λx e=>(nomatch e)⟩
 |[],c::cs,_,h,_,_=>by cases h
 |t::ts,[],_,h,_,_=>by cases h
 |t::ts,c::cs,Xa,g,h,d=>by
  cases Xa with
  |nil=>cases h
  |cons x Xa =>
   have i:f t c::hU f ts cs=some x::Xa.map some:=h;injection i with j n;obtain⟨a,o,p⟩:=d t Tn c x j;obtain⟨l,q,r,s⟩:=Dp (R:=R) (f:=f) (ts:=ts) (cs:=cs) (Xa:=Xa) (by simpa using g) n λt u=>d t (Th _ u);refine⟨(t,a)::l,by rw[S8,q],by rw[TV,o,r,S8,TV,Tj],λy hy=>?_⟩;rcases S0.mp hy with rfl|hy
   ·exact p
   ·exact s y hy
theorem pK(M:okP d)(N:okA i)(O:∀x∈v,0<=x)(Q:∀j,j<d.length->aP (d.getD j (.num 0))<=B->Fd d i v j)(T:∀p∈U,fQ p.pt=true/\eU p/\(∀t f,cQ p.pt t=some f->f.1.length<=2)/\(bS p).length<=12):∀(n:Nat)(t:Tr)(c:D)(G:List D),Xx t->clP d.length t->cT d t+cx t<=B+1->fP U v n t c=some G->∃H:List Int,G=H.map D.int/\Bx d i t H
 |0,_,_,_,_,_,_,h=>by cases h
 |n+1,t,c,G,ok,I,db,h=>by
  have h:(if kE t=true then some (ml v t)else match pC c with|none=>none|some x=>if x.1="pick" then oJ (fP U v n) t x.2 else mr (fP U v n) U t x.1 x.2)=some G:=h;by_cases w:kE t=true
  ·rw[SV w]at h
   cases t with
   |call j =>
    cases h;have k1:1<=j:=I.1;have k2:j.toNat<=d.length:=I.2;refine⟨[15,v.getD j.toNat 0%100,v.getD j.toNat 0 / 100],rfl,λa b s k A Y hk=>?_⟩;have ecx:cx (.call j)=1:=rfl;have edo:cT d (.call j)=aP (d.getD (j.toNat - 1) (.num 0)):=rfl;rw[ecx,edo]at hk db;rw[edo]at Y
    have hp0:0<=v.getD j.toNat 0:=by
     rw[Td]
     cases e:v[j.toNat]? with
     |none=>exact Ut 0
     |some x=>exact O x (S4 e)
    obtain⟨m,l,g⟩:=Q (j.toNat - 1) ⋯ ⋯ s k (a.length+3) Y ⋯;rw[show j.toNat - 1+1=j.toNat by lia]at g;have E:=IS (mc:=i) (a:=a) (b:=b) (l:=v.getD j.toNat 0%100) (h:=v.getD j.toNat 0 / 100) (s:=s) (k:=k) A ⋯ ⋯ ⋯;rw[show v.getD j.toNat 0 / 100*100+v.getD j.toNat 0%100=v.getD j.toNat 0 by lia]at E;exact⟨1+m,by rw[ecx,show eG d (.call j)=aM (d.getD (j.toNat - 1) (.num 0)) from rfl];lia,E.trans g⟩
   |_=>cases w
  rw[PC w]at h;have hcx:cx t=0:=MK (by cases e:kE t with|true=>exact absurd e w|false=>rfl)
  cases ec:pC c with
  |none=>rw[ec]at h;cases h
  |some x =>
   rw[ec]at h;dsimp only at h;by_cases hpk:x.1="pick"
   ·rw[SV hpk]at h;obtain⟨o,q,u,ca,cb,cd,xa,xb,xd,rfl,_,la,lb,ld,rfl⟩:=je h;obtain⟨n1,e1,r1⟩:=pK M N O Q T n o ca xa ok.1 I.1 (by have:=cx1 o;have e:cT d (.pick o q u)=max (cT d o) (max (cT d q) (cT d u))+1:=rfl;lia) la;obtain⟨n2,J,r2⟩:=pK M N O Q T n q cb xb ok.2.1 I.2.1 (by have:=cx1 q;have e:cT d (.pick o q u)=max (cT d o) (max (cT d q) (cT d u))+1:=rfl;lia) lb;obtain⟨y,e3,r3⟩:=pK M N O Q T n u cd xd ok.2.2 I.2.2 (by have:=cx1 u;have e:cT d (.pick o q u)=max (cT d o) (max (cT d q) (cT d u))+1:=rfl;lia) ld;subst e1 J e3;have hj:=kQ 8 9 (y.length:Int);let L:=n2++fW 8 9 (y.length:Int);refine⟨n1++(fW 10 11 (L.length:Int)++(L++y)),?_,?_⟩
    ·unfold gQ m8;have eL:((n2.map D.int++(fW 8 9 ((y.map D.int).length:Int)).map D.int).length:Int)=(L.length:Int):=by simp[L]
     rw[eL,tB];simp[L]
    ·intro a b s k A Y hk;have ed:cT d (.pick o q u)=max (cT d o) (max (cT d q) (cT d u))+1:=rfl;have ez:eG d (.pick o q u)=eG d o+eG d q+eG d u+1:=rfl;have c1:=cx1 o;have c2:=cx1 q;have c3:=cx1 u;obtain⟨m1,l1,E⟩:=r1 a (fW 10 11 (L.length:Int)++(L++y)++b) s k (by rw[A];simp) ⋯ ⋯;have g2:=IU (mc:=i) (a:=a++n1) (b:=L++y++b) (n:=L.length) (x:=bM d i.as i.b o) (s:=s) (k:=k) (by rw[A];simp);have C:=E.trans (hE g2 (eY rfl (by rw[M1])) rfl);by_cases hz:bM d i.as i.b o=0
     ·rw[SV hz]at C;obtain⟨m3,l3,g3⟩:=r3 (a++n1++fW 10 11 (L.length:Int)++L) b s k (by rw[A];simp) ⋯ ⋯;refine⟨m1+1+m3,?_,C.trans (hE g3 (eY rfl ?_) (eY ?_ ?_))⟩
      ·lia
      ·simp only[M1]
      ·show bM d i.as i.b u::s=(if bM d i.as i.b o=0 then bM d i.as i.b u else bM d i.as i.b q)::s;rw[SV hz]
      ·simp only[M1];lia
     ·rw[PC hz]at C;obtain⟨m3,l3,g3⟩:=r2 (a++n1++fW 10 11 (L.length:Int)) (fW 8 9 (y.length:Int)++y++b) s k (by rw[A];simp[L]) ⋯ ⋯;have g4:=IT (mc:=i) (a:=a++n1++fW 10 11 (L.length:Int)++n2) (b:=y++b) (n:=y.length) (s:=bM d i.as i.b q::s) (k:=k) (by rw[A];simp[L]);refine⟨m1+1+(m3+1),?_,C.trans ((hE g3 (eY rfl ?_) rfl).trans (hE g4 (eY rfl ?_) (eY ?_ ?_)))⟩
      ·lia
      ·simp only[M1];lia
      ·simp only[M1]
      ·show bM d i.as i.b q::s=(if bM d i.as i.b o=0 then bM d i.as i.b u else bM d i.as i.b q)::s;rw[PC hz]
      ·have lL:L.length=n2.length+(fW 8 9 (y.length:Int)).length:=M1;simp only[M1];lia
   ·rw[PC hpk]at h;obtain⟨p,g,Xa,e1,J,hl,e,rfl⟩:=jd h;have hpm:=(i9 e1).1;obtain⟨nh,pg,two,c12⟩:=T p hpm;have z:=oC nh J
    obtain⟨l,f1,f2,r⟩:=Dp (R:=λx H=>Bx d i x H/\cT d x<=cT d t - 1) (f:=fP U v n) hl e λx hx c G hq=>by have Y:=Nt (pa:=d) (z x hx);have hd:=cx1 x;obtain⟨H,q1,q2⟩:=pK M N O Q T n x c G (jq t x ok (lh (z x hx))) ((qI (pa:=d) t x (lh (z x hx))).2 I) ⋯ hq;exact⟨H,q1,q2,⋯⟩
    refine⟨(l.map (·.2)).flatten++(bS p).map (lR g.2.1 g.2.2),?_,?_⟩
    ·unfold gD;rw[f2,Tj,Up];rfl
    ·intro a b s k A Y hk
     have ll:l.length<=2:=by have:=Tu List.length f1;rw[tB]at this;have:=two t g J;lia
     have dp:1<=cT d t:=by
      cases t with
      |call j=>exact absurd rfl w
      |_=>simp only[cT];lia
     obtain⟨m1,l1,E⟩:=HH l r a ((bS p).map (lR g.2.1 g.2.2)++b) s k (by rw[A,TJ]) ⋯ ⋯;obtain⟨m2,l2,g2⟩:=pg d i t g (a++(l.map (·.2)).flatten) b s k M N ok J (by rw[A];simp) ⋯;have el:(l.map λx=>bM d i.as i.b x.1)=g.1.map (bM d i.as i.b):=by rw[<- f1,Up];rfl
     have ez:(l.map λx=>eG d x.1)=g.1.map (eG d):=by rw[<- f1,Up];rfl
     have sm:=(sP (pa:=d) p.pt t g J).2 nh;rw[el]at E;rw[ez]at l1;refine⟨m1+m2,⋯,E.trans (hE g2 (eY rfl (by rw[M1])) (eY rfl ?_))⟩;rw[M1,M1,tB];lia
theorem C4{c:MC}(h:c.cs=a++0::b):jh c (n+1) (at_ [x] a.length [])=.ends x:=by
 have e:fN c (at_ [x] a.length [])=some ⟨[x],a.length+1,[],true⟩:=by rw[fO (args:=[]) h ⋯ rfl,show Xs 0="end" from rfl,PC (iS ⋯ ⋯ ⋯)];unfold Yj;rw[PC ⋯,SV rfl];rfl
 show(match fN c _ with|none=>_|some s=>_)=_;rw[e];rfl
theorem hl2{p:Pc}(h:jc p.pt<=2):∀t f,cQ p.pt t=some f->f.1.length<=2:=λt f e=>by rw[mW _ _ _ e];exact h
end
section
variable{w:World}
theorem vP:∃y,jG b l c=some y/\y.1<=l/\∀x,b=some x->y.1<=x.1:=by
 cases b with
 |none=>exact⟨_,rfl,Ut _,λx h=>by cases h⟩
 |some b =>
  by_cases h:l<b.1
  ·exact⟨_,SV h,Ut _,λx e=>by cases e;exact Int.le_of_lt h⟩
  ·exact⟨_,PC h,⋯,λx e=>by cases e;exact Ut _⟩
theorem Ke{f:Tr->Yz}{b:Yz}{x:Int×D}{w:Wy}(h:b=some x):∃y,fT f b w=some y/\y.1<=x.1:=by
 unfold fT DP
 cases iJ (w.ts.map f)with
 |none=>exact⟨x,h,Ut _⟩
 |some bs =>obtain⟨y,a,_,d⟩:=vP (b:=b) (l:=eQ w (bs.map (·.1))) (c:=Z9 w.nm bs);exact⟨y,a,d x h⟩
theorem C7:∀(a:List Wy)(b:Yz)(x:Int×D),b=some x->∃y,a.foldl (fT f) b=some y/\y.1<=x.1
 |[],b,x,h=>⟨x,h,Ut _⟩
 |w::a,b,x,h=>by obtain⟨y,c,e⟩:=Ke (f:=f) (w:=w) h;obtain⟨z,d,g⟩:=C7 (f:=f) a _ y c;exact⟨z,d,⋯⟩
theorem Ag{w:Wy}(h:iJ (w.ts.map f)=some bs):∀(a:List Wy)(b:Yz),w∈a->∃y,a.foldl (fT f) b=some y/\y.1<=eQ w (bs.map (·.1))
 |w'::a,b,hw=>by
  rcases S0.mp hw with rfl|hw
  ·obtain⟨y,d,i,_⟩:=vP (b:=b) (l:=eQ w (bs.map (·.1))) (c:=Z9 w.nm bs);have e:fT f b w=some y:=by unfold fT DP;rw[h];exact d
   obtain⟨z,g,j⟩:=C7 (f:=f) a _ y e;exact⟨z,g,⋯⟩
  ·exact Ag h a _ hw
theorem oq{a:List Pc}(c:∀p∈a,fQ p.pt=true){t:Tr}{w:Wy}{bs:List (Int×D)}(d:kE t=false)(e:w∈jE a t)(h:iJ (w.ts.map (dP a))=some bs):∃b,dP a t=some b/\b.1<=eQ w (bs.map (·.1)):=by rw[kN c];unfold gX;rw[PC (by rw[d];exact SW)];exact Ag h _ _ e
theorem kM(g:∀p∈j,fQ p.pt=true)(i:∀p∈BP,p∈j):∀t:Tr,Xx t->∃b,dP j t=some b/\b.1+1<=4*aM t
 | .num n,h=>by
  have e:cQ (.gap 0 9999) (.num n)=some ([],[n],[]):=by show(if n<=9999 then _ else _)=_;rw[SV h.2]
  obtain⟨b,l,d⟩:=oq (bs:=[]) g rfl (ql (t:=.num n) (p:=⟨"two",.gap 0 9999,[.int 2,.tup [.str "low",.int 0],.tup [.str "high",.int 0]]⟩) (i _ (by simp[BP])) rfl e) rfl;have d:b.1<=3:=d;exact⟨b,l,by show b.1+1<=4*((1:Nat):Int);lia⟩
 | .arg k,h=>by obtain⟨b,l,d⟩:=oq (bs:=[]) g rfl (ql (t:=.arg k) (p:=⟨"slot",.slot 0,[.int 3,.tup [.str "arg",.int 0]]⟩) (f:=([],[],[k])) (i _ (by simp[BP])) rfl rfl) rfl;have d:b.1<=2:=d;exact⟨b,l,by show b.1+1<=4*((1:Nat):Int);lia⟩
 | .call k,h=>⟨(3,.tup []),by rw[kN g];rfl,by show(3:Int)+1<=4*((1:Nat):Int);decide⟩
 | .two o a b,h=>by
  obtain⟨x,q,s⟩:=kM g i a h.2.1;obtain⟨y,r,u⟩:=kM g i b h.2.2;obtain⟨c,A⟩:=AI h.1;obtain⟨z,l,d⟩:=oq (bs:=[x,y]) g rfl (ql (t:=.two o a b) (i _ A) rfl (FZ o a b)) (by show iJ [dP j a,dP j b]=_;rw[q,r];rfl);have e:eQ ⟨o,[c],[a,b]⟩ [x.1,y.1]=1+(x.1+y.1):=by unfold eQ vk;rw[PC (GS h.1)];simp
  have d:z.1<=eQ ⟨o,[c],[a,b]⟩ [x.1,y.1]:=d;rw[e]at d;exact⟨z,l,by show z.1+1<=4*((aM a+aM b+1:Nat):Int);lia⟩
 | .pick a b c,h=>by
  obtain⟨x,q,s⟩:=kM g i a h.1;obtain⟨y,r,u⟩:=kM g i b h.2.1;obtain⟨z,B,C⟩:=kM g i c h.2.2;obtain⟨v,l,d⟩:=oq (t:=.pick a b c) (w:=⟨"pick",[],[a,b,c]⟩) (bs:=[x,y,z]) g rfl (Tp.mpr rfl) (by show iJ [dP j a,dP j b,dP j c]=_;rw[q,r,B];rfl);have e:eQ ⟨"pick",[],[a,b,c]⟩ [x.1,y.1,z.1]=AM y.1 z.1+(x.1+(y.1+z.1)):=by unfold eQ vk;rw[SV rfl];simp
  have d:v.1<=eQ ⟨"pick",[],[a,b,c]⟩ [x.1,y.1,z.1]:=d;have E:=(xN z.1).2;have G:=(xN (y.1+kF z.1)).2;rw[e]at d;unfold AM at d;exact⟨v,l,by show v.1+1<=4*((aM a+aM b+aM c+1:Nat):Int);lia⟩
theorem rM(F:gdS a)(h:Xx t):0<=(Yl a t).1+1/\(Yl a t).1+1<=4*aM t:=by
 obtain⟨b,c,f⟩:=kM (λp d=>(F.hp p d).1) F.bp t h;obtain⟨g,_,i⟩:=jU [] F.hp F.la.ls.nd (aP t) t b (SY _) c;have e:Yl a t=b:=by unfold Yl;rw[c];rfl
 rw[e];lia
theorem Iw(h:uR a t=some i):a.getD i (.num 0)=t:=by rw[Td,(sX h).2.1];rfl
structure Fg(pa:List Tr)(as:vc)(b:Int)(t t':Tr):Prop where
 w:bM pa as b t'=bW as b t
 s:eG pa t'=aM t
 d:cT pa t'=aP t
 c:clP pa.length t'
section
theorem rQ(w:Fg a as b t (YX a t)):Fg a as b t (XS a t)/\Fg a as b t (YX a t):=by
 refine⟨?_,w⟩;rw[KY];unfold atC
 cases e:uR a t with
 |none=>exact w
 |some i =>
  have f:=(sX e).1;have c:=Iw e;have d:(((i:Int)+1).toNat - 1)=i:=by lia
  refine⟨?_,?_,?_,?_⟩
  ·show bW as b (a.getD (((i:Int)+1).toNat - 1) (.num 0))=_;rw[d,c]
  ·show aM (a.getD (((i:Int)+1).toNat - 1) (.num 0))=_;rw[d,c]
  ·show aP (a.getD (((i:Int)+1).toNat - 1) (.num 0))=_;rw[d,c]
  ·show 1<=(i:Int)+1/\((i:Int)+1).toNat<=a.length;lia
theorem tR:∀t:Tr,XJ t->Fg pa as b t (XS pa t)/\Fg pa as b t (YX pa t)
 | .num n,_=>rQ ⟨rfl,rfl,rfl,trivial⟩
 | .arg n,_=>rQ ⟨rfl,rfl,rfl,trivial⟩
 | .call n,ok=>ok.elim
 | .two o x y,ok=>by
  obtain⟨⟨a,c,d,e⟩,_⟩:=tR x ok.2.1;obtain⟨⟨f,g,h,i⟩,_⟩:=tR y ok.2.2;refine rQ ⟨?_,?_,?_,e,i⟩
  ·show two o (bM pa as b (XS pa x)) (bM pa as b (XS pa y)) b=two o _ _ b;rw[a,f]
  ·show eG pa (XS pa x)+eG pa (XS pa y)+1=aM x+aM y+1;rw[c,g]
  ·show max (cT pa (XS pa x)) (cT pa (XS pa y))+1=max (aP x) (aP y)+1;rw[d,h]
 | .pick x y z,ok=>by
  obtain⟨⟨a,c,d,e⟩,_⟩:=tR x ok.1;obtain⟨⟨f,g,h,i⟩,_⟩:=tR y ok.2.1;obtain⟨⟨j,l,p,q⟩,_⟩:=tR z ok.2.2;refine rQ ⟨?_,?_,?_,e,i,q⟩
  ·show(if bM pa as b (XS pa x)=0 then bM pa as b (XS pa z)else bM pa as b (XS pa y))=(if bW as b x=0 then bW as b z else bW as b y);rw[a,f,j]
  ·show eG pa (XS pa x)+eG pa (XS pa y)+eG pa (XS pa z)+1=aM x+aM y+aM z+1;rw[c,g,l]
  ·show max (cT pa (XS pa x)) (max (cT pa (XS pa y)) (cT pa (XS pa z)))+1=max (aP x) (max (aP y) (aP z))+1;rw[d,h,p]
end
theorem Nw(ok:XJ t):cx (YX pa t)=0:=by
 cases t with
 |call n=>exact ok.elim
 |_=>rfl
noncomputable abbrev lsO(a:List Pc)(b:List Tr)(t:Tr):List Int:=(cG b t).map λr=>(Yl a r).1
noncomputable abbrev Ye(a:List Pc)(b:List Tr)(t:Tr):List Int:=kX (lsO a b t)
theorem Hf{a:vc}(h:i<a.length):(kX a).getD i 0=pA a i:=by unfold kX;rw[Td,SR,List.getElem?_range h];rfl
theorem xR{c:vc}(h:c.map D.int=x++y):∃a b,c=a++b/\x=a.map D.int/\y=b.map D.int:=by obtain⟨a,b,d,e,f⟩:=List.map_eq_append_iff.mp h;exact⟨a,b,d,e.symm,f.symm⟩
structure xT(ps:List Pc)(pa:List Tr)(t:Tr):Prop where
 F:gdS ps
 pa:YG pa
 ot:XJ t
 d:aP t<=8
 s:aM t<=40
variable{ext:vc}
theorem zQ(I:xT g f t){p:vc}(h:p.map D.int=iU g f t++ext.map D.int)(o:(cG f t)[i]?=some r)(B:(eZ f.length)[i]?=some c) :
  ∃a l b:List Int,p=a++(l++c::b)/\(a.length:Int)=(Ye g f t).getD i 0/\fP g (Ye g f t) 8 r (Yl g r).2=some (l.map D.int):=by
 have j:=iX I.pa I.ot I.d I.s;have C:i<(cG f t).length:=(S6.mp o).1;obtain⟨E,G,k3,_⟩:=j r (S4 o);obtain⟨q,_,u,_,_⟩:=pG I.F (Ye g f t) E G;have v:((cG f t).zip (eZ f.length))[i]?=some (r,c):=by rw[VM];exact⟨o,B⟩
 have H:i<((cG f t).zip (eZ f.length)).length:=(S6.mp v).1;have J:i4 g (Ye g f t) (r,c)=q++[.int c]:=by unfold i4;dsimp only;rw[u];rfl
 have e:iU g f t=((((cG f t).take i).zip ((eZ f.length).take i)).map (i4 g (Ye g f t))).flatten++((q++[.int c])++((((cG f t).zip (eZ f.length)).drop (i+1)).map (i4 g (Ye g f t))).flatten):=by
  have A:(cG f t).zip (eZ f.length)=((cG f t).zip (eZ f.length)).take i++(r,c)::((cG f t).zip (eZ f.length)).drop (i+1):=by rw[<- List.getElem_eq_iff H |>.mpr v,List.getElem_cons_drop,UD]
  show(((cG f t).zip (eZ f.length)).map (i4 g (Ye g f t))).flatten=_;rw[A];simp only[Tj,S8,U1,TV,J];rw[<- A];have L:((cG f t).zip (eZ f.length)).take i=((cG f t).take i).zip ((eZ f.length).take i):=List.take_zipWith;rw[L]
 rw[e,TJ,TJ,TJ]at h;obtain⟨a,y,rfl,M,N⟩:=xR h;obtain⟨l,z,rfl,O,n⟩:=xR N.symm
 have Q:=(zG I.F (Ye g f t) (rs:=(cG f t).take i) (cs:=(eZ f.length).take i) (by rw[T4,T4,gT,oz]) λx T=>by
  obtain⟨a,b,c,_⟩:=j x (Vh T);exact⟨a,b,c⟩).1
 cases z with
 |nil=>cases n
 |cons U z =>have n:D.int c::_=D.int U::z.map D.int:=n;injection n with Y _;cases Y;refine⟨a,l,z,rfl,?_,by rw[u,O]⟩;have e2:a.length=(a.map D.int).length:=(tB _).symm;rw[e2,<- M,Q,Hf (by rw[tB];exact C)];unfold pA;rw[<- WD,Up];rfl
theorem oF:∀{u v:vc},u.map D.int=v.map D.int->u=v
 |[],[],_=>rfl
 |[],_::_,e=>by cases e
 |_::_,[],e=>by cases e
 |x::u,y::v,e=>by rw[S8,S8]at e;injection e with a b;injection a with a;rw[a,oF b]
abbrev goX(p:Pc):Prop:=fQ p.pt=true/\eU p/\(∀t f,cQ p.pt t=some f->f.1.length<=2)/\(bS p).length<=12
theorem yv(I:xT b c t):∀x∈Ye b c t,0<=x:=λx e=>by
 obtain⟨i,_,rfl⟩:=T5.mp e;unfold pA
 have:∀l:List Int,(∀y∈l,0<=y)->0<=l.sum:=λl=>by
  induction l with
  |nil=>exactλ_=>Ut _
  |cons y l f=>intro h;rw[Vf];have:=h y Tn;have:=f λz a=>h z (Th _ a);lia
 refine this _ λy g=>?_;obtain⟨z,a,rfl⟩:=T5.mp g;obtain⟨r,j,rfl⟩:=T5.mp (Vh a);exact(rM I.F (iX I.pa I.ot I.d I.s r j).1).1
theorem xm(I:xT q e t)(u:∀p∈q,goX p)(y:okA f)(n:f.cs.map D.int=iU q e t++ext.map D.int):∀(B j:Nat),j<e.length->aP (e.getD j (.num 0))<=B->Fd e f (Ye q e t) j
 |0,j,v,z=>by have:=e8 (e.getD j (.num 0));lia
 |B+1,j,v,z=>by
  have G:=xm I u y n B;have H:okP e:=λp u=>(I.pa.ok p u).1;have o:e[j]?=some (e.getD j (.num 0)):=by rw[Td,SN v];rfl
  generalize e.getD j (.num 0)=p at o z;obtain⟨A,_,_⟩:=I.pa.ok p (S4 o);obtain⟨a,J,b,C,L,M⟩:=zQ I n (i:=j+1) (r:=YX e p) (c:=16) (by show(e.map (YX e))[j]?=_;rw[SR,o];rfl) (by show(List.replicate e.length (16:Int))[j]?=_;rw[List.getElem?_replicate,SV v]);obtain⟨_,N,O,x,Q⟩:=tR (pa:=e) (as:=f.as) (b:=f.b) p A;have h:=Nw (pa:=e) A;obtain⟨T,_,_,_⟩:=iX I.pa I.ot I.d I.s (YX e p) (Th _ (T5.mpr ⟨p,S4 o,rfl⟩));obtain⟨U,Y,g⟩:=pK H y (B:=B) (yv I) G u 8 (YX e p) _ _ T Q (by rw[x,h];lia) M;obtain rfl:=oF Y;intro s k r E hk;have ep:e.getD j (.num 0)=p:=by rw[Td,o];rfl
  rw[ep]at E hk ⊢;obtain⟨m,l,g⟩:=g a (16::b) s (r::k) C (by rw[x];exact E) (by rw[x,h,SX];lia);rw[N]at g;rw[O,h]at l;refine⟨m+1,⋯,?_⟩;have ea:((Ye q e t).getD (j+1) 0).toNat=a.length:=by rw[<- L];lia
  rw[ea];exact g.trans (hE (IR (mc:=f) (a:=a++J) (b:=b) (s:=bW f.as f.b p::s) (r:=r) (k:=k) (by rw[C,TJ])) (eY rfl M1) rfl)
theorem GX(I:xT e a t)(i:∀p∈e,goX p)(o:okA mc){c:vc}(q:c.map D.int=iU e a t)(h:mc.cs=c++[0])(f:a[j]?=some p)(v:600<=N):jh mc N ⟨[],((Ye e a t).getD (j+1) 0).toNat,[c.length],false⟩=.ends (bW mc.as mc.b p):=by
 have r:=(S6.mp f).1;have d:a.getD j (.num 0)=p:=by rw[Td,f];rfl
 obtain⟨_,s,u⟩:=I.pa.ok p (S4 f);obtain⟨m,l,g⟩:=xm I i o (ext:=[0]) (by rw[h,Tj,q]) 8 j r (by rw[d];exact s) [] [] c.length (by rw[d];show 0+2*aP p<=61;lia) (by rw[d];show 0+1+aP p<=16;lia);rw[d]at l g;obtain⟨n,rfl⟩:∃n,N=m+(n+1):=⟨N - m - 1,⋯⟩
 exact Eq.trans (g.run (n+1)) (C4 h)
theorem GR(I:xT h e t)(j:∀p∈h,goX p)(q:okA mc)(x:mc.cs.map D.int=iU h e t)(T:600<=N):jh mc N ⟨[],0,[],false⟩=.ends (bW mc.as mc.b t):=by
 have y:okP e:=λp j=>(I.pa.ok p j).1;have f:mc.cs.map D.int=iU h e t++([]:vc).map D.int:=by rw[UO,To];exact x
 obtain⟨a,u,b,v,A,C⟩:=zQ I f (i:=0) (r:=XS e t) (c:=0) rfl rfl;rw[Hf (by rw[tB,gT];lia)]at A;have E:a=[]:=VU.mp (by have:pA (lsO h e t) 0=0:=(by unfold pA;rfl);lia);subst E;obtain⟨⟨G,H,o,J⟩,_⟩:=tR (pa:=e) (as:=mc.as) (b:=mc.b) t I.ot;obtain⟨L,_,_,_⟩:=iX I.pa I.ot I.d I.s (XS e t) Tn;have U:=cx1 (XS e t);have Y:=I.d;have M:=I.s;obtain⟨O,Q,g⟩:=pK y q (B:=8) (yv I) (xm I j q f 8) j 8 (XS e t) _ _ L J (by rw[o];lia) C;obtain rfl:=oF Q;obtain⟨m,l,g⟩:=g [] (0::b) [] [] v (by rw[o];show 0+2*aP t<=61;lia) (by rw[o];show 0+aP t+cx (XS e t)<=16;lia);rw[G]at g;rw[H]at l;obtain⟨n,rfl⟩:∃n,N=m+(n+1):=⟨N - m - 1,⋯⟩
 refine Eq.trans (g.run (n+1)) ?_;have z:([]:vc).length+u.length=u.length:=by simp
 rw[z];exact C4 v
theorem GQ(I:xT f e t)(u:e.length<=3)(i:∀p∈e,p∈aS t):(iU f e t).length<=640:=by
 have h:=(tQ I.F I.pa I.ot I.d I.s).1
 have:∀l:List Tr,(∀r∈l,Xx r/\aM r<=40)->(l.map λr=>(Yl f r).1+1).sum<=160*l.length:=λl=>by
  induction l with
  |nil=>exactλ_=>Ut _
  |cons r l j =>intro g;obtain⟨n,v⟩:=g r Tn;have:=(rM I.F n).2;have:=j λx o=>g x (Th _ o);rw[S8,Vf,SX];lia
 have z:=this (cG e t) λr q=>by obtain⟨a,b,c,_⟩:=iX I.pa I.ot I.d I.s r q;exact⟨a,c⟩
 rw[gT]at z;lia
end
section
variable{K:qs}
section
noncomputable def KB(K:qs):R2:=λx y H Q=>∃l b a zs,x=.ref l/\y=.ref b/\XR K H l a/\XR K H b zs/\a.length+zs.length<=10000/\∀p,H p=none->Q (.ref p) (upd H p (.lst (a++zs)))
theorem Jp:XG X (binaryOp .Add) (KB X.K):=by
 intro d s B H x y v u Q I g i h;obtain⟨l,b,j,zs,rfl,rfl,o,p,t,q⟩:=h;cases g;cases i;obtain⟨c,n,r,e⟩:=o.at I;obtain⟨a,C,f,w⟩:=p.at I;have E:=r.length;have G:=f.length;have z:j.length+zs.length<=sizeLine:=Tz t ⋯;refine PySem.P.add_list e w ?_ (by rw[S7,S7];lia);have A:c.toArray++a.toArray=(c++a).toArray:=by simp
 rw[A];exact⟨.ref _,_,I.lnew (t':=s.toks) (r.append f) (by rw[M1];lia),rfl,q _ I.fresh⟩
theorem JL(l:RL K n f H g)(o:RL K r f H h)(E:g.length+h.length<=10000):RC K (XT (KB K) n r) f H (g++h):=λt s Q q =>
 l t s _ λv u c x=>o u (s.trans c) _ λw G d y=>by obtain⟨a,z,rfl,A,i⟩:=d.ld x;obtain⟨b,B,rfl,C,j⟩:=y;have I:=i.length;have J:=j.length;exact⟨a,b,z,B,rfl,rfl,A,C,⋯,λp e=>q p _ _ ((c.trans d).free e) (c.trans (d.trans (aL e _))) aF ((aL e _).W0 (WU.append i j))⟩
end
def argsOk(as:vc)(b:Int):Prop:=as.length=4/\(∀x∈as,0<=x/\x<b)/\2<=b/\b<=10000
def okO(o:Str):Prop:=o="add"\/o="sub"\/o="mul"\/o="less"
theorem LI(h:okO o):¬ o="num"/\¬ o="arg"/\¬ o="pick":=by rcases h with rfl|rfl|rfl|rfl<;>decide +kernel
theorem Fy{as:vc}{b k:Int}(h:argsOk as b)(a:0<=k)(c:k<=3):as[k.toNat]?=some (as.getD k.toNat 0):=by
 have d:=h.1;have hk:k.toNat<as.length:=by lia
 rw[Td,SN hk];rfl
theorem ph(h:argsOk as b):∀t:Tr,XJ t->0<=bW as b t/\bW as b t<b
 | .num n,_=>⟨Ub _ (by have:=h.2.2.1;lia),T6 _ (by have:=h.2.2.1;lia)⟩
 | .arg k,a=>h.2.1 _ (S4 (Fy h a.1 a.2))
 | .two o x y,_=>jK h.2.2.1
 | .pick x y z,a=>by
  unfold bW;split
  ·exact ph h z a.2.2
  ·exact ph h y a.2.1
def mh(n:Nat)(a:List D)(d:D):Prop:=∃t as b,a=[toD t,.tup (as.map D.int),.int b]/\XJ t/\aP t<=n/\argsOk as b/\d=.int (bW as b t)
theorem HS{x y:Str}(h:x=y):decide (x=y)=true:=S9 h
theorem vX{x y:Str}(h:¬ x=y):decide (x=y)=false:=S3 h
def HP(K:qs):Sp:=λe H Q _=>∃(a t:Addr)(f:vc)(p q:Int)(rest:List V),e=[.ref a,.ref t]/\Zb K H a f/\H t=some (.lst (.int p::.int q::rest))/\0<=p /\
 ∀(b:Int)(c:Hp)(d g:Int),Xb t H c->c t=some (.lst (.int d::.int g::rest))->0<=d->2<=b->b<=10000->Q (.int b) c
def HI(K:qs):Sp:=λe H Q _=>∃(a t:Addr)(f:vc)(b p q:Int)(rest:List V),e=[.ref a,.ref t,.int b]/\Zb K H a f/\H t=some (.lst (.int p::.int q::rest))/\0<=p/\2<=b/\b<=10000 /\
 ∀(v:V)(c:Hp)(as:vc)(d g:Int),Xb t H c->c t=some (.lst (.int d::.int g::rest))->0<=d->argsOk as b->Dat K c (.tup (as.map D.int)) v->Q v c
theorem x8(T:Txt P w K mg)(n:Ok P w base k T.N3 (nX K)):Ok P w base (k+1) T.PD (HP K):=by
 refine Xd T.PD.f yS λL H Q E M h=>?_;obtain⟨a,t,o,p,q,rest,rfl,r,g,s,post⟩:=h;refine⟨rfl,λ_ _ _ _ u=>⟨_,(zr (pc (D:=T.N3) n u (z3 (pv 0) (pv 1) (bQ (aY aD (aY aD (aY aD (aY aD (aY aD (aY aD a7)))))))))),?_⟩⟩;refine⟨_,rfl,_,rfl,cK ⋯,λl b=>?_⟩;have c:l≠t:=λz=>by rw[z,g]at b;cases b
 have d:WV H (upd H l (.lst [.int 2,.int 3,.int 5,.int 10,.int 256,.int 10000])):=aL b _;refine⟨a,t,l,o,_,p,q,rest,rfl,r.same d,W2.of aF,c,⋯,⋯,d _ _ g,s,λi x v y A B C G I=>?_⟩
 obtain⟨m,J,j⟩:∃m:Int,x=.int m/\2<=m/\m<=10000:=by have:=S4 I;simp only[S0,Ti,T9]at this;rcases this with e|e|e|e|e|e<;>exact⟨_,e,⋯,⋯⟩
 subst J;exact post m v y A (d.but.trans B) C G j.1 j.2
theorem xU(T:Txt P w K mg)(Of:Ok P w base k T.Oa (uF K))(N9:Ok P w base k T.N3 (nX K)):Ok P w base (k+1) T.Py (HI K):=by
 refine Xd T.Py.f yM λvs H Q E nd h=>?_;obtain⟨a,t,ns,b,p,q,rest,rfl,hS,A,hp,hb,O,post⟩:=h;refine⟨rfl,λ_ _ _ _ hr=>⟨_,(zr (eF dD rfl T.Os fC (z1 (zc [0,1,2] ["_law_k","_law_script","_law_town","_law_base"] (iG rfl T.Pi (z1 aD)) (λ_ _ _ _ _=>(pc (D:=T.N3) N9 hr (z3 (pv 1) (pv 2) (bQ (aY aD (aY aD (aY (bF nQ (pv 3) aD) (aY (pc (D:=T.Oa) Of hr (z3 (pv 1) (pv 2) (pv 3))) a7)))))))))))),?_⟩⟩;dsimp only[XQ];refine jM (jz ?_)
 refine nT 4 (λR hR=>hR) ⋯ rfl
  (λl i g=>∃(as:vc)(v B:Int),Xb t H g/\g t=some (.lst (.int v::.int B::rest))/\0<=v/\g l=some (.lst (as.map V.int))/\as.length=i/\(∀x∈as,0<=x/\x<b)) (λl d=>?_) (λl i g d hi pn=>?_) (λl g d pn=>?_)
 ·have L:l≠t:=λz=>by rw[z,A]at d;cases d
  exact⟨[],p,q,(aL d _).but,(aL d _) _ _ A,hp,aF,rfl,λx U=>absurd U (by simp)⟩
 ·obtain⟨as,v,B,M,N,Y,n,la,s⟩:=pn;have L:l≠t:=λz=>by rw[z,A]at d;cases d
  refine⟨_,rfl,_,rfl,_,rfl,b,1,rfl,rfl,_,rfl,_,rfl,_,rfl,a,t,ns,b,v,B,rest,rfl,hS.but M A,N,Y,⋯,⋯,λr H1 p1 q1 b1 t1 g1 r0 r1=>⟨cK (by simp),λm C=>?_⟩⟩;have nm:m≠t:=λz=>by rw[z,t1]at C;cases C
  have G:=b1 l _ L n;have nml:m≠l:=λz=>by rw[z,G]at C;cases C
  have s2:WV H1 (upd H1 m (.lst [.int 0,.int 1,.int (b - 1),.int r])):=aL C _;have I:=(M.trans b1).trans s2.but;refine⟨a,t,m,ns,_,p1,q1,rest,rfl,hS.but I A,W2.of aF,nm,by simp,by simp,s2 _ _ t1,g1,λj x H5 p5 q5 b5 t5 g5 U=>?_⟩
  obtain⟨y,ey,hy⟩:∃y:Int,x=.int y/\0<=y/\y<b:=by
   have:=S4 U;simp only[S0,Ti,T9]at this;rcases this with e|e|e|e
   ·exact⟨_,e,⋯,⋯⟩
   ·exact⟨_,e,⋯,⋯⟩
   ·exact⟨_,e,⋯,⋯⟩
   ·exact⟨_,e,⋯,⋯⟩
  subst ey;have ZN:=b5 l _ L (s2 _ _ G);refine⟨as.map V.int,ZN,cU (by rw[tB];lia),⟨_,rfl⟩,as++[y],p5,q5,?_,?_,g5,?_,by simp[la],?_⟩
  ·intro c o hc J;have nc:c≠l:=aN J d;rw[aR nc];exact b5 c o hc (I c o hc J)
  ·rw[aR (Tf L)];exact t5
  ·rw[aF,Tj];rfl
  ·intro z hz;rcases Tq.mp hz with hz|hz
   ·exact s z hz
   ·rw[Tp.mp hz];exact hy
 ·obtain⟨as,v,B,M,N,Y,n,la,s⟩:=pn;refine⟨l,as.map V.int,rfl,.inl ⟨W2.of n,λu hu=>?_⟩⟩;have nu:u≠t:=λz=>by rw[z,N]at hu;cases hu
  have s8:WV g (upd g u (.tup (as.map V.int))):=aL hu _;exact post _ _ as v B (M.trans s8.but) (s8 _ _ N) Y ⟨la,s,hb,O⟩ (Dat.tupI (Xo.of aF) (dO as))
def Fv(a:List D)(d:D):Prop:=∃o x y b,a=[.str o,.int x,.int y,.int b]/\okO o/\2<=b/\b<=10000/\0<=x/\x<b/\0<=y/\y<b/\d=.int (two o x y b)
theorem AA(T:Txt P w K mg)  : Ok P w base (k+1) T.O3 (Xp K Fv):=by
 refine Xd T.O3.f Ba λvs H Q E nd h=>?_;obtain⟨ds,d,C,⟨o,x,y,b,rfl,G,hb,I,hx,J,hy,L,rfl⟩,post⟩:=h;obtain⟨v0,v1,v2,v3,rfl,t,l,n,u⟩:=Kp C;refine⟨rfl,λ_ _ _ _ hr=>⟨_,(aC (bA (zt cE (pv 0) aI) (zr (bF fI (bF cJ (pv 1) (pv 2)) (pv 3))) aO)
 (aC (bA (zt cE (pv 0) aI) (zr (bF fI (bF nQ (pv 1) (pv 2)) (pv 3))) aO)
 (aC (bA (zt cE (pv 0) aI) (zr (bF fI (bF nP (pv 1) (pv 2)) (pv 3))) aO)
 (zr (gF (zt kT (pv 1) (pv 2)) aD aD))))),?_⟩⟩
 show let B:=a6 _ _;a6 _ B _ _ _;intro B;refine aT (K:=K) (b:=decide (o="add")) (aH (bN (aB t) aJ)) (λc M a=>?_) (λc M a=>?_)
 ·refine bE (K:=K) (d:=.int (two o x y b)) ?_ λv z s q=>post v z (a.trans s) q;have e:two o x y b=(x+y)%b:=by rw[S1 c];rfl
  rw[e];exact jI (dC (aB (a.dat l)) (aB (a.dat n))) (aB (a.dat u)) ⋯
 have t:=a.dat t;have l:=a.dat l;have n:=a.dat n;have u:=a.dat u;have N:=S5 c;refine aT (K:=K) (b:=decide (o="sub")) (aH (bN (aB t) aJ)) (λc O g=>?_) (λc O g=>?_)
 ·refine bE (K:=K) (d:=.int (two o x y b)) ?_ λv z s q=>post v z (a.trans (g.trans s)) q;have e:two o x y b=(x - y)%b:=by rw[S1 c];rfl
  rw[e];exact jI (uc (aB (g.dat l)) (aB (g.dat n))) (aB (g.dat u)) ⋯
 have t:=g.dat t;have l:=g.dat l;have n:=g.dat n;have u:=g.dat u;have U:=S5 c;refine aT (K:=K) (b:=decide (o="mul")) (aH (bN (aB t) aJ)) (λc Y r=>?_) (λc Y r=>?_)
 ·refine bE (K:=K) (d:=.int (two o x y b)) ?_ λv z s q=>post v z (a.trans (g.trans (r.trans s))) q;have e:two o x y b=x*y%b:=by rw[S1 c];rfl
  rw[e];exact jI (t9 (aB (r.dat l)) (aB (r.dat n)) (.inr ⟨⋯,⋯⟩)) (aB (r.dat u)) ⋯
 have n3:=S5 c;refine bE (K:=K) (d:=.int (two o x y b)) ?_ λv z s q=>post v z (a.trans (g.trans (r.trans s))) q
 have eo:o="less":=by
  rcases G with h|h|h|h
  ·exact absurd h N
  ·exact absurd h U
  ·exact absurd h n3
  ·exact h
 have e:two o x y b=if x<y then 1 else 0:=by rw[eo];rfl
 rw[e];refine qJ (b:=decide (x<y)) (aH (cP (p:=λi j=>decide (i<j)) (aB (r.dat l)) (aB (r.dat n)))) (λA=>?_) (λA=>?_)
 ·rw[SV (S1 A)];exact aE
 ·rw[PC (S5 A)];exact aE
theorem uW(T:Txt P w K mg)(Qq:Ok P w base k T.O3 (Xp K Fv))(On:Ok P w base k T.N6 (Xp K (mh n))):Ok P w base (k+1) T.N6 (Xp K (mh (n+1))):=by
 refine Xd T.N6.f vw λvs H Q E nd h=>?_;obtain⟨ds,d,hd,⟨t,as,b,rfl,e,A,i,rfl⟩,post⟩:=h;obtain⟨I,v1,v2,rfl,a,r,l⟩:=vU hd;refine⟨rfl,λ_ _ _ _ B=>⟨_,(aC (bA (zt cE (a8 a9 (pv 0) aD) aI) (zr (bF fI (a8 a9 (pv 0) aD) (pv 2))) aO)
 (aC (bA (zt cE (a8 a9 (pv 0) aD) aI) (zr (a8 a9 (pv 1) (a8 a9 (pv 0) aD))) aO)
 (aC (bA (zt cE (a8 a9 (pv 0) aD) aI) (zr (pc (D:=T.N6) On B (z3 (gF (zt cE (pc (D:=T.N6) On B (z3 (a8 a9 (pv 0) aD) (pv 1) (pv 2))) aD) (a8 a9 (pv 0) aD) (a8 a9 (pv 0) aD)) (pv 1) (pv 2)))) aO)
 (zr (pc (D:=T.O3) Qq B (aY (a8 a9 (pv 0) aD) (aY (pc (D:=T.N6) On B (z3 (a8 a9 (pv 0) aD) (pv 1) (pv 2))) (aY (pc (D:=T.N6) On B (z3 (a8 a9 (pv 0) aD) (pv 1) (pv 2))) (aY (pv 2) a7))))))))),?_⟩⟩
 dsimp only[XQ];show let U:=_;let Y:=_;let Xv:=a6 (md _ Y _) U;let XF:=a6 _ Xv;a6 _ XF _ _ _;intro U Y Xv XF;have L:0<b:=by have:=i.2.2.1;lia
 cases t with
 |call m=>exact e.elim
 |num m =>have a:Dat K H (.tup [.str "num",.int m]) I:=a;refine aT (K:=K) (b:=true) (RT.as (aH (bN (bC (k:=0) (aB a) aE rfl) aJ)) (HS rfl)) (λc M p=>?_) (λc=>nomatch c);exact bE (K:=K) (d:=.int (m%b)) (jI (bC (k:=1) (aB (p.dat a)) aE rfl) (aB (p.dat l)) L) λv u s q=>post v u (p.trans s) q
 |arg m =>
  have a:Dat K H (.tup [.str "arg",.int m]) I:=a;refine aT (K:=K) (b:=false) (RT.as (aH (bN (bC (k:=0) (aB a) aE rfl) aJ)) (vX ⋯)) (λc=>nomatch c) (λc M p=>?_);refine aT (K:=K) (b:=true) (RT.as (aH (bN (bC (k:=0) (aB (p.dat a)) aE rfl) aJ)) (HS rfl)) (λc H3 C=>?_) (λc=>nomatch c);have g:=p.trans C;have em:m=((m.toNat:Nat):Int):=by have:=e.1;lia
  refine bE (K:=K) (d:=.int (as.getD m.toNat 0)) (bC (k:=m.toNat) (ds:=as.map D.int) (aB (g.dat r)) (RE.as (bC (k:=1) (aB (g.dat a)) aE rfl) (Tu D.int em)) ?_) λv u s q=>post v u (g.trans s) q;rw[SR,Fy i e.1 e.2];rfl
 |two o x y =>
  have a:Dat K H (.tup [.str o,toD x,toD y]) I:=a;obtain⟨n1,n2,n3⟩:=LI e.1;have N:aP x<=n:=by simp only[aP]at A;lia
  have O:aP y<=n:=by simp only[aP]at A;lia
  refine aT (K:=K) (b:=false) (RT.as (aH (bN (bC (k:=0) (aB a) aE rfl) aJ)) (vX n1)) (λc=>nomatch c) (λc H1 G=>?_);refine aT (K:=K) (b:=false) (RT.as (aH (bN (bC (k:=0) (aB (G.dat a)) aE rfl) aJ)) (vX n2)) (λc=>nomatch c) (λc M p=>?_);have j:=G.trans p;refine aT (K:=K) (b:=false) (RT.as (aH (bN (bC (k:=0) (aB (j.dat a)) aE rfl) aJ)) (vX n3)) (λc=>nomatch c) (λc H3 C=>?_);have g:=j.trans C;have a:=g.dat a;have r:=g.dat r;have l:=g.dat l;have wx:=ph i x e.2.1;have wy:=ph i y e.2.2;refine bE (K:=K) (d:=.int (two o (bW as b x) (bW as b y) b)) (bJ (R:=Fv) (aA (bC (k:=0) (aB a) aE rfl) (aA (bJ (R:=mh n) (d:=.int (bW as b x)) (aA (bC (k:=1) (aB a) aE rfl) (aA (aB r) (aA (aB l) aG))) ⟨x,as,b,rfl,e.2.1,N,i,rfl⟩) (aA (bJ (R:=mh n) (d:=.int (bW as b y)) (aA (bC (k:=2) (aB a) aE rfl) (aA (aB r) (aA (aB l) aG))) ⟨y,as,b,rfl,e.2.2,O,i,rfl⟩) (aA (aB l) aG)))) ⟨o,_,_,b,rfl,e.1,i.2.2.1,i.2.2.2,wx.1,wx.2,wy.1,wy.2,rfl⟩) λv u s q=>post v u (g.trans s) q
 |pick x y z =>
  have a:Dat K H (.tup [.str "pick",toD x,toD y,toD z]) I:=a;have N:aP x<=n:=by simp only[aP]at A;lia
  have O:aP y<=n:=by simp only[aP]at A;lia
  have dz:aP z<=n:=by simp only[aP]at A;lia
  refine aT (K:=K) (b:=false) (RT.as (aH (bN (bC (k:=0) (aB a) aE rfl) aJ)) (vX ⋯)) (λc=>nomatch c) (λc H1 G=>?_);refine aT (K:=K) (b:=false) (RT.as (aH (bN (bC (k:=0) (aB (G.dat a)) aE rfl) aJ)) (vX ⋯)) (λc=>nomatch c) (λc M p=>?_);have j:=G.trans p;refine aT (K:=K) (b:=true) (RT.as (aH (bN (bC (k:=0) (aB (j.dat a)) aE rfl) aJ)) (HS rfl)) (λc H3 C=>?_) (λc=>nomatch c);have g:=j.trans C;have a:=g.dat a;have r:=g.dat r;have l:=g.dat l;refine bE (K:=K) (d:=.int (if bW as b x=0 then bW as b z else bW as b y)) (bJ (R:=mh n) (ds:=[toD (if bW as b x=0 then z else y),.tup (as.map D.int),.int b]) (aA (qJ (b:=decide (bW as b x=0)) (aH (nU (bJ (R:=mh n) (d:=.int (bW as b x)) (aA (bC (k:=1) (aB a) aE rfl) (aA (aB r) (aA (aB l) aG))) ⟨x,as,b,rfl,e.1,N,i,rfl⟩) aE)) (λc=>?_) (λc=>?_)) (aA (aB r) (aA (aB l) aG))) ?_) λv u s q=>post v u (g.trans s) q
  ·rw[SV (S1 c)];exact bC (k:=3) (aB a) aE rfl
  ·rw[PC (S5 c)];exact bC (k:=2) (aB a) aE rfl
  ·by_cases J:bW as b x=0
   ·rw[SV J,SV J];exact⟨z,as,b,rfl,e.2.2,dz,i,rfl⟩
   ·rw[PC J,PC J];exact⟨y,as,b,rfl,e.2.1,O,i,rfl⟩
end
section
def Bt(a b:List D):Prop:=a=[]/\b=NM.map D.str
variable{K:qs}
theorem uU(T:Txt P w K mg)  : Ok P w base (k+1) T.OF (jR K Bt):=by
 refine Xd T.OF.f vq λY H Q E B h=>?_;obtain⟨ds,es,C,⟨rfl,rfl⟩,post⟩:=h;have G:=C.X5;subst G;refine⟨rfl,λ_ _ _ _ hr=>?_⟩;refine'⟨_,?YT,?yread⟩
 case' YT=>refine' aC ?a ?b
 case' a=>refine' tX (i:=0) ?c ?d ?e ?f
 case c=>exact B
 case d=>exact rfl
 case e=>exact Or.inl rfl
 case' f=>refine' bQ ?g
 case' g=>refine' aY ?h ?i
 case h=>exact aI
 case' i=>refine' aY ?j ?k
 case j=>exact aI
 case' k=>refine' aY ?l ?m
 case l=>exact aI
 case' m=>refine' aY ?n ?o
 case n=>exact aI
 case' o=>refine' aY ?p ?q
 case p=>exact aI
 case' q=>refine' aY ?r ?s
 case r=>exact aI
 case' s=>refine' aY ?t ?u
 case t=>exact aI
 case' u=>refine' aY ?v ?w
 case v=>exact aI
 case' w=>refine' aY ?x ?y
 case x=>exact aI
 case' y=>refine' aY ?z ?aa
 case z=>exact aI
 case' aa=>refine' aY ?ab ?ac
 case ab=>exact aI
 case' ac=>refine' aY ?ad ?ae
 case ad=>exact aI
 case' ae=>refine' aY ?af ?ag
 case af=>exact aI
 case ag=>exact a7
 case' b=>refine' aX ?ah
 case ah=>exact(kI (bF jn (pv 0) (bQ (aY aI (aY aI (aY aI (aY aI a7)))))))
 refine fG (K:=K) (fY (aA aJ (aA aJ (aA aJ (aA aJ (aA aJ (aA aJ (aA aJ (aA aJ (aA aJ (aA aJ (aA aJ (aA aJ (aA aJ aG)))))))))))))) λl ys H1 hl A I J=>?_;refine jM (RC.use (K:=K) (js (aW (k:=0) (LD.of I J)) (jB (fY (aA aJ (aA aJ (aA aJ (aA aJ aG)))))) ⋯) λL zs M hl2 N O U=>post L zs M (A.trans N) O (A.free hl2) ?_);exact U
theorem IE(x y:Int):eqV (.int x) (.int y)=decide (x=y):=by unfold eqV;by_cases h:x=y<;>simp[h]
theorem Dd(x:Int):∀a:List Int,inV (.int x) (a.map V.int)=decide (x∈a)
 |[]=>by simp[inV]
 |y::a=>by
  have b:=Dd x a;unfold inV at b ⊢;rw[S8,Vd,b,IE];by_cases h:y=x
  ·subst h;simp
  ·have c:¬ x=y:=λz=>h z.symm;simp[h,c]
theorem Ec(a:vc):(a.map V.int).all nr=true:=by rw[UE];intro v b;obtain⟨y,_,rfl⟩:=T5.mp b;rfl
theorem Hw{ys:vc}(d:RE K f b H (.int x))(g:RE K h b H (.tup (ys.map D.int))):RE K (XT (rIn K false) f h) b H (.bl (decide (x∈ys))):=λi s Q q =>
 d i s _ λv j c l=>g j (s.trans c) _ λw u n o=>by obtain⟨a,y,p,r,t⟩:=o.Xf;have e:=qz t;subst e;rw[l.W4];refine⟨a,_,p,.inr r,rfl,Ec ys,?_⟩;rw[Dd];exact q _ _ (c.trans n) (Dat.X3 _)
def K4(a:List D)(d:D):Prop:=∃i:Int,a=[.int i]/\d=.int (bZ i)
theorem tJ(T:Txt P w K mg)  : Ok P w base (k+1) T.O8 (Xp K K4):=by
 refine Xd T.O8.f uw λr H Q E s h=>?_;obtain⟨t,d,o,⟨i,rfl,rfl⟩,post⟩:=h;obtain⟨u,rfl,n⟩:=iP o;refine⟨rfl,λ_ _ _ _ x=>⟨_,(aC (bA (zt fA (pv 0) (aU (aY aD (aY aD (aY aD (aY aD a7)))))) (zr aD) aO)
 (zr (gF (zt fA (pv 0) (aU (aY aD (aY aD (aY aD (aY aD (aY aD a7))))))) aD aD))),?_⟩⟩
 refine aT (K:=K) (b:=decide (i∈([2,9,11,15]:vc))) (aH (Hw (ys:=[2,9,11,15]) (aB n) (aZ (aA aE (aA aE (aA aE (aA aE aG))))))) (λc p a=>?_) (λc p a=>?_)
 ·have e:bZ i=2:=by unfold bZ;rw[SV (S1 c)]
  rw[e]at post;exact bE (K:=K) (d:=.int 2) aE λv g j q=>post v g (a.trans j) q
 ·have c:=S5 c;refine bE (K:=K) (d:=.int (bZ i)) (qJ (b:=decide (i∈([1,3,8,10,12]:vc))) (aH (Hw (ys:=[1,3,8,10,12]) (aB (a.dat n)) (aZ (aA aE (aA aE (aA aE (aA aE (aA aE aG)))))))) (λl=>RE.as aE ?_) (λl=>RE.as aE ?_)) λv g j q=>post v g (a.trans j) q
  ·unfold bZ;rw[PC c,SV (S1 l)];rfl
  ·unfold bZ;rw[PC c,PC (S5 l)];rfl
end
section
variable{K:qs}
theorem Hx(d:H l=some (.lst c))(e:WU K H a c)(f:Xe a=true)(g:WZ a<=20)(h:σ[k]?=some (some (.ref l)):=by rfl):RE K (XT (Hi K true) (fR k) (EZ dR)) σ H (.bl (!Xq a [])):=λj s Q q =>
 ⟨_,h,cK ⋯,λp i=>by
  have b:=aL i (.lst []);exact⟨l,p,c,[],a,[],rfl,rfl,W2.of (b _ _ (s _ _ d)),W2.of aF,b.W0 (s.W0 e),WU.nil,f,rfl,g,q _ _ b (Dat.X3 _)⟩⟩
theorem AX(d:H l=some (.lst c))(e:WU K H a c)(f:Xe a=true)(g:WZ a<=20)(h:σ[k]?=some (some (.ref l)):=by rfl):RE K (XT (Hi K false) (fR k) (EZ dR)) σ H (.bl (Xq a [])):=λj s Q q =>
 ⟨_,h,cK ⋯,λp i=>by
  have b:=aL i (.lst []);exact⟨l,p,c,[],a,[],rfl,rfl,W2.of (b _ _ (s _ _ d)),W2.of aF,b.W0 (s.W0 e),WU.nil,f,rfl,g,q _ _ b (Dat.X3 _)⟩⟩
theorem pE(a:List D):Xq a []=a.isEmpty:=by cases a<;>rfl
def Y7(a b:Addr)(H c:Hp):Prop:=∀x o,x≠a->x≠b->H x=some o->c x=some o
theorem qK(s:WV H c):Y7 a b H c:=λx o _ _ e=>s x o e
theorem Y7.trans(x:Y7 a b H g)(y:Y7 a b g h):Y7 a b H h:=λc o d f e=>y c o d f (x c o d f e)
theorem Mr{a:Str}{n:Int}(b:¬ a="load")(c:¬ a="skip")(d:¬ a="zero"):kL a TTO n=n:=by
 unfold kL
 have e:KTD.datumAt a TTO=none:=by show(if decide (a="load")=true then _ else if decide (a="skip")=true then _ else if decide (a="zero")=true then _ else _)=_;rw[PC (by simp[b]),PC (by simp[c]),PC (by simp[d])];rfl
 rw[e]
theorem qk{a:Str}{n:Nat}(b:¬ a="load")(c:¬ a="skip")(d:¬ a="zero"):i0 a n=false:=by unfold i0;rw[Mr b c d];exact S3 ⋯
theorem HX:i0 "zero" n=decide (9<n):=by unfold i0;rw[show kL "zero" TTO n=9 by kernel_rfl];exact jt ⋯
theorem HW:i0 "skip" n=decide (9<n):=by unfold i0;rw[show kL "skip" TTO n=9 by kernel_rfl];exact jt ⋯
theorem HV:i0 "load" n=decide (3<n):=by unfold i0;rw[show kL "load" TTO n=3 by kernel_rfl];exact jt ⋯
noncomputable def goR(a:Str)(num on:Nat)(st:MS):Option (Nat×MS):=if i0 a num=true then none else jL a num on st
def HL(K:qs):Sp:=λc H Q _=>∃(b:Str)(num on:Nat)(lp lk:Addr)(st:MS),c=[.str b,.int num,.int on,.ref lp,.ref lk]/\b∈WS/\H lp=some (.lst (pV st.pile))/\H lk=some (.lst (YK st.kept))/\lp≠lk/\st.kept.length<=16 /\
 (∀p,goR b num on st=some p->∀a,Y7 lp lk H a->a lp=some (.lst (pV p.2.pile))->a lk=some (.lst (YK p.2.kept))->Q (.int p.1) a) /\
 (goR b num on st=none->∀a zs d,Y7 lp lk H a->a lp=some (.lst zs)->a lk=some (.lst d)->Q .W3 a)
theorem xY(T:Txt P w K mg)  : Ok P w base (k+1) T.PB (HL K):=by
 refine Xd T.PB.f yQ λvs H Q E nd h=>?_;obtain⟨a,num,on,lp,lk,st,rfl,hws,hp,hk,ne,k16,ok,bad⟩:=h;refine⟨rfl,λ_ _ _ _ hr=>⟨_,(aC (bA (zt fA (pv 0) (aU (z2 aI aI))) (aC (bA (PW.pt (fH (zt (ym hr) (pv 3) (bQ a7)) (eV (PW.pt (pU (zt cE (pv 0) aI) (m4 (zt kn (pv 1) aD))))))) (zr jH) aO)
 (zr (gF (zt cE (mE Tg UK UZ mB (pv 3)) aD) (bF cJ (pv 2) (pv 1)) (pv 2)))) aO)
 (aC (bA (zt fA (pv 0) (aU (z2 aI aI))) (zr (gF (PW.pt (pU (zt cE (pv 0) aI) (m4 (zt kn (pv 1) aD)))) jH (bF cJ (pv 2) (pv 1)))) aO)
 (aC (bA (zt cE (pv 0) aI) (aC (bA (zt kn (aV aQ rfl T.NZ bP (z1 (pv 4))) aD) (zr jH) aO)
 (aC (bK (dW Tg TU TZ cC (pv 4) (z1 (pv 2))))
 (zr (pv 1)))) aO)
 (zr (gF (zt (GW hr) (pv 4) (bQ a7)) (mE Tg UK UZ mB (pv 4)) jH))))),?_⟩⟩
 dsimp only[XQ];show let W5:=a6 _ _;let Xc:=a6 _ W5;let Xv:=a6 _ _;a6 (md _ Xv _) Xc _ _ _;intro W5 Xc Xv;have dp:WU K H (st.pile.reverse.map D.int) (pV st.pile):=dO _;refine aT (K:=K) (b:=decide (a∈(["zero","none"]:vn))) (aH (kg (ys:=["zero","none"]) (aB (K:=K) (k:=0) (Dat.Xn a)) (aZ (aA aJ (aA aJ aG))))) (λc H1 C=>?_) (λc H1 C=>?_)
 ·have c:=S1 c;have s:=C _ _ hp;have G:=C _ _ hk
  have N:i0 a num=(decide (a="zero")&&decide ((9:Int)<num)):=by
   rcases S0.mp c with rfl|c
   ·rw[HX,S9 (rfl:("zero":Str)="zero"),UA];exact jt ⋯
   ·obtain rfl:=Tp.mp c;rw[qk ⋯ ⋯ ⋯,S3 (by decide +kernel:¬ ("none":Str)="zero")];rfl
  have q:jL a num on st=(eT st).map λp=>(if p.1=0 then on+num else on,p.2):=by unfold jL;rw[PC (by rcases S0.mp c with rfl|c;exact(by decide +kernel);obtain rfl:=Tp.mp c;exact(by decide +kernel)),SV c]
  have hn:=AX (K:=K) (k:=3) (σ:=start ["_law_name","_law_number","_law_on","_law_pile","_law_ways"] [.str a,.int num,.int on,.ref lp,.ref lk]) s (C.W0 dp) (kS _) (by rw[ju];decide);rw[pE]at hn;refine aT (K:=K) (b:=(st.pile.reverse.map D.int).isEmpty||(decide (a="zero")&&decide ((9:Int)<num))) (dJ (aH hn) λ_=>ug (aH (bN (aB (K:=K) (k:=0) (Dat.Xn a)) aJ)) λ_=>aH (cP (p:=λi j=>decide (j<i)) (aB (K:=K) (k:=1) (Dat.WY (num:Int))) aE)) (λO U g=>?_) (λO U g=>?_)
  ·refine bad ?_ U _ _ (qK (C.trans g)) (g _ _ s) (g _ _ G);unfold goR;rw[N]
   cases I:(decide (a="zero")&&decide ((9:Int)<num))with
   |true=>rfl
   |false =>
    rw[I,Bool.or_false]at O
    have hpn:st.pile=[]:=by
     cases Y:st.pile with
     |nil=>rfl
     |cons x r=>rw[Y]at O;simp at O
    rw[PC SW,q];unfold eT;rw[hpn];rfl
  ·rw[Uz]at O
   obtain⟨x,r,hx⟩:∃x r,st.pile=x::r:=by
    cases Y:st.pile with
    |nil=>rw[Y]at O;exact nomatch O.1
    |cons x r=>exact⟨x,r,rfl⟩
   have t:U lp=some (.lst (pV r++[.int x])):=by rw[<- gR,<- hx];exact g _ _ s
   have J:=g _ _ G
   have eg:∀p,(if x=0 then on+num else on,{st with pile:=r})=p->goR a num on st=some p:=λp e=>by unfold goR;rw[N,O.2,PC SW,q];unfold eT;rw[hx];exact Tu some e
   refine⟨_,rfl,.inl ⟨rfl,_,W2.of t⟩,lp,_,.int x,rfl,rfl,t,by simp,?_⟩;rw[UH];have b3:Y7 lp lk H (upd U lp (.lst (pV r))):=(qK (C.trans g)).trans λy o n _ e=>by rw[aR n];exact e
   have k3:upd U lp (.lst (pV r)) lk=some (.lst (YK st.kept)):=by rw[aR (Tf ne)];exact J
   refine⟨rfl,_,rfl,?_⟩;have es:decide (V.int x=V.int 0)=decide (x=0):=jt ⟨λz=>V.int.inj z,λz=>by rw[z]⟩;rw[es];by_cases I:x=0
   ·rw[S9 I];refine lE ⟨_,rfl,_,rfl,on,num,rfl,rfl,?_⟩;have:=ok _ (eg _ rfl) _ b3 aF k3;rw[SV I,Wq]at this;exact this
   ·rw[S3 I];refine lD ⟨_,rfl,?_⟩;have:=ok _ (eg _ rfl) _ b3 aF k3;rw[PC I]at this;exact this
 have n1:=S5 c;have s:=C _ _ hp;have G:=C _ _ hk;refine aT (K:=K) (b:=decide (a∈(["skip","jump"]:vn))) (aH (kg (ys:=["skip","jump"]) (aB (K:=K) (k:=0) (Dat.Xn a)) (aZ (aA aJ (aA aJ aG))))) (λc U g=>?_) (λc U g=>?_)
 ·have c:=S1 c
  have N:i0 a num=(decide (a="skip")&&decide ((9:Int)<num)):=by
   rcases S0.mp c with rfl|c
   ·rw[HW,S9 (rfl:("skip":Str)="skip"),UA];exact jt ⋯
   ·obtain rfl:=Tp.mp c;rw[qk ⋯ ⋯ ⋯,S3 (by decide +kernel:¬ ("jump":Str)="skip")];rfl
  have q:jL a num on st=some (on+num,st):=by unfold jL;rw[SV c]
  refine RT.use (b:=decide (a="skip")&&decide ((9:Int)<num)) (ug (aH (bN (aB (K:=K) (k:=0) (Dat.Xn a)) aJ)) λ_=>aH (cP (p:=λi j=>decide (j<i)) (aB (K:=K) (k:=1) (Dat.WY (num:Int))) aE)) λH3 L=>?_;have u:=C.trans (g.trans L)
  cases I:(decide (a="skip")&&decide ((9:Int)<num))with
  |true=>exact lE (bad (by unfold goR;rw[N,I];rfl) H3 _ _ (qK u) (u _ _ hp) (u _ _ hk))
  |false =>refine lD ⟨_,rfl,_,rfl,on,num,rfl,rfl,?_⟩;have:=ok (on+num,st) (by unfold goR;rw[N,I,q];rfl) H3 (qK u) (u _ _ hp) (u _ _ hk);rw[Wq]at this;exact this
 have n2:=S5 c;have t:=g _ _ s;have J:=g _ _ G;have s12:=C.trans g;have N:i0 a num=false:=qk (λz=>by rw[z]at hws;revert hws;decide +kernel) (λz=>n2 (by rw[z];decide +kernel)) (λz=>n1 (by rw[z];decide +kernel));refine aT (K:=K) (b:=decide (a="call")) (aH (bN (aB (K:=K) (k:=0) (Dat.Xn a)) aJ)) (λc H3 L=>?_) (λc H3 L=>?_)
 ·have c:=S1 c;have M:=L _ _ t;have l:=L _ _ J;have u:=s12.trans L;have q:goR a num on st=if st.kept.length=16 then none else some (num,{st with kept:=on::st.kept}):=by unfold goR jL;rw[N,PC n2,PC n1,SV c];rfl
  have LK:LD K H3 ((st.kept.reverse.map λ(n:Nat)=>(n:Int)).map D.int) (.ref lk):=LD.of (l.trans (by rw[xO])) (dO _);refine aT (K:=K) (b:=decide (st.kept.length=16)) (RT.as (aH (cP (p:=λi j=>decide (j<i)) (dB (aW (k:=4) LK)) aE)) (jt (by rw[tB,tB,Ud];lia))) (λc2 H4 v=>?_) (λc2 H4 v=>?_)
  ·exact bad (by rw[q,SV (S1 c2)]) H4 _ _ (qK (u.trans v)) (v _ _ M) (v _ _ l)
  ·have c2:=S5 c2;have A:=v _ _ l;have ll:=Di st.kept;refine iY (K:=K) (d:=.int (on:Int)) (aB (k:=2) (Dat.WY (on:Int))) A ⋯ λy G5 b5 B dy5=>?_;rw[dy5.W4]at B;refine⟨_,rfl,ok (num,{st with kept:=on::st.kept}) (by rw[q,PC c2]) G5 ((qK (u.trans v)).trans λx o _ n e=>b5 x o n e) (b5 _ _ ne (v _ _ M)) (by rw[oI];exact B)⟩
 have n3:=S5 c;have M:=L _ _ t;have l:=L _ _ J;have u:=s12.trans L;have hn:=Hx (K:=K) (k:=4) (σ:=start ["_law_name","_law_number","_law_on","_law_pile","_law_ways"] [.str a,.int num,.int on,.ref lp,.ref lk]) l (by rw[xO];exact dO (st.kept.reverse.map λ(n:Nat)=>(n:Int))) (kS _) (by rw[ju];decide);rw[pE]at hn;refine RT.use (aH hn) λH4 v=>?_;have hp4:=v _ _ M;have A:=v _ _ l;have X0:=u.trans v
 have q:goR a num on st=match st.kept with
  |[]=>none
  |k::r=>some (k,{st with kept:=r}):=by unfold goR jL;rw[N,PC n2,PC n1,PC n3];rfl
 cases Y:st.kept with
 |nil =>rw[Y]at q A;exact lD (bad q H4 _ _ (qK X0) hp4 A)
 |cons x r =>
  rw[Y]at q;have B:H4 lk=some (.lst (YK r++[.int x])):=by rw[<- oI,<- Y];exact A
  have eb:(!((((x::r).reverse.map λ(n:Nat)=>(n:Int)).map D.int).isEmpty))=true:=by simp
  rw[eb];refine lE ⟨_,rfl,.inl ⟨rfl,_,W2.of B⟩,lk,_,.int x,rfl,rfl,B,by simp,?_⟩;rw[UH];exact ok (x,{st with kept:=r}) q _ ((qK X0).trans λy o _ n e=>by rw[aR n];exact e) (by rw[aR ne];exact hp4) aF
noncomputable abbrev S10:List Str:=["put","far","load","add","sub","mul","less","more","twice","about"]
theorem uf{g:jF}(h:RE K p f G d)(i:G l=some (.lst c))(r:c.length<=10000)
  (q:∀y e,Xb l G e->e l=some (.lst (c++[y]))->Dat K e d y->g.nx f e) (s:f[j]?=some (some (.ref l)):=by rfl):nK (tBM K "list" ko (fR j) (bU p dR)) g f G:=by
 refine⟨_,s,.inl ⟨rfl,_,W2.of i⟩,h.use λy n o t=>?_⟩;have a:=o _ _ i;refine⟨l,c,y,rfl,rfl,a,(U8 r ⋯),?_⟩;have b:Xb l n (upd n l (.lst (c++[y]))):=Xb.upd (WV.refl _).but;exact q y _ (o.but.trans b) aF (Dat.mono (b.grow a aF) _ t)
theorem HC(h:RE K e b G d)(f:G l=some (.lst c))(g:c.length<=10000)
  (q:∀y a,Xb l G a->a l=some (.lst (c++[y]))->Dat K a d y->i n b a) (o:b[j]?=some (some (.ref l)):=by rfl):a6 (nK (tBM K "list" ko (fR j) (bU e dR))) i n b G:=dI (uf h f g q o)
noncomputable def doR(b:MC)(a:Str)(num:Nat)(st:MS):Option MS:=if i0 a num=true then none else cM b a num st
def HJ(K:qs):Sp:=λf H Q _=>∃(d:Str)(num:Nat)(lp:Addr)(e:V)(c:MC)(st:MS),f=[.str d,.int num,.ref lp,e,.int c.b]/\d∈S10/\H lp=some (.lst (pV st.pile))/\Dat K H (.tup (c.as.map D.int)) e/\pN c/\kl c st /\
 (∀s,doR c d num st=some s->∀a,Xb lp H a->a lp=some (.lst (pV s.pile))->Q (.bl true) a)/\(doR c d num st=none->∀a zs,Xb lp H a->a lp=some (.lst zs)->Q (.bl false) a)
theorem Hl(a:H l=some (.lst (b++[z])))(q:Q z (upd H l (.lst b)))(e:c[j]?=some (some (.ref l)):=by rfl):Mn K "list" Hk (fR j) c H Q :=
 ⟨_,e,.inl ⟨rfl,_,W2.of a⟩,l,_,z,rfl,rfl,a,by simp,by rw[UH];exact q⟩
variable{st:MS}
theorem jy(h:st.pile.length≠64):cF a n st=some {st with pile:=n%a.b::st.pile}:=by unfold cF;rw[PC h]
theorem Dy(h:st.pile.length=64):cF a n st=none:=by unfold cF;rw[SV h]
theorem iI(h:st.pile=x::r):eT st=some (x,{st with pile:=r}):=by unfold eT;rw[h]
theorem tu{x b:Int}(a:0<=x)(c:x<b):x%b=x:=Ua a c
theorem xV(T:Txt P w K mg)(Qq:Ok P w base k T.O3 (Xp K Fv)):Ok P w base (k+1) T.Pz (HJ K):=by
 refine Xd T.Pz.f yN λvs H Q E nd h=>?_;obtain⟨a,num,lp,vg,g,st,rfl,B,hp,hg,oc,os,ok,bad⟩:=h;refine⟨rfl,λ_ _ _ _ hr=>⟨_,(aC (bA (zt fA (pv 0) (aU (z3 aI aI aI))) (aC (bA (PW.pt (fH (zt kn (aV aQ rfl T.NZ bP (z1 (pv 2))) aD) (eV (PW.pt (pU (zt cE (pv 0) aI) (m4 (zt kn (pv 1) aD))))))) (zr dU) aO)
 (aX (bK (dW Tg TU TZ cC (pv 2) (z1 (gF (zt cE (pv 0) aI) (a8 a9 (pv 3) (pv 1)) (bF fI (pv 1) (pv 4)))))))) (aX (bA (zt fA (pv 0) (aU (z2 aI aI))) (aC (bA (PW.pt (fH (zt (ym hr) (pv 2) (bQ a7)) (eV (PW.pt (pU (zt cE (pv 0) aI) (m4 (zt kn (aV aQ rfl T.NZ bP (z1 (pv 2))) aD))))))) (zr dU) aO)
 (aX (bK (dW Tg TU TZ cC (pv 2) (z1 (gF (zt cE (pv 0) aI) (a8 bY (pv 2) (Dt zD aD)) (bF fI (bF cJ (mE Tg UK UZ mB (pv 2)) (pv 1)) (pv 4)))))))) (aC (bA (zt kT (aV aQ rfl T.NZ bP (z1 (pv 2))) aD) (zr dU) aO)
 (aC (nR (i:=5) (j:=6) rfl nd rfl rfl ⋯ rfl rfl (z2 (mE Tg UK UZ mB (pv 2)) (mE Tg UK UZ mB (pv 2))) (by kernel_rfl))
 (aX (bA (zt cE (pv 0) aI) (aX (bK (dW Tg Us Ux gI (pv 2) (z1 (bQ (z2 (pv 5) (pv 6))))))) (aX (bK (dW Tg TU TZ cC (pv 2) (z1 (pc (D:=T.O3) Qq hr (aY (pv 0) (aY (pv 6) (aY (pv 5) (aY (pv 4) a7))))))))))))))))
 (zr dU)),?_⟩⟩
 dsimp only[XQ];show let W5:=a6 _ _;let Xc:=_;let Xv:=a6 _ Xc;let XF:=_;let X6:=a6 _ XF;let YC:=a6 _ X6;let Zd:=md _ Xv YC;a6 (md _ W5 Zd) _ _ _ _;intro W5 Xc Xv XF X6 YC Zd;have b2:=oc.b2;have I:=os.l;have ll:=yq st.pile;have LP:∀{G:Hp},G lp=some (.lst (pV st.pile))->LD K G (st.pile.reverse.map D.int) (.ref lp):=λh=>LD.of h (dO _);refine dI (RT.use (b:=decide (a∈(["put","far","load"]:vn))) (aH (kg (ys:=["put","far","load"]) (aB (K:=K) (k:=0) (Dat.Xn a)) (aZ (aA aJ (aA aJ (aA aJ aG)))))) λH1 s1=>?_);have J:=s1 _ _ hp;by_cases t:a∈(["put","far","load"]:vn)
 ·rw[S9 t]
  have et:i0 a num=(decide (a="load")&&decide ((3:Int)<num)):=by
   by_cases n:a="load"
   ·subst n;rw[HV,S9 (rfl:("load":Str)="load"),UA];exact jt ⋯
   ·rw[qk n (λz=>by rw[z]at t;revert t;decide +kernel) (λz=>by rw[z]at t;revert t;decide +kernel),S3 n];rfl
  have ew:cM g a num st=cF g (if a="load" then g.as.getD num 0 else num) st:=by
   unfold cM;by_cases n:a="load"
   ·rw[PC (by rw[n];decide +kernel),SV n,SV n]
   ·rw[SV (by rcases S0.mp t with z|z;rw[z];exact Tn;rcases S0.mp z with z|z;rw[z];exact Th _ Tn;exact absurd (Tp.mp z) n),PC n]
  refine lE (aT (K:=K) (b:=decide (st.pile.length=64)||(decide (a="load")&&decide ((3:Int)<num))) (dJ (RT.as (aH (cP (p:=λi j=>decide (j<i)) (dB (aW (k:=2) (LP J))) aE)) (jt (by rw[tB,Ud];lia))) λ_=>ug (aH (bN (aB (K:=K) (k:=0) (Dat.Xn a)) aJ)) λ_=>aH (cP (p:=λi j=>decide (j<i)) (aB (K:=K) (k:=1) (Dat.WY (num:Int))) aE)) (λc H2 L=>?_) (λc H2 L=>?_))
  ·refine bad ?_ H2 _ (s1.trans L).but (L _ _ J);unfold doR;rw[et]
   cases n:(decide (a="load")&&decide ((3:Int)<num))with
   |true=>rfl
   |false =>rw[n,Bool.or_false]at c;rw[PC SW,ew,Dy (S1 c)]
  ·rw[Uz]at c;have nl:=S5 c.1
   have ed:doR g a num st=some {st with pile:=(if a="load" then g.as.getD num 0 else (num:Int)%g.b)::st.pile}:=by
    unfold doR;rw[et,c.2,PC SW,ew,jy nl];by_cases n:a="load"
    ·rw[SV n,SV n]
     have h3:num<=3:=by rw[S9 n,UA]at c;have:=S5 c.2;lia
     have hm:=oc.ai (g.as.getD num 0) (by
      rw[Td,SN (by have:=oc.as;lia:num<g.as.length)];exact List.getElem_mem _)
     rw[tu hm.1 hm.2]
    ·rw[PC n,PC n]
   refine uf (K:=K) (d:=.int (if a="load" then g.as.getD num 0 else (num:Int)%g.b)) (qJ (b:=decide (a="load")) (aH (bN (aB (K:=K) (k:=0) (Dat.Xn a)) aJ)) (λcz=>?_) (λcz=>?_)) (L _ _ J) ⋯ λy G b hG dy=>?_
   ·have cz:=S1 cz;rw[SV cz]
    have h3:num<=3:=by rw[S9 cz,UA]at c;have:=S5 c.2;lia
    have la:=oc.as
    exact bC (k:=num) (aB (k:=3) ((s1.trans L).dat hg)) (aB (k:=1) (Dat.WY (num:Int))) (by
     rw[SR,SN (by lia:num<g.as.length),Td,SN (by lia:num<g.as.length)];rfl)
   ·rw[PC (S5 cz)];exact jI (aB (k:=1) (Dat.WY (num:Int))) (aB (k:=4) (Dat.WY g.b)) ⋯
   ·rw[dy.W4]at hG;exact ok _ ed G ((s1.trans L).but.trans b) (by rw[gR];exact hG)
 rw[S3 t];have et:i0 a num=false:=qk (λz=>t (by rw[z];decide +kernel)) (λz=>by rw[z]at B;revert B;decide +kernel) (λz=>by rw[z]at B;revert B;decide +kernel)
 have ew:doR g a num st=(eT st).bind λu =>
  if a="more" then cF g (u.1+num) u.2
  else if a="twice" then (cF g u.1 u.2).bind λs=>cF g u.1 s
  else if a="about" then (eT u.2).bind λl=>(cF g u.1 l.2).bind λs=>cF g l.1 s
  else (eT u.2).bind λl=>cF g (two a l.1 u.1 g.b) l.2:=by
  unfold doR cM;rw[et,PC SW,PC (λz=>t (by rcases S0.mp z with z|z;rw[z];exact Tn;rw[Tp.mp z];decide +kernel)),PC (λz=>t (by rw[z];decide +kernel))]
 rw[ew]at ok bad;refine lD (RT.use (b:=decide (a∈(["more","twice"]:vn))) (aH (kg (ys:=["more","twice"]) (aB (K:=K) (k:=0) (Dat.Xn a)) (aZ (aA aJ (aA aJ aG))))) λH2 L=>?_);have q:=L _ _ J;have M:=s1.trans L;by_cases cB:a∈(["more","twice"]:vn)
 ·rw[S9 cB];have hn:=AX (K:=K) (k:=2) (σ:=start ["_law_name","_law_number","_law_pile","_law_args_here","_law_base","_law_other","_law_one"] [.str a,.int num,.ref lp,vg,.int g.b]) q (dO st.pile.reverse) (kS _) (by rw[ju];decide);rw[pE]at hn;refine lE (aT (K:=K) (b:=(st.pile.reverse.map D.int).isEmpty||(decide (a="twice")&&decide (st.pile.length=64))) (dJ (aH hn) λ_=>ug (aH (bN (aB (K:=K) (k:=0) (Dat.Xn a)) aJ)) λ_=>RT.as (aH (cP (p:=λi j=>decide (j<i)) (dB (aW (k:=2) (LP q))) aE)) (jt (by rw[tB,Ud];lia))) (λc H3 C=>?_) (λc H3 C=>?_))
  ·refine bad ?_ H3 _ (M.trans C).but (C _ _ q)
   cases N:st.pile with
   |nil=>unfold eT;rw[N];rfl
   |cons x r =>
    rw[N]at c;have e0:((x::r).reverse.map D.int).isEmpty=false:=by simp
    rw[e0,Uw,S2]at c;have ct:=S1 c.1;have cl:r.length+1=64:=S1 c.2;rw[iI N,TR,PC (by rw[ct];decide +kernel),SV ct,jy (by show r.length≠64;lia),TR,Dy (by show r.length+1=64;exact cl)]
  ·rw[Uz]at c
   obtain⟨x,r,A⟩:∃x r,st.pile=x::r:=by
    cases N:st.pile with
    |nil=>rw[N]at c;exact nomatch c.1
    |cons x r=>exact⟨x,r,rfl⟩
   have xb:=os.p x (by rw[A];exact Tn);have rl:r.length+1<=64:=by rw[A]at I;exact I
   have O:H3 lp=some (.lst (pV r++[.int x])):=by rw[<- gR,<- A];exact C _ _ q
   have Xi:=M.trans C;have lr:=yq r;refine⟨_,rfl,.inl ⟨rfl,_,W2.of O⟩,RT.use (b:=decide (a="twice")) (aH (bN (aB (K:=K) (k:=0) (Dat.Xn a)) aJ)) λH4 s4=>?_⟩;have hp4:=s4 _ _ O;by_cases ct:a="twice"
   ·rw[S9 ct]
    have c64:r.length+1≠64:=by rw[S9 ct,UA,A]at c;exact S5 c.2
    refine lE (RE.use (m5 (d:=.int x) (ds:=r.reverse.map D.int) (aW (K:=K) (k:=2) (LD.of hp4 (WU.append (dO r.reverse) (WU.cons (Dat.WY x) WU.nil)))) (DJ aE)) λv H5 s5 qv=>?_);rw[qv.W4];refine⟨lp,_,_,rfl,rfl,s5 _ _ hp4,cU (by rw[M1];show(pV r).length+1<=1000;lia),?_⟩;refine ok {st with pile:=x::x::r} ?_ _ ((Xi.trans (s4.trans s5)).but.trans (Xb.upd (WV.refl _).but)) (by rw[aF,gR,gR]);rw[iI A,TR,PC (by rw[ct];decide +kernel),SV ct,jy (by show r.length≠64;lia),TR,jy (by show r.length+1≠64;exact c64),tu xb.1 xb.2]
   ·rw[S3 ct]
    have cm:a="more":=by
     rcases S0.mp cB with z|z
     ·exact z
     ·exact absurd (Tp.mp z) ct
    refine lD (Hl hp4 ⟨_,rfl,x,num,rfl,rfl,_,rfl,x+num,g.b,rfl,rfl,by show 0<g.b;lia,lp,pV r,_,rfl,rfl,aF,cU ⋯,?_⟩);refine ok {st with pile:=(x+num)%g.b::r} ?_ _ ((Xi.trans s4).but.trans (Xb.upd (Xb.upd (WV.refl _).but))) (by rw[aF,gR]);rw[iI A,TR,SV cm,jy (by show r.length≠64;lia)]
 rw[S3 cB];have U:¬ a="more":=λz=>cB (by rw[z];decide +kernel);have Y:¬ a="twice":=λz=>cB (by rw[z];decide +kernel);refine lD (aT (K:=K) (b:=decide (st.pile.length<2)) (RT.as (aH (cP (p:=λi j=>decide (i<j)) (dB (aW (k:=2) (LP q))) aE)) (jt (by rw[tB,Ud];lia))) (λc H3 C=>?_) (λc H3 C=>?_))
 ·have c:=S1 c;refine bad ?_ H3 _ (M.trans C).but (C _ _ q)
  match N:st.pile,c with
  |[],_=>unfold eT;rw[N];rfl
  |[x],_ =>rw[iI N,TR,PC U,PC Y];have e:eT {st with pile:=[]}=none:=rfl;split<;>(rw[e];rfl)
  |_::_::_,c=>exact absurd c (by simp)
 ·have c:=S5 c
  obtain⟨u,l,r,A⟩:∃u l r,st.pile=u::l::r:=by
   match N:st.pile,c with
   |[],c=>exact absurd c (by simp)
   |[x],c=>exact absurd c (by simp)
   |u::l::r,_=>exact⟨u,l,r,rfl⟩
  have ub:=os.p u (by rw[A];exact Tn);have lb:=os.p l (by rw[A];exact Th _ Tn);have rl:r.length+2<=64:=by rw[A]at I;exact I
  have lr:=yq r;have Xi:=M.trans C;have O:H3 lp=some (.lst ((pV r++[.int l])++[.int u])):=by rw[<- gR,<- gR,<- A];exact C _ _ q
  refine Hl O (Hl aF ⟨_,_,rfl,?_⟩);generalize e5:upd (upd H3 lp _) lp (.lst (pV r))=H5;have hp5:H5 lp=some (.lst (pV r)):=by rw[<- e5];exact aF
  have b5:Xb lp H H5:=by rw[<- e5];exact Xi.but.trans (Xb.upd (Xb.upd (WV.refl _).but))
  refine RT.use (b:=decide (a="about")) (aH (bN (aB (K:=K) (k:=0) (Dat.Xn a)) aJ)) λH6 s6=>?_;have hp6:=s6 _ _ hp5;have b6:=b5.trans s6.but;by_cases ca:a="about"
  ·rw[S9 ca];refine lE ⟨_,rfl,.inl ⟨rfl,_,W2.of hp6⟩,_,rfl,_,rfl,cK (show 2<=1000 by decide),λlb2 nb=>?_⟩;have nlb:lp≠lb2:=λz=>by rw[<- z,hp6]at nb;cases nb
   refine⟨lp,lb2,_,_,rfl,rfl,by rw[aR nlb];exact hp6,aF,cK (by show(pV r).length+2<=1000;lia),?_⟩;refine ok {st with pile:=l::u::r} ?_ _ ((b6.trans (aL nb _).but).trans (Xb.upd (WV.refl _).but)) (by rw[aF,gR,gR,TJ];rfl);rw[iI A,TR,PC U,PC Y,SV ca,iI (st:={st with pile:=l::r}) rfl,TR,jy (by show r.length≠64;lia),TR,jy (by show r.length+1≠64;lia),tu ub.1 ub.2,tu lb.1 lb.2]
  ·rw[S3 ca]
   have okO:okO a:=by
    have h:=B;simp only[S10,S0,Ti,T9]at h;rcases h with h|h|h|h|h|h|h|h|h|h
    ·exact absurd (by rw[h];decide +kernel) t
    ·exact absurd (by rw[h];decide +kernel) t
    ·exact absurd (by rw[h];decide +kernel) t
    ·exact .inl h
    ·exact .inr (.inl h)
    ·exact .inr (.inr (.inl h))
    ·exact .inr (.inr (.inr h))
    ·exact absurd h U
    ·exact absurd h Y
    ·exact absurd h ca
   have tw:=jK (o:=a) (x:=l) (y:=u) b2;refine lD (uf (K:=K) (d:=.int (two a l u g.b)) (bJ (R:=Fv) (aA (aB (k:=0) (Dat.Xn a)) (aA (aB (k:=6) (Dat.WY l)) (aA (aB (k:=5) (Dat.WY u)) (aA (aB (k:=4) (Dat.WY g.b)) aG)))) ⟨a,l,u,g.b,rfl,okO,b2,oc.b9,lb.1,lb.2,ub.1,ub.2,rfl⟩) hp6 ⋯ λy G b hG dy=>?_);rw[dy.W4]at hG;refine ok {st with pile:=two a l u g.b::r} ?_ G (b6.trans b) (by rw[gR];exact hG);rw[iI A,TR,PC U,PC Y,PC ca,iI (st:={st with pile:=l::r}) rfl,TR,jy (by show r.length≠64;lia),tu tw.1 tw.2]
noncomputable def Hz:Res->D
 | .ends v=>.tup [.str "ends",.int v]
 | .fault p=>.tup [.str "fault",.int p]
 | .late=>.tup [.str "late",.int 0]
theorem HB:RL K (lg (jR K Bt) [] E dR) e H (NM.map D.str):=jB λf s Q q=>⟨[],_,WU.nil,⟨rfl,rfl⟩,λr a b c h n d=>q r a b n c h d⟩
noncomputable def A3(st:MS):D:=.tup [.int st.place,.tup (st.pile.reverse.map D.int)]
noncomputable def iE(a:MC):Nat->MS->List D
 |0,_=>[]
 |n+1,st=>match fN a st with
  |none=>[]
  |some s=>A3 st::if s.ended=true then []else iE a n s
theorem Ce(h:RL K t d H e):RE K (YM (λf H Q=>∃p a,f=[.ref p]/\((W2 K H p a/\∀l,H l=none->Q (.ref l) (upd H l (.tup a)))\/(Xo K H p a/\Q (.ref p) H))) (bU t dR)) d H (.tup e):=λj s Q q =>
 jz ((h.mono s).use λv n g b=>by
  obtain⟨l,a,rfl,i,b⟩:=b;exact⟨l,a,rfl,.inl ⟨i.Yk,λp c=>q _ _ (g.trans (aL c _)) (Dat.tupI (Xo.of aF) ((aL c _).W0 b))⟩⟩)
theorem GH:∀i:Fin 17,NM.getD i ""="end"\/NM.getD i ""∈WS\/NM.getD i ""∈S10:=⋯
theorem GG(a:0<=c)(b:c<=16):Xs c="end"\/Xs c∈WS\/Xs c∈S10:=GH ⟨c.toNat,⋯⟩
theorem Kd{a:MC}(g:a.cs[st.place]?=some c)(h:jZ a.cs st.place c=false):fN a st =
  if Xs c="end" then (jP st).map λs=>{s with place:=st.place+1+bZ c}
  else if Xs c∈WS then (goR (Xs c) (mD a.cs st.place c) (st.place+1+bZ c) st).map λp=>{p.2 with place:=p.1}
  else (doR a (Xs c) (mD a.cs st.place c) st).map λs=>{s with place:=st.place+1+bZ c}:=by
 have e:fN a st=if i0 (Xs c) (mD a.cs st.place c)=true then none else Yj a (Xs c) (mD a.cs st.place c) (st.place+1+bZ c) st:=by unfold fN;rw[g];dsimp only;rw[PC (by rw[h];exact SW)]
 rw[e];by_cases d:Xs c="end"
 ·rw[SV d,PC (by rw[d,qk ⋯ ⋯ ⋯];exact SW)];unfold Yj;rw[PC (by rw[d];decide +kernel),SV d]
 ·rw[PC d];by_cases f:Xs c∈WS
  ·rw[SV f];unfold goR Yj;by_cases b:i0 (Xs c) (mD a.cs st.place c)=true
   ·rw[SV b,SV b];rfl
   ·rw[PC b,PC b,SV f]
  ·rw[PC f];unfold doR Yj;by_cases b:i0 (Xs c) (mD a.cs st.place c)=true
   ·rw[SV b,SV b];rfl
   ·rw[PC b,PC b,PC f,PC d]
theorem Y7.grow(t:Y7 a b H d)(j:H a=some (.lst f))(l:H b=some (.lst w))(p:d a=some (.lst r))(s:d b=some (.lst v)):eI K H d:=by
 have g:∀{c:Addr}{o:HO},H c=some o->(∀f,o≠.lst f)->d c=some o:=λ{c o} e n =>
  t c o (λz=>n _ (by rw[z,j]at e;cases e;rfl)) (λz=>n _ (by rw[z,l]at e;cases e;rfl)) e
 refine⟨λc f q=>?_,λc zs q=>?_⟩
 ·rcases q with(q|⟨u,q⟩)|q
  ·exact .inl (.inl (g q (λ_ z=>by cases z)))
  ·exact .inl (.inr ⟨u,g q (λ_ z=>by cases z)⟩)
  ·exact .inr q
 ·rcases q with(q|⟨u,q⟩)|q
  ·by_cases h:c=a
   ·exact⟨_,W2.of (by rw[h];exact p)⟩
   ·by_cases i:c=b
    ·exact⟨_,W2.of (by rw[i];exact s)⟩
    ·exact⟨zs,.inl (.inl (t c _ h i q))⟩
  ·exact⟨zs,.inl (.inr ⟨u,g q (λ_ z=>by cases z)⟩)⟩
  ·exact⟨zs,.inr q⟩
theorem FO(h:cM g i num st=some s):s.kept=st.kept:=by
 unfold cM at h;split at h
 ·exact(iA h).2.1
 ·split at h
  ·exact(iA h).2.1
  ·obtain⟨u,e,h⟩:=Uh.mp h;have a:=(jS e).2.1;split at h
   ·exact(iA h).2.1.trans a
   ·split at h
    ·obtain⟨f,b,c⟩:=Uh.mp h;exact(iA c).2.1.trans ((iA b).2.1.trans a)
    ·split at h
     ·obtain⟨l,d,h⟩:=Uh.mp h;obtain⟨f,b,c⟩:=Uh.mp h;exact(iA c).2.1.trans ((iA b).2.1.trans ((jS d).2.1.trans a))
     ·obtain⟨l,d,h⟩:=Uh.mp h;exact(iA h).2.1.trans ((jS d).2.1.trans a)
noncomputable def nB:Nat->List Int->List Int
 |_,[]=>[]
 |i,c::r=>c*([1,100].getD i 0)::nB (i+1) r
theorem AO:∀(i:Nat)(a:vc),(nB i a).length=a.length
 |_,[]=>rfl
 |i,c::r=>by rw[nB,SX,SX,AO]
theorem AN:∀(a:vc)(i k:Nat),(nB i a)[k]?=a[k]?.map λc=>c*([1,100].getD (i+k) 0)
 |[],_,_=>by simp[nB]
 |c::r,i,0=>by simp[nB]
 |c::r,i,k+1=>by
  rw[nB,List.getElem?_cons_succ,List.getElem?_cons_succ,AN r (i+1) k];congr 2
  funext c
  rw[show i+1+k=i+(k+1) by lia]
theorem Hg{c:vc}:c.length<=2->(nB 0 c).sum=iK c:=by
 intro h
 match c,h with
 |[],_=>rfl
 |[a],_=>show a*1+0=(0:Int)*100+a;lia
 |[a,b],_=>show a*1+(b*100+0)=((0:Int)*100+b)*100+a;lia
theorem J8{e:jF}(g:RE K h f G d)(i:RC K j f G o)
  (q:∀v b,WV G b->Dat K b d v->∀l c a,WV b a->a l=some (.lst c)->WU K a o c->∀p,a p=none->e.rt (.ref p) (upd a p (.tup [v,.ref l]))):E1 (CA (bU h (bU j dR))) e f G :=
 g.use λv b s r=>(i.mono s).use λl c a n t u w=>⟨cK (show 2<=1000 by decide),λp np=>q v b s r l c a t u w p np⟩
theorem HE(h:RC K f e H es)(g:RC K o e H fs)
  (q:∀l d a,H l=none->WV H a->a l=some (.lst d)->WU K a es d->∀c zs b,a c=none->WV a b->b c=some (.lst zs)->WU K b fs zs->p r ((e.set i (some (.ref l))).set j (some (.ref c))) b):a6 (Mq i j (bU f (bU o dR))) p r e H :=
 h.use λl d a n s t u=>(g.mono s).use λc zs b v w x y=>⟨_,_,rfl,q l d a n s t u c zs b v w x y⟩
def zu(K:qs):Sp:=λi H Q _=>∃(e lk:Addr)(f:V)(a:MC)(n:Nat)(c:MS),i=[.ref e,f,.int a.b,.int n,.int c.place,.ref lk]/\pN a/\kl a c/\c.pile=[]/\c.ended=false/\H e=some (.lst (a.cs.map V.int))/\H lk=some (.lst (YK c.kept))/\e≠lk/\Dat K H (.tup (a.as.map D.int)) f/\n<=5000 /\
 ∀(p:Addr)(g:V)(ld:Addr)(h:List V)(d:Hp),Xb lk H d->d p=some (.tup [g,.ref ld])->Dat K d (Hz (jh a n c)) g->d ld=some (.lst h)->WU K d (iE a n c) h->Q (.ref p) d
theorem xX(T:Txt P w K mg)(Q5:Ok P w base k T.OF (jR K Bt))(QT:Ok P w base k T.O8 (Xp K K4))(Rn:Ok P w base k T.PB (HL K))(Rm:Ok P w base k T.Pz (HJ K)):Ok P w base (k+1) T.OL (zu K):=by
 refine Xd T.OL.f yP λvs H Q E nd h=>?_;obtain⟨lc,lk,vg,a,n,s0,rfl,oc,os,hpl,hen,hc,hk,nck,hg,n9,post⟩:=h;refine⟨rfl,λ_ _ _ _ hr=>⟨_,(aC (nR (i:=6) (j:=7) rfl nd rfl rfl ⋯ rfl rfl (z2 (bQ a7) (bQ a7)) (by kernel_rfl))
 (aC (iD Uc rfl (iG rfl T.Pi (z1 (pv 3))) (zg 8 nd) (aC (bA (PW.pt (fH (zt kT (pv 4) aD) (fH (zt wI (pv 4) (aV aQ rfl T.NZ bP (z1 (pv 0)))) (eV (zt kn (a8 bY (pv 0) (pv 4)) aD))))) (zr (aU (z2 (aU (z2 aI (pv 4))) (pv 7)))) aO)
 (aC (nR (i:=9) (j:=10) rfl nd rfl rfl ⋯ rfl rfl (z2 (a8 bY (AJ Q5 hr rfl T.OF.m T.OF.f.kp T.OF.b .nil gW) (a8 bY (pv 0) (pv 4))) (pc (D:=T.O8) QT hr (z1 (a8 bY (pv 0) (pv 4))))) (by kernel_rfl))
 (aC (zs 11 nd (jw zm (pv 0) (iV (bF cJ (pv 4) aD)) (iV (bF cJ (bF cJ (pv 4) aD) (pv 10)))))
 (aC (bA (zt kT (aV aQ rfl T.NZ bP (z1 (pv 11))) (pv 10)) (zr (aU (z2 (aU (z2 aI (pv 4))) (pv 7)))) aO)
 (aC (zs 12 nd (aV (zU rfl) rfl T.Sx FF (z1 (mZ (own:=["_law_spot","_law_cell"]) (fr:=[]) (N':=["_law_spot","_law_cell"]) (AL rfl T.QF (z1 (pv 11))) rfl (by show iB ["_law_code","_law_args_here","_law_base","_law_most","_law_at","_law_ways","_law_pile","_law_did","_law_k","_law_name","_law_many","_law_cells","_law_number","_law_on","_law_now"] (λx=>(aK mM).names.lookup x) _ _ _ _=true;decide +kernel) rfl (λ_ _ _ _ _=>(yu (K:=K) (n:=2) rfl rfl (bB (f9 (i:=0) (by show List.Nodup [("_law_spot":Str),("_law_cell":Str)];decide +kernel) rfl (Or.inl rfl)) (bB (f9 (i:=1) (by show List.Nodup [("_law_spot":Str),("_law_cell":Str)];decide +kernel) rfl (Or.inl rfl)) dH)))) (λ_ _ _ _ _=>jx) (λ_ _ _ _ _=>(bF nP (pv 1) (a8 (r:=lZ K) a9 (aU (z2 aD aD)) (pv 0))))))))
 (aC (nR (i:=13) (j:=14) rfl nd rfl rfl ⋯ rfl rfl (z2 (bF cJ (bF cJ (pv 4) aD) (aV aQ rfl T.NZ bP (z1 (pv 11)))) (aU (z2 (pv 4) (eF dD rfl T.Os fC (z1 (pv 6)))))) (by kernel_rfl))
 (aC (bA (zt cE (pv 9) aI) (aC (bA (zt lU (aV aQ rfl T.NZ bP (z1 (pv 6))) aD) (zr (aU (z2 (aU (z2 aI (pv 4))) (pv 7)))) aO)
 (zr (aU (z2 (aU (z2 aI (a8 bY (pv 6) aD))) (bF Jp (pv 7) (bQ (z1 (pv 14)))))))) aO)
 (aC (bA (zt fA (pv 9) (aU (aY aI (aY aI (aY aI (aY aI (aY aI (aY aI a7)))))))) (aX (zs 13 nd (pc (D:=T.PB) Rn hr (aY (pv 9) (aY (pv 12) (aY (pv 13) (aY (pv 6) (aY (pv 5) a7)))))))) (aX (bA (cI (bL (pc (D:=T.Pz) Rm hr (aY (pv 9) (aY (pv 12) (aY (pv 6) (aY (pv 1) (aY (pv 2) a7)))))) (λ_=>rfl))) (aX (zs 13 nd jH)) aO)))
 (aC (bA (zt yn (pv 13) jH) (zr (aU (z2 (aU (z2 aI (pv 4))) (pv 7)))) aO)
 (aC (bK (dW UI VQ VR cC (pv 7) (z1 (pv 14))))
 (aX (zs 4 nd (pv 13))))))))))))))
 (zr (aU (z2 (aU (z2 aI aD)) (pv 7)))))),?_⟩⟩
 dsimp only[XQ];show let W5:=a6 _ _;let Xc:=a6 _ W5;let Xv:=a6 _ _;let XF:=a6 (md _ Xv _) Xc;let X6:=a6 _ XF;let YC:=a6 _ X6;let Zd:=a6 _ YC;let z_8:=a6 _ Zd;let z_9:=a6 _ z_8;let z_10:=a6 _ z_9;let z_11:=a6 (Bk _ _ z_10) _;a6 _ z_11 _ _ _;intro W5 Xc Xv XF X6 YC Zd z_8 z_9 z_10 z_11;have Xd:=oc.cs;have l1:=Xd.l1;refine HE (K:=K) (es:=[]) (fs:=[]) (fY aG) (fY aG) λlp ysp H1 nlp t1 hyp dyp ld ysd H2 L t2 hyd dyd=>?_;obtain rfl:=dyp.X5;obtain rfl:=dyd.X5;have t12:=t1.trans t2;have SJ:lp≠lk:=λz=>by rw[z,hk]at nlp;cases nlp
 have Sr:lp≠lc:=λz=>by rw[z,hc]at nlp;cases nlp
 have SD:ld≠lk:=λz=>by rw[z,t1 _ _ hk]at L;cases L
 have SM:ld≠lc:=λz=>by rw[z,t1 _ _ hc]at L;cases L
 have Sl:ld≠lp:=λz=>by rw[z,hyp]at L;cases L
 have U:H lp=none:=nlp;have hld0:H ld=none:=t1.free L
 have fin:∀{te:TE}{σ:L2.St}{G:Hp}{xs:List V}(r:Res),RE K te σ G (Hz r)->jh a n s0=r->G ld=some (.lst xs)->WU K G (iE a n s0) xs->Xb lk H G->σ[7]?=some (some (.ref ld))->E1 (CA (bU te (bU (fR 7) dR))) {nx:=λ_ H'=>Q .W3 H',rt:=Q} σ G:=λ{te σ G xs} r h1 h2 h3 h4 h5 h6 =>
  h1.use λv G1 M q1=>⟨_,h6,cK (show 2<=1000 by decide),λp np=>post p v ld xs _ ((h5.trans M.but).trans (aL np _).but) aF (by rw[h2];exact(aL np _).dat q1) ((aL np _) _ _ (M _ _ h3)) ((M.trans (aL np _)).W0 h4)⟩
 refine dI ⟨_,rfl,(n:Int),rfl,⋯,⋯,mX (n:=(n:Int).toNat) (λi σ G=>∃(st:MS)(xs:List V)(rows:List D)(z8 z9 z10 ZT Ze z13 z14:Option V),σ=[some (.ref lc),some vg,some (.int a.b),some (.int n),some (.int st.place),some (.ref lk),some (.ref lp),some (.ref ld),z8,z9,z10,ZT,Ze,z13,z14] /\
  G lc=some (.lst (a.cs.map V.int))/\Dat K G (.tup (a.as.map D.int)) vg/\G lp=some (.lst (pV st.pile))/\G lk=some (.lst (YK st.kept))/\G ld=some (.lst xs)/\WU K G rows xs/\kl a st/\st.ended=false/\Xb lk H G/\jh a n s0=jh a (n - i) st/\rows++iE a (n - i) st=iE a n s0/\rows.length=i) ?_ ?_ ?_⟩
 ·exact⟨s0,[],[],none,none,none,none,none,none,none,rfl,t12 _ _ hc,t12.dat hg,by rw[hpl];exact t2 _ _ hyp,t12 _ _ hk,hyd,WU.nil,os,hen,t12.but,rfl,rfl,rfl⟩
 ·rintro i σ G hi ⟨st,xs,rows,z8,z9,z10,ZT,Ze,z13,z14,rfl,gc,gg,gp,gk,gd,dG,os,he,bG,t,g,lrow⟩;refine jQ ?_;dsimp only;obtain⟨k',ek⟩:∃k',n - i=k'+1:=⟨n - i - 1,⋯⟩
  have ek2:n - (i+1)=k':=by lia
  rw[ek]at t g;have ll:=dG.length;have hin:i<n:=by lia
  have LC:∀{F:Hp},WV G F->LD K F (cD a.cs) (.ref lc):=λs=>LD.of (s _ _ gc) (dO _)
  cases I:a.cs[st.place]? with
  |none =>
   have hp:a.cs.length<=st.place:=VL.mp I;have e:fN a st=none:=by unfold fN;rw[I]
   refine aT (K:=K) (b:=true) (RT.as (dJ (b:=false) (c:=true) (RT.as (aH (cP (p:=λi j=>decide (i<j)) (aB (K:=K) (k:=4) (Dat.WY (st.place:Int))) aE)) (S3 ⋯)) λ_=>RT.as (dJ (b:=true) (c:=true) (RT.as (aH (cP (p:=λi j=>decide (j<=i)) (aB (K:=K) (k:=4) (Dat.WY (st.place:Int))) (dB (aW (k:=0) (LC (WV.refl _)))))) (S9 (by rw[tB];lia))) λz=>nomatch z) rfl) rfl) (λ_ G1 M=>?_) (λc=>nomatch c);exact fin (.fault st.place) (aZ (aA aJ (aA (aB (K:=K) (k:=4) (Dat.WY (st.place:Int))) aG))) (by rw[t,jh,e]) (M _ _ gd) (by rw[iE,e]at g;dsimp only at g;rw[To]at g;rw[<- g];exact M.W0 dG) (bG.trans M.but) rfl
  |some c =>
  have hp:st.place<a.cs.length:=(S6.mp I).1;obtain⟨c0,c99⟩:=Xd.c _ _ I;have hx':=Ko I;have rc:∀{F:Hp}{w8 w9 w10 w11 w12 Y w14:Option V},WV G F->RE K (XT (B8 K) (fR 0) (fR 4)) [some (.ref lc),some vg,some (.int a.b),some (.int n),some (.int st.place),some (.ref lk),some (.ref lp),some (.ref ld),w8,w9,w10,w11,w12,Y,w14] F (.int c):=λs=>gP (k:=st.place) (aW (k:=0) (LC s)) (aB (K:=K) (k:=4) (Dat.WY (st.place:Int))) hx';refine aT (K:=K) (b:=decide (16<c)) (RT.as (dJ (b:=false) (c:=decide (16<c)) (RT.as (aH (cP (p:=λi j=>decide (i<j)) (aB (K:=K) (k:=4) (Dat.WY (st.place:Int))) aE)) (S3 ⋯)) λ_=>RT.as (dJ (b:=false) (c:=decide (16<c)) (RT.as (aH (cP (p:=λi j=>decide (j<=i)) (aB (K:=K) (k:=4) (Dat.WY (st.place:Int))) (dB (aW (k:=0) (LC (WV.refl _)))))) (S3 (by rw[tB];lia))) λ_=>aH (cP (p:=λi j=>decide (j<i)) (rc (WV.refl _)) aE)) rfl) rfl) (λc16 G1 M=>?_) (λc16 G1 M=>?_)
  ·have e:fN a st=none:=uG (by unfold zO;rw[I];show jZ _ _ _=true;unfold jZ;rw[c16];rfl);exact fin (.fault st.place) (aZ (aA aJ (aA (aB (K:=K) (k:=4) (Dat.WY (st.place:Int))) aG))) (by rw[t,jh,e]) (M _ _ gd) (by rw[iE,e]at g;dsimp only at g;rw[To]at g;rw[<- g];exact M.W0 dG) (bG.trans M.but) rfl
  ·have c16:=S5 c16;have hn:(NM.map D.str)[c.toNat]?=some (.str (Xs c)):=by rw[SR,Lu c.toNat ⋯];rfl
   have ec:c=((c.toNat:Nat):Int):=by lia
   refine HD (K:=K) (d:=.str (Xs c)) (e:=.int (bZ c)) (aA (gP (k:=c.toNat) HB (RE.as (rc M) (Tu D.int ec)) hn) (aA (bJ (R:=K4) (aA (rc M) aG) ⟨c,rfl,rfl⟩) aG)) λv9 v10 G2 u2 d9 d10=>?_;obtain rfl:=d9.Xh;obtain rfl:=d10.W4;have u12:=M.trans u2;have el:(st.place:Int)+1=((st.place+1:Nat):Int):=by lia
   have eh:(st.place:Int)+1+(bZ c:Int)=((st.place+1+bZ c:Nat):Int):=by lia
   refine fG (K:=K) (es:=(ZC a.cs st.place c).map D.int) (RC.as (DD (lo:=st.place+1) (hi:=st.place+1+bZ c) (aW (k:=0) (LC u12)) (RE.as (dC (aB (K:=K) (k:=4) (Dat.WY (st.place:Int))) aE) (Tu D.int el)) (RE.as (dC (dC (aB (K:=K) (k:=4) (Dat.WY (st.place:Int))) aE) (aB (k:=10) (Dat.WY (bZ c:Int)))) (Tu D.int eh))) (by rw[show st.place+1+bZ c - (st.place+1)=bZ c by lia];exact CP a.cs st.place c)) λl11 ys11 G3 n11 u3 hy11 dy11=>?_;have u13:=u12.trans u3;have L11:LD K G3 ((ZC a.cs st.place c).map D.int) (.ref l11):=LD.of hy11 dy11;have lns:(ZC a.cs st.place c).length=min (bZ c) (a.cs.length - (st.place+1)):=by unfold ZC;rw[T4,U3]
   refine aT (K:=K) (b:=jZ a.cs st.place c) (RT.as (aH (cP (p:=λi j=>decide (i<j)) (dB (aW (k:=11) L11)) (aB (k:=10) (Dat.WY (bZ c:Int))))) ?_) (λhb G4 u4=>?_) (λhb G4 u4=>?_)
   ·unfold jZ;rw[S3 c16,Uw,tB,lns];exact jt ⋯
   ·have e:fN a st=none:=uG (by unfold zO;rw[I];exact hb);exact fin (.fault st.place) (aZ (aA aJ (aA (aB (K:=K) (k:=4) (Dat.WY (st.place:Int))) aG))) (by rw[t,jh,e]) ((u13.trans u4) _ _ gd) (by rw[iE,e]at g;dsimp only at g;rw[To]at g;rw[<- g];exact(u13.trans u4).W0 dG) (bG.trans (u13.trans u4).but) rfl
   have u14:=u13.trans u4;have L11:=u4.ld L11;obtain⟨h16,hlb⟩:=vN hb;obtain⟨en,n99⟩:=Dl (p:=st.place) (c:=c) Xd;obtain⟨l2,nsb⟩:=GM (p:=st.place) (c:=c) Xd;have lnb:(ZC a.cs st.place c).length=bZ c:=by rw[lns];lia
   have se:=Kd I hb;have nmc:=GG c0 h16;generalize Xs c=nm at *;generalize hnum:mD a.cs st.place c=num at *;refine d6 (K:=K) (d:=.int num) (RE.as (DI (ns:=nB 0 (ZC a.cs st.place c)) (jB (AU (aW (k:=11) L11) (by rw[tB];lia) ((nB 0 (ZC a.cs st.place c)).map D.int) (by rw[tB,tB,AO]) ⋯ rfl (λF k cc e w s hcc hee hw=>?_)))) (by rw[Hg l2,en])) λv12 G5 u5 d12=>?_
   ·rw[SR]at hcc hee;rw[AN]at hee;obtain⟨x,hx,rfl⟩:=Tt.mp hcc;rw[hx]at hee;have ee:D.int (x*([1,100]:vc).getD (0+k) 0)=e:=TY hee;subst ee;have xb:=nsb x (S4 hx);have k2:k<2:=by have:=(S6.mp hx).1;lia
    have hg2:([.int 1,.int 100]:List D)[k]?=some (.int (([1,100]:vc).getD (0+k) 0)):=by
     match k,k2 with
     |0,_=>rfl
     |1,_=>rfl
    have gb:([1,100]:vc).getD (0+k) 0=1\/([1,100]:vc).getD (0+k) 0=100:=by
     match k,k2 with
     |0,_=>exact .inl rfl
     |1,_=>exact .inr rfl
    exact t9 (aB (k:=1) hw) (bC (k:=k) (aZ (aA aE (aA aE aG))) (aB (k:=0) (Dat.WY (k:Int))) hg2) (.inr ⟨⋯,⋯⟩)
   obtain rfl:=d12.W4;have u15:=u14.trans u5;have eo:(st.place:Int)+1+(((ZC a.cs st.place c).map D.int).length:Int)=((st.place+1+bZ c:Nat):Int):=by rw[tB,lnb];lia
   have LP:∀{F:Hp},F lp=some (.lst (pV st.pile))->LD K F (st.pile.reverse.map D.int) (.ref lp):=λh=>LD.of h (dO _);refine HD (K:=K) (d:=.int ((st.place+1+bZ c:Nat):Int)) (e:=A3 st) (aA (RE.as (dC (dC (aB (K:=K) (k:=4) (Dat.WY (st.place:Int))) aE) (dB (aW (k:=11) (u5.ld L11)))) (Tu D.int eo)) (aA (aZ (aA (aB (K:=K) (k:=4) (Dat.WY (st.place:Int))) (aA (Ce (aW (k:=6) (LP (u15 _ _ gp)))) aG))) aG)) λv13 v14 G6 u6 d13 A=>?_;obtain rfl:=d13.W4;have u16:=u15.trans u6;generalize st.place+1+bZ c=on at *;refine aT (K:=K) (b:=decide (nm="end")) (aH (bN (aB (K:=K) (k:=9) (Dat.Xn nm)) aJ)) (λce G7 u7=>?_) (λce G7 u7=>?_)
   ·have ce:=S1 ce;rw[SV ce]at se;have N:=u16.trans u7;refine aT (K:=K) (b:=!decide (st.pile.length=1)) (RT.as (aH (kJ (dB (aW (k:=6) (LP (N _ _ gp)))) aE)) (Tu Bool.not (jt (by rw[tB,Ud];lia)))) (λcl G8 u=>?_) (λcl G8 u=>?_)
    ·have cl:=S5 ((WL _).mp cl);have e:fN a st=none:=by rw[se];unfold jP;rw[PC cl];rfl
     exact fin (.fault st.place) (aZ (aA aJ (aA (aB (K:=K) (k:=4) (Dat.WY (st.place:Int))) aG))) (by rw[t,jh,e]) ((N.trans u) _ _ gd) (by rw[iE,e]at g;dsimp only at g;rw[To]at g;rw[<- g];exact(N.trans u).W0 dG) (bG.trans (N.trans u).but) rfl
    ·have cl:=S1 ((VP _).mp cl)
     obtain⟨x,hx⟩:∃x,st.pile=[x]:=by
      match hq:st.pile,cl with
      |[x],_=>exact⟨x,rfl⟩
     have e:fN a st=some {st with ended:=true,place:=on}:=by rw[se];unfold jP;rw[SV cl];rfl
     have l:=N.trans u
     have hrE:jh a n s0=.ends x:=by rw[t,jh,e];show(if true=true then Res.ends (st.pile.headD 0)else _)=_;rw[SV rfl,hx];rfl
     have htE:rows++[A3 st]=iE a n s0:=by rw[<- g,iE,e];rfl
     have LDd:∀{F:Hp},WV G F->LD K F rows (.ref ld):=λs=>LD.of (s _ _ gd) (s.W0 dG);refine J8 (K:=K) (d:=.tup [.str "ends",.int x]) (aZ (aA aJ (aA (gP (k:=0) (aW (k:=6) (LP (l _ _ gp))) aE (by rw[hx];rfl)) aG))) (JL (aW (k:=7) (LDd l)) (jB (fY (aA (aB (k:=14) ((u7.trans u).dat A)) aG))) (by show rows.length+1<=10000;lia)) λv1 G9 u9 q9 l2 ys2 GA ua hya dya p np=>?_;have u19:=l.trans u9;have uA:=(u19.trans ua).trans (aL np (.tup [v1,.ref l2]));refine post p v1 l2 ys2 _ (bG.trans uA.but) aF ?_ ((aL np _) _ _ hya) ?_
     ·rw[hrE];exact(ua.trans (aL np _)).dat q9
     ·rw[<- htE];exact(aL np _).W0 dya
   have ce:=S5 ce;rw[PC ce]at se;have N:=u16.trans u7;have A:=u7.dat A
   have nmc:nm∈WS\/nm∈S10:=by
    rcases nmc with h|h|h
    ·exact absurd h ce
    ·exact .inl h
    ·exact .inr h
   refine rX (λσ' G'=>∃Y:V,σ'=[some (.ref lc),some vg,some (.int a.b),some (.int n),some (.int st.place),some (.ref lk),some (.ref lp),some (.ref ld),some (.int (0+(i:Int))),some (.str nm),some (.int (bZ c)),some (.ref l11),some (.int num),some Y,some v14] /\
    G' lc=some (.lst (a.cs.map V.int))/\Dat K G' (.tup (a.as.map D.int)) vg/\G' ld=some (.lst xs)/\WU K G' rows xs/\Dat K G' (A3 st) v14/\Xb lk H G' /\
    ((Y=.W3/\fN a st=none)\/∃O,fN a st=some O/\O.ended=false/\Y=.int O.place/\G' lp=some (.lst (pV O.pile))/\G' lk=some (.lst (YK O.kept)))) ?_ ?_
   ·rintro σ' G' ⟨Y,rfl,fc,fg,fd,fD,f14,fB,hor⟩;rcases hor with⟨rfl,e⟩|⟨O,e,es,rfl,fp,fk⟩
    ·refine aT (K:=K) (b:=true) (RT.as (aH (pY (K:=K) (d:=.W3) (aB (k:=13) Dat.Y3))) rfl) (λ_ G8 u=>?_) (λc=>nomatch c);exact fin (.fault st.place) (aZ (aA aJ (aA (aB (K:=K) (k:=4) (Dat.WY (st.place:Int))) aG))) (by rw[t,jh,e]) (u _ _ fd) (by rw[iE,e]at g;dsimp only at g;rw[To]at g;rw[<- g];exact u.W0 fD) (fB.trans u.but) rfl
    ·refine aT (K:=K) (b:=false) (RT.as (aH (pY (K:=K) (d:=.int (O.place:Int)) (aB (k:=13) (Dat.WY _)))) rfl) (λc=>nomatch c) (λ_ G8 u=>?_);obtain⟨os2,_⟩:=DQ oc os e;have fd8:=u _ _ fd;refine HC (K:=K) (d:=A3 st) (aB (k:=14) (u.dat f14)) fd8 ⋯ λy G9 q fd9 dy9=>?_;have C:=q.grow (K:=K) fd8 fd9;refine⟨_,rfl,O,xs++[y],rows++[A3 st],_,_,_,_,_,_,_,rfl,q _ _ (Tf SM) (u _ _ fc),Dat.mono C _ (u.dat fg),q _ _ (Tf Sl) (u _ _ fp),q _ _ (Tf SD) (u _ _ fk),fd9,WU.append (WU.mono C _ (u.W0 fD)) (WU.cons dy9 WU.nil),os2,es,λx o nx ex=>q x o (λz=>by rw[z,hld0]at ex;cases ex) (u _ _ (fB x o nx ex)),?_,?_,by rw[M1,lrow];rfl⟩
     ·rw[t,jh,e,ek2];show(if O.ended=true then _ else _)=_;rw[es,PC SW]
     ·rw[<- g,iE,e,ek2,TJ];show _++([A3 st]++_)=_++(A3 st::if O.ended=true then _ else _)
      rw[es,PC SW];rfl
   ·intro J;refine RT.use (b:=decide (nm∈WS)) (aH (kg (ys:=["skip","jump","zero","none","call","back"]) (aB (K:=K) (k:=9) (Dat.Xn nm)) (aZ (aA aJ (aA aJ (aA aJ (aA aJ (aA aJ (aA aJ aG))))))))) λG8 u=>?_;have l:=N.trans u;have A:=u.dat A;have gp8:=l _ _ gp;have gk8:=l _ _ gk;by_cases hw:nm∈WS
    ·rw[S9 hw];rw[SV hw]at se;refine lE ⟨_,rfl,_,rfl,_,rfl,_,rfl,_,rfl,nm,num,on,lp,lk,st,rfl,hw,gp8,gk8,SJ,os.k,λp hp9 G9 q fp fk=>?_,λhn9 G9 zs ws q fp fk=>?_⟩
     ·have C:=q.grow (K:=K) gp8 gk8 fp fk;refine J _ G9 ⟨_,rfl,q _ _ (Tf Sr) nck (l _ _ gc),Dat.mono C _ (l.dat gg),q _ _ Sl SD (l _ _ gd),WU.mono C _ (l.W0 dG),Dat.mono C _ A,λx o nx ex=>q x o (λz=>by rw[z,U]at ex;cases ex) nx (l _ _ (bG x o nx ex)),.inr ⟨{p.2 with place:=p.1},by rw[se,hp9];rfl,?_,rfl,fp,fk⟩⟩;show p.2.ended=false;unfold goR at hp9;split at hp9
      ·cases hp9
      ·rw[(Ih os hp9).2];exact he
     ·have C:=q.grow (K:=K) gp8 gk8 fp fk;exact J _ G9 ⟨_,rfl,q _ _ (Tf Sr) nck (l _ _ gc),Dat.mono C _ (l.dat gg),q _ _ Sl SD (l _ _ gd),WU.mono C _ (l.W0 dG),Dat.mono C _ A,λx o nx ex=>q x o (λz=>by rw[z,U]at ex;cases ex) nx (l _ _ (bG x o nx ex)),.inl ⟨rfl,by rw[se,hn9];rfl⟩⟩
    ·rw[S3 hw];rw[PC hw]at se;have hss:nm∈S10:=nmc.resolve_left hw;refine lD ⟨_,rfl,_,rfl,_,rfl,_,rfl,_,rfl,nm,num,lp,vg,a,st,rfl,hss,gp8,l.dat gg,oc,os,λO B G9 q fp=>⟨true,rfl,?_⟩,λhn9 G9 zs q fp=>⟨false,rfl,?_⟩⟩
     ·have C:=q.grow (K:=K) gp8 fp;refine lD (J _ G9 ⟨_,rfl,q _ _ (Tf Sr) (l _ _ gc),Dat.mono C _ (l.dat gg),q _ _ Sl (l _ _ gd),WU.mono C _ (l.W0 dG),Dat.mono C _ A,λx o nx ex=>q x o (λz=>by rw[z,U]at ex;cases ex) (l _ _ (bG x o nx ex)),.inr ⟨{O with place:=on},by rw[se,B];rfl,?_,rfl,fp,?_⟩⟩)
      ·show O.ended=false;unfold doR at B;split at B
       ·cases B
       ·rw[(FP oc.b2 os B).2];exact he
      ·show G9 lk=some (.lst (YK O.kept))
       have ekk:O.kept=st.kept:=by
        unfold doR at B;split at B
        ·cases B
        ·exact FO B
       rw[ekk];exact q _ _ (Tf SJ) gk8
     ·have C:=q.grow (K:=K) gp8 fp;exact lE (J _ G9 ⟨_,rfl,q _ _ (Tf Sr) (l _ _ gc),Dat.mono C _ (l.dat gg),q _ _ Sl (l _ _ gd),WU.mono C _ (l.W0 dG),Dat.mono C _ A,λx o nx ex=>q x o (λz=>by rw[z,U]at ex;cases ex) (l _ _ (bG x o nx ex)),.inl ⟨rfl,by rw[se,hn9];rfl⟩⟩)
 ·rintro σ G ⟨st,xs,rows,z8,z9,z10,ZT,Ze,z13,z14,rfl,gc,gg,gp,gk,gd,dG,os,he,bG,t,g,lrow⟩;have e0:n - (n:Int).toNat=0:=by lia
  rw[e0]at t g;have g:rows++[]=iE a n s0:=g;rw[To]at g;exact fin .late (aZ (aA aJ (aA aE aG))) t gd (by rw[<- g];exact dG) bG rfl
def Cv(K:qs):Sp:=λh H Q _=>∃(d:Addr)(e:V)(a:MC)(n:Nat),h=[.ref d,e,.int a.b,.int n]/\pN a/\H d=some (.lst (a.cs.map V.int))/\Dat K H (.tup (a.as.map D.int)) e/\n<=5000 /\
 ∀(p:Addr)(f:V)(ld:Addr)(g:List V)(c:Hp),WV H c->c p=some (.tup [f,.ref ld])->Dat K c (Hz (jh a n st0)) f->c ld=some (.lst g)->WU K c (iE a n st0) g->Q (.ref p) c
theorem Ay(T:Txt P w K mg)(g:Ok P w base k T.OL (zu K)):Ok P w base (k+1) T.PV (Cv K):=by
 refine Xd T.PV.f A8 λI H Q E J h=>?_;obtain⟨c,i,j,n,rfl,l,d,q,r,post⟩:=h;refine⟨rfl,λ_ _ _ _ s=>⟨_,(zr (pc (D:=T.OL) g s (aY (pv 0) (aY (pv 1) (aY (pv 2) (aY (pv 3) (aY aD (aY (bQ a7) a7)))))))),?_⟩⟩;refine⟨_,rfl,_,rfl,_,rfl,_,rfl,cK ⋯,λlk nk=>?_⟩;have t:c≠lk:=λz=>by rw[<- z,d]at nk;cases nk
 have a:=aL nk (.lst []);refine⟨c,lk,i,j,n,st0,rfl,l,GP,rfl,rfl,a _ _ d,aF,t,a.dat q,r,λp u ld v y b A B C G=>post p u ld v y (λx o e=>b x o (λz=>by rw[z,nk]at e;cases e) (a x o e)) A B C G⟩
end
section
abbrev oE(x:Int):Prop:=0<=x/\x<=99
theorem sQ:∀(p:Pa)(t:Tr)(f:Yb),Xx t->cQ p t=some f->(∀x∈f.2.1,0<=x/\x<=9999)/\∀x∈f.2.2,0<=x/\x<=3
 | .hole i,t,f,_,h=>by cases h;exact⟨λx c=>(nomatch c),λx c=>(nomatch c)⟩
 | .gap i m,t,f,ok,h=>by obtain⟨n,rfl,_,rfl⟩:=ji h;exact⟨λx c=>by rw[Tp.mp c];exact ok,λx c=>(nomatch c)⟩
 | .slot i,t,f,ok,h=>by obtain⟨n,rfl,rfl⟩:=oB h;exact⟨λx c=>(nomatch c),λx c=>by rw[Tp.mp c];exact ok⟩
 | .num m,t,f,ok,h=>by obtain⟨rfl,rfl⟩:=xx h;exact⟨λx c=>(nomatch c),λx c=>(nomatch c)⟩
 | .two o a b,t,f,ok,h=>by obtain⟨x,y,e,g,rfl,j,l,rfl⟩:=j5 h;obtain⟨q,r⟩:=sQ a x e ok.2.1 j;obtain⟨s,u⟩:=sQ b y g ok.2.2 l;exact⟨λz d=>(Tq.mp d).elim (q z) (s z),λz d=>(Tq.mp d).elim (r z) (u z)⟩
noncomputable def xp:Cl->Bool
 | .n i=>decide (0<=i)&&decide (i<=99)
 |_=>true
theorem xA{l:vc}(h:∀x∈l,0<=x/\x<=m)(a:0<=m)(k:Nat):0<=l.getD k 0/\l.getD k 0<=m:=by
 rw[Td]
 cases e:l[k]? with
 |none=>exact⟨Ut _,a⟩
 |some x=>exact h x (S4 e)
theorem IJ(b:∀x∈a,0<=x/\x<=9999)(f:∀x∈d,0<=x/\x<=3)(e:xp c=true):oE (lR a d c):=by
 cases c with
 |n i=>simp only[xp,S2,TH]at e;exact e
 |arg k=>have:=xA f ⋯ k;exact⟨this.1,by show d.getD k 0<=99;lia⟩
 |low k=>have:=xA b ⋯ k;show 0<=a.getD k 0%100/\a.getD k 0%100<=99;lia
 |high k=>have:=xA b ⋯ k;show 0<=a.getD k 0 / 100/\a.getD k 0 / 100<=99;lia
theorem Lw{a f:Int}{m:Nat}(c:oE a)(d:oE f)(e:m<=9999):∀x∈fW a f m,oE x:=by
 unfold fW;intro x b;split at b
 ·simp only[S0,Ti,T9]at b;rcases b with rfl|rfl
  ·exact c
  ·exact⟨⋯,⋯⟩
 ·simp only[S0,Ti,T9]at b;rcases b with rfl|rfl|rfl
  ·exact d
  ·exact⟨⋯,⋯⟩
  ·exact⟨⋯,⋯⟩
theorem Dq:∀{b:List Tr}{d:List D}{a:List (List D)},hU f b d=a.map some->(∀t∈b,∀c e,f t c=some e->e.length<=999->∀x,D.int x∈e->oE x)->a.flatten.length<=999->∀x,D.int x∈a.flatten->oE x
 |[],d,a,h,_,_=>by
  have:a=[]:=by cases a with|nil=>rfl|cons _ _=>cases h
  subst this;intro x hx;cases hx
 |t::b,[],a,h,_,_=>by
  have:a=[]:=by cases a with|nil=>rfl|cons _ _=>cases h
  subst this;intro x hx;cases hx
 |t::b,c::d,a,h,g,i=>by
  cases a with
  |nil=>cases h
  |cons y a =>
   have j:f t c::hU f b d=some y::a.map some:=h;injection j with l n;rw[TV,M1]at i;intro x hx;rw[TV]at hx;rcases Tq.mp hx with hx|hx
   ·exact g t Tn c y l ⋯ x hx
   ·exact Dq n (λt o=>g t (Th _ o)) ⋯ x hx
theorem tp(j:∀x∈b,0<=x/\x<=9999)(o:∀p∈v,fQ p.pt=true/\(bS p).all xp=true):∀(n:Nat)(t:Tr)(c:D)(d:List D),Xx t->fP v b n t c=some d->d.length<=999->∀x,D.int x∈d->oE x
 |0,_,_,_,_,h,_=>by cases h
 |n+1,t,c,d,ok,h,w=>by
  have h:(if kE t=true then some (ml b t)else match pC c with|none=>none|some x=>if x.1="pick" then oJ (fP v b n) t x.2 else mr (fP v b n) v t x.1 x.2)=some d:=h;by_cases i:kE t=true
  ·rw[SV i]at h
   cases t with
   |call k =>
    cases h
    have I:0<=b.getD k.toNat 0/\b.getD k.toNat 0<=9999:=by
     rw[Td]
     cases e:b[k.toNat]? with
     |none=>exact⟨⋯,⋯⟩
     |some x=>exact j x (S4 e)
    intro x hx;simp only[ml,S0,Ti,T9,D.int.injEq]at hx;unfold oE;lia
   |_=>cases i
  rw[PC i]at h
  cases C:pC c with
  |none=>rw[C]at h;cases h
  |some y =>
   rw[C]at h;dsimp only at h;intro x hx;by_cases r:y.1="pick"
   ·rw[SV r]at h;obtain⟨J,L,M,N,O,Q,T,U,Y,rfl,_,la,lb,ld,rfl⟩:=je h;unfold gQ m8 at hx w;simp only[M1]at w;have q1:=tp j o n J N T ok.1 la ⋯ x;have q2:=tp j o n L O U ok.2.1 lb ⋯ x;have q3:=tp j o n M Q Y ok.2.2 ld ⋯ x
    have E:∀{a f:Int}{m:Nat},oE a->oE f->m<=9999->D.int x∈(fW a f m).map D.int->oE x:=λha hf hm h=>by obtain⟨z,A,e⟩:=T5.mp h;injection e with e;subst e;exact Lw ha hf hm z A
    rcases Tq.mp hx with hx|hx
    ·rcases Tq.mp hx with hx|hx
     ·rcases Tq.mp hx with hx|hx
      ·exact q1 hx
      ·exact E ⋯ ⋯ (by rw[M1];lia) hx
     ·rcases Tq.mp hx with hx|hx
      ·exact q2 hx
      ·exact E ⋯ ⋯ ⋯ hx
    ·exact q3 hx
   ·rw[PC r]at h;obtain⟨p,g,Xa,e1,G,H,e,rfl⟩:=jd h;obtain⟨nh,ci⟩:=o p (i9 e1).1;have s:=oC nh G;unfold gD at hx w;rw[M1]at w;rcases Tq.mp hx with hx|hx
    ·exact Dq e (λu hu c d q l=>tp j o n u c d (jq t u ok (lh (s u hu))) q l) ⋯ x hx
    ·obtain⟨z,A,B⟩:=T5.mp hx;injection B with B;subst B;obtain⟨v1,v2⟩:=sQ p.pt t g ok G;exact IJ v1 v2 (UE.mp ci z A)
structure goP(p:Pc):Prop where
 nh:fQ p.pt=true
 pg:eU p
 hl:∀t f,cQ p.pt t=some f->f.1.length<=2
 ci:(bS p).all xp=true
theorem Lh:∀p∈Zl,goP p:=by
 intro p a;simp only[Zl,BP,LPP,List.cons_append,UU,To,S0,Ti,T9]at a;rcases a with rfl|rfl|rfl|rfl|rfl|rfl|rfl|rfl|rfl|rfl|rfl|rfl|rfl|rfl|rfl|rfl
 ·exact⟨rfl,L1,hl2 ⋯,⋯⟩
 ·exact⟨rfl,L3,hl2 ⋯,⋯⟩
 ·exact⟨rfl,JA,hl2 ⋯,⋯⟩
 ·exact⟨rfl,LX,hl2 ⋯,⋯⟩
 ·exact⟨rfl,yt,hl2 ⋯,⋯⟩
 ·exact⟨rfl,L0,hl2 ⋯,⋯⟩
 ·exact⟨rfl,Jx,hl2 ⋯,⋯⟩
 ·exact⟨rfl,Jy,hl2 ⋯,⋯⟩
 ·exact⟨rfl,LZ,hl2 ⋯,⋯⟩
 ·exact⟨rfl,Jw,hl2 ⋯,⋯⟩
 ·exact⟨rfl,B3,hl2 ⋯,⋯⟩
 ·exact⟨rfl,Ha,hl2 ⋯,⋯⟩
 ·exact⟨rfl,EC,hl2 ⋯,⋯⟩
 ·exact⟨rfl,ED,hl2 ⋯,⋯⟩
 ·exact⟨rfl,LY,hl2 ⋯,⋯⟩
 ·exact⟨rfl,Jz,hl2 ⋯,⋯⟩
end
section
variable{K:qs}
noncomputable def A4(a:vc):List D:=(jD a (a.length+1) 0).1
noncomputable def pF(a:vc):Option Nat:=(jD a (a.length+1) 0).2
theorem Bp{a:vc}(h:a.length<=p):jD a (n+1) p=([],none):=by unfold jD;rw[UC h]
theorem Ig(h:a[p]?=some c)(b:jZ a p c=true):jD a (n+1) p=([],some p):=by unfold jD;rw[h];dsimp only;rw[SV b]
theorem DZ(h:a[p]?=some c)(b:jZ a p c=false):jD a (n+1) p=(A2 a p c::(jD a n (p+1+bZ c)).1,(jD a n (p+1+bZ c)).2):=by rw[jD,h];dsimp only;rw[PC (by rw[b];exact SW)]
structure LsS(cs:vc)(p n:Nat)(rows:List D):Prop where
 hr:rows++(jD cs n p).1=A4 cs
 hf:(jD cs n p).2=pF cs
 hp:p<=cs.length
 hn:cs.length+1<=n+p
 hl:rows.length<=p
theorem LsS.end(S:LsS a p n rows)(h:¬ p<a.length):rows=A4 a/\pF a=none:=by
 have b:=S.hn;have c:=S.hp;obtain⟨n,rfl⟩:∃m,n=m+1:=⟨n - 1,⋯⟩
 have r:=S.hr;have f:=S.hf;rw[Bp ⋯]at r f;rw[To]at r;exact⟨r,f.symm⟩
theorem LsS.bad(S:LsS a p n rows)(h:a[p]?=some c)(b:jZ a p c=true):pF a=some p:=by
 have d:=S.hn;have e:=S.hp;obtain⟨n,rfl⟩:∃m,n=m+1:=⟨n - 1,⋯⟩
 have f:=S.hf;rw[Ig h b]at f;exact f.symm
theorem LsS.on(S:LsS a p n rows)(h:a[p]?=some c)(b:jZ a p c=false):∃m,LsS a (p+1+bZ c) m (rows++[A2 a p c]):=by
 have e:=S.hn;have g:=S.hp;have i:=S.hl;obtain⟨n,rfl⟩:∃m,n=m+1:=⟨n - 1,⋯⟩
 have r:=S.hr;have f:=S.hf;rw[DZ h b]at r f;obtain⟨_,d⟩:=vN b;refine⟨n,⟨?_,f,⋯,⋯,?_⟩⟩
 ·rw[TJ];exact r
 ·rw[M1,SX,T8];lia
theorem LsS.start(a:vc):LsS a 0 (a.length+1) []:=⟨rfl,rfl,Uk _,SY _,SY _⟩
def HM(K:qs):Sp:=λd H Q _=>∃a,okC a/\Ars K H [.l (cD a)] d/\pF a=none/\∀r c b,WV H b->b r=some (.lst c)->H r=none->WU K b (A4 a) c->Q (.ref r) b
noncomputable def NR(a:L2.St)(_:Hp):Nat:=match a[2]? with
 |some (some (V.int p))=>(2000 - p).toNat
 |_=>0
theorem Ex(T:Txt P w K mg)(P2:Ok P w base k T.ON (Yi K r9))(Oh:Ok P w base k T.N1 (Yi K zH)):Ok P w base (k+1) T.Qz (HM K):=by
 refine Xd T.Qz.f EN λvs H Q E s h=>?_;obtain⟨a,ok,hd,nf,g⟩:=h;obtain⟨N,rfl,C⟩:=D1 hd;have C:LD K H (cD a) N:=C;refine⟨rfl,λ_ _ _ _ hr=>⟨_,(aC (bK (pc (D:=T.ON) P2 hr (z1 (pv 0))))
 (aC (zs 1 s (bQ a7))
 (aC (zs 2 s aD)
 (aC (tY Uc (zt kT (pv 2) (aV aQ rfl T.NZ bP (z1 (pv 0)))) (aC (gY (pc (D:=T.N1) Oh hr (z2 (pv 0) (pv 2))) (fX rfl (bB (zg 3 s) (bB (zg 4 s) dH))))
 (aC (bK (dW Tg TU TZ cC (pv 1) (z1 (aU (z3 (pv 2) (pv 3) (pv 4))))))
 (aX (yz (i:=2) s rfl (Or.inl rfl) (bF cJ aD (aV aQ rfl T.NZ bP (z1 (pv 4)))) sY)))))
 (zr (pv 1)))))),?_⟩⟩
 dsimp only[XQ];show let W5:=a6 _ _;let Xc:=a6 (uI _ W5) _;let Xv:=a6 _ Xc;let XF:=a6 _ Xv;a6 _ XF _ _ _;intro W5 Xc Xv XF;have l1:=ok.l1;refine jg (RE.use (eR (R:=r9) (d:=.W3) (gH (aW (K:=K) (k:=0) C) dS) ⟨cD a,rfl,by rw[tB];lia,CT ok,rfl⟩) λv4 H1 s1 _=>?_);refine fG (K:=K) (es:=[]) (fY aG) λl O H2 hl s2 hy dy=>?_;refine d6 (K:=K) (d:=.int 0) aE λv2 H3 U q3=>?_;obtain rfl:=q3.W4;have Y0:H l=none:=s1.free hl;let Zk:L2.St->Hp->Prop:=λY G=>∃(p n:Nat)(z3 z4:Option V)(t:List V)(rows:List D),Y=[some N,some (.ref l),some (.int p),z3,z4]/\WV H G/\G l=some (.lst t)/\WU K G rows t/\LsS a p n rows;refine dI (uM Zk NR ?_ ?_ ?_)
 ·exact⟨0,_,none,none,O,[],rfl,s1.trans (s2.trans U),U _ _ hy,U.W0 dy,LsS.start a⟩
 ·rintro Y G ⟨p,n,z3,z4,t,rows,rfl,sG,hG,dG,S⟩;have I:=sG.ld C;refine RT.use (b:=decide ((p:Int)<((cD a).length:Int))) (aH (cP (p:=λi j=>decide (i<j)) (aB (K:=K) (Dat.WY (p:Int))) (dB (aW I)))) λG1 u=>?_;by_cases x:p<a.length
  ·rw[S9 (by rw[tB];lia:(p:Int)<((cD a).length:Int))];refine lE ?_;have J:a[p]?=some a[p]:=SN x;generalize a[p]=c at J;have I:=u.ld I;have rA:RB K (bU (fR 0) (bU (fR 2) dR)) [some N,some (.ref l),some (.int (p:Int)),z3,z4] G1 [.l (cD a),.d (.int p)]:=gH (aW (k:=0) I) (iW (aB (k:=2) (Dat.WY (p:Int))) dS)
   cases L:jZ a p c with
   |true =>have z:=S.bad J L;rw[nf]at z;cases z
   |false =>
    refine lK (K:=K) (d:=.str (Xs c)) (e:=.tup (kC a p (bZ c))) (eR (R:=zH) rA ⟨a,p,c,rfl,ok,J,L,rfl⟩) λv3 v4 G2 t2 g3 M=>?_;have r:=u.trans t2;have A:=r _ _ hG;have ll:=dG.length;have sl:=S.hl;refine iY (K:=K) (d:=A2 a p c) (aZ (aA (aB (k:=2) (Dat.WY (p:Int))) (aA (aB (k:=3) g3) (aA (aB (k:=4) M) aG)))) A ⋯ λy G3 b3 B dy3=>?_;have gr:=b3.grow (K:=K) A B;have M:=Dat.mono gr _ M;obtain⟨h16,hlb⟩:=vN L;have lb:(kC a p (bZ c)).length=bZ c:=by rw[sy];lia
    refine⟨_,rfl,RE.use (dC (K:=K) aE (fZ (aB (k:=4) M))) λv5 G4 t4 q5=>?_⟩;refine⟨p,1+((kC a p (bZ c)).length:Int),rfl,q5.W4,?_⟩;have ep:(p:Int)+(1+((kC a p (bZ c)).length:Int))=((p+1+bZ c:Nat):Int):=by rw[lb];lia
    obtain⟨m,S'⟩:=S.on J L;have sH:WV H G3:=λb o e=>b3 b o (λz=>by rw[z,Y0]at e;cases e) ((sG.trans r) b o e);refine⟨⟨p+1+bZ c,m,some v3,some v4,t++[y],rows++[A2 a p c],by rw[<- ep];rfl,sH.trans t4,t4 _ _ B,t4.W0 (WU.append (WU.mono gr _ (r.W0 dG)) (WU.cons dy3 WU.nil)),S'⟩,?_⟩;show(2000 - ((p:Int)+(1+((kC a p (bZ c)).length:Int)))).toNat<(2000 - (p:Int)).toNat;lia
  ·rw[S3 (by rw[tB];lia:¬ (p:Int)<((cD a).length:Int))];refine lD ?_;obtain⟨e1,e2⟩:=S.end x;subst e1;exact⟨_,rfl,g l t G1 (sG.trans u) (u _ _ hG) Y0 (u.W0 dG)⟩
 ·intro Y G Q1 Q2 hQ hc;obtain⟨v,e,v',e',p,O,e2,hq,i,j,e3,e4,b,e5,q⟩:=hc;exact⟨v,e,v',e',p,O,e2,hq,i,j,e3,e4,b,e5,hQ _ _ q⟩
inductive Wr(cs:vc):List (Nat×Int)->Nat->Nat->Prop
 |nil {p:Nat}:Wr cs [] p p
 |cons {rs:List (Nat×Int)} {p q:Nat} {c:Int}:cs[p]?=some c->jZ cs p c=false->Wr cs rs (p+1+bZ c) q->Wr cs ((p,c)::rs) p q
theorem Wr.trans(a:Wr c u p q)(b:Wr c v q r):Wr c (u++v) p r:=by
 induction a with
 |nil=>exact b
 |cons d e _ f=>exact .cons d e (f b)
theorem Wr.le(a:Wr b u p q):p+u.length<=q:=by
 induction a with
 |nil=>exact SY _
 |cons _ _ _ c=>rw[SX];lia
theorem Wr.rows(a:Wr b u p q)(n:Nat):jD b (n+u.length) p=(u.map (λx=>A2 b x.1 x.2)++(jD b n q).1,(jD b n q).2):=by
 induction a with
 |nil=>rfl
 |cons c d _ e=>rw[SX,<- Nat.add_assoc,DZ c d,e];rfl
theorem Wr.at(a:Wr b u p q):∀x∈u,b[x.1]?=some x.2/\jZ b x.1 x.2=false:=by
 induction a with
 |nil=>intro x hx;cases hx
 |cons c d _ e =>
  intro x hx;rcases S0.mp hx with rfl|hx
  ·exact⟨c,d⟩
  ·exact e x hx
theorem Wr.next(a:Wr c u p q):(∀x,u[0]?=some x->x.1=p)/\∀i x y,u[i]?=some x->u[i+1]?=some y->y.1=x.1+1+bZ x.2:=by
 induction a with
 |nil=>exact⟨λx h=>(by cases h),λi x y h=>(by cases h)⟩
 |cons d e _ b =>
  refine⟨λx h=>by cases h;rfl,λi x y h k=>?_⟩
  cases i with
  |zero=>cases h;exact b.1 y k
  |succ i=>exact b.2 i x y h k
noncomputable abbrev YH(x:Nat×Int):Bool:=decide (x.2=0\/x.2=16)
def FK(b:vc)(n:Nat)(a:vc)(x:Nat×Int):Prop:=x.2=15->∃l h:Int,∃j:Nat,a[x.1+1]?=some l/\a[x.1+2]?=some h/\1<=j/\j<=n/\l+100*h=b.getD j 0
def mj(f:vc)(n:Nat)(d:vc):Prop:=∀c a b:List Int,c=a++(d++b)->∃e,Wr c e a.length (a.length+d.length)/\∀x∈e,YH x=false/\FK f n c x
section
variable{pl:vc}{m:Nat}
theorem oi(f:mj pl m x)(g:mj pl m y):mj pl m (x++y):=λc a b e=>by obtain⟨u,h,i⟩:=f c a (y++b) (by rw[e,TJ]);obtain⟨v,d,j⟩:=g c (a++x) b (by rw[e,TJ,TJ]);rw[M1]at d;rw[M1,<- Nat.add_assoc];exact⟨_,h.trans d,λz l=>(Tq.mp l).elim (i z) (j z)⟩
theorem CI:mj pl m []:=λ_ a _ _=>⟨[],.nil,λx h=>by cases h⟩
theorem Ii(e:cs=a++(c::args++b))(g:c<=16)(d:args.length=bZ c):Wr cs [(a.length,c)] a.length (a.length+(c::args).length):=by
 have f:cs[a.length]?=some c:=by rw[e,Ue (SY _),Nat.sub_self];rfl
 refine .cons f ?_ ?_
 ·unfold jZ;rw[S3 ⋯,S3]
  ·rfl
  ·rw[e];simp only[M1,SX];lia
 ·rw[SX,d,Nat.add_assoc,Nat.add_comm 1];exact .nil
theorem CJ{args:vc}(g:1<=c)(i:c<=14)(d:args.length=bZ c):mj pl m (c::args):=λj a b e=>by refine⟨_,Ii e ⋯ d,λx f=>?_⟩;cases Tp.mp f;exact⟨S3 ⋯,λ(h:c=15)=>⋯⟩
noncomputable def lQ:Nat->List Cl->Bool
 |_,[]=>true
 |n+1,.n i::r=>decide (1<=i)&&decide (i<=14)&&decide (bZ i<=r.length)&&lQ n (r.drop (bZ i))
 |_,_=>false
theorem KZ:∀(n:Nat)(d:List Cl),lQ n d=true->mj pl m (d.map (lR a b))
 |_,[],_=>CI
 |0,c::r,h=>by cases c<;>cases h
 |n+1,.n i::r,h=>by
  have h:(decide (1<=i)&&decide (i<=14)&&decide (bZ i<=r.length)&&lQ n (r.drop (bZ i)))=true:=h;rw[S2,S2,S2]at h;have l:=S1 h.1.2
  have e:(Cl.n i::r).map (lR a b)=(i::(r.take (bZ i)).map (lR a b))++(r.drop (bZ i)).map (lR a b):=by rw[List.cons_append,<- Tj,UD];rfl
  rw[e];exact oi (CJ (S1 h.1.1.1) (S1 h.1.1.2) (by rw[tB,T4];lia)) (KZ n _ h.2)
 |n+1,.arg _::r,h=>by cases h
 |n+1,.low _::r,h=>by cases h
 |n+1,.high _::r,h=>by cases h
theorem Ij(b:1<=a/\a<=14/\bZ a=1)(c:1<=f/\f<=14/\bZ f=2):mj pl m (fW a f k):=by
 unfold fW;split
 ·exact CJ b.1 b.2.1 b.2.2.symm
 ·exact CJ c.1 c.2.1 c.2.2.symm
abbrev Ff(pl:vc)(m:Nat)(b:List D):Prop:=∃a:List Int,b=a.map D.int/\mj pl m a
theorem Dr:∀{b:List Tr}{d:List D}{a:List (List D)},(∀t∈b,∀c g,f t c=some g->Ff pl m g)->hU f b d=a.map some->Ff pl m a.flatten
 |[],d,a,_,e=>by
  have:a=[]:=by cases a with|nil=>rfl|cons _ _=>cases e
  subst this;exact⟨[],rfl,CI⟩
 |t::b,[],a,_,e=>by
  have:a=[]:=by cases a with|nil=>rfl|cons _ _=>cases e
  subst this;exact⟨[],rfl,CI⟩
 |t::b,c::d,a,h,e=>by
  cases a with
  |nil=>cases e
  |cons y a =>have i:f t c::hU f b d=some y::a.map some:=e;injection i with j l;obtain⟨n,rfl,o⟩:=h t Tn c y j;obtain⟨p,q,r⟩:=Dr (λt s=>h t (Th _ s)) l;exact⟨n++p,by rw[TV,q,Tj],oi o r⟩
theorem pL(l:∀p∈q,lQ 12 (bS p)=true):∀(n:Nat)(t:Tr)(c:D)(i:List D),clP m t->fP q pl n t c=some i->Ff pl m i
 |0,_,_,_,_,h=>by cases h
 |n+1,t,c,i,d,h=>by
  have h:(if kE t=true then some (ml pl t)else match pC c with|none=>none|some x=>if x.1="pick" then oJ (fP q pl n) t x.2 else mr (fP q pl n) q t x.1 x.2)=some i:=h;by_cases f:kE t=true
  ·rw[SV f]at h
   cases t with
   |call j =>
    cases h;have d:1<=j/\j.toNat<=m:=d;refine⟨[15,pl.getD j.toNat 0%100,pl.getD j.toNat 0 / 100],rfl,λcs a b e=>⟨_,Ii e ⋯ rfl,λx r=>?_⟩⟩;cases Tp.mp r;refine⟨rfl,λ_=>⟨pl.getD j.toNat 0%100,pl.getD j.toNat 0 / 100,j.toNat,?_,?_,⋯,d.2,⋯⟩⟩
    ·rw[e,Ue ⋯,show a.length+1 - a.length=1 by lia];rfl
    ·rw[e,Ue ⋯,show a.length+2 - a.length=2 by lia];rfl
   |_=>cases f
  rw[PC f]at h
  cases s:pC c with
  |none=>rw[s]at h;cases h
  |some y =>
   rw[s]at h;dsimp only at h;by_cases o:y.1="pick"
   ·rw[SV o]at h;obtain⟨v,z,A,B,C,E,G,H,I,rfl,_,J,L,ld,rfl⟩:=je h;obtain⟨na,rfl,M⟩:=pL l n v B G d.1 J;obtain⟨nb,rfl,N⟩:=pL l n z C H d.2.1 L;obtain⟨nd,rfl,O⟩:=pL l n A E I d.2.2 ld;unfold gQ m8;rw[<- Tj,<- Tj,<- Tj,<- Tj];exact⟨_,rfl,oi (oi (oi M (Ij ⋯ ⋯)) (oi N (Ij ⋯ ⋯))) O⟩
   ·rw[PC o]at h;obtain⟨p,g,Xa,Q,T,u,e,rfl⟩:=jd h;obtain⟨U,Y,w⟩:=Dr (λx r c i he=>pL l n x c i ((qI (pa:=[]) t x (sN _ _ _ T x r)).2 d) he) e;unfold gD;refine⟨U++(bS p).map (lR g.2.1 g.2.2),?_,oi w (KZ 12 _ (l p (i9 Q).1))⟩;rw[Y,Tj,Up];rfl
end
theorem Bz:∀p∈Zl,lQ 12 (bS p)=true:=UE.mp ⋯
noncomputable def Ab(a:List Pc):Int->List Tr->List Int
 |_,[]=>[]
 |s,r::l=>(s+(Yl a r).1+1)::Ab a (s+(Yl a r).1+1) l
theorem C5(a:List Pc):∀(l:List Tr)(s:Int),Ab a s l=(List.range l.length).map λi=>s+pA (l.map λr=>(Yl a r).1) (i+1)
 |[],s=>rfl
 |r::l,s=>by
  unfold Ab;rw[C5 a l,SX,V2,S8,Up];congr 1
  ·unfold pA;simp;lia
  ·refine VG λi _=>?_;show _=s+pA ((Yl a r).1::l.map λr=>(Yl a r).1) (i+1+1);unfold pA;rw[List.take_succ_cons,S8,Vf];lia
structure MG(ps:List Pc)(pl:vc)(m:Nat)(cs:vc)(p:Nat)(l:List (Tr×Int))(rs:List (Nat×Int)):Prop where
 call:∀x∈rs,FK pl m cs x
 ops:(rs.filter YH).map (·.2)=l.map (·.2)
 pls:(rs.filter YH).map (λx=>(x.1:Int)+1)=Ab ps p (l.map (·.1))
 last:l≠[]->∃r z,rs=r++[z]/\YH z=true
theorem qu(F:gdS g)(s:∀p∈g,lQ 12 (bS p)=true):∀(l:List (Tr×Int)),(∀x∈l,Xx x.1/\aP x.1<=8/\clP m x.1/\(x.2=0\/x.2=16))->∀(i a B b:vc),i=a++(B++b)->B.map D.int=(l.map (i4 g pl)).flatten ->
  ∃t,Wr i t a.length (a.length+B.length)/\MG g pl m i a.length l t
 |[],_,i,a,B,b,e,j=>by have:B=[]:=List.map_eq_nil_iff.mp j;subst this;exact⟨[],.nil,⟨λx h=>(by cases h),rfl,rfl,λh=>absurd rfl h⟩⟩
 | (r,c)::l,h,i,a,B,b,e,j=>by
  obtain⟨J,L,M,y⟩:Xx r/\aP r<=8/\clP m r/\(c=0\/c=16):=h (r,c) Tn;obtain⟨A,_,C,le,_⟩:=pG F pl J L;have N:i4 g pl (r,c)=A++[.int c]:=by unfold i4;dsimp only;rw[C];rfl
  rw[S8,TV,N,TJ]at j;obtain⟨d,w⟩:=pL (pl:=pl) (m:=m) s 8 r _ A M C;obtain⟨rfl,w⟩:=w;obtain⟨B1,f,rfl,O,n⟩:=xR j;obtain rfl:=oF O;rw[tB]at le
  cases f with
  |nil=>cases n
  |cons Q f =>
   have n:D.int c::_=D.int Q::f.map D.int:=n;injection n with T o;cases T;have o:f.map D.int=(l.map (i4 g pl)).flatten:=o.symm;have U:bZ c=0:=by rcases y with rfl|rfl<;>decide
   obtain⟨u,E,G⟩:=w i a (c::f++b) (by rw[e,TJ]);have Y:=Ii (c:=c) (args:=[]) (cs:=i) (a:=a++d) (b:=f++b) (by rw[e];simp) ⋯ U.symm;obtain⟨v,q,R⟩:=qu F s l (λx hx=>h x (Th _ hx)) i (a++d++[c]) f b (by rw[e];simp) o;have hf:u.filter YH=[]:=List.filter_eq_nil_iff.mpr λx hx=>by rw[(G x hx).1];exact SW
   have H:YH ((a++d).length,c)=true:=S9 y;have I:(u++(((a++d).length,c)::v)).filter YH=((a++d).length,c)::v.filter YH:=by rw[Va,hf,UU,Um,SV H]
   have pe:(((a++d++[c]).length:Nat):Int)=(a.length:Int)+(Yl g r).1+1:=by simp only[M1,SX,T8];lia
   refine⟨u++(((a++d).length,c)::v),?_,⟨λx hx=>?_,?_,?_,λ_=>?_⟩⟩
   ·rw[M1 (as:=a++d)]at q;rw[<- M1]at E;refine E.trans (Wr.trans (v:=v) Y ?_);rw[show a.length+(d++c::f).length=(a++d).length+[c].length+f.length by simp only[M1,SX,T8];lia];exact q
   ·rcases Tq.mp hx with hx|hx
    ·exact(G x hx).2
    ·rcases S0.mp hx with rfl|hx
     ·intro(h15:c=15);lia
     ·exact R.call x hx
   ·rw[I,S8,R.ops];rfl
   ·rw[I,S8,R.pls,S8,pe];show _=((a.length:Int)+(Yl g r).1+1)::Ab g _ _;congr 1;simp only[M1];lia
   ·cases l with
    |nil =>
     have hv:v=[]:=by have:=q.le;have:f=[]:=List.map_eq_nil_iff.mp o;subst this;exact VU.mp (by simp only[T8]at *;lia)
     subst hv;exact⟨u,_,rfl,H⟩
    |cons x l =>obtain⟨r',z,e1,e2⟩:=R.last (by simp);exact⟨u++(((a++d).length,c)::r'),z,by rw[e1];simp,e2⟩
structure XW(ps:List Pc)(pa:List Tr)(t:Tr)(cs:vc)(rs:List (Nat×Int)):Prop where
 wr:Wr cs rs 0 cs.length
 rows:A4 cs=rs.map λx=>A2 cs x.1 x.2
 nf:pF cs=none
 call:∀x∈rs,FK (Ye ps pa t) pa.length cs x
 ops:(rs.filter YH).map (·.2)=eZ pa.length
 st:(rs.dropLast.filter YH).map (λx=>(x.1:Int)+1)=(List.range pa.length).map λi=>(Ye ps pa t).getD (i+1) 0
 last:∃r z,rs=r++[z]/\YH z=true
theorem Ez(I:xT j f t)(l:∀p∈j,lQ 12 (bS p)=true){g:vc}(u:g.map D.int=iU j f t):∃h,XW j f t g h:=by
 have B:(cG f t).length=(eZ f.length).length:=by rw[gT,oz]
 obtain⟨h,w,R⟩:=qu (pl:=Ye j f t) (m:=f.length) I.F l ((cG f t).zip (eZ f.length)) (λx v=>by
  obtain⟨h1,h2⟩:=VH (a:=x.1) (b:=x.2) v;obtain⟨a,b,_,_⟩:=iX I.pa I.ot I.d I.s x.1 h1;refine⟨a,b,?_,?_⟩
  ·rcases S0.mp h1 with e|h1
   ·rw[e];exact(tR (as:=[]) (b:=0) t I.ot).1.c
   ·obtain⟨p,l,e⟩:=T5.mp h1;rw[<- e];exact(tR (as:=[]) (b:=0) p (I.pa.ok p l).1).2.c
  ·rcases S0.mp h2 with e|h2
   ·exact .inl e
   ·exact .inr (List.mem_replicate.mp h2).2) g [] g [] (by simp) u
 rw[T8,WQ]at w;have C:=w.le;obtain⟨k,hk⟩:∃k,g.length+1=k+1+h.length:=⟨g.length - h.length,⋯⟩
 have n:=w.rows (k+1);rw[Bp (SY _),To,<- hk]at n;have o:=R.pls;rw[List.map_fst_zip ⋯,C5,gT]at o;have y:(cG f t).zip (eZ f.length)≠[]:=by unfold cG eZ;simp
 obtain⟨r,z,e,q⟩:=R.last y;refine⟨h,w,Tu Prod.fst n,Tu Prod.snd n,R.call,by rw[R.ops,List.map_snd_zip ⋯],?_,r,z,e,q⟩;rw[e,Va,Tj,Um,SV q,List.filter_nil,S8,UO,Wm,Tj,S8,UO]at o;have h1:=(List.append_inj' o rfl).1;rw[e,UH,h1];refine VG λi A=>?_;rw[Hf (by rw[tB,gT];have:=VS.mp A;lia)];show(0:Int)+_=_;rw[Int.zero_add]
theorem Kz(b:0<=c)(h:c<=16):(W6 (.str (Xs c)) (.str "back")=decide (c=16))/\(W6 (.str (Xs c)) (.str "end")=decide (c=0))/\W6 (.str (Xs c)) (.str "call")=decide (c=15):=by
 obtain⟨n,rfl⟩:∃n:Nat,c=n:=⟨c.toNat,⋯⟩
 have a:∀n:Nat,n<17->(W6 (.str (Xs (n:Int))) (.str "back")=decide ((n:Int)=16))/\(W6 (.str (Xs (n:Int))) (.str "end")=decide ((n:Int)=0))/\W6 (.str (Xs (n:Int))) (.str "call")=decide ((n:Int)=15):=by decide +kernel
 exact a n ⋯
section
theorem XW.op(R:XW g h t a b)(ok:okC a):∀x∈b,0<=x.2/\x.2<=16:=λx d=>by obtain⟨e,f⟩:=R.wr.at x d;have:=ok.c _ _ e;have:=vN f;lia
theorem zZ(c:Int)(b:c=0\/c=16):∀a:List (Nat×Int),a.countP (λx=>decide (x.2=c))=((a.filter YH).map (·.2)).count c
 |[]=>rfl
 |x::a=>by
  rw[List.countP_cons,zZ c b a,Um];by_cases h:YH x=true
  ·rw[SV h,S8,List.count_cons];rfl
  ·rw[PC h,PC]
   ·rfl
   ·intro e;exact h (S9 (by rw[S1 e];exact b))
theorem XW.counts(R:XW g d t e b)(ok:okC e):((b.map λx=>D.str (Xs x.2)).countP (W6 · (.str "back"))=d.length)/\(b.map λx=>D.str (Xs x.2)).countP (W6 · (.str "end"))=1:=by
 have z:∀(s:Str)(c:Int),(c=0\/c=16)->(∀x∈b,W6 (.str (Xs x.2)) (.str s)=decide (x.2=c))->(b.map λx=>D.str (Xs x.2)).countP (W6 · (.str s))=(eZ d.length).count c:=λs c f h=>by rw[List.countP_map,<- R.ops,<- zZ c f];exact List.countP_congr λx a=>by show W6 (.str (Xs x.2)) (.str s)=true↔_;rw[h x a]
 refine⟨?_,?_⟩
 ·rw[z "back" 16 (.inr rfl) λx a=>(Kz (R.op ok x a).1 (R.op ok x a).2).1];unfold eZ;rw[List.count_cons_of_ne ⋯,List.count_replicate_self]
 ·rw[z "end" 0 (.inl rfl) λx a=>(Kz (R.op ok x a).1 (R.op ok x a).2).2.1];unfold eZ;rw[List.count_cons_self,List.count_replicate,PC ⋯]
theorem XW.len(R:XW c d t b a):a.length<=b.length/\a≠[]:=by have:=R.wr.le;obtain⟨r,z,e,_⟩:=R.last;exact⟨⋯,by rw[e];simp⟩
theorem XW.back(R:XW f a t g b)(h:a≠[]):∃z,b.getLast?=some z/\z.2=16:=by
 obtain⟨r,z,e,c⟩:=R.last;refine⟨z,by rw[e];simp,?_⟩;have o:=R.ops;rw[e,Va,Tj,Um,SV c,List.filter_nil,S8,UO]at o;obtain⟨p,a,rfl⟩:=List.exists_cons_of_ne_nil h
 have d:eZ (p::a).length=(0::List.replicate a.length 16)++[16]:=by unfold eZ;rw[SX,List.replicate_succ'];rfl
 rw[d]at o;have:=(List.append_inj' o rfl).2;injection this
theorem B9{f:Nat×Int->Int}:∀(u:List (Nat×Int)),((List.range u.length).filter λi=>match u[i]? with|some x=>YH x|none=>false).map (λi=>match u[i]? with|some x=>f x|none=>0)=(u.filter YH).map f:=λu=>by
 induction u with
 |nil=>rfl
 |cons x u a =>
  rw[SX,V2,Um,List.filter_map,Um];have e:((λi=>match (x::u)[i]? with|some x=>YH x|none=>false)∘Nat.succ)=λi=>match u[i]? with|some x=>YH x|none=>false:=rfl
  rw[e];by_cases h:YH x=true
  ·rw[SV h,SV (show(match (x::u)[0]? with|some x=>YH x|none=>false)=true from h),S8,S8,Up,<- a];rfl
  ·rw[PC h,PC (show ¬ (match (x::u)[0]? with|some x=>YH x|none=>false)=true from h),Up,<- a];rfl
end
theorem JX(f:pN mc)(g:H d=some (.lst (mc.cs.map V.int)))(h:Dat K H (.tup (mc.as.map D.int)) e)(i:n<=5000)
  (j:∀a Q,Q [V.ref d,e,V.int mc.b,V.int n] a->l o a Q):RE K (XT (lZ K) (lg (Cv K) [] E l) (tC (.int 0))) o H (Hz (jh mc n st0)):=λa s Q q =>
 j a _ ⟨d,e,mc,n,rfl,f,s _ _ g,s.dat h,i,λp c ld w r t u v _ _=>⟨p,[c,.ref ld],0,c,rfl,rfl,Xo.of u,rfl,q c r t v⟩⟩
theorem EL(ok:okC a)(d:pF a=none)(h:LD K H (cD a) v)(e:f[k]?=some (some v):=by rfl):RC K (lg (HM K) [] E (bU (fR k) dR)) f H (A4 a):=λp s Q q =>
 RB.use (K:=K) (gH (aW (k:=k) (s.ld h) e) dS) λt u c g=>⟨a,ok,by rw[To];exact g,d,λr i j l n b o=>q r i j (c.free b) (c.trans l) n o⟩
theorem KH(e:a=es')(h:RC K t b H a):RC K t b H es':=by subst e;exact h
theorem Jn(c:XJ t)(d:aP t<=8)(e:aM t<=40)(h:∀x∈a,x∈aS t)(l:a.length<=6):YG a:=⟨λx b=>by
 have:=fE t x (h x b);exact⟨kU t x c (h x b),⋯,⋯⟩,l⟩
theorem JW(i:RL K j f H c)(l:RL K o f H e)(n:Xe c=true)(p:Xe e=true)(d:WZ c<=20):RE K (XT (Hi K true) j o) f H (.bl (!Xq c e)):=λr s Q q =>
 i r s _ λv t g u=>l t (s.trans g) _ λw G h x=>by obtain⟨a,y,rfl,z,A⟩:=h.ld u;obtain⟨b,B,rfl,C,E⟩:=x;exact⟨a,b,y,B,c,e,rfl,rfl,z.Yk,C.Yk,A,E,n,p,d,q _ _ (g.trans h) (Dat.X3 _)⟩
section
variable{rs:List (Nat×Int)}
noncomputable abbrev clA(rs:List (Nat×Int))(i:Nat):Bool:=match rs[i]? with|some x=>YH x|none=>false
noncomputable abbrev plA(rs:List (Nat×Int))(i:Nat):D:=.int (match rs[i+1]? with|some y=>(y.1:Int)|none=>0)
theorem XW.starts(R:XW g d t l rs):((List.range (rs.length - 1)).filter (clA rs)).map (plA rs)=((List.range d.length).map λi=>(Ye g d t).getD (i+1) 0).map D.int:=by
 rw[<- R.st,<- B9 rs.dropLast,Up,List.length_dropLast];have e:∀i,i<rs.length - 1->rs.dropLast[i]?=rs[i]?:=λi a=>by rw[List.getElem?_dropLast,SV a]
 have h:(List.range (rs.length - 1)).filter (clA rs)=(List.range (rs.length - 1)).filter (clA rs.dropLast):=List.filter_congr λi a=>by
  show(match rs[i]? with|some x=>YH x|none=>false)=(match rs.dropLast[i]? with|some x=>YH x|none=>false)
  rw[e i (VS.mp a)]
 rw[h];refine VG λi a=>?_;obtain⟨c,b⟩:=List.mem_filter.mp a;have c:=VS.mp c;have ex:rs[i]?=some rs[i]:=SN ⋯;have f:rs[i+1]?=some rs[i+1]:=SN ⋯;have n:=R.wr.next.2 i _ _ ex f
 have b:(match rs.dropLast[i]? with|some x=>YH x|none=>false)=true:=b;show D.int (match rs[i+1]? with|some y=>(y.1:Int)|none=>0)=D.int (match rs.dropLast[i]? with|some x=>(x.1:Int)+1|none=>0);rw[e i c,ex]at b ⊢;rw[f];dsimp only at b ⊢;have j:bZ rs[i].2=0:=by rcases S1 b with q|q<;>rw[q]<;>decide
 rw[n,j];rfl
theorem IA(b:a[p+1]?=some l)(c:a[p+2]?=some h):kC a p 2=[.int l,.int h]:=by
 unfold kC;have d:(cD a)[p+1]?=some (.int l):=by rw[SR,b];rfl
 have e:(cD a)[p+1+1]?=some (.int h):=by rw[SR,c];rfl
 obtain⟨f,g⟩:=S6.mp d;obtain⟨i,j⟩:=S6.mp e;rw[VN f,VN i,g,j];rfl
theorem XW.tgt(R:XW b a t c rs)(d:x∈rs)(h:x.2=15):∃l h:Int,kC c x.1 (bZ x.2)=[.int l,.int h]/\(((List.range a.length).map λi=>(Ye b a t).getD (i+1) 0).map D.int).any (λe=>W6 e (.int (l+100*h)))=true:=by obtain⟨l,g,j,f,n,o,p,e⟩:=R.call x d h;refine⟨l,g,by rw[h];exact IA f n,?_⟩;rw[e,Wa];refine⟨.int ((Ye b a t).getD j 0),T5.mpr ⟨_,T5.mpr ⟨j - 1,VS.mpr ⋯,rfl⟩,by rw[show j - 1+1=j by lia]⟩,gC _ rfl⟩
theorem Eh(a:vc):Xe (a.map D.int)=true/\WZ (a.map D.int)<=20:=by
 induction a with
 |nil=>exact⟨rfl,by simp[WZ]⟩
 |cons c os b =>
  rw[S8];refine⟨?_,?_⟩
  ·simp only[Xe,XC,b.1,TX]
  ·have:=b.2;simp only[WZ,gK];lia
end
theorem Ky(b:0<=c)(h:c<=16):decide (Xs c∈(["end","back"]:vn))=decide (c=0\/c=16)/\decide (Xs c="call")=decide (c=15):=by
 obtain⟨n,rfl⟩:∃n:Nat,c=n:=⟨c.toNat,⋯⟩
 have a:∀n:Nat,n<17->decide (Xs (n:Int)∈(["end","back"]:vn))=decide ((n:Int)=0\/(n:Int)=16)/\decide (Xs (n:Int)="call")=decide ((n:Int)=15):=by decide +kernel
 exact a n ⋯
theorem Fx{α:Type}:∀l:List α,(l.map λ_=>false).any id=false
 |[]=>rfl
 |_::l=>Fx l
theorem JT(l:pN mc)(os:kl mc s0)(r:s0.pile=[])(t:s0.ended=false)(u:Dat K H (.tup (mc.as.map D.int)) i)(v:n<=5000)
  (w:∀a Q,WV H a->(∀c lk d,WV a d->a lk=none->d c=some (.lst (mc.cs.map V.int))->d lk=some (.lst (YK s0.kept))->c≠lk->Q [V.ref c,i,V.int mc.b,V.int n,V.int s0.place,V.ref lk] d)->y z a Q):RE K (XT (lZ K) (lg (zu K) [] E y) (tC (.int 0))) z H (Hz (jh mc n s0)):=λa s Q q =>
 w a _ s λc lk d j f A hk B=>⟨c,lk,i,mc,n,s0,rfl,l,os,r,t,A,hk,B,(s.trans j).dat u,v,λp g ld J C G h I _ _=>⟨p,[g,.ref ld],0,g,rfl,rfl,Xo.of h,rfl,q g C (λx o e=>G x o (aN e f) (j _ _ e)) I⟩⟩
theorem wz:∀a:List Int,WU K H (cD a) (a.map V.int)
 |[]=>WU.nil
 |c::a=>WU.cons (Dat.WY c) (wz a)
theorem JY(f:pN mc)(g:H c=some (.lst (mc.cs.map V.int)))(h:Dat K H (.tup (mc.as.map D.int)) d)(i:1<=n)(j:n<=100000)(r:jh mc n st0=.ends v)
  (l:∀a Q,Q [V.ref c,d] a->o e a Q) (p:∀a Q,Q [V.int mc.b,V.int n] a->t e a Q):RE K (HR (HN K) C9 E o t) e H (.int v):=λa s Q q =>
 l a _ (p a _ ⟨c,d,mc,n,v,rfl,f,s _ _ g,s.dat h,i,j,r,λu w=>q _ u w (Dat.WY v)⟩)
theorem D0:∀p∈Zl,(bS p).length<=12:=⋯
theorem zX:∀{es:List D},(∀d∈es,∃n,d=.int n/\oE n)->∃a:List Int,es=a.map D.int/\∀x∈a,oE x
 |[],_=>⟨[],rfl,λx h=>by cases h⟩
 |d::es,h=>by obtain⟨n,rfl,c⟩:=h d Tn;obtain⟨a,rfl,f⟩:=zX λx b=>h x (Th _ b);exact⟨n::a,rfl,λx b=>(S0.mp b).elim (λe=>e▸c) (f x)⟩
theorem zz:∀l:List Int,(∀y∈l,0<=y)->0<=l.sum
 |[],_=>Ut _
 |y::l,h=>by rw[Vf];have:=h y Tn;have:=zz l λz a=>h z (Th _ a);lia
theorem B0(I:xT f g t)(q:∀p∈f,goP p)(E:∀p∈f,lQ 12 (bS p)=true)(G:g.length<=3)(v:∀p∈g,p∈aS t):∃j:List Int,j.map D.int=iU f g t/\(∀x∈j,oE x)/\j.length<=640/\1<=j.length:=by
 have B:=GQ I G v;have os:=(tQ I.F I.pa I.ot I.d I.s).1;have l:=iX I.pa I.ot I.d I.s
 have H:∀x∈Ye f g t,0<=x/\x<=9999:=λx u=>by
  refine⟨yv I x u,?_⟩;obtain⟨i,_,rfl⟩:=T5.mp u
  have J:∀y∈(lsO f g t).map (·+1),0<=y:=λy o=>by obtain⟨z,L,rfl⟩:=T5.mp o;obtain⟨r,w,rfl⟩:=T5.mp L;exact(rM I.F (l r w).1).1
  have e:((lsO f g t).map (·+1)).sum=pA (lsO f g t) i+(((lsO f g t).map (·+1)).drop i).sum:=by unfold pA;rw[WD,<- List.sum_append,UD]
  have k:=zz (((lsO f g t).map (·+1)).drop i) λy o=>J y (Wo o);have e2:((lsO f g t).map (·+1)).sum=((iU f g t).length:Int):=by rw[os,Up];rfl
  lia
 obtain⟨j,e,M⟩:=zX (es:=iU f g t) λd hd=>by
  obtain⟨b,N,hd⟩:=List.mem_flatten.mp hd;obtain⟨x,u,rfl⟩:=T5.mp N;obtain⟨h1,h2⟩:=VH (a:=x.1) (b:=x.2) u;obtain⟨C,O,k3,_⟩:=l x.1 h1;obtain⟨Q,_,A,_,le⟩:=pG I.F (Ye f g t) C O
  have T:clP g.length x.1:=by
   rcases S0.mp h1 with e|h1
   ·rw[e];exact(tR (as:=[]) (b:=0) t I.ot).1.c
   ·obtain⟨p,q,e⟩:=T5.mp h1;rw[<- e];exact(tR (as:=[]) (b:=0) p (I.pa.ok p q).1).2.c
  obtain⟨U,rfl,_⟩:=pL (m:=g.length) E 8 x.1 _ Q T A;have Y:i4 f (Ye f g t) x=U.map D.int++[.int x.2]:=by unfold i4;rw[A];rfl
  have hd:d∈i4 f (Ye f g t) x:=hd;rw[Y]at hd;rcases Tq.mp hd with hd|hd
  ·obtain⟨n,hn,rfl⟩:=T5.mp hd;exact⟨n,rfl,tp H (λp h=>⟨(q p h).nh,(q p h).ci⟩) 8 x.1 _ _ C A ⋯ n (T5.mpr ⟨n,hn,rfl⟩)⟩
  ·refine⟨x.2,Tp.mp hd,?_⟩;rcases S0.mp h2 with e|h2
   ·rw[e];exact⟨⋯,⋯⟩
   ·rw[(List.mem_replicate.mp h2).2];exact⟨⋯,⋯⟩
 refine⟨j,e.symm,M,by rw[e,tB]at B;exact B,?_⟩;rw[e,tB]at os
 have:=zz ((cG g t).map λr=>(Yl f r).1+1) λy o=>by obtain⟨r,w,rfl⟩:=T5.mp o;exact(rM I.F (l r w).1).1
 cases j with
 |nil =>exfalso;have z:iU f g t=[]:=e;unfold iU cG eZ i4 at z;simp at z
 |cons c j=>simp
theorem EX(os:vc):Xe (os.map λc=>D.str (Xs c))=true/\WZ (os.map λc=>D.str (Xs c))<=20:=by
 induction os with
 |nil=>exact⟨rfl,by simp[WZ]⟩
 |cons c os a =>
  rw[S8];refine⟨?_,?_⟩
  ·simp only[Xe,XC,a.1,TX]
  ·have:=a.2;simp only[WZ,gK];lia
def Bi(K:qs):Sp:=λb H Q _=>∃(a:Addr)(c:vc),b=[.ref a]/\Zb K H a c/\∀d,Q (.bl true) d
theorem LJ(T:Txt P w K mg)(QL:Ok P w base k T.OZ (HK K))(RV:Ok P w base k T.PX (KO K))(QV:Ok P w base k T.O9 (KP K))(RX:Ok P w base k T.PZ (mS K Bs))(Sh:Ok P w base k T.Qz (HM K))(Ro:Ok P w base k T.PD (HP K))(Rl:Ok P w base k T.Py (HI K))(On:Ok P w base k T.N6 (Xp K (mh 8)))(RU:Ok P w base k T.PV (Cv K))(P1:Ok P w base k T.OL (zu K))(SG:Xj P w K mg base Yg k T.R5 T.R6 ["code","args","size","steps"] (HN K)):Ok P w base (k+1) T.RS (Bi K):=by
 refine Xd T.RS.f Mi λvs H Q E nd h=>?_;obtain⟨a,ns,rfl,hS,post⟩:=h;refine⟨rfl,λ_ _ _ _ J=>?_⟩;refine'⟨_,?YT,?yread⟩
 case' YT=>refine' aC ?a ?b
 case a=>exact(zs 1 nd (bQ (z3 aD aD aD)))
 case' b=>refine' aC ?c ?d
 case c=>exact(nR (i:=2) (j:=3) rfl nd rfl rfl ⋯ rfl rfl (z2 (pc (D:=T.OZ) QL J (z2 (pv 0) (pv 1))) (pc (D:=T.PX) RV J (z2 (pv 0) (pv 1)))) (by kernel_rfl))
 case' d=>refine' aC ?e ?f
 case e=>exact(zs 4 nd (pc (D:=T.O9) QV J (aY (pv 0) (aY (pv 1) (aY (pv 2) (aY aD a7))))))
 case' f=>refine' aC ?g ?h
 case g=>exact(zs 5 nd (pc (D:=T.PZ) RX J (z3 (pv 2) (pv 3) (pv 4))))
 case' h=>refine' aC ?i ?j
 case i=>exact(zs 6 nd (pc (D:=T.Qz) Sh J (z1 (pv 5))))
 case' j=>refine' aC ?k ?l
 case k=>exact(zs 7 nd (zc [] ["_law_row"] (fM (pv 6)) (λ_ _ _ _ _=>(a8 (r:=lZ K) a9 (pv 0) aD))))
 case' l=>refine' aC ?m ?n
 case' m=>refine' bA ?o ?p ?q
 case o=>exact(PW.pt (fH (zt lU (dW UI PySem.F.slot_list_count PySem.F.type_list_count (wD J) (pv 7) (z1 aI)) (aV aQ rfl T.NZ bP (z1 (pv 4)))) (fH (zt lU (dW UI PySem.F.slot_list_count PySem.F.type_list_count (wD J) (pv 7) (z1 aI)) aD) (eV (PW.pt (pU (zt (GW J) (pv 4) (bQ a7)) (m4 (zt lU (a8 bY (pv 7) (Dt zD aD)) aI))))))))
 case' p=>refine' aX ?r
 case r=>exact(kI dU)
 case q=>exact aO
 case' n=>refine' aC ?s ?t
 case s=>exact(zs 8 nd (mZ (own:=["_law_at"]) (fr:=[6,7]) (N':=["_law_at","_law_rows_now","_law_names_here"]) (iG rfl T.Pi (z1 (bF nQ (aV aQ rfl T.NZ bP (z1 (pv 6))) aD))) rfl (by show iB ["_law_script","_law_town","_law_tree_here","_law_some","_law_parts_here","_law_code","_law_rows_now","_law_names_here","_law_starts","_law_k","_law_base","_law_args_here","_law_start","_law_part","_law_came","_law_due"] (λx=>(aK HG).names.lookup x) _ _ _ _=true;decide +kernel) rfl (λ_ _ _ _ _=>(f9 (i:=0) (by show List.Nodup [("_law_at":Str),("_law_rows_now":Str),("_law_names_here":Str)];decide +kernel) rfl (Or.inl rfl))) (λ_ _ _ _ _=>(tU (zt (show XG _ _ (rIn K false) from fA) (a8 (r:=B8 K) bY (pv 2) (pv 0)) (aU (z2 aI aI))))) (λ_ _ _ _ _=>(a8 (r:=lZ K) a9 (a8 (r:=B8 K) bY (pv 1) (bF cJ (pv 0) aD)) aD))))
 case' t=>refine' aC ?u ?v
 case' u=>refine' bA ?w ?x ?y
 case w=>exact(bL (aV (zS rfl) rfl T.Su FB (z1 (zc [8] ["_law_row","_law_starts"] (fM (pv 6)) (λ_ _ _ _ _=>(kG (fL cE (a8 (r:=lZ K) a9 (pv 0) aD) aI (iT _)) (j8 (fL (show XG _ _ (B7 K true) from pS J) (bF cJ (a8 (r:=lZ K) a9 (a8 (r:=lZ K) a9 (pv 0) aD) aD) (bF nP aD (a8 (r:=lZ K) a9 (a8 (r:=lZ K) a9 (pv 0) aD) aD))) (pv 1) (by with_unfolding_all rfl)))))))) (λ_=>rfl))
 case' x=>refine' aX ?z
 case z=>exact(kI dU)
 case y=>exact aO
 case' v=>refine' aC ?aa ?ab
 case' aa=>refine' iD ?ac ?ad ?ae ?af ?ag
 case ac=>exact Uc
 case ad=>exact rfl
 case ae=>exact(iG rfl T.Pi (z1 aD))
 case af=>exact(zg 9 nd)
 case' ag=>refine' aC ?ah ?ai
 case ah=>exact(zs 10 nd (pc (D:=T.PD) Ro J (z2 (pv 0) (pv 1))))
 case' ai=>refine' aC ?aj ?ak
 case aj=>exact(zs 11 nd (pc (D:=T.Py) Rl J (z3 (pv 0) (pv 1) (pv 10))))
 case' ak=>refine' aC ?al ?am
 case' al=>refine' iD ?an ?ao ?ap ?aq ?ar
 case an=>exact Uc
 case ao=>exact rfl
 case ap=>exact(JE rfl T.R7 (z2 (pv 8) (pv 4)))
 case aq=>exact(fX rfl (bB (zg 12 nd) (bB (zg 13 nd) dH)))
 case' ar=>refine' aC ?au ?av
 case' au=>refine' tX (i:=14) ?aw ?ax ?ay ?az
 case aw=>exact nd
 case ax=>exact rfl
 case ay=>exact Or.inl rfl
 case az=>exact(a8 a9 (pc (D:=T.OL) P1 J (aY (bF jn (pv 5) (bQ (z1 aD))) (aY (pv 11) (aY (pv 10) (aY aD (aY (pv 12) (aY (bQ (z1 (aV aQ rfl T.NZ bP (z1 (pv 5))))) a7))))))) aD)
 case' av=>refine' aX ?ba
 case' ba=>refine' bA ?bb ?bc ?bd
 case bb=>exact(zt (GV J) (pv 14) (aU (z2 aI (pc (D:=T.N6) On J (z3 (pv 13) (pv 11) (pv 10))))))
 case' bc=>refine' aX ?be
 case be=>exact(kI dU)
 case bd=>exact aO
 case' am=>refine' aC ?bf ?bg
 case bf=>exact(zs 15 nd (pc (D:=T.N6) On J (z3 (pv 2) (pv 11) (pv 10))))
 case' bg=>refine' aX ?bh
 case' bh=>refine' bA ?bi ?bj ?bk
 case bi=>exact(PW.pt (fH (zt lU (GY SG J rfl T.SI T.Sj.kp (MI T) gW (z2 (pv 5) (pv 11)) (Dv (pv 10) (Dv aD L7))) (pv 15)) (eV (zt (GV J) (a8 a9 (pc (D:=T.PV) RU J (aY (pv 5) (aY (pv 11) (aY (pv 10) (aY aD a7))))) aD) (aU (z2 aI (pv 15)))))))
 case' bj=>refine' aX ?bl
 case bl=>exact(kI dU)
 case bk=>exact aO
 case' ab=>refine' aX ?bm
 case bm=>exact(kI dU)
 show let W5:=_;let Xc:=a6 _ W5;let Xv:=a6 _ _;let XF:=a6 (Bk _ _ Xv) Xc;let X6:=a6 _ XF;let YC:=a6 _ X6;let Zd:=a6 (Bk _ _ YC) _;let z_8:=a6 _ Zd;let z_9:=a6 _ z_8;let z_10:=a6 _ z_9;let z_11:=a6 _ z_10;let z_12:=a6 _ z_11;let z_13:=a6 _ z_12;let z_14:=a6 _ z_13;let z_15:=a6 _ z_14;a6 _ z_15 _ _ _;intro W5 Xc Xv XF X6 YC Zd z_8 z_9 z_10 z_11 z_12 z_13 z_14 z_15;refine eE ⟨cK ⋯,λt ht=>?_⟩;have hS0:=hS.same (aL ht (.lst [.int 0,.int 0,.int 3]));refine dI (gZ (jf ?_));refine⟨_,rfl,_,rfl,a,t,ns,0,0,3,rfl,hS0,aF,⋯,⋯,⋯,λv2 H1 X p1 q1 c1 b1 t1 g1 gc1 gd1 Xx ZQ szX dX=>gZ (jf ?_)⟩;refine⟨_,rfl,_,rfl,a,t,ns,p1,q1,[.int c1],rfl,hS0.but b1 aF,t1,g1,λsub l3 y3 H2 p2 q2 b2 t2 g2 hsub hl3 hy3 d3=>⟨v2,.ref l3,rfl,?_⟩⟩;dsimp only;have hps:(BP++sub).Sublist Zl:=(WK BP).append hsub;have F:=IM hsub;have h2:Dat K H2 (toD X) v2:=Dat.mono (b2.grow t1 t2) _ dX;have h3:LD K H2 ((BP++sub).map XX) (.ref l3):=LD.of hy3 d3;generalize BP++sub=U at F h3 d3 hps;have hS2:=(hS0.but b1 aF).but b2 t1;have n3:l3≠t:=Tf (aN t1 hl3);refine eE ⟨_,rfl,_,rfl,_,rfl,a,t,ns,X,v2,3,p2,q2,[.int c1],rfl,hS2,h2,Xx,ZQ,szX,⋯,⋯,t2,g2,λB l4 y4 H4 p4 q4 b4 t4 g4 hl4 YN d4 hin nod lp1 lp3=>?_⟩;have g34:eI K H2 H4:=b4.grow t2 t4;have h2:=Dat.mono g34 _ h2;have hl34:=b4 _ _ n3 hy3;have h3:LD K H4 (U.map XX) (.ref l3):=LD.of hl34 (WU.mono g34 _ d3);have h4:LD K H4 (B.map toD) (.ref l4):=LD.of YN d4;have n4:l4≠t:=Tf (aN t2 hl4);have XH:=Jn Xx ZQ szX hin ⋯;have I:xT U B X:=⟨F,XH,Xx,ZQ,szX⟩
 have go:∀p∈U,goP p:=λp hp=>Lh p (hps.subset hp);have hw:∀p∈U,lQ 12 (bS p)=true:=λp hp=>Bz p (hps.subset hp);have hx:∀p∈U,goX p:=λp hp=>⟨(go p hp).nh,(go p hp).pg,(go p hp).hl,D0 p (hps.subset hp)⟩
 obtain⟨C,hcs,h99,l6,l1⟩:=B0 I go hw lp3 hin;have Xd:okC C:=⟨l1,⋯,λi c h=>h99 c (S4 h)⟩
 have okc0:okC (C++[0]):=⟨by rw[M1];lia,by rw[M1];show C.length+1<=900;lia,λi c h=>by
  rcases Tq.mp (S4 h)with h|h
  ·exact h99 c h
  ·rw[Tp.mp h];exact⟨⋯,⋯⟩⟩
 obtain⟨A,R⟩:=Ez I hw hcs;have lrs:=R.len.1;dsimp only;refine fG (K:=K) (es:=cD C) (hV (R:=Bs) (iW (aB (k:=2) h2) (gH (aW (k:=3) h3) (gH (aW (k:=4) h4) dS))) ⟨U,B,X,rfl,F,Xx,ZQ,szX,XH,hin,nod,hcs⟩) λl5 y5 H5 ZN s5 hy5 dy5=>?_;have LC:LD K H5 (cD C) (.ref l5):=LD.of hy5 dy5;have y5e:=qz dy5;subst y5e;have n5:l5≠t:=Tf (aN t4 ZN);refine fG (K:=K) (EL (k:=5) Xd R.nf LC) λl6 y6 H6 hl6 s6 hy6 dy6=>?_;rw[R.rows]at dy6;have LR:LD K H6 (A.map λx=>A2 C x.1 x.2) (.ref l6):=LD.of hy6 dy6;refine fG (K:=K) (gN (aW (k:=6) LR) (by rw[tB];lia) (A.map λx=>D.str (Xs x.2)) (by rw[tB,tB]) rfl λG i c v d sG hc hd hv=>?_) λl7 y7 H7 hl7 s7 hy7 dy7=>?_
 ·rw[SR]at hc hd
  cases ex:A[i]? with
  |none=>rw[ex]at hc;cases hc
  |some x =>rw[ex]at hc hd;cases hc;cases hd;exact bC (k:=1) (aB (k:=0) hv) aE rfl
 have LN:LD K H7 (A.map λx=>D.str (Xs x.2)) (.ref l7):=LD.of hy7 dy7;have LR7:=s7.ld LR
 obtain⟨sf1,sf2⟩:Xe (A.map λx=>D.str (Xs x.2))=true/\WZ (A.map λx=>D.str (Xs x.2))<=20:=by have:=EX (A.map (·.2));rw[Up]at this;exact this
 obtain⟨cb,ce⟩:=R.counts Xd;obtain⟨r0,z0,er,_⟩:=R.last
 have z16:z0.2=16:=by obtain⟨z,e1,e2⟩:=R.back (λe=>by rw[e]at lp1;exact absurd lp1 ⋯);rw[er,List.getLast?_concat]at e1;cases e1;exact e2
 have en:(A.map λx=>D.str (Xs x.2))=(r0.map λx=>D.str (Xs x.2))++[D.str "back"]:=by rw[er,Tj,S8,UO,z16];rfl
 have s57:=s5.trans (s6.trans s7);have h47:=s57.ld h4;have fp:=tS X ZQ hin;refine aT (K:=K) (b:=false) (RT.as (dJ (b:=false) (c:=false) (RT.as (aH (kJ (AW (k:=7) LN aJ sf1 rfl sf2) (dB (aW (k:=4) h47)))) (by rw[cb,tB];simp)) λ_=>dJ (b:=false) (c:=false) (RT.as (aH (kJ (AW (k:=7) LN aJ sf1 rfl sf2) aE)) (by rw[ce];rfl)) λ_=>RT.as (ug (c:=false) (aH (JW (aW (k:=4) h47) (jB (fY aG)) (iR B) rfl fp)) λ_=>RT.as (aH (yE (m5 (aW (k:=7) (en▸LN)) (DJ (g:=λi=>-i) aE)) aJ)) rfl) (TQ _)) rfl) (λc=>nomatch c) (λ_ H8 s8=>?_);have LR8:=s8.ld LR7;have LN8:=s8.ld LN;have lp:1<=A.length:=by rw[er,M1];exact Nat.le_add_left _ _
 refine fG (K:=K) (es:=((List.range B.length).map λi=>(Ye U B X).getD (i+1) 0).map D.int) (KH R.starts (JP (n:=A.length - 1) (aA (RE.as (uc (dB (aW (k:=6) LR8)) aE) (by rw[tB];congr 1;lia)) aG) ⋯ (clA A) (plA A) rfl λG i sG hi=>?_)) λl9 y9 H9 hl9 s9 hy9 dy9=>?_
 ·have ex:A[i]?=some A[i]:=SN ⋯;have ey:A[i+1]?=some A[i+1]:=SN ⋯;have ox:=R.op Xd A[i] (List.getElem_mem _);refine⟨RT.as (aH (kg (ys:=["end","back"]) (gP (k:=i) (aW (k:=2) (sG.ld LN8)) (aB (k:=0) (Dat.WY (i:Int))) (by rw[SR,ex];rfl)) (aZ (aA aJ (aA aJ aG))))) ?_,λ_=>RE.as (bC (k:=0) (gP (k:=i+1) (aW (k:=1) (sG.ld LR8)) (dC (aB (k:=0) (Dat.WY (i:Int))) aE) (by rw[SR,ey];rfl)) aE rfl) ?_⟩
  ·show _=(match A[i]? with|some x=>YH x|none=>false)
   rw[ex];exact(Ky ox.1 ox.2).1
  ·show _=D.int (match A[i+1]? with|some y=>(y.1:Int)|none=>0);rw[ey]
 have LS:LD K H9 (((List.range B.length).map λi=>(Ye U B X).getD (i+1) 0).map D.int) (.ref l9):=LD.of hy9 dy9;have y9e:=qz dy9;subst y9e;have LR9:=s9.ld LR8;obtain⟨if1,if2⟩:=Eh ((List.range B.length).map λi=>(Ye U B X).getD (i+1) 0);refine aT (K:=K) (b:=false) (RT.as (bI (DE (bs:=A.map λ_=>false) (gN (aW (k:=6) LR9) (by rw[tB];lia) ((A.map λ_=>false).map D.bl) (by rw[tB,tB,tB]) rfl λG i c v d sG hc hd hv=>?_))) (Fx A)) (λc=>nomatch c) (λ_ H10 s10=>?_)
 ·rw[Up,SR]at hd;rw[SR]at hc
  cases ex:A[i]? with
  |none=>rw[ex]at hc;cases hc
  |some x =>
   rw[ex]at hc hd;cases hc;cases hd;have hm:=S4 ex;have ox:=R.op Xd x hm;refine RE.as (fF (b:=decide (x.2=15)) (c:=false) (RE.as (bN (bC (k:=1) (aB (k:=0) hv) aE rfl) aJ) (by rw[(Ky ox.1 ox.2).2])) λh15=>?_) (by rw[TQ];rfl);obtain⟨l,h,eb,hany⟩:=R.tgt hm (S1 h15);have hv:Dat K G (.tup [.int x.1,.str (Xs x.2),.tup [.int l,.int h]]) v:=by rw[<- eb];exact hv
   exact RE.as (pX (neg:=true) (dC (bC (k:=0) (bC (k:=2) (aB (k:=0) hv) aE rfl) aE rfl) (t9 aE (bC (k:=1) (bC (k:=2) (aB (k:=0) hv) aE rfl) aE rfl) (.inl ⟨⋯,⋯⟩))) (aW (k:=1) (sG.ld LS)) if1 rfl if2) (by rw[SV rfl,hany];rfl)
 have s810:=s8.trans (s9.trans s10);have L:=s57.trans s810;have n9:l9≠t:=Tf (aN ((s57.trans s8) _ _ t4) hl9);have ly4:=d4.length;rw[tB]at ly4;refine dI ⟨2,rfl,⋯,⋯,mX (n:=2) (λi σ G=>∃(z9 z10 ZT Ze M O z15:Option V)(p q:Int),σ=[some (.ref a),some (.ref t),some v2,some (.ref l3),some (.ref l4),some (.ref l5),some (.ref l6),some (.ref l7),some (.ref l9),z9,z10,ZT,Ze,M,O,z15]/\Zb K G a ns/\G t=some (.lst [.int p,.int q,.int c1])/\0<=p/\Dat K G (toD X) v2/\G l5=some (.lst (C.map V.int))/\G l9=some (.lst (((List.range B.length).map λi=>(Ye U B X).getD (i+1) 0).map V.int))/\G l4=some (.lst y4)/\WU K G (B.map toD) y4) ?_ ?_ ?_⟩
 ·exact⟨none,none,none,none,none,none,none,p4,q4,rfl,(hS2.but b4 t2).same L,L _ _ t4,g4,L.dat h2,(s6.trans (s7.trans s810)) _ _ hy5,s10 _ _ hy9,L _ _ YN,L.W0 d4⟩
 ·rintro i σ G hi ⟨z9,z10,ZT,Ze,M,O,z15,p,q,rfl,hSG,tG,gp,dG,lG5,lG9,lG4,dG4⟩;refine jQ ?_;dsimp only;refine eE ⟨_,rfl,_,rfl,a,t,ns,p,q,[.int c1],rfl,hSG,tG,gp,λbb G1 p1 q1 c1' t1 g1 hb1 hb2=>?_⟩;refine eE ⟨_,rfl,_,rfl,_,rfl,a,t,ns,bb,p1,q1,[.int c1],rfl,hSG.but c1' tG,t1,g1,hb1,hb2,λu G2 as p2 q2 c2 t2 g2 Y dA=>?_⟩;have gA:eI K G G1:=c1'.grow tG t1;have gB:eI K G1 G2:=c2.grow t1 t2;have dX2:=Dat.mono gB _ (Dat.mono gA _ dG);have l52:=c2 _ _ n5 (c1' _ _ n5 lG5);have l92:=c2 _ _ n9 (c1' _ _ n9 lG9);have l42:=c2 _ _ n4 (c1' _ _ n4 lG4);have Zm:=WU.mono gB _ (WU.mono gA _ dG4);have hS2:=(hSG.but c1' tG).but c2 t1;have oc:pN ⟨C,as,bb⟩:=⟨Xd,Y.1,Y.2.1,Y.2.2.1,Y.2.2.2⟩
  have oc0:pN ⟨C++[0],as,bb⟩:=⟨okc0,Y.1,Y.2.1,Y.2.2.1,Y.2.2.2⟩
  have run:=GR (mc:=⟨C,as,bb⟩) I hx ⟨Y.1,Y.2.1,Y.2.2.1⟩ hcs (N:=5000) ⋯;dsimp only;let Zk:Nat->L2.St->Hp->Prop:=λj σ F=>∃(Ze M O:Option V),σ=[some (.ref a),some (.ref t),some v2,some (.ref l3),some (.ref l4),some (.ref l5),some (.ref l6),some (.ref l7),some (.ref l9),some (.int (0+(i:Int))),some (.int bb),some u,Ze,M,O,z15]/\WV G2 F;refine dI ⟨_,rfl,_,rfl,l9,l4,_,y4,rfl,W2.of l92,W2.of l42,F7 (K:=K) (ys:=y4) Zk (by rw[tB,tB,Vu];exact ly4) ?_ (λj σ F _ ⟨_,_,_,_,sF⟩=>⟨W2.of (sF _ _ l92),W2.of (sF _ _ l42)⟩) ?_ ?_⟩
  ·exact⟨Ze,M,O,rfl,WV.refl _⟩
  ·rintro j w x pp σ F hw hx' hpp ⟨Ze,M,O,rfl,sF⟩;have sn:WV F (upd F pp (.tup [w,x])):=aL hpp _;have ZE:=sF.trans sn;obtain⟨dx,edx,hdx⟩:=(ZE.W0 Zm).XI hx';rw[SR]at edx
   cases hq:B[j]? with
   |none=>rw[hq]at edx;cases edx
   |some pt =>
    rw[hq]at edx;cases edx;have hj:j<B.length:=(S6.mp hq).1;rw[SR,SR,List.getElem?_range hj]at hw;cases hw
    have pz:0<=(Ye U B X).getD (j+1) 0:=by
     rw[Td]
     cases e:(Ye U B X)[j+1]? with
     |none=>exact Ut 0
     |some x=>exact yv I x (S4 e)
    obtain⟨okpt,Yd,spt⟩:=XH.ok pt (S4 hq);have prun:=GX (mc:=⟨C++[0],as,bb⟩) I hx ⟨Y.1,Y.2.1,Y.2.2.1⟩ hcs rfl hq (N:=5000) ⋯;refine⟨pp,_,rfl,Xo.of aF,rfl,_,_,rfl,_,_,rfl,rfl,?_⟩;dsimp only;have dAn:=ZE.dat dA;have LCn:LD K (upd F pp (.tup [.int ((Ye U B X).getD (j+1) 0),x])) (cD C) (.ref l5):=LD.of (ZE _ _ l52) (wz C);refine d6 (K:=K) (d:=.tup [.str "ends",.int (bW as bb pt)]) (RE.as (JT (mc:=⟨C++[0],as,bb⟩) (n:=5000) (s0:=⟨[],((Ye U B X).getD (j+1) 0).toNat,[C.length],false⟩) oc0 ⟨(λ_ h=>by cases h),by show 0<=64;decide,by show 1<=16;decide⟩ rfl rfl dAn ⋯ λH1 Q s1 q=>?_) (by rw[prun];rfl)) λv14 F2 X0 q14=>?_
    ·refine KH (es':=cD (C++[0])) (by simp) (js (aW (k:=5) LCn) (jB (fY (aA aE aG))) (by simp;lia)) H1 s1 _ λlc ys H2 hl2 s2 hy2 dy2=>⟨_,rfl,_,rfl,_,rfl,?_⟩
     refine(fY (K:=K) (es:=[.int C.length]) (aA (RE.as (dB (aW (k:=5) LCn)) (by rw[tB])) aG)) H2 (s1.trans s2) _ λlk zs H3 hl3 s3 hy3 dy3=>?_;have e2:=qz dy2;subst e2;obtain⟨z,rfl,hz⟩:=iP dy3;have e3:=hz.W4;subst e3;have:=q lc lk H3 (s2.trans s3) (s2.free hl3) (s3 _ _ hy2) hy3 (aN hy2 hl3);rw[show((((Ye U B X).getD (j+1) 0).toNat:Nat):Int)=(Ye U B X).getD (j+1) 0 from Int.toNat_of_nonneg pz]at this;exact this
    have dx2:=X0.dat hdx;refine iH (b:=false) (RT.as (aH (DF (K:=K) (d:=.tup [.str "ends",.int (bW as bb pt)]) (e:=.tup [.str "ends",.int (bW as bb pt)]) (aB (k:=14) q14) (aZ (aA aJ (aA (bJ (R:=mh 8) (aA (aB (k:=13) dx2) (aA (aB (k:=11) (X0.dat dAn)) (aA (aB (k:=10) (Dat.WY bb)) aG))) ⟨pt,as,bb,rfl,okpt,Yd,Y,rfl⟩) aG))) rfl rfl (show 1<=20 by decide))) (by rw[gC _ rfl];rfl)) (λc=>nomatch c) (λ_ F3 ZG=>?_);exact m7 ⟨_,_,_,rfl,ZE.trans (X0.trans ZG)⟩
  ·rintro σ F ⟨Ze,M,O,rfl,sF⟩;dsimp only;have dX3:=sF.dat dX2;refine d6 (K:=K) (d:=.int (bW as bb X)) (bJ (R:=mh 8) (aA (aB (k:=2) dX3) (aA (aB (k:=11) (sF.dat dA)) (aA (aB (k:=10) (Dat.WY bb)) aG))) ⟨X,as,bb,rfl,Xx,ZQ,Y,rfl⟩) λvd F4 s4 qd=>?_;obtain rfl:=qd.W4;have s24:=sF.trans s4;have dA4:=s24.dat dA;have l54:=s24 _ _ l52;refine iH (b:=false) (RT.as (dJ (b:=false) (c:=false) (RT.as (aH (kJ (JY (mc:=⟨C,as,bb⟩) (n:=5000) oc l54 dA4 ⋯ ⋯ run (λ_ _ q=>⟨_,rfl,_,rfl,q⟩) (λ_ _ q=>⟨_,rfl,q⟩)) (aB (k:=15) (Dat.WY _)))) (by rw[S9 rfl];rfl)) λ_=>RT.as (aH (DF (K:=K) (d:=.tup [.str "ends",.int (bW as bb X)]) (e:=.tup [.str "ends",.int (bW as bb X)]) (RE.as (JX (mc:=⟨C,as,bb⟩) (n:=5000) oc l54 dA4 ⋯ (λ_ _ q=>⟨_,rfl,_,rfl,_,rfl,q⟩)) (by rw[run];rfl)) (aZ (aA aJ (aA (aB (k:=15) (Dat.WY _)) aG))) rfl rfl (show 1<=20 by decide))) (by rw[gC _ rfl];rfl)) rfl) (λc=>nomatch c) (λ_ F5 s5'=>?_);have s25:=s24.trans s5';exact m7 ⟨_,_,_,_,_,_,_,p2,q2,rfl,hS2.same s25,s25 _ _ t2,g2,s25.dat dX2,s25 _ _ l52,s25 _ _ l92,s25 _ _ l42,s25.W0 Zm⟩
 ·rintro σ G ⟨z9,z10,ZT,Ze,M,O,z15,p,q,rfl,_⟩;exact post G
end
end My
end
namespace My
open PySem L2 PyProof.Rows
section
variable{K:qs}
theorem GL(b:List V)(H:Hp)(Q:VK)(E:XK):¬ qj K 0 b H Q E:=by rintro⟨a,t,d,room,p,q,c,_,_,_,_,_,_,_,h,_⟩;lia
theorem Er(a:List V)(H:Hp)(Q:VK)(E:XK):¬ jR K (mf 0) a H Q E:=λ⟨b,c,_,⟨x,k,_,_,h,_⟩,_⟩=>nomatch h
theorem GJ(a:List V)(H:Hp)(Q:VK)(E:XK):¬ Xp K (Kn 0) a H Q E:=λ⟨b,c,_,h,_⟩=>h
theorem wG(a:List V)(H:Hp)(Q:VK)(E:XK):¬ jR K (i7 0) a H Q E:=λ⟨b,c,_,⟨t,_,_,h,_⟩,_⟩=>by have:=e8 t;lia
theorem GI(a:List V)(H:Hp)(Q:VK)(E:XK):¬ mS K (me 0) a H Q E:=by rintro⟨as,b,_,⟨d,e,t,c,_,_,_,_,h,_⟩,_⟩;have:=e8 t;lia
theorem LH(a:List V)(H:Hp)(Q:VK)(E:XK):¬ Yi K (Rwc 0) a H Q E:=λ⟨as,d,_,h,_⟩=>Ki as d h
theorem GK(a:List V)(H:Hp)(Q:VK)(E:XK):¬ Xp K (mh 0) a H Q E:=by rintro⟨b,c,_,⟨t,_,_,_,_,h,_⟩,_⟩;have:=e8 t;lia
theorem chain(T:Txt P w K mg):Ok P w base 30 T.RS (Bi K):=by
 have b:=AD (P:=P) (w:=w) (base:=base) (k:=0) T;have l:=yd (P:=P) (w:=w) (base:=base) (k:=0) T;have o:=BV (k:=1) T l b;have d:=rq (P:=P) (w:=w) (base:=base) (k:=0) T;have Y:=BW (k:=2) T o (d.mono ⋯);have nt:=yk (k:=3) T Y
 have wk:∀n:Nat,Ok P w base (n+1) T.O2 (jR K (i7 n)):=by
  intro n
  induction n with
  |zero=>exact iQ wG
  |succ n a=>exact Ey (k:=n+1) T (d.mono ⋯) a
 have nm:=BU (P:=P) (w:=w) (base:=base) (k:=0) T;have mk:=BS (k:=1) T l b
 have pp:∀n:Nat,Ok P w base (n+3) T.N7 (Xp K (Rpp n)):=by
  intro n
  induction n with
  |zero=>exact j7 (k:=2) (n:=0) T mk o (d.mono ⋯) (iQ GJ)
  |succ n a=>exact j7 (k:=n+3) (n:=n+1) T (mk.mono ⋯) (o.mono ⋯) (d.mono ⋯) a
 have ma:∀n:Nat,Ok P w base (n+1) T.Ov (jR K (mf n)):=by
  intro n
  induction n with
  |zero=>exact iQ Er
  |succ n a=>exact AF (k:=n+1) T (d.mono ⋯) a
 have nu:=tO (k:=4) T (ma 3);have pa:=uY (k:=6) T (pp 3) (nu.mono ⋯);have fi:=uX (k:=4) T (l.mono ⋯) (ma 3) (b.mono ⋯);have ce:=BQ (k:=5) T (b.mono ⋯) fi;have p:=oO (P:=P) (w:=w) (base:=base) (k:=0) T;have ai:=ng (k:=6) T (b.mono ⋯) (p.mono ⋯) ce;have pc:=AC (k:=7) T (nm.mono ⋯) pa ai;have ms:=pQ (P:=P) (w:=w) (base:=base) (k:=0) T
 have mt:∀n:Nat,Ok P w base (n+1) T.OM (Bh K oD n):=by
  intro n
  induction n with
  |zero=>exact iQ Jj
  |succ n a=>exact BX (k:=n+1) T (ms.mono ⋯) a
 have fo:=AB (k:=4) T (mt 3);have jo:=ye (P:=P) (w:=w) (base:=base) (k:=0) T;have jp:=pP (k:=1) T jo;have wo:=BZ (k:=5) T fo;have lb:=yg (k:=2) T jp;have bw:=rp (k:=6) T wo (lb.mono ⋯);have bc:=pO (k:=9) T (wk 8) (bw.mono ⋯);have st:=Ew (k:=9) T (pc.mono ⋯);have ns:=AG (k:=10) T st;have fc:=tN (P:=P) (w:=w) (base:=base) (k:=0) T
 have lc:∀n:Nat,Ok P w base (2*n+6) T.Oc (mS K (me n)):=by
  intro n
  induction n with
  |zero=>exact iQ GI
  |succ n a =>have c:=yf (k:=2*n+6) T a (jp.mono ⋯);have pp:=ve (k:=2*n+6) T a (fo.mono ⋯) (fc.mono ⋯);exact uZ (k:=2*n+7) T c pp
 have wc:∀n:Nat,Ok P w base (2*n+2) T.Ow (Yi K (Rwc n)):=by
  intro n
  induction n with
  |zero=>exact iQ LH
  |succ n a =>have q:=jv (k:=2*n+2) T (d.mono ⋯) a;exact vj (k:=2*n+3) T q
 have q:=jv (k:=20) T (d.mono ⋯) ((wc 7).mono ⋯);have ap:=yb (k:=10) T (Y.mono ⋯) ((wk 8).mono ⋯);have r:=vi (k:=11) T ap;have on:=yc (k:=22) T ((wc 8).mono ⋯) (q.mono ⋯) (bc.mono ⋯) (lc 8);have lo1:=AE (k:=23) T (nt.mono ⋯) (ns.mono ⋯) (r.mono ⋯) on;have lp:=tL (P:=P) (w:=w) (base:=base) (k:=0) T;have j:=xW (P:=P) (w:=w) (base:=base) (k:=0) T;have c:=xZ (k:=1) T j
 have tr:∀n:Nat,Ok P w base (n+2) T.Od (qj K n):=by
  intro n
  induction n with
  |zero=>exact iQ GL
  |succ n a=>exact ya (k:=n+2) T (j.mono ⋯) (c.mono ⋯) a
 have ls:=Az (k:=1) T (lp.mono ⋯) (j.mono ⋯);have he:=uT (k:=6) T (c.mono ⋯) (tr 4);have db:=rn (k:=7) T (c.mono ⋯) ((tr 4).mono ⋯) he
 have s:∀n:Nat,Ok P w base (n+1) T.Ot (jR K (i7 n)):=by
  intro n
  induction n with
  |zero=>exact iQ wG
  |succ n a=>exact uV (k:=n+1) T a
 have t:=x8 (k:=2) T c;have u:=xU (k:=2) T (j.mono ⋯) c;have e:=AA (P:=P) (w:=w) (base:=base) (k:=0) T
 have lw:∀n:Nat,Ok P w base (n+1) T.N6 (Xp K (mh n)):=by
  intro n
  induction n with
  |zero=>exact iQ GK
  |succ n a=>exact uW (k:=n+1) T (e.mono ⋯) a
 have v:=uU (P:=P) (w:=w) (base:=base) (k:=0) T;have x:=tJ (P:=P) (w:=w) (base:=base) (k:=0) T;have y:=xY (P:=P) (w:=w) (base:=base) (k:=0) T;have lds:=xV (k:=1) T e;have f:=xX (k:=2) T (v.mono ⋯) (x.mono ⋯) (y.mono ⋯) lds;have z:=Ay (k:=3) T f;have A:=yj (k:=1) T b;have B:=yh (k:=1) T b;have C:=pR (P:=P) (w:=w) (base:=base) (k:=0) T;have E:=BR (k:=1) T b;have g:=yi (k:=2) T E;have h:=nO (P:=P) (w:=w) (base:=base) (k:=0) T;have G:=tP (P:=P) (w:=w) (base:=base) (k:=0) T;have H:=m9 (P:=P) (w:=w) (base:=base) (k:=0) T;have i:=rj (P:=P) (w:=w) (base:=base) (k:=0) T;have I:=rg (P:=P) (w:=w) (base:=base) (k:=0) T;have J:=oN (P:=P) (w:=w) (base:=base) (k:=0) T;have L:=tI (k:=1) T i;have M:=oM (k:=1) T i I C;have N:=rh (k:=2) T (h.mono ⋯) (G.mono ⋯) L (J.mono ⋯) M;have O:=BY (k:=2) T g (A.mono ⋯) (B.mono ⋯) (b.mono ⋯) (H.mono ⋯);have Q:=LL (k:=4) T O (N.mono ⋯);have U:=Ex (k:=3) T g (h.mono ⋯);have un:=tM (k:=9) T (c.mono ⋯) (s 8);exact LJ (k:=29) T (db.mono ⋯) (ls.mono ⋯) (un.mono ⋯) (lo1.mono ⋯) (U.mono ⋯) (t.mono ⋯) (u.mono ⋯) ((lw 8).mono ⋯) (z.mono ⋯) (f.mono ⋯) (Q.mono ⋯)
end
noncomputable def df_mk{K:qs}{h:Heap}{mg:zp}{n:Str}{st:Stmt}{d:vn}{f:Addr}{o:Value}{p i:Option Addr}{e:Array (Option Value)}{kV doc j b ct:Value}(X:K.In h)(G:h.Ns mainGlobals mg)(a:W.nsIn K mainGlobals n=some (some (.ref f)))(l:K.lookup f=some ⟨o,p,.func (W.fnOf n n (jO st) (h8 st) (aK st) .none kV doc j i b ct),e⟩)(c:W.codeIn K b n=true)(k:W.keepIn K (.ref f)=true)
  (q:∀g:List Value,g.length=d.length->bindArgs (W.fnOf n n (jO st) (h8 st) (aK st) .none kV doc j i b ct) ⟨g,[]⟩=pure (d.zip g)):Df K mg n st d:=⟨f,_,fun_mk l c k,W.mg_of X G a,.all q⟩
variable{K:qs}
theorem fin{l:W.OpenLaw}(a:mg "law"=some (.ref c))(T:Txt l.prog w K mg) :
  ∃b:FuncData,(∀(s:Shared)(v:Value),BindsTo s b ⟨[v],[]⟩ [("_law_script",v)])/\∀base:Heap,K.In base->base.Ns mainGlobals mg->Xj l.prog w K mg base Yg 30 c b ["_law_script"] (Bi K):=by
 have e:=a.symm.trans T.RS.m;cases e;obtain⟨_,_,_,_,_,_,_,_,_,e,_⟩:=T.RS.f.ex;exact⟨_,λs v=>by rw[e];exact .of_eq rfl,λbase _ _=>chain T⟩
theorem walk{l:W.OpenLaw}{loose:vn}{d:DefRec}{K:Params->W.Frag}(g:l.most=some 63)(b:d.params.defaults=[])
  (i:∀(w:World)(h:Heap),j w h->(K w.params).In h)
  (F:∀(w:World)(mg:zp)(c:Addr)(h:Heap),(K w.params).In h->h.Ns mainGlobals mg->mg d.name=some (.ref c) ->
   ∃e:FuncData,(∀(s:Shared)(u:Value),BindsTo s e ⟨[u],[]⟩ [("_law_script",u)])/\∀base:Heap,(K w.params).In base->base.Ns mainGlobals mg->Xj l.prog w (K w.params) mg base Yg 30 c e ["_law_script"] (Bi (K w.params))) :
  W.WalkO q loose v j l.row.toRowW d [] (λf o=>PySem.call f o) :=
 L2.walk_of (n:=63) (k:=30) (x:="_law_script") (CX:=λ_=>Yg) (sp:=λw=>Bi (K w.params)) g ⋯ b ⟨rfl,⋯,⋯⟩ i F (λ_ _ a p y r t=>⟨a,p,rfl,Ml r t,λ_=>rfl⟩) λ_ _ _ _ _ z=>z
theorem fund_mk{st:Stmt}{kV doc:Value}{g:zl}(l:K.lookup f=some ⟨j,n,.func (W.fnOf x a (jO st) (h8 st) (aK st) (.ref T) kV doc h i b ct),d⟩)(c:W.codeIn K b a=true)(k:W.keepIn K (.ref f)=true)(e:K.lookup T=some ⟨o,p,.seq g.toArray q,r⟩):FunD K x a st f (W.fnOf x a (jO st) (h8 st) (aK st) (.ref T) kV doc h i b ct) T g:=⟨⟨j,n,kV,doc,h,i,b,ct,d,rfl,l,c⟩,k,⟨_,_,e,rfl⟩⟩
theorem YB{l:W.OpenLaw}(x:K.lookup a=some o)(e:KTD.tabLook KTD.flatLooks (λb=>K.lookup b) a ([("hole",.int 2),("gap",.int 3),("slot",.int 2)]:List (Str×PyData))=true)(q:KTD.hashesOf (λb=>K.lookup b) a=([("hole",.int 2),("gap",.int 3),("slot",.int 2)]:List (Str×PyData)).map λp=>(PySem.strKind l.prog w).hash p.1):CK l.prog w K a ["hole","gap","slot"]:=⟨⟨_,x⟩,λh x=>⟨_,W.kt_tab_in l.prog w x e ⋯ q,rfl⟩⟩
end My
open PySem PySem.W PyProof.Rows
set_option maxRecDepth 100000 in
set_option maxHeartbeats 0 in
theorem PySem.Challenge.cw_piecelay_k18_whole_laid_once_holds : PySem.Challenge.rw_piecelay_k18_whole_laid_once.Holds := by
 w_on;refine holds_law My.said λsaid=>?_
 refine holds_open (q:=My.view) (loose:=My.loose) (Xt:=My.xt) (XP:=XL My.view []) (Yf:=Hook.obs (kHook My.k0.heap_1 My.kas My.kas_ok)) (Ya:=Hook.val (kHook My.k0.heap_1 My.kas My.kas_ok)) (YP:=Hook.says (kHook My.k0.heap_1 My.kas My.kas_ok)) (N:=My.NN) My.left (Hook.of (kHook My.k0.heap_1 My.kas My.kas_ok)) (Hook.keeps (kHook My.k0.heap_1 My.kas My.kas_ok)) (λs e=>xl_of s (Bool.and_eq_true_iff.mp e).1) XL.keeps (by rfl) (by rfl) (by rfl) (λs e=>recFacts_of (Bool.and_eq_true_iff.mp e).2) (by rfl) (by first|assumption|decide +kernel) ⋯ ⟨rfl,rfl,rfl,rfl,rfl,⋯⟩ ?hw ?hc
 case hw=>w_witness2
 k_fill
 refine My.walk (l:=PySem.Challenge.rw_piecelay_k18_whole_laid_once) rfl rfl (λw h Y=>PySem.W.kIn_of Y) ?F
 case F =>
  intro w mg i h f G g;refine My.fin g ?T;have M:∀{n:Str}{v:Value},nsIn _ mainGlobals n=some (some v)->mg n=some v:=mg_of f G;have N:∀{n:Str},nsIn _ mainGlobals n=some none->mg n=none:=mg_none_of f G;constructor
  case toDfs =>
   constructor
   all_goals
    refine' My.df_mk f G ?a ?l ?c ?k ?b
    case a=>k_is
    case l=>change _=_;k_is
    case c=>k_is
    case k=>k_is
    case b=>exactλj d=>by first | (cases List.eq_nil_of_length_eq_zero d;rfl) | (obtain⟨_,rfl⟩:=My.len1 d;rfl) | (obtain⟨_,_,rfl⟩:=My.len2 d;rfl) | (obtain⟨_,_,_,rfl⟩:=My.len3 d;rfl) | (obtain⟨_,_,_,_,rfl⟩:=My.len4 d;rfl) | (obtain⟨_,_,_,_,_,rfl⟩:=My.len5 d;rfl) | (obtain⟨_,_,_,_,_,_,rfl⟩:=My.len6 d;rfl)
  all_goals try (first|refine M ?_|refine N ?_);k_is
  all_goals try (refine' L2.Meth.mk ?m1 ?m2 ?m3;(case m1=>k_is);(case m2=>kernel_rfl);(case m3=>k_is))
  all_goals try (refine' L2.Mk.mk ?n1 ?n2 ?n3 ?n4;(case n2=>k_is);all_goals kernel_rfl)
  (case Qa=>(refine' My.YB ?o1 ?o2 ?o3;(case o1=>k_is);(case o2=>first|rfl|decide +kernel);(case o3=>first|rfl|kernel_rfl)))
  all_goals first|rfl|kernel_rfl|decide +kernel | (refineλh x=>kt_text_in x ?_;first|rfl|decide +kernel) | (refine' L2.fun_mk ?f1 ?f2 ?f3;(case f1=>change _=_;k_is);(case f2=>k_is);(case f3=>k_is)) | (refine' My.fund_mk ?g1 ?g2 ?g3 ?g4;(case g1=>change _=_;k_is);(case g2=>k_is);(case g3=>k_is);(case g4=>change _=_;k_is)) | (constructor<;>first|rfl|kernel_rfl|decide +kernel)
