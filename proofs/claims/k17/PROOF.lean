import PyProof.Rows.All
import Wide.All
import OpenK.AllK
import Wide.FinOn
import Lean
import PyProof.EqAt
import PyProof.EqKinds
import PyProof.TupleCall
import PyProof.NeKinds
import KE.KTab
import KE.KTops
import PyProof.FString5
import PyProof.ListRange
import KE.KRevIter
import PyProof.Rows.SumAny
import PyProof.Rows.SetFrom
import KE.KRevSl
import KE.KTryMore
import PyProof.ExcAttrAll.ValueError
import PyProof.Rows.CountFlat
import PyProof.ExcInit
import PyProof.InstStoreFacts
import PyProof.Draws
import PyProof.EnumMake
import PyProof.ZipIter
import PyProof.WalkInts
import PyProof.Rows.MinMaxN
import KE.KUnpack
import PyProof.StationsW
import PySem.Challenge.RW_piecelay_k17_whole_far_jumps
set_option Elab.async false
set_option linter.all false
set_option maxRecDepth 100000
set_option maxHeartbeats 4000000
abbrev tB:=@List.length_map
abbrev MQ:=@List.length_append
abbrev MR:=@if_neg
abbrev MT:=@List.getElem?_eq_getElem
abbrev MU:=@PySem.Heap.get?_push_of_some
abbrev MV:=@PySem.wpAny_bind
abbrev MW:=@if_pos
abbrev MX:=@decide_eq_false
abbrev MY:=@Bool.false_ne_true
abbrev MZ:=@List.getElem?_map
abbrev M0:=@Nat.le_refl
abbrev M1:=@of_decide_eq_true
abbrev M4:=@Bool.and_eq_true
abbrev M5:=@decide_eq_true
abbrev M9:=@List.size_toArray
abbrev Na:=@List.mem_cons
abbrev Nb:=@List.map_cons
abbrev Nc:=@PySem.wpAny_pure
abbrev Nd:=@List.length_cons
abbrev Nf:=@List.mem_singleton
abbrev Ng:=@of_decide_eq_false
abbrev Nh:=@List.mem_append
abbrev Ni:=@PySem.Heap.lt_size
abbrev Nj:=@List.mem_cons_of_mem
abbrev Nk:=@Nat.lt_of_lt_of_le
abbrev Nl:=@List.map_append
abbrev Nm:=@Option.map_eq_some_iff
abbrev Nn:=@List.mem_of_getElem?
abbrev Np:=@List.append_nil
abbrev Nq:=@congrArg
abbrev Nr:=@PySem.Heap.get?_push_size
abbrev Nt:=@List.getD_eq_getElem?_getD
abbrev Nu:=@List.getElem?_eq_some_iff
abbrev Nv:=@Nat.le_trans
abbrev Ny:=@List.not_mem_nil
abbrev Nz:=@Ne.symm
abbrev NB:=@List.mem_cons_self
abbrev NC:=@List.append_assoc
abbrev ND:=@Nat.ne_of_lt
abbrev NF:=@PySem.F.plainAttrs_list
abbrev NG:=@List.mem_append_right
abbrev NH:=@decide_eq_true_eq
abbrev NI:=@List.length_take
abbrev NJ:=@Int.emod_lt_of_pos
abbrev NK:=@Option.some.inj
abbrev NL:=@Bool.and_false
abbrev NO:=@Int.emod_nonneg
abbrev NP:=@PySem.PassesOwn.never
abbrev NQ:=@List.getElem?_append_right
abbrev NR:=@List.take_add_one
abbrev NS:=@Bool.and_true
abbrev NT:=@PySem.F.slot_list_append
abbrev NU:=@List.flatten_cons
abbrev NV:=@PySem.F.type_list_append
abbrev NW:=@Nat.zero_le
abbrev NX:=@or_false
abbrev NY:=@PySem.Heap.size_push
abbrev NZ:=@Nat.pow_le_pow_right
abbrev N1:=@List.length_reverse
abbrev N3:=@PySem.wpAny_truthy_bool
abbrev N4:=@List.mem_map
abbrev N5:=@PySem.wpAny_callSpecial?_slot
abbrev N6:=@List.all_eq_true
abbrev N7:=@List.take_length
abbrev N8:=@Option.bind_some
abbrev N9:=@Bool.false_or
abbrev Oa:=@List.mem_append_left
abbrev Ob:=@Option.bind_eq_some_iff
abbrev Oc:=@PySem.Heap.get?_push_at
abbrev Od:=@Int.emod_eq_of_lt
abbrev Oe:=@PyProof.Rows.callWith_type1
abbrev Of:=@PySem.mem_of_lookup
abbrev Og:=@Nat.le_of_lt
abbrev Oh:=@Nat.lt_irrefl
abbrev Oi:=@List.any_cons
abbrev Oj:=@PySem.wpAny_call_entry
abbrev Ol:=@List.lookup_cons
abbrev Om:=@PySem.wpAny_setField_rec
abbrev Oo:=@List.filterMap_append
abbrev Oq:=@List.getElem?_append_left
abbrev Ot:=@PySem.wpAny_field
abbrev Ou:=@List.filterMap_cons
abbrev Ov:=@Array.length_toList
abbrev Ow:=@List.take_zero
abbrev Ox:=@Nat.ne_of_gt
abbrev Oz:=@List.mem_filterMap
abbrev OA:=@PyProof.Rows.F.plain_set_update_loop
abbrev OB:=@List.map_map
abbrev OC:=@PySem.wpAny_passesOwn
abbrev OD:=@List.getElem?_eq_none
abbrev OE:=@PySem.builtinLookup_eq_fast
abbrev OF:=@List.foldl_cons
abbrev OG:=@List.nil_append
abbrev OH:=@PySem.F.slot_tuple_iterator_next
abbrev OI:=@PySem.wpAny_newObj_type
abbrev OJ:=@Bool.or_eq_false_iff
abbrev OL:=@Bool.false_and
abbrev OM:=@List.length_drop
abbrev ON:=@PySem.F.called_set
abbrev OO:=@beq_eq_false_iff_ne
abbrev OP:=@PyProof.Rows.slot_tuple_getitem
abbrev OQ:=@PySem.wpAny_holding
abbrev OR:=@PySem.wpAny_Call_Name_kw
abbrev OS:=@List.nodup_cons
abbrev OT:=@PySem.F.slot_list_extend
abbrev OU:=@List.find?_cons
abbrev OV:=@Option.map_some
abbrev OW:=@PySem.sizeLine_eq
abbrev OX:=@List.take_of_length_le
abbrev OY:=@List.drop_append_of_le_length
abbrev OZ:=@List.reverse_cons
abbrev O0:=@PySem.codeAny_mono
abbrev O1:=@List.take_append_drop
abbrev O2:=@PySem.wpAny_mono
abbrev O3:=@List.filter_cons
abbrev O4:=@PySem.wpAny_standAt
abbrev O5:=@Bool.true_and
abbrev O6:=@if_true
abbrev O7:=@Bool.eq_iff_iff
abbrev O8:=@PySem.typeLookup_type
abbrev O9:=@PyProof.Rows.F.entry_set_update_loop
abbrev Pb:=@PySem.F.type_list_extend
abbrev Pd:=@List.length_filterMap_le
abbrev Pe:=@PySem.wpAny_seqItems
abbrev Pf:=@PySem.wpAny_pyIter_list
abbrev Pg:=@Int.toNat_natCast
abbrev Ph:=@PySem.Calls.callWith_builtin
abbrev Pj:=@List.drop_of_length_le
abbrev Pk:=@PySem.wpAny_attempt
abbrev Po:=@Prod.ext
abbrev Pp:=@Nat.lt_succ_self
abbrev Pq:=@Nat.le_add_right
abbrev Pr:=@List.drop_append
abbrev Pu:=@PySem.wpAny_execs_nil
abbrev Pw:=@Nat.le_of_eq
abbrev Px:=@PySem.call_meets
abbrev Py:=@PySem.F.slot_list_pop
abbrev Pz:=@List.forIn_cons
abbrev PB:=@Nat.le_max_left
abbrev PC:=@PySem.F.slot_zip_next
abbrev PD:=@List.dropLast_concat
abbrev PF:=@Nat.pow_succ
abbrev PJ:=@PySem.W.kt_text_in
abbrev PL:=@List.flatten_append
abbrev PM:=@PySem.isSubtype_type
abbrev PN:=@Int.le_refl
abbrev PR:=@PySem.SeqAt.EqAt.int_str
abbrev PU:=@PySem.SeqAt.EqAt.str_int
abbrev PV:=@PyProof.Rows.assignInOrder_cons
abbrev PX:=@PyProof.Rows.IsTup.new
abbrev PY:=@PySem.wpAny_pyIter_tuple
abbrev PZ:=@PySem.Calls.spliced_cons
abbrev P0:=@PySem.F.args_tuple_add_2
abbrev P1:=@Nat.lt_of_le_of_lt
abbrev P4:=@Bool.false_eq_true
abbrev P5:=@PySem.W.kia_one
abbrev P6:=@Bool.not_eq_false'
abbrev P7:=@List.filterMap_nil
abbrev P8:=@PySem.F.entry_tuple_add
abbrev P9:=@beq_iff_eq
abbrev Qa:=@if_false
abbrev Qc:=@List.map_nil
abbrev Qd:=@Nat.lt_trans
abbrev Qe:=@Nat.sub_self
section
namespace LT
open PySem PySem.W PyProof.Rows
noncomputable def YY (p:Program) (w:World) (n₀:Nat) (ann:Option Value):Nat->SharedT->Thread->Option SharedT
 | 0,_,_=>none
 | k+1,s,t=>bif through t then some s else bif Fast.tw6613529449190102663 n₀ ann t then
   (Fast.tw10156331382660048174 (Fast.tw11892475500146522536 Fast.tw14364793385576792824) p w s t).bind λx=>YY p w n₀ ann k x.1 x.2
  else none
variable {p:Program}
theorem DK {w:World} {n₀:Nat} {ann:Option Value} (k:Nat):∀ {s s':SharedT} {t:Thread},YY p w n₀ ann k s t=some s'->topRun treeTable p w n₀ ann k s.abs t=some s'.abs:=by
 induction k with
 | zero=>intro s s' t h;cases h
 | succ k ih =>
  intro s s' t h;unfold YY at h;rw [<- Fast.te6613529449190102663,<- Fast.te10156331382660048174,<- Fast.te11892475500146522536,<- Fast.te14364793385576792824] at h;unfold topRun;cases c1:through t
  ·cases c2:stepOk n₀ ann t
   ·rw [c1,c2] at h;cases h
   ·rw [c1,c2] at h;obtain ⟨x,hx,hr⟩:=Ob.mp (show (stepT (denote treeTable) p w s t).bind _=some s' from h);rw [stepT_spec (s':=x.1) (t':=x.2) hx];exact ih hr
  ·rw [c1] at h;cases h;rfl
noncomputable def AG (P:Params):BT:=((boot_heap P).objs.toList.foldl (λ(x:BT × Nat) o=>(x.1.ins x.2 o,x.2+1)) (BT.nil,0)).1
theorem AH:∀ P,absHeap (AG P) 11 {}=boot_heap P:=λP=>by kernel_rfl
noncomputable abbrev boot (P:Params) (os:OsState):SharedT:=⟨AG P,11,{},#[],boot_drawn,boot_toks,os⟩
theorem AI (P:Params) (os:OsState):(boot P os).abs=⟨boot_heap P,#[],boot_drawn,boot_toks,os⟩:=by show (⟨absHeap (AG P) 11 {},#[],boot_drawn,boot_toks,os⟩:Shared)=_;rw [AH]
noncomputable def ED (p q:Program) (loose:List Str) (Xt:Shared->Bool) (P:Params) (s:Shared) :=
 (staticsOk (Fast.tw5923862056798008813 p.main.body) (boot_heap P) s.heap && namesBound p s.heap && gensDone s && laidKept (boot_heap P) s.heap,Fast.tw4187177175401517315 q loose (Fast.tw5923862056798008813 p.main.body) Xt true s)
theorem D7:∀ P:Params,((boot_heap P).isNs mainGlobals && (#[]:Array GenState).size == 0,(boot_heap P).objs.size,(boot_heap P).nsMap mainGlobals "__annotations__")=(true,11,some (.ref 6)):=λP=>by kernel_rfl
theorem left {q:Program} {loose:List Str} {Xt:Shared->Bool} {α:Type} {Yf:Shared->α} {Ya:World->α} {N:Nat} (e:opening p=plainProg p.main.scope.names) (hN:Nat.ble 600 N=true) (f:∀ s,fenceModules? p s=some s)
  (h:∀ (w:World) (os:OsState),(YY p w 11 (some (.ref 6)) N (boot w.params os) (topStub p)).map (λs=>(ED p q loose Xt w.params s.abs,Yf s.abs))=some ((true,openGood q loose),Ya w)):LeftO p q loose Xt Yf Ya N:=λw=>by
 obtain ⟨⟨h0,gs,d,k,os⟩,e,e'⟩:=Nm.mp (boot_open e hN f w);obtain ⟨rfl,rfl,rfl,rfl⟩:h0=boot_heap w.params/\gs=Array.mk []/\d=boot_drawn/\k=boot_toks:=by simpa using e'
 obtain ⟨s1,hr,hs⟩:=Nm.mp (h w os);have r:=DK N hr;rw [AI] at r;obtain ⟨hs,hy⟩:=Prod.mk.inj hs;unfold ED at hs;rw [<- Fast.te4187177175401517315,<- Fast.te5923862056798008813] at hs;obtain ⟨hl,hg⟩:=Prod.mk.inj (show (staticsOk (importedModules p.main.body) (boot_heap w.params) s1.abs.heap && namesBound p s1.abs.heap && gensDone s1.abs && laidKept (boot_heap w.params) s1.abs.heap,openSeen q loose (importedModules p.main.body) Xt true s1.abs)=(true,openGood q loose) from hs);obtain ⟨z1,z2,z3⟩:_/\_/\_:=by simpa only [Prod.mk.injEq] using D7 w.params
 have t:topFrom treeTable p w N ⟨boot_heap w.params,Array.mk [],boot_drawn,boot_toks,os⟩=some s1.abs:=by unfold topFrom;dsimp only;rw [z1,z2,z3,r];show (match staticsOk (importedModules p.main.body) (boot_heap w.params) s1.abs.heap && namesBound p s1.abs.heap && gensDone s1.abs && laidKept (boot_heap w.params) s1.abs.heap with | true=>_ | false=>_)=_;rw [hl]
 unfold openEnds;rw [e];show (topFrom treeTable p w N _).map _=_;rw [t];exact Nq some (Po hg hy)
end LT
namespace LT
section
universe u1 u2 u3 u4 u5 u6 u7 u8 u9
variable {S:Type u1} {A:Type u2} {B:Type u3} {C:Type u4} {D:Type u5} {E:Type u6} {F:Type u7} {R:Type u8} {V:Type u9}
noncomputable def YZ (x:A × B × C × D × E × F × R):A × B × C:=match x with | (a,b,c,_)=>(a,b,c)
noncomputable def Y0 (x:A × B × C × D × E × F × R):D × E × R:=match x with | (_,_,_,d,e,_,r)=>(d,e,r)
noncomputable def Y3 (x:A × B × C × D × E × F × R):F:=match x with | (_,_,_,_,_,f,_)=>f
theorem lots {o:Option S} {f:S->A × B × C × D × E × F × R} {y:A × B × C × D × E × F × R} {st:S->Bool} {ob:S->V} {v:V} (h1:o.map (λs=>YZ (f s))=some (y.1,y.2.1,y.2.2.1)) (h2:o.map (λs=>Y0 (f s))=some (y.2.2.2.1,y.2.2.2.2.1,y.2.2.2.2.2.2))
  (h3:o.map (λs=>Y3 (f s))=some y.2.2.2.2.2.1) (h4:o.map (λs=>(st s,ob s))=some (true,v)):o.map (λs=>((st s,f s),ob s))=some ((true,y),v):=by
 cases o with
 | none=>cases h1
 | some s =>have k1:((f s).1,(f s).2.1,(f s).2.2.1)=(y.1,y.2.1,y.2.2.1):=NK h1;have k2:((f s).2.2.2.1,(f s).2.2.2.2.1,(f s).2.2.2.2.2.2)=(y.2.2.2.1,y.2.2.2.2.1,y.2.2.2.2.2.2):=NK h2;have k3:(f s).2.2.2.2.2.1=y.2.2.2.2.2.1:=NK h3;have k4:(st s,ob s)=(true,v):=NK h4;have ef:f s=y:=Po (Nq (λz=>z.1) k1) (Po (Nq (λz=>z.2.1) k1) (Po (Nq (λz=>z.2.2) k1) (Po (Nq (λz=>z.1) k2) (Po (Nq (λz=>z.2.1) k2) (Po k3 (Nq (λz=>z.2.2) k2))))));have e1:st s=true:=Nq (λz=>z.1) k4;have e2:ob s=v:=Nq (λz=>z.2) k4;show some ((st s,f s),ob s)=some ((true,y),v);rw [e1,e2,ef]
end
end LT
namespace My
open PySem
noncomputable def top (i:Nat):Stmt:=PySem.Challenge.pw_piecelay_k17_whole_far_jumps.main.body.getD i (.Pass ⟨0,0,0,0⟩)
end My
section
open PySem PySem.W PyProof.Rows
set_option maxRecDepth 100000 in
set_option maxHeartbeats 0 in
theorem My.said:OpenLaw.wellSaid PySem.Challenge.rw_piecelay_k17_whole_far_jumps=true:=by kernel_rfl
end
end
section
open PySem PySem.W PyProof.Rows
section
local macro_rules | `(tactic| o_head $H:term)=>`(tactic| (have _hook:=$H;assumption))
theorem My.k0 (h:PySem.Challenge.rw_piecelay_k17_whole_far_jumps.row.Holds):PySem.Challenge.rw_piecelay_k17_whole_far_jumps.row.Holds:=by
 k_head
end
namespace My
noncomputable def view:Program:={ PySem.Challenge.pw_piecelay_k17_whole_far_jumps with main:={ PySem.Challenge.pw_piecelay_k17_whole_far_jumps.main with body:=[top 1,top 2,top 3,top 4,top 5,top 6,top 7,top 8,top 9,top 10,top 12,top 13,top 14,top 15,top 16,top 17,top 19,top 21,top 22,top 23,top 24,top 25,top 26,top 27,top 28,top 29,top 30,top 32,top 33,top 34,top 35,top 36,top 37,top 38,top 39,top 40,top 41,top 42,top 43,top 44,top 45,top 47,top 49,top 50,top 51,top 52,top 53,top 54,top 55,top 56,top 57,top 58,top 59,top 60,top 61,top 62,top 63,top 64,top 65,top 66,top 67,top 68,top 69,top 70,top 71,top 73,top 74,top 75,top 76,top 77,top 78,top 79,top 80,top 81,top 82,top 83,top 85,top 86,top 87,top 88,top 89,top 90,top 91,top 93,top 94,top 95,top 96,top 97,top 98,top 99,top 100,top 101,top 102,top 103,top 104,top 105,top 106,top 107,top 108,top 109] } }
noncomputable abbrev YF:Program:=PySem.Challenge.pw_piecelay_k17_whole_far_jumps
noncomputable abbrev loose:List Str:=["need_size","MOST_IN_LEAF","TREES_IN_BRANCH","MOST_TOLD","run","MARK_LENGTHS","FILLED_FROM","BASIC"]
noncomputable abbrev xt (s:Shared):Bool:=xlAt view [] s && recOk (RowW.records (OpenRow.toRowW (OpenLaw.row PySem.Challenge.rw_piecelay_k17_whole_far_jumps))) s
noncomputable abbrev kas:List Addr:=[2,3,15,22,23,24,25,28,35,36,37,40,47,48,49,52,59,60,61,64,71,72,73,76,83,84,85,88,95,96,97,100,107,108,109,112,119,120,121,124,131,133,134,136,137,138,139,140,143,145,146,148,149,150,152,153,155,156,157,160,161,162,163,165,166,168,169,170,173,174,175,176,177,179,180,182,183,184,186,187,189,190,191,194,195,196,198,199,201,202,203,205,206,208,209,210,212,213,215,216,217,218,219,220,221,222,223,224,225,226,227,228,229,230,231,232,233,234,235,236,237,240,241,242,244,245,247,248,249,251,252,254,255,256,258,259,261,262,270,272,273,275,276,277,279,280,282,283,284,286,287,289,290,291,293,294,296,297,298,300,301,303,304,305,307,308,310,311,312,314,315,317,318,319,320,321,322,323,326,328,329,331,332,333,334,336,337,339,340,341,343,344,346,347,348,349,350,351,352,353,354,355,356,357,358,359,360,361,362,363,364,365,366,367,368,369,370,371,372,373,374,375,376,377,378,379,380,381,382,383,384,385,386,387,388,389,390,391,393,394,396,397,398,401,402,403,405,406,408,409,410,413,414,415,418,419,420,422,423,425,426,427,429,430,432,433,434,437,438,439,441,442,444,445,446,449,450,451,453,454,456,457,458,460,461,463,464,465,467,468,470,471,472,474,475,477,478,479,481,482,484,485,486,487,488,490,491,493,494,495,497,498,500,501,502,504,505,507,508,509,511,512,514,515,516,519,520,521,523,524,526,527,528,530,531,533,534,535,538,539,540,543,544,545,547,548,550,551,552,554,555,557,558,559,561,562,564,565,566,568,569,571,572,597,599,600,602,603,604,606,607,609,610,611,613,614,616,617,618,620,621,623,624,625,628,629,649,651,652,654,655,656,658,659,661,662,663,665,666,668,669,670,673,674]
theorem kas_ok:∀ P,kas=(My.k0.heap_1 P).map (·.1):=λ_=>by kernel_rfl
noncomputable abbrev hk:Hook:=kHook My.k0.heap_1 kas kas_ok
noncomputable abbrev NN:Nat:=9000
noncomputable abbrev C7 (w:World) (os:OsState):=LT.YY YF w 11 (some (.ref 6)) NN (LT.boot w.params os) (topStub YF)
noncomputable abbrev t8 (P:Params) (s:SharedT):Bool:=staticsOk (Fast.tw5923862056798008813 YF.main.body) (boot_heap P) s.abs.heap && namesBound YF s.abs.heap && gensDone s.abs && laidKept (boot_heap P) s.abs.heap
noncomputable abbrev Gf (s:SharedT):=Fast.tw4187177175401517315 view loose (Fast.tw5923862056798008813 YF.main.body) xt true s.abs
noncomputable abbrev we:=openGood view loose
noncomputable abbrev BV (w:World) (os:OsState):Prop:=(C7 w os).map (λs=>LT.YZ (Gf s))=some (we.1,we.2.1,we.2.2.1)
noncomputable abbrev BW (w:World) (os:OsState):Prop:=(C7 w os).map (λs=>LT.Y0 (Gf s))=some (we.2.2.2.1,we.2.2.2.2.1,we.2.2.2.2.2.2)
noncomputable abbrev BX (w:World) (os:OsState):Prop:=(C7 w os).map (λs=>LT.Y3 (Gf s))=some we.2.2.2.2.2.1
noncomputable abbrev BY (w:World) (os:OsState):Prop:=(C7 w os).map (λs=>(t8 w.params s,Hook.obs hk s.abs))=some (true,Hook.val hk w)
set_option maxHeartbeats 0 in
theorem ra1:∀ (w:World) (os:OsState),BV (w.withFollow "special-get-raises" false) os:=λw os=>by unfold BV;kernel_rfl
set_option maxHeartbeats 0 in
theorem rb1:∀ (w:World) (os:OsState),BV (w.withFollow "special-get-raises" true) os:=λw os=>by unfold BV;kernel_rfl
set_option maxHeartbeats 0 in
theorem ra2:∀ (w:World) (os:OsState),BW (w.withFollow "special-get-raises" false) os:=λw os=>by unfold BW;kernel_rfl
set_option maxHeartbeats 0 in
theorem rb2:∀ (w:World) (os:OsState),BW (w.withFollow "special-get-raises" true) os:=λw os=>by unfold BW;kernel_rfl
set_option maxHeartbeats 0 in
theorem ra3:∀ (w:World) (os:OsState),BX (w.withFollow "special-get-raises" false) os:=λw os=>by unfold BX;kernel_rfl
set_option maxHeartbeats 0 in
theorem rb3:∀ (w:World) (os:OsState),BX (w.withFollow "special-get-raises" true) os:=λw os=>by unfold BX;kernel_rfl
set_option maxHeartbeats 0 in
theorem ra4:∀ (w:World) (os:OsState),BY (w.withFollow "special-get-raises" false) os:=λw os=>by unfold BY;kernel_rfl
set_option maxHeartbeats 0 in
theorem rb4:∀ (w:World) (os:OsState),BY (w.withFollow "special-get-raises" true) os:=λw os=>by unfold BY;kernel_rfl
theorem left:LeftO YF view loose xt (Hook.obs hk) (Hook.val hk) NN :=
 LT.left (by rfl) (by decide) (λs=>by rfl) λw os=>LT.lots (byRow2 "special-get-raises" (P:=λw=>BV w os) (λw=>ra1 w os) (λw=>rb1 w os) w) (byRow2 "special-get-raises" (P:=λw=>BW w os) (λw=>ra2 w os) (λw=>rb2 w os) w) (byRow2 "special-get-raises" (P:=λw=>BX w os) (λw=>ra3 w os) (λw=>rb3 w os) w) (byRow2 "special-get-raises" (P:=λw=>BY w os) (λw=>ra4 w os) (λw=>rb4 w os) w)
end My
end
section
namespace L2
open PySem PySem.Spec PyProof.Rows
noncomputable abbrev Key:=Sum Int Str
noncomputable def rg:Key->Value->Bool
 | .inl k,v=>Value.isInt k v
 | .inr x,v=>Value.isStrOf x v
noncomputable def Hy (w:World):Key->Int
 | .inl k=>hashInt k
 | .inr x=>hashStr w x
theorem eQ:∀ {k:Key} {v:Value},rg k v=true->(∃ i t,k=Sum.inl i/\v=Value.int i t)\/(∃ x t,k=Sum.inr x/\v=Value.str x t)
 | .inl i,v,h=>by obtain ⟨t,e⟩:=Value.isInt_shape (k:=i) (v:=v) h;exact .inl ⟨i,t,rfl,e⟩
 | .inr x,v,h=>by obtain ⟨t,e⟩:=Value.isStrOf_shape (x:=x) (v:=v) h;exact .inr ⟨x,t,rfl,e⟩
theorem zo (i:Int) (t:Tok):rg (.inl i) (.int i t)=true:=by simp [rg,Value.isInt]
theorem zp (x:Str) (t:Tok):rg (.inr x) (.str x t)=true:=by simp [rg,Value.isStrOf]
theorem Ft (a b:Int):decide ((Sum.inl a:Key)=Sum.inl b)=(a == b):=by
 by_cases e:a=b
 ·subst e;simp
 ·have h:¬ (Sum.inl a:Key)=Sum.inl b:=λq=>e (Sum.inl.inj q);rw [MX h];exact (OO.mpr e).symm
theorem Fw (a b:Str):decide ((Sum.inr a:Key)=Sum.inr b)=decide (a=b):=by
 by_cases e:a=b
 ·subst e;simp
 ·have h:¬ (Sum.inr a:Key)=Sum.inr b:=λq=>e (Sum.inr.inj q);rw [MX h,MX e]
theorem Fu (a:Int) (b:Str):decide ((Sum.inl a:Key)=Sum.inr b)=false:=MX (λq=>nomatch q)
theorem Fv (a:Str) (b:Int):decide ((Sum.inr a:Key)=Sum.inl b)=false:=MX (λq=>nomatch q)
noncomputable def ft (prog:Program) (w:World):PySem.KeyKind prog w Key where
 is:=rg
 hash:=Hy w
 inj:=λv a b ha hb=>by
  rcases eQ ha with ⟨i,t,rfl,rfl⟩ | ⟨x,t,rfl,rfl⟩
  ·rcases eQ hb with ⟨j,u,rfl,e⟩ | ⟨y,u,rfl,e⟩
   ·injection e with e1 _;rw [e1]
   ·exact nomatch e
  ·rcases eQ hb with ⟨j,u,rfl,e⟩ | ⟨y,u,rfl,e⟩
   ·exact nomatch e
   ·injection e with e1 _;rw [e1]
 byValue:=λk v h=>by rcases eQ h with ⟨i,t,rfl,rfl⟩ | ⟨x,t,rfl,rfl⟩ <;> rfl
 pyHash:=λhv h=>by
  rcases eQ hv with ⟨i,t,rfl,rfl⟩ | ⟨x,t,rfl,rfl⟩
  ·exact wpAny_pyHash_int h
  ·exact wpAny_pyHash_str h
 eqBool:=λhu hv h=>by
  rcases eQ hu with ⟨i,t,rfl,rfl⟩ | ⟨x,t,rfl,rfl⟩
  ·rcases eQ hv with ⟨j,u,rfl,rfl⟩ | ⟨y,u,rfl,rfl⟩
   ·rw [Ft] at h;exact wpAny_eqBool_int h
   ·rw [Fu] at h;exact PR i t y u _ _ _ _ h
  ·rcases eQ hv with ⟨j,u,rfl,rfl⟩ | ⟨y,u,rfl,rfl⟩
   ·rw [Fv] at h;exact PU x t j u _ _ _ _ h
   ·rw [Fw] at h;exact wpAny_eqBool_str h
 «strs»:=λk x t v h=>by
  rcases eQ h with ⟨i,u,rfl,e⟩ | ⟨y,u,rfl,e⟩
  ·exact nomatch e
  ·injection e with e1 _;subst e1;cases v <;> rfl
theorem uN (prog:Program) (w:World) (i:Int) (t:Tok):(ft prog w).is (.inl i) (.int i t)=true:=zo i t
theorem uO (prog:Program) (w:World) (x:Str) (t:Tok):(ft prog w).is (.inr x) (.str x t)=true:=zp x t
inductive V where
 | Qj | bl (b:Bool) | int (i:Int) | str (x:Str) | Wh (b:Array UInt8) | ZS (b:UInt64) | ref (a:Addr) | ty (n:String)
 deriving DecidableEq
noncomputable def RelV:V->Value->Prop
 | .Qj,u=>u=Value.none
 | .bl b,u=>u=Value.bool b
 | .int i,u=>∃ t,u=Value.int i t
 | .str x,u=>∃ t,u=Value.str x t
 | .Wh b,u=>∃ t,u=Value.bytes b t
 | .ZS b,u=>∃ t,u=Value.float b t
 | .ref a,u=>u=Value.ref a
 | .ty n,u=>u=Value.type n
noncomputable abbrev Vals:List V->List Value->Prop:=Paired RelV
variable {xs:List V} {us:List Value}
theorem Vals.length (r:Vals xs us):xs.length=us.length:=Paired.length r
theorem Vals.get:∀ {xs:List V} {us:List Value} {i:Nat} {x:V},Vals xs us->xs[i]?=some x->∃ u,us[i]?=some u/\RelV x u
 | _,_,_,_,.nil,e=>by simp at e
 | _,_,0,_,.cons r _,e=>by simp at e;subst e;exact ⟨_,rfl,r⟩
 | _,_,i+1,x,.cons _ t,e=>by obtain ⟨u,h1,h2⟩:=Vals.get (i:=i) (x:=x) t (by simpa using e);exact ⟨u,by simpa using h1,h2⟩
variable {u:Value}
theorem Vals.set {x:V} (r:RelV x u):∀ {xs:List V} {us:List Value} (i:Nat),Vals xs us->Vals (xs.set i x) (us.set i u)
 | _,_,_,.nil=>.nil
 | _,_,0,.cons _ t=>.cons r t
 | _,_,i+1,.cons q t=>.cons q (Vals.set r i t)
theorem Vals.append:∀ {xs ys:List V} {us ws:List Value},Vals xs us->Vals ys ws->Vals (xs++ys) (us++ws)
 | _,_,_,_,.nil,s=>s
 | _,_,_,_,.cons r t,s=>.cons r (Vals.append t s)
theorem Vals.take:∀ {xs:List V} {us:List Value} (n:Nat),Vals xs us->Vals (xs.take n) (us.take n)
 | _,_,0,_=>.nil
 | _,_,_+1,.nil=>.nil
 | _,_,n+1,.cons r t=>.cons r (Vals.take n t)
theorem Vals.drop:∀ {xs:List V} {us:List Value} (n:Nat),Vals xs us->Vals (xs.drop n) (us.drop n)
 | _,_,0,r=>r
 | _,_,_+1,.nil=>.nil
 | _,_,n+1,.cons _ t=>Vals.drop n t
noncomputable def Ul:Option V->Option Value->Prop
 | some v,some u=>RelV v u
 | none,none=>True
 | _,_=>False
noncomputable def KV {κ:Type}:List (κ × V)->List (κ × Value)->Prop:=Paired λ(p:κ × V) (q:κ × Value)=>p.1=q.1/\RelV p.2 q.2
noncomputable def kV:Key->V
 | .inl i=>.int i
 | .inr x=>.str x
inductive HO where
 | lst (xs:List V)
 | tup (xs:List V)
 | dK (kvs:List (Key × V)) | dT (kvs:List (List Key × V))
 | set (S:Int->Bool) (n:Nat)
 | ins (C dx:Addr) (fs:List (Str × V))
 | own (x:Addr)
 | xd (fs:List (Str × V))
 | met (f x:Addr)
 | WO (lo hi:Int)
 | WQ (o:Obj) (u:HO)
 | X7 (ps:Array Value)
 | ext (φ:Heap->Prop)
noncomputable abbrev Hp:=Addr->Option HO
noncomputable def upd (H:Hp) (a:Addr) (o:HO):Hp:=λb=>if b=a then some o else H b
variable {H:Hp} {a:Addr}
theorem aI {o:HO}:upd H a o a=some o:=by unfold upd;rw [MW rfl]
variable {b:Addr}
theorem aR {o:HO} (h:b≠a):upd H a o b=H b:=by unfold upd;rw [MR h]
theorem aQ {o:HO} (h:H a=some o) (h':H b=none):a≠b:=by intro e;subst e;rw [h] at h';cases h'
section
variable (P:Program) (w:World)
noncomputable def QC (H:Hp) (h:Heap) (a:Addr):HO->Prop
 | .lst xs=>xs.length<=sizeLine/\∃ (its:List Value) (n:Nat),Vals xs its/\h.get? a=some { cls:=.type "list",data:=.seq its.toArray n }
 | .tup xs=>xs.length<=sizeLine/\∃ its:List Value,Vals xs its/\IsTup h a its.toArray
 | .dK kvs=>kvs.length<=sizeLine/\(a == sysModules)=false/\∃ vs,KV kvs vs/\h.DictOf (ft P w) a vs
 | .dT kvs=>kvs.length<=sizeLine/\(a == sysModules)=false/\∃ xs:List (List Key × Addr × Value),
   Paired (λ(p:List Key × V) (q:List Key × Addr × Value)=>p.1=q.1/\H q.2.1=some (.tup (p.1.map kV))/\RelV p.2 q.2.2) kvs xs /\
   ∃ o es ep,h.get? a=some o/\o.ExactDict/\o.data=.dict es ep/\es.toList=xs.map (entryOfKey (tupleKind (ft P w)))/\(xs.map (·.1)).Nodup
 | .set S n=>h.SetOf (intKind P w) a S n
 | .ins C dx fs=>H dx=some (.own a)/\fs.length<=1000/\dx≠a/\h.get? a=some (W.instObj C dx) /\
   ∃ mA,h.Ns1 dx mA/\(∀ f,Ul (fs.lookup f) (mA f))/\PySem.Within mA (fs.map (·.1))
 | .own _=>∃ o,h.get? a=some o
 | .xd fs=>∃ mA,h.Ns1 a mA/\∀ f,Ul (fs.lookup f) (mA f)
 | .WO lo hi=>∃ t u v,h.get? a=some { cls:=.type "range",data:=.fields #[.int lo t,.int hi u,.int 1 v] }
 | .WQ o u=>h.get? a=some o/\QC H h a u
 | .X7 ps=>h.get? a=some { cls:=.none,data:=.fields ps }
 | .met f x=>h.get? a=some (W.methodObj (.ref f) (.ref x))
 | .ext φ=>φ h/\(∃ o,h.get? a=some o)/\∀ h1 h2:Heap,φ h1->(∀ o,h1.get? a=some o->h2.get? a=some o)->φ h2
noncomputable def Um (H:Hp) (h:Heap):Prop:=∀ a o,H a=some o->QC P w H h a o
end
section
variable {P:Program} {w:World} {H H':Hp} {h h':Heap} {a:Addr} {o:HO}
theorem QC.lt (x:QC P w H h a o):a < h.objs.size:=by
 cases o with
 | lst xs=>obtain ⟨_,_,_,_,e⟩:=x;exact Ni e
 | tup xs=>obtain ⟨_,_,_,p⟩:=x;exact p.lt
 | dK kvs=>obtain ⟨_,_,_,_,o,_,_,e,_⟩:=x;exact Ni e
 | dT kvs=>obtain ⟨_,_,_,_,o,_,_,e,_⟩:=x;exact Ni e
 | set S n=>obtain ⟨o,_,_,_,e,_⟩:=x;exact Ni e
 | ins C dx fs=>obtain ⟨_,_,_,e,_⟩:=x;exact Ni e
 | own y=>obtain ⟨_,e⟩:=x;exact Ni e
 | xd fs=>obtain ⟨_,⟨_,_,_,e,_⟩,_⟩:=x;exact Ni e
 | WO lo hi=>obtain ⟨_,_,_,e⟩:=x;exact Ni e
 | WQ ob u=>obtain ⟨e,_⟩:=x;exact Ni e
 | X7 ps=>exact Ni (show h.get? a=some _ from x)
 | met f y=>exact Ni (show h.get? a=some _ from x)
 | ext φ=>obtain ⟨_,⟨_,e⟩,_⟩:=x;exact Ni e
theorem Paired.Y4 {α β:Type} {F G:α->β->Prop}:∀ {l₁:List α} {l₂:List β},Paired F l₁ l₂->(∀ a b,F a b->G a b)->Paired G l₁ l₂
 | _,_,.nil,_=>.nil
 | _,_,.cons r t,f=>.cons (f _ _ r) (Paired.Y4 t f)
theorem QC.stay (x:QC P w H h a o) (k:∀ b u,(b=a\/H b=some (.own a))->h.get? b=some u->h'.get? b=some u)
  (ho:∀ b,H b=some (.own a)->H' b=some (.own a)) (ht:∀ b xs,H b=some (.tup xs)->H' b=some (.tup xs)):QC P w H' h' a o:=by
 induction o with
 | lst xs=>obtain ⟨z,its,n,r,e⟩:=x;exact ⟨z,its,n,r,k _ _ (.inl rfl) e⟩
 | tup xs=>obtain ⟨z,its,r,ob,e,c⟩:=x;exact ⟨z,its,r,ob,k _ _ (.inl rfl) e,c⟩
 | dK kvs=>obtain ⟨z,y,vs,r,ob,es,ep,e,c⟩:=x;exact ⟨z,y,vs,r,ob,es,ep,k _ _ (.inl rfl) e,c⟩
 | dT kvs =>obtain ⟨z,y,xs,r,ob,es,ep,e,c⟩:=x;exact ⟨z,y,xs,Paired.Y4 r λp q z=>⟨z.1,ht _ _ z.2.1,z.2.2⟩,ob,es,ep,k _ _ (.inl rfl) e,c⟩
 | set S n=>obtain ⟨ob,es,ep,t,e,c⟩:=x;exact ⟨ob,es,ep,t,k _ _ (.inl rfl) e,c⟩
 | ins C dx fs =>obtain ⟨d,z,ne,e,mA,⟨od,es,ep,e2,c⟩,r⟩:=x;exact ⟨ho _ d,z,ne,k _ _ (.inl rfl) e,mA,⟨od,es,ep,k _ _ (.inr d) e2,c⟩,r⟩
 | own y=>obtain ⟨ob,e⟩:=x;exact ⟨ob,k _ _ (.inl rfl) e⟩
 | xd fs=>obtain ⟨mA,⟨od,es,ep,e,c⟩,r⟩:=x;exact ⟨mA,⟨od,es,ep,k _ _ (.inl rfl) e,c⟩,r⟩
 | WO lo hi=>obtain ⟨t,u,v,e⟩:=x;exact ⟨t,u,v,k _ _ (.inl rfl) e⟩
 | WQ ob u ih=>obtain ⟨e,q⟩:=x;exact ⟨k _ _ (.inl rfl) e,ih q⟩
 | X7 ps =>have e:h.get? a=some { cls:=.none,data:=.fields ps }:=x;show h'.get? a=some { cls:=.none,data:=.fields ps };exact k a _ (.inl rfl) e
 | met f y =>have e:h.get? a=some (W.methodObj (.ref f) (.ref y)):=x;show h'.get? a=some (W.methodObj (.ref f) (.ref y));exact k a _ (.inl rfl) e
 | ext φ=>obtain ⟨p,⟨o,e⟩,st⟩:=x;exact ⟨st _ _ p λo q=>k _ _ (.inl rfl) q,⟨o,k _ _ (.inl rfl) e⟩,st⟩
theorem Um.lt (x:Um P w H h) (e:H a=some o):a < h.objs.size:=(x a o e).lt
theorem Um.fresh (x:Um P w H h) (e:h.objs.size<=a):H a=none:=by
 cases q:H a with
 | none=>rfl
 | some u=>exact absurd (Nk (x.lt q) e) (Oh _)
theorem Um.kept (x:Um P w H h) (k:∀ b u,h.get? b=some u->h'.get? b=some u):Um P w H h':=λa o e =>
 (x a o e).stay (λb u _ q=>k b u q) (λ_ q=>q) λ_ _ q=>q
theorem Um.laid (x:Um P w H h) (k:∀ b u,h.get? b=some u->h'.get? b=some u) (hp:h.objs.size<=a) (new:QC P w (upd H a o) h' a o):Um P w (upd H a o) h':=λb u e=>by
 have hn:=x.fresh hp;by_cases hb:b=a
 ·subst hb;rw [aI] at e;cases e;exact new
 ·rw [aR hb] at e;exact (x b u e).stay (λc v _ q=>k c v q) (λc q=>by rw [aR (aQ q hn)];exact q) λc xs q=>by rw [aR (aQ q hn)];exact q
end
noncomputable def Rd (H:Hp) (a:Addr) (u:HO):Prop:=H a=some u\/∃ o,H a=some (.WQ o u)
variable {P:Program} {w:World} {h:Heap}
theorem Rd.ok {u:HO} (r:Rd H a u) (x:Um P w H h):QC P w H h a u:=by
 rcases r with r | ⟨o,r⟩
 ·exact x a u r
 ·obtain ⟨_,q⟩:=x a _ r;exact q
noncomputable def Y5:Option HO->Prop
 | some (.lst _)=>True
 | some (.dK _)=>True
 | some (.dT _)=>True
 | some (.set _ _)=>True
 | some (.ins _ _ _)=>True
 | some (.ext _)=>True
 | _=>False
section
variable {P:Program} {w:World} {H:Hp} {h h':Heap} {x e:Addr} {o':HO}
theorem Um.write (ok:Um P w H h) (mu:Y5 (H x)) (he:e=x\/H e=some (.own x)) (k:∀ b u,b≠e->h.get? b=some u->h'.get? b=some u) (YG:∃ u,h'.get? e=some u)
  (new:QC P w (upd H x o') h' x o'):Um P w (upd H x o') h':=λb u q=>by
 have Y6:∀ c y,H c=some (.own y)->c≠x:=λc y r z=>by subst z;rw [r] at mu;exact mu
 have ntup:∀ c xs,H c=some (.tup xs)->c≠x:=λc xs r z=>by subst z;rw [r] at mu;exact mu
 by_cases hb:b=x
 ·subst hb;rw [aI] at q;cases q;exact new
 ·rw [aR hb] at q;by_cases X8:b=e
  ·have q':H b=some (.own x):=by
    rcases he with z | z
    ·exact absurd (X8.trans z) hb
    ·rw [X8];exact z
   rw [q] at q';cases q';obtain ⟨v,hv⟩:=YG;exact ⟨v,by rw [X8];exact hv⟩
  ·refine (ok b u q).stay (λc v hc r=>k c v ?_ r) (λc r=>by rw [aR (Y6 c b r)];exact r) λc xs r=>by rw [aR (ntup c xs r)];exact r
   rcases hc with rfl | hc
   ·exact X8
   ·rintro rfl;rcases he with z | z
    ·exact Y6 c b hc z
    ·rw [hc] at z;cases z;exact hb rfl
end
structure Un (fs ex:List Addr) (H H':Hp) (h h':Heap):Prop where
 keep:∀ b o,h.get? b=some o->H b=none->b ∉ fs->b ∉ ex->h'.get? b=some o
 slot:∀ b o,h.get? b=some o->H b=none->b ∈ fs->b ∉ ex->∃ sl,h'.get? b=some { o with slots:=sl }
 free:∀ b o,h.get? b=some o->H b=none->b ∉ ex->H' b=none
 there:∀ b o,h.get? b=some o->b ∉ ex->∃ o',h'.get? b=some o'
 tups:∀ b xs,H b=some (.tup xs)->H' b=some (.tup xs)
 VJ:∀ b o u,H b=some (.WQ o u)->H' b=some (.WQ o u)
 VQ:∀ b ps,H b=some (.X7 ps)->∃ more,H' b=some (.X7 (ps++more))
section
variable {fs fs' ex ex':List Addr} {H H1 H2:Hp} {h h1 h2 h':Heap} {a x e:Addr} {o:HO}
theorem Un.any (u:Un fs ex H H1 h h1) {b:Addr} {ob:Obj} (q:h.get? b=some ob) (n:H b=none) (hx:b ∉ ex):∃ sl,h1.get? b=some { ob with slots:=sl }:=by
 by_cases hb:b ∈ fs
 ·exact u.slot b ob q n hb hx
 ·exact ⟨ob.slots,u.keep b ob q n hb hx⟩
theorem Un.kept (k:∀ b u,h.get? b=some u->h'.get? b=some u):Un fs ex H H h h' :=
 ⟨λb ob q _ _ _=>k b ob q,λb ob q _ _ _=>⟨ob.slots,k b ob q⟩,λ_ _ _ n _=>n,λb ob q _=>⟨ob,k b ob q⟩,λ_ _ q=>q,λ_ _ _ q=>q,λ_ ps q=>⟨#[],by rw [q];simp⟩⟩
theorem Un.refl:Un fs ex H H h h:=Un.kept λ_ _ q=>q
theorem Un.laid (k:∀ b u,h.get? b=some u->h'.get? b=some u) (hp:h.objs.size<=a) (hn:H a=none):Un fs ex H (upd H a o) h h' where
 keep:=λb u q _ _ _=>k b u q
 slot:=λb u q _ _ _=>⟨u.slots,k b u q⟩
 free:=λb u q n _=>by rw [aR (ND (Nk (Ni q) hp))];exact n
 there:=λb u q _=>⟨u,k b u q⟩
 tups:=λb xs q=>by rw [aR (aQ q hn)];exact q
 VJ:=λb u xs q=>by rw [aR (aQ q hn)];exact q
 VQ:=λb ps q=>⟨#[],by rw [aR (aQ q hn),q];simp⟩
theorem Un.write (mu:Y5 (H x)) (he:e=x\/H e=some (.own x)) (k:∀ b u,b≠e->h.get? b=some u->h'.get? b=some u) (YG:∃ u,h'.get? e=some u):Un fs ex H (upd H x o) h h':=by
 have hx:∀ b,H b=none->b≠x:=λb n z=>by subst z;rw [n] at mu;exact mu
 have hb:∀ b,H b=none->b≠e:=λb n z=>by
  subst z;rcases he with r | r
  ·exact hx b n r
  ·rw [n] at r;cases r
 have hm:∀ b u,H b=some u->¬ Y5 (some u)->b≠x:=λb u q nm z=>by subst z;rw [q] at mu;exact nm mu
 refine ⟨λb u q n _ _=>k b u (hb b n) q,λb u q n _ _=>⟨u.slots,k b u (hb b n) q⟩,λb u q n _=>by rw [aR (hx b n)];exact n,λb u q _=>?_,
  λb xs q=>by rw [aR (hm b _ q λz=>z)];exact q,λb u xs q=>by rw [aR (hm b _ q λz=>z)];exact q,λb ps q=>⟨#[],by rw [aR (hm b _ q λz=>z),q];simp⟩⟩
 by_cases X8:b=e
 ·subst X8;exact YG
 ·exact ⟨u,k b u X8 q⟩
end
noncomputable def ZT (h:Heap) (H:Hp):List Addr:=(List.range h.objs.size).filter λa=>(H a).isSome
noncomputable def sD (h:Heap) (H:Hp):Heap:=W.hideAll h (ZT h H)
theorem zl (h:Heap) (H:Hp):(sD h H).objs.size=h.objs.size:=W.hideAll_size _ _
variable {o:Obj}
theorem Ba (e:h.get? b=some o) (n:H b=none):(sD h H).get? b=some o :=
 W.hideAll_get _ e λhm=>by have q:(H b).isSome=true:=(List.mem_filter.mp hm).2;rw [n] at q;simp at q
theorem Dp (e:(sD h H).get? b=some o):h.get? b=some o/\H b=none:=by
 have e':h.get? b=some o:=W.of_hideAll (ZT h H) e;refine ⟨e',?_⟩
 cases q:H b with
 | none=>rfl
 | some x =>have hm:b ∈ ZT h H:=List.mem_filter.mpr ⟨List.mem_range.mpr (Ni e'),by simp [q]⟩;have z:(sD h H).get? b=none:=W.hideAll_none (ZT h H) hm;rw [z] at e;cases e
structure Mod (K:W.Frag) (mg:Str->Option Value) (base:Heap):Prop where
 YH:K.In base
 glob:base.Ns mainGlobals mg
 blt:∃ mb,base.Ns builtinsNs mb/\∀ x:Str,x≠"__name__"->mb x=bootBuiltins x
 nolimit:base.NoLimit
structure Cx where
 prog:Program
 w:World
 K:W.Frag
 mg:Str->Option Value
 base:Heap
 A:Around
 N:List Str
 s₀:Shared
 H₀:Hp
 env:Env
 outer:List Env
 stack:List Env
 ex:List Addr
 fn:Str->Bool
 calm:Bool
 pn:List (Addr × Obj)
 xe:Value->Shared->Prop
noncomputable def frs (l:List Env):List Addr:=l.filterMap (·.frame)
noncomputable abbrev Cx.fs (X:Cx):List Addr:=frs X.outer
noncomputable def Y7 (sc:Scope) (x:Str):Prop:=sc.names.lookup x=some .local\/sc.names.lookup x=some .cell\/sc.names.lookup x=some .free
noncomputable def Loc (sc:Scope) (x:Str):Prop:=sc.names.lookup x=some .local\/sc.names.lookup x=some .cell
noncomputable def Hq (env:Env) (h:Heap) (m:Str->Option Value) (x:Str) (u:Value):Prop :=
 (env.kindOf x=some .local/\m x=some u)\/((env.kindOf x=some .cell\/env.kindOf x=some .free)/\∃ c,env.cells.lookup x=some c/\h.IsCell c (some u))
structure Cx.Ok (X:Cx):Prop where
 mod:Mod X.K X.mg X.base
 kind:X.env.scope.kind=.function
 glob:X.env.globals=mainGlobals
 blt:X.env.builtins=builtinsNs
 above:X.s₀.heap.objs.size<=X.env.locals
 inj:∀ x y c,X.env.cells.lookup x=some c->X.env.cells.lookup y=some c->x=y
 has:∀ x,(X.env.kindOf x=some .cell\/X.env.kindOf x=some .free)->∃ c,X.env.cells.lookup x=some c
 Y8:∀ x c,X.fn x=true->X.env.cells.lookup x=some c->X.s₀.heap.objs.size<=c
 hd:X.calm=true->X.A.handled=none
 frames:X.A.frames=some X.stack
 stk:X.stack=X.outer\/(X.stack=X.env::X.outer/\X.env.frame=some X.env.locals)
 exf:∀ b ∈ X.ex,b≠X.env.locals/\∀ x c,X.env.cells.lookup x=some c->c≠b
 bs:∀ b o,X.base.get? b=some o->X.s₀.heap.get? b=some o/\X.H₀ b=none
 Xs:X.base.objs.size<=X.s₀.heap.objs.size
 WR:∀ b o,X.base.get? b=some o->b ∉ X.ex
 Xu:∀ b ∈ X.ex,b ∉ X.fs
 U5:X.s₀.heap.FunFrames X.base X.outer
 Yb:∀ b ∈ X.fs,X.H₀ b=none
structure Inv (X:Cx) (pins:List (Addr × Obj)) (σ:List (Option V)) (H:Hp) (s:Shared):Prop where
 ok:X.Ok
 os:s.os=X.s₀.os
 bare:AllBare s.gens
 base:Un X.fs X.ex X.H₀ H X.s₀.heap s.heap
 loc:∃ m,s.heap.Ns X.env.locals m/\∀ (i:Nat) (x:Str) (v:V),X.N[i]?=some x->σ[i]?=some (some v)->Y7 X.env.scope x->∃ u,RelV v u/\Hq X.env s.heap m x u
 cell:∀ x c,X.env.cells.lookup x=some c->∃ v,s.heap.IsCell c v
 free:H X.env.locals=none
 TX:∀ x c,X.env.cells.lookup x=some c->H c=none
 pin:∀ p ∈ X.pn++pins,s.heap.get? p.1=some p.2/\H p.1=none/\p.1≠X.env.locals/\p.1 ∉ X.fs/\∀ v,p.2.data≠.cell v
 hok:Um X.prog X.w H s.heap
 len:σ.length=X.N.length
section
variable {X:Cx} {pins:List (Addr × Obj)} {σ:List (Option V)} {H H':Hp} {s:Shared} {h':Heap}
theorem Cx.Ok.nofr (ok:X.Ok) {b:Addr} {o:Obj} (e:X.base.get? b=some o):b ∉ X.fs:=λhb=>by have:=(ok.U5.mem hb).1;rw [e] at this;cases this
theorem Inv.bs (I:Inv X pins σ H s):∀ b o,X.base.get? b=some o->s.heap.get? b=some o/\H b=none:=λb o e =>
 ⟨I.base.keep b o (I.ok.bs b o e).1 (I.ok.bs b o e).2 (I.ok.nofr e) (I.ok.WR b o e),I.base.free b o (I.ok.bs b o e).1 (I.ok.bs b o e).2 (I.ok.WR b o e)⟩
theorem Inv.bk (I:Inv X pins σ H s):∀ b o,X.base.get? b=some o->s.heap.get? b=some o:=λb o e=>(I.bs b o e).1
theorem Inv.mod (I:Inv X pins σ H s):Mod X.K X.mg X.base:=I.ok.mod
theorem Inv.TU (I:Inv X pins σ H s):X.K.In s.heap:=I.ok.mod.YH.keeps I.bk
theorem Inv.lt (I:Inv X pins σ H s):X.env.locals < s.heap.objs.size:=let ⟨_,hn,_⟩:=I.loc;hn.lt
theorem Inv.sz (I:Inv X pins σ H s):X.s₀.heap.objs.size<=s.heap.objs.size:=Nv I.ok.above (Og I.lt)
variable {a:Addr}
theorem Inv.nofs (I:Inv X pins σ H s) (h:s.heap.objs.size<=a):a ∉ X.fs:=λhb=>by obtain ⟨_,o,ho,_⟩:=I.ok.U5.mem hb;exact absurd (Nk (Ni ho) (Nv I.sz h)) (Oh _)
theorem Inv.Yc (I:Inv X pins σ H s):∀ x c,X.env.cells.lookup x=some c->c≠X.env.locals:=λx c e z=>by obtain ⟨v,o,ho,hd⟩:=I.cell x c e;obtain ⟨m,⟨o',es,ep,ho',hd',_⟩,_⟩:=I.loc;rw [z,ho'] at ho;cases ho;rw [hd'] at hd;cases hd
theorem Inv.U5 (I:Inv X pins σ H s):s.heap.FunFrames X.base X.outer:=by
 have all:∀ (l:List Env),(∀ b ∈ frs l,b ∈ X.fs)->X.s₀.heap.FunFrames X.base l->s.heap.FunFrames X.base l:=by
  intro l
  induction l with
  | nil=>intro _ _;trivial
  | cons env r ih =>intro hs hl;obtain ⟨hk,⟨L,o,hf,hn,ho,hd⟩,hr⟩:=hl;have hL:L ∈ X.fs:=hs L (by unfold frs;rw [Ou,hf];exact NB);obtain ⟨sl,e⟩:=I.base.slot L o ho (I.ok.Yb L hL) hL λz=>I.ok.Xu L z hL;exact ⟨hk,⟨L,_,hf,hn,e,hd⟩,ih (λb hb=>hs b (by unfold frs;rw [Ou,hf];exact Nj _ hb)) hr⟩
 exact all X.outer (λ_ hb=>hb) I.ok.U5
theorem Inv.stack (I:Inv X pins σ H s):s.heap.FunFrames X.base X.stack:=by
 rcases I.ok.stk with e | ⟨e,hf⟩
 ·rw [e];exact I.U5
 ·rw [e];obtain ⟨m,hn,_⟩:=I.loc;refine .cons (by rw [I.ok.kind];decide) hf hn ?_ I.U5;exact Heap.get?_none_of_le (Nv I.ok.Xs I.ok.above)
theorem Inv.VL (I:Inv X pins σ H s):∀ b ∈ frs X.stack,b ∈ X.env.locals::X.fs:=λb hb=>by
 rcases I.ok.stk with e | ⟨e,hf⟩
 ·rw [e] at hb;exact Nj _ hb
 ·rw [e] at hb;unfold frs at hb;rw [Ou,hf] at hb;exact hb
theorem Inv.Wi (I:Inv X pins σ H s):∀ b ∈ frs X.stack,H b=none:=λb hb=>by
 rcases Na.mp (I.VL b hb) with e | hb
 ·rw [e];exact I.free
 ·obtain ⟨_,o,ho,_⟩:=I.ok.U5.mem hb;exact I.base.free b o ho (I.ok.Yb b hb) λz=>I.ok.Xu b z hb
variable {g':Array GenState} {t':Nat} {d':Drawn} {ch:List Addr}
theorem Inv.step (I:Inv X pins σ H s)
  (hch:∀ b ∈ ch,(b ∈ X.ex\/X.s₀.heap.objs.size<=b)/\b≠X.env.locals/\(∀ x c,X.env.cells.lookup x=some c->c≠b)/\∀ p ∈ X.pn++pins,p.1≠b)
  (keep:∀ b o,b≠X.env.locals->b ∉ X.fs->b ∉ ch->s.heap.get? b=some o->H b=none->h'.get? b=some o)
  (slot:∀ b o,b≠X.env.locals->b ∈ X.fs->b ∉ ch->s.heap.get? b=some o->H b=none->∃ sl,h'.get? b=some { o with slots:=sl }) (free:∀ b o,b ∉ ch->s.heap.get? b=some o->H b=none->H' b=none)
  (there:∀ b o,b ∉ ch->s.heap.get? b=some o->∃ o',h'.get? b=some o')
  (tups:∀ b xs,H b=some (.tup xs)->H' b=some (.tup xs)) (VJ:∀ b o u,H b=some (.WQ o u)->H' b=some (.WQ o u)) (VQ:∀ b ps,H b=some (.X7 ps)->∃ more,H' b=some (.X7 (ps++more)))
  (ns:∀ m,s.heap.Ns X.env.locals m->h'.Ns X.env.locals m) (hok:Um X.prog X.w H' h') (hg:AllBare g') :
  Inv X pins σ H' { s with heap:=h',gens:=g',drawn:=d',toks:=t' }:=by
 have neL:∀ b o,X.s₀.heap.get? b=some o->b≠X.env.locals:=λb o e=>ND (Nk (Ni e) I.ok.above)
 have ZU:∀ b o,X.s₀.heap.get? b=some o->b ∉ X.ex->b ∉ ch:=λb o e hx hb=>by
  rcases (hch b hb).1 with z | z
  ·exact hx z
  ·exact absurd (Nk (Ni e) z) (Oh _)
 have cellK:∀ x c,X.env.cells.lookup x=some c->∀ v,s.heap.IsCell c v->h'.IsCell c v:=λx c e v ⟨o,ho,hd⟩=>by
  have Y9:c ∉ ch:=λz=>(hch c z).2.2.1 x c e rfl;by_cases hc:c ∈ X.fs
  ·obtain ⟨sl,q⟩:=slot c o (I.Yc x c e) hc Y9 ho (I.TX x c e);exact ⟨_,q,hd⟩
  ·exact ⟨o,keep c o (I.Yc x c e) hc Y9 ho (I.TX x c e),hd⟩
 refine ⟨I.ok,I.os,hg,⟨λb o e n hb hx=>?_,λb o e n hb hx=>?_,λb o e n hx=>?_,λb o e hx=>?_,λb xs e=>tups b xs (I.base.tups b xs e),λb o xs e=>VJ b o xs (I.base.VJ b o xs e),λb ps e=>?_⟩,?_,λx c e=>?_,?_,λx c e=>?_,λp hp=>?_,hok,I.len⟩
 ·exact keep b o (neL b o e) hb (ZU b o e hx) (I.base.keep b o e n hb hx) (I.base.free b o e n hx)
 ·obtain ⟨sl,e1⟩:=I.base.slot b o e n hb hx;obtain ⟨sl',e2⟩:=slot b _ (neL b o e) hb (ZU b o e hx) e1 (I.base.free b o e n hx);exact ⟨sl',e2⟩
 ·obtain ⟨o',e1⟩:=I.base.there b o e hx;exact free b o' (ZU b o e hx) e1 (I.base.free b o e n hx)
 ·obtain ⟨o',e1⟩:=I.base.there b o e hx;exact there b o' (ZU b o e hx) e1
 ·obtain ⟨m1,e1⟩:=I.base.VQ b ps e;obtain ⟨m2,e2⟩:=VQ b _ e1;exact ⟨m1++m2,by rw [e2,Array.append_assoc]⟩
 ·obtain ⟨m,hn,hl⟩:=I.loc;refine ⟨m,ns m hn,λi x v e1 e2 e3=>?_⟩;obtain ⟨u,r,l⟩:=hl i x v e1 e2 e3;refine ⟨u,r,?_⟩;rcases l with l | ⟨k,c,e,z⟩
  ·exact .inl l
  ·exact .inr ⟨k,c,e,cellK x c e _ z⟩
 ·obtain ⟨v,z⟩:=I.cell x c e;exact ⟨v,cellK x c e v z⟩
 ·obtain ⟨m,⟨o,_,_,ho,_⟩,_⟩:=I.loc;exact free _ o (λz=>(hch _ z).2.1 rfl) ho I.free
 ·obtain ⟨v,o,ho,hd⟩:=I.cell x c e;exact free c o (λz=>(hch c z).2.2.1 x c e rfl) ho (I.TX x c e)
 ·obtain ⟨e,n,ne,nf,d⟩:=I.pin p hp;have Y9:p.1 ∉ ch:=λz=>(hch p.1 z).2.2.2 p hp rfl;exact ⟨keep p.1 p.2 ne nf Y9 e n,free p.1 p.2 Y9 e n,ne,nf,d⟩
theorem Inv.un (I:Inv X pins σ H s) (u:Un X.fs [] H H' s.heap h') (hok:Um X.prog X.w H' h'):Inv X pins σ H' { s with heap:=h',toks:=t' }:=by
 obtain ⟨m,⟨o,es,ep,ho,r⟩,_⟩:=id I.loc;obtain ⟨sl,hL⟩:=u.any ho I.free (by simp)
 exact I.step (g':=s.gens) (d':=s.drawn) (ch:=[]) (λ_ z=>nomatch z) (λb o _ hb _ e n=>u.keep b o e n hb (by simp)) (λb o _ hb _ e n=>u.slot b o e n hb (by simp)) (λb o _ e n=>u.free b o e n (by simp)) (λb o _ e=>u.there b o e (by simp)) u.tups u.VJ u.VQ (λm' hm=>by
  obtain ⟨o',es',ep',ho',r'⟩:=hm;rw [ho] at ho';cases ho';exact ⟨_,es',ep',hL,r'⟩) hok I.bare
theorem Inv.call (I:Inv X pins σ H s) (u:Un (frs X.stack) ch H H' s.heap h') (hok:Um X.prog X.w H' h') (hg:AllBare g')
  (hch:∀ b ∈ ch,(b ∈ X.ex\/X.s₀.heap.objs.size<=b)/\b≠X.env.locals/\(∀ x c,X.env.cells.lookup x=some c->c≠b)/\∀ p ∈ X.pn++pins,p.1≠b) :
  Inv X pins σ H' { s with heap:=h',gens:=g',drawn:=d',toks:=t' }:=by
 obtain ⟨m,⟨o,es,ep,ho,r⟩,_⟩:=id I.loc;obtain ⟨sl,hL⟩:=u.any ho I.free λz=>(hch _ z).2.1 rfl
 exact I.step (ch:=ch) hch (λb o hL hb hc e n=>u.keep b o e n (λz=>(Na.mp (I.VL b z)).elim hL hb) hc) (λb o _ _ hc e n=>u.any e n hc) (λb o hc e n=>u.free b o e n hc) (λb o hc e=>u.there b o e hc) u.tups u.VJ u.VQ (λm' hm=>by
  obtain ⟨o',es',ep',ho',r'⟩:=hm;rw [ho] at ho';cases ho';exact ⟨_,es',ep',hL,r'⟩) hok hg
theorem Inv.turned {it:Addr} (I:Inv X pins σ H s) (k:∀ b o,b≠it->s.heap.get? b=some o->h'.get? b=some o) (hn:H it=none) (hL:it≠X.env.locals)
  (h1:it ∈ X.ex\/X.s₀.heap.objs.size<=it) (h2:∀ x c,X.env.cells.lookup x=some c->c≠it) (h3:∀ p ∈ X.pn++pins,p.1≠it):Inv X pins σ H { s with heap:=h',toks:=t' }:=by
 have nit:∀ b u,H b=some u->b≠it:=λb u e z=>by rw [z,hn] at e;cases e
 refine I.step (g':=s.gens) (d':=s.drawn) (ch:=[it]) (λb hb=>?_) (λb o _ _ hc e _=>k b o (λz=>hc (by simp [z])) e) (λb o _ _ hc e _=>⟨o.slots,k b o (λz=>hc (by simp [z])) e⟩) (λ_ _ _ _ n=>n)
  (λb o hc e=>⟨o,k b o (λz=>hc (by simp [z])) e⟩) (λ_ _ e=>e) (λ_ _ _ e=>e) (λb ps e=>⟨#[],by rw [e];simp⟩) (λm hm=>?_) (λb u e=>?_) I.bare
 ·have e:b=it:=by simpa using hb
  subst e;exact ⟨h1,hL,h2,h3⟩
 ·obtain ⟨o,es,ep,ho,r⟩:=hm;exact ⟨o,es,ep,k _ o (Nz hL) ho,r⟩
 ·refine (I.hok b u e).stay (λc v hc q=>k c v ?_ q) (λ_ q=>q) λ_ _ q=>q;rcases hc with z | z
  ·rw [z];exact nit b u e
  ·exact nit c _ z
theorem Inv.tok (I:Inv X pins σ H s) (t:Nat):Inv X pins σ H { s with toks:=t }:=I.un (h':=s.heap) (t':=t) Un.refl I.hok
theorem Inv.kept (I:Inv X pins σ H s) (k:∀ b u,s.heap.get? b=some u->h'.get? b=some u):Inv X pins σ H { s with heap:=h',toks:=t' }:=I.un (Un.kept k) (I.hok.kept k)
variable {o:HO}
theorem Inv.laid (I:Inv X pins σ H s) (k:∀ b u,s.heap.get? b=some u->h'.get? b=some u) (hp:s.heap.objs.size<=a) (new:QC X.prog X.w (upd H a o) h' a o) :
  Inv X pins σ (upd H a o) { s with heap:=h',toks:=t' }:=I.un (Un.laid k hp (I.hok.fresh hp)) (I.hok.laid k hp new)
theorem Inv.write {x e:Addr} (I:Inv X pins σ H s) (mu:Y5 (H x)) (he:e=x\/H e=some (.own x)) (k:∀ b u,b≠e->s.heap.get? b=some u->h'.get? b=some u) (YG:∃ u,h'.get? e=some u)
  (new:QC X.prog X.w (upd H x o) h' x o):Inv X pins σ (upd H x o) { s with heap:=h',toks:=t' }:=I.un (Un.write mu he k YG) (I.hok.write mu he k YG new)
theorem Inv.Wj {VA:List (Addr × Obj)} (I:Inv X pins σ H s) (h:∀ p ∈ VA,s.heap.get? p.1=some p.2/\H p.1=none/\p.1≠X.env.locals/\p.1 ∉ X.fs/\∀ v,p.2.data≠.cell v):Inv X VA σ H s :=
 ⟨I.ok,I.os,I.bare,I.base,I.loc,I.cell,I.free,I.TX,λp hp=>(Nh.mp hp).elim (λz=>I.pin p (Oa _ z)) (h p),I.hok,I.len⟩
variable {i:Nat} {x:Str}
theorem uQ {N:List Str} (hN:N.Nodup) {j:Nat} (a:N[i]?=some x) (b:N[j]?=some x):i=j:=by obtain ⟨h1,e1⟩:=Nu.mp a;obtain ⟨h2,e2⟩:=Nu.mp b;exact (List.getElem_inj hN).mp (e1.trans e2.symm)
variable {M:Model} {A:Around} {v:V} {u:Value}
theorem rP {E:Value->Shared->Prop} {Q:Unit->Shared->Prop} (I:Inv X pins σ H s) (hN:X.N.Nodup) (hi:X.N[i]?=some x) (hx:Loc X.env.scope x) (r:RelV v u)
  (h:∀ s',Inv X pins (σ.set i (some v)) H s'->(∃ a,Heap.SameBut a s.heap s'.heap/\(a=X.env.locals\/X.env.cells.lookup x=some a))->Q () s') (hf:X.fn x=true\/X.env.scope.names.lookup x=some .local:=by first | exact .inl rfl | exact .inr rfl | assumption):wpAny M A (storeName X.env x u) Q E s:=by
 obtain ⟨m,hn,hl⟩:=id I.loc;have hcls:(X.env.scope.kind == .class || (X.env.scope.kind == .module && X.env.locals != X.env.globals))=false:=by rw [I.ok.kind];rfl
 have hiσ:i < σ.length:=by rw [I.len];exact (Nu.mp hi).1
 have Yc:=I.Yc
 have tracked:∀ {a:Addr} {h':Heap},(∃ o,s.heap.get? a=some o/\H a=none)->Heap.SameBut a s.heap h'->Um X.prog X.w H h':=λ{a h'} ha hs b ob e=>by
  obtain ⟨_,_,hfree⟩:=ha;refine (I.hok b ob e).stay (λc w' hc q=>(hs.2 c ?_).trans q) (λ_ q=>q) λ_ _ q=>q;rintro rfl;rcases hc with rfl | hc
  ·rw [hfree] at e;cases e
  ·rw [hfree] at hc;cases hc
 rcases hx with hk | hk
 ·refine wpAny_storeName_local hk hn (λh' hn' hs=>?_) hcls;obtain ⟨oL,_,_,hoL,_⟩:=id hn;refine h _ ⟨I.ok,I.os,I.bare,⟨λb o e n hb hx=>?_,λb o e n hb hx=>?_,I.base.free,λb o e hx=>?_,I.base.tups,I.base.VJ,I.base.VQ⟩,⟨_,hn',λj y v' e1 e2 e3=>?_⟩,λy c e=>?_,I.free,I.TX,λp hp=>?_,tracked ⟨oL,hoL,I.free⟩ hs,by simpa using I.len⟩ ⟨_,hs,.inl rfl⟩
  ·exact (hs.2 b (ND (Nk (Ni e) I.ok.above))).trans (I.base.keep b o e n hb hx)
  ·obtain ⟨sl,e1⟩:=I.base.slot b o e n hb hx;exact ⟨sl,(hs.2 b (ND (Nk (Ni e) I.ok.above))).trans e1⟩
  ·obtain ⟨o',e1⟩:=I.base.there b o e hx;exact ⟨o',(hs.2 b (ND (Nk (Ni e) I.ok.above))).trans e1⟩
  ·by_cases hj:j=i
   ·subst hj;rw [hi] at e1;cases e1;rw [List.getElem?_set_self hiσ] at e2;cases e2;exact ⟨u,r,.inl ⟨hk,by simp⟩⟩
   ·rw [List.getElem?_set_ne (Nz hj)] at e2;obtain ⟨u',r',q⟩:=hl j y v' e1 e2 e3;refine ⟨u',r',?_⟩;rcases q with ⟨k,e⟩ | ⟨k,c,e,z⟩
    ·refine .inl ⟨k,?_⟩;have:y≠x:=λe=>hj (uQ hN e1 (e ▸ hi));simp [this,e]
    ·exact .inr ⟨k,c,e,z.sameBut hs (Yc y c e)⟩
  ·obtain ⟨w',z⟩:=I.cell y c e;exact ⟨w',z.sameBut hs (Yc y c e)⟩
  ·obtain ⟨e,n,ne,nf,d⟩:=I.pin p hp;exact ⟨(hs.2 p.1 ne).trans e,n,ne,nf,d⟩
 ·have hfn:X.fn x=true:=by
   rcases hf with z | z
   ·exact z
   ·rw [z] at hk;cases hk
  obtain ⟨c,hc⟩:=I.ok.has x (.inl hk);obtain ⟨w',z⟩:=I.cell x c hc;refine wpAny_storeName_cell I.ok.kind hk hc z (λh' hc' hs=>?_);obtain ⟨oc,hoc,hocd⟩:=id z;refine h { s with heap:=h' } ⟨I.ok,I.os,I.bare,⟨λb o e n hb hx=>?_,λb o e n hb hx=>?_,I.base.free,λb o e hx=>?_,I.base.tups,I.base.VJ,I.base.VQ⟩,⟨m,hn.sameBut hs (Nz (Yc x c hc)),λj y v' e1 e2 e3=>?_⟩,λy c' e=>?_,I.free,I.TX,λp hp=>?_,tracked ⟨oc,hoc,I.TX x c hc⟩ hs,by simpa using I.len⟩ ⟨c,hs,.inr hc⟩
  ·exact (hs.2 b (ND (Nk (Ni e) (I.ok.Y8 x c hfn hc)))).trans (I.base.keep b o e n hb hx)
  ·obtain ⟨sl,e1⟩:=I.base.slot b o e n hb hx;exact ⟨sl,(hs.2 b (ND (Nk (Ni e) (I.ok.Y8 x c hfn hc)))).trans e1⟩
  ·obtain ⟨o',e1⟩:=I.base.there b o e hx;exact ⟨o',(hs.2 b (ND (Nk (Ni e) (I.ok.Y8 x c hfn hc)))).trans e1⟩
  ·by_cases hj:j=i
   ·subst hj;rw [hi] at e1;cases e1;rw [List.getElem?_set_self hiσ] at e2;cases e2;exact ⟨u,r,.inr ⟨.inl hk,c,hc,hc'⟩⟩
   ·rw [List.getElem?_set_ne (Nz hj)] at e2;obtain ⟨u',r',q⟩:=hl j y v' e1 e2 e3;refine ⟨u',r',?_⟩;rcases q with q | ⟨k,c',e,z'⟩
    ·exact .inl q
    ·refine .inr ⟨k,c',e,z'.sameBut hs ?_⟩;rintro rfl;exact hj (uQ hN e1 (I.ok.inj _ _ _ e hc ▸ hi))
  ·by_cases hcc:c'=c
   ·subst hcc;exact ⟨_,hc'⟩
   ·obtain ⟨w2,z2⟩:=I.cell y c' e;exact ⟨w2,z2.sameBut hs hcc⟩
  ·obtain ⟨e,n,ne,nf,d⟩:=I.pin p hp;refine ⟨(hs.2 p.1 ?_).trans e,n,ne,nf,d⟩;intro q;rw [q,hoc] at e;have q':oc=p.2:=NK e;exact d w' (by rw [<- q'];exact hocd)
theorem jU {E:Value->Shared->Prop} {Q:Unit->Shared->Prop} (I:Inv X pins σ H s) (hN:X.N.Nodup) (hi:X.N[i]?=some x) (hx:Loc X.env.scope x) (r:RelV v u)
  (h:∀ s',Inv X pins (σ.set i (some v)) H s'->Q () s') (hf:X.fn x=true\/X.env.scope.names.lookup x=some .local:=by first | exact .inl rfl | exact .inr rfl | assumption):wpAny M A (storeName X.env x u) Q E s :=
 rP I hN hi hx r (λs' I' _=>h s' I') hf
theorem Inv.Za {s':Shared} (I:Inv X pins σ H s) (ho:s'.os=s.os) (u:Un (frs X.stack) ch H H' s.heap s'.heap) (hok:Um X.prog X.w H' s'.heap) (hg:AllBare s'.gens)
  (hch:∀ b ∈ ch,(b ∈ X.ex\/X.s₀.heap.objs.size<=b)/\b≠X.env.locals/\(∀ x c,X.env.cells.lookup x=some c->c≠b)/\∀ p ∈ X.pn++pins,p.1≠b):Inv X pins σ H' s':=by
 obtain ⟨h',g',d',t',o'⟩:=s';have e:o'=s.os:=ho;subst e;exact I.call (g':=g') (t':=t') (d':=d') u hok hg hch
end
noncomputable abbrev XK:=Value->Option Addr->Hp->Prop
noncomputable abbrev St:=List (Option V)
noncomputable abbrev VK:=V->Hp->Prop
noncomputable abbrev TE:=St->Hp->VK->Prop
noncomputable abbrev TT:=St->Hp->(Bool->Hp->Prop)->Prop
noncomputable abbrev TA:=St->Hp->(List V->Hp->Prop)->Prop
structure i5 where
 nx:St->Hp->Prop
 rt:VK
 bk:St->Hp->Prop:=λ_ _=>False
 ct:St->Hp->Prop:=λ_ _=>False
noncomputable abbrev TS:=i5->St->Hp->Prop
noncomputable def EP (X:Cx) (pins:List (Addr × Obj)) (σ:St) (Q:VK) (u:Value) (s':Shared):Prop:=∃ v H',Inv X pins σ H' s'/\RelV v u/\Q v H'
noncomputable def TP (X:Cx) (pins:List (Addr × Obj)) (σ:St) (Q:Bool->Hp->Prop) (b:Bool) (s':Shared):Prop:=∃ H',Inv X pins σ H' s'/\Q b H'
noncomputable def AP (X:Cx) (pins:List (Addr × Obj)) (σ:St) (Q:List V->Hp->Prop) (us:List Value) (s':Shared):Prop:=∃ vs H',Inv X pins σ H' s'/\Vals vs us/\Q vs H'
noncomputable def SP (X:Cx) (pins:List (Addr × Obj)) (D:i5) (f:Flow) (s':Shared):Prop :=
 match f with
 | .next=>∃ σ' H',Inv X pins σ' H' s'/\D.nx σ' H'
 | .brk=>∃ σ' H',Inv X pins σ' H' s'/\D.bk σ' H'
 | .cont=>∃ σ' H',Inv X pins σ' H' s'/\D.ct σ' H'
 | .ret u=>∃ v σ' H',Inv X pins σ' H' s'/\RelV v u/\D.rt v H'
noncomputable def PE (X:Cx) (e:Expr) (t:TE):Prop :=
 ∀ (pins:List (Addr × Obj)) (s:Shared) (σ:St) (H:Hp) (Q:VK),Inv X pins σ H s->t σ H Q->wpAny (model X.prog X.w) X.A (eval e X.env) (EP X pins σ Q) X.xe s
noncomputable def PT (X:Cx) (e:Expr) (t:TT):Prop :=
 ∀ (pins:List (Addr × Obj)) (s:Shared) (σ:St) (H:Hp) (Q:Bool->Hp->Prop),Inv X pins σ H s->t σ H Q->wpAny (model X.prog X.w) X.A (isTrue e X.env (eval e X.env)) (TP X pins σ Q) X.xe s
noncomputable def PW (X:Cx) (e:Expr) (t:TT):Prop :=
 ∀ (whole:Sem Value) (pins:List (Addr × Obj)) (s:Shared) (σ:St) (H:Hp) (Q:Bool->Hp->Prop),Inv X pins σ H s->t σ H Q->wpAny (model X.prog X.w) X.A (isTrue e X.env whole) (TP X pins σ Q) X.xe s
variable {X:Cx}
theorem PW.pt {e:Expr} {t:TT} (h:PW X e t):PT X e t:=h _
noncomputable def PA (X:Cx) (es:List Expr) (t:TA):Prop :=
 ∀ (pos:Pos) (pins:List (Addr × Obj)) (s:Shared) (σ:St) (H:Hp) (Q:List V->Hp->Prop),Inv X pins σ H s->t σ H Q->wpAny (model X.prog X.w) X.A (spliced (backTo pos (starEach es X.env))) (AP X pins σ Q) X.xe s
noncomputable def PS (X:Cx) (st:Stmt) (t:TS):Prop :=
 ∀ (pins:List (Addr × Obj)) (s:Shared) (σ:St) (H:Hp) (D:i5),Inv X pins σ H s->t D σ H->wpAny (model X.prog X.w) X.A (exec st X.env) (SP X pins D) X.xe s
noncomputable def V4 (X:Cx) (st:List Stmt) (t:TS):Prop :=
 ∀ (pins:List (Addr × Obj)) (s:Shared) (σ:St) (H:Hp) (D:i5),Inv X pins σ H s->t D σ H->wpAny (model X.prog X.w) X.A (execs st X.env) (SP X pins D) X.xe s
variable {M:Model} {A:Around} {s:Shared}
theorem Qt {α:Type} {t:Sem α} {Q Q':α->Shared->Prop} {E:Value->Shared->Prop} (h:wpAny M A t Q E s) (hQ:∀ a s,Q a s->Q' a s):wpAny M A t Q' E s:=O2 h hQ λ_ _ x=>x
section
variable {X:Cx}
noncomputable def fB (i:Nat):TE:=λσ H Q=>∃ v,σ[i]?=some (some v)/\Q v H
noncomputable def tC (v:V):TE:=λ_ H Q=>Q v H
variable {x:Str}
theorem FM {i:Nat} {pos:Pos} (hN:X.N[i]?=some x) (hv:Y7 X.env.scope x) (hd:(x == ("__debug__":Str))=false:=by decide) (hcd:(x == ("__classdict__":Str))=false:=by decide):PE X (.Name x pos) (fB i):=by
 intro pins s σ H Q I h;obtain ⟨v,e,h⟩:=h;obtain ⟨m,hn,hl⟩:=I.loc;obtain ⟨u,r,l⟩:=hl i x v hN e hv;have fin:EP X pins σ Q u s:=⟨v,H,I,r,h⟩
 rcases l with ⟨hk,hm⟩ | ⟨hk,c,hc,hcell⟩
 ·exact wpAny_Name (wpAny_loadName_local I.ok.kind hk hn hm fin) hd
 ·rcases hk with hk | hk
  ·exact wpAny_Name (wpAny_loadName_cell I.ok.kind hk hc hcell fin) hd
  ·exact wpAny_Name (wpAny_loadName_free I.ok.kind hk hc hcell fin hcd) hd
theorem aE {i j pos}:PE X (.Constant (.int i) j pos) (tC (.int i)):=λ_ _ _ H _ I h=>wpAny_Constant_int ⟨.int i,H,I.tok _,⟨_,rfl⟩,h⟩
theorem eH {b j pos}:PE X (.Constant (.bool b) j pos) (tC (.bl b)):=λ_ _ _ H _ I h=>Constant_bool ⟨.bl b,H,I,rfl,h⟩
theorem iQ {j pos}:PE X (.Constant .none j pos) (tC .Qj):=λ_ _ _ H _ I h=>Constant_none ⟨.Qj,H,I,rfl,h⟩
theorem bC {x j pos}:PE X (.Constant (.str x) j pos) (tC (.str x)):=λ_ _ _ H _ I h=>Calls.Constant_str ⟨.str x,H,I.tok _,⟨_,rfl⟩,h⟩
noncomputable def Gl (X:Cx) (x:Str):Prop:=X.env.kindOf x=some .globalImplicit
variable {pins:List (Addr × Obj)} {s:Shared} {σ:St} {H:Hp} {u:Value}
theorem nU {E:Value->Shared->Prop} {pos:Pos} {Q:Value->Shared->Prop} (I:Inv X pins σ H s) (hg:Gl X x) (hm:X.mg x=some u) (h:Q u s)
  (hd:(x == ("__debug__":Str))=false:=by decide):wpAny (model X.prog X.w) X.A (eval (.Name x pos) X.env) Q E s :=
 Calls.Name_function_global I.ok.kind hg (Calls.loadGlobal_global (by rw [I.ok.glob];exact I.mod.glob.keeps I.bk) hm h) hd
theorem kM {E:Value->Shared->Prop} {pos:Pos} {Q:Value->Shared->Prop} (I:Inv X pins σ H s) (hg:Gl X x) (hm:X.mg x=none) (hv:bootBuiltins x=some u) (h:Q u s)
  (hn:x≠"__name__":=by decide) (hd:(x == ("__debug__":Str))=false:=by decide):wpAny (model X.prog X.w) X.A (eval (.Name x pos) X.env) Q E s:=by
 obtain ⟨mb,h1,h2⟩:=I.mod.blt;exact Calls.Name_function_global I.ok.kind hg (Calls.loadGlobal_builtin (by rw [I.ok.glob];exact I.mod.glob.keeps I.bk) hm (by rw [I.ok.blt];exact h1.keeps I.bk) ((h2 x hn).trans hv) h) hd
variable {v:V}
theorem bQ {pos:Pos} (hg:Gl X x) (hm:X.mg x=some u) (r:RelV v u) (hd:(x == ("__debug__":Str))=false:=by decide):PE X (.Name x pos) (tC v) :=
 λ_ _ _ H _ I h=>nU I hg hm ⟨v,H,I,r,h⟩ hd
theorem gA {pos:Pos} (hg:Gl X x) (hm:X.mg x=none) (hv:bootBuiltins x=some u) (r:RelV v u) (hn:x≠"__name__":=by decide) (hd:(x == ("__debug__":Str))=false:=by decide):PE X (.Name x pos) (tC v) :=
 λ_ _ _ H _ I h=>kM I hg hm hv ⟨v,H,I,r,h⟩ hn hd
variable {a b:Expr} {ta tb:TE} {pos:Pos}
variable {tA ZV:TT} {rest:List Expr}
noncomputable def HG (t u:TT):TT:=λσ H Q=>t σ H λc H1=>if c=true then u σ H1 Q else Q false H1
noncomputable def tOr (t u:TT):TT:=λσ H Q=>t σ H λc H1=>if c=true then Q true H1 else u σ H1 Q
noncomputable def Gk (t:TT):TT:=λσ H Q=>t σ H λc H1=>Q (!c) H1
theorem DH (ha:PT X a tA):PW X (.BoolOp .And [a] pos) tA:=by
 intro wh pins s σ H Q I h;refine isTrue_and (Qt (ha pins s σ H Q I h) λc s1 e=>?_)
 cases c with
 | true=>exact isTrue_and_nil e
 | false=>exact e
theorem fJ (ha:PT X a tA):PW X (.BoolOp .Or [a] pos) tA:=by
 intro wh pins s σ H Q I h;refine isTrue_or (Qt (ha pins s σ H Q I h) λc s1 e=>?_)
 cases c with
 | false=>exact isTrue_or_nil e
 | true=>exact e
theorem FW (ha:PT X a tA) (hb:PW X (.BoolOp .And (b::rest) pos) ZV):PW X (.BoolOp .And (a::b::rest) pos) (HG tA ZV):=by
 intro wh pins s σ H Q I h;refine isTrue_and (Qt (ha pins s σ H _ I h) λc s1 ⟨H1,I1,q1⟩=>?_)
 cases c with
 | true=>exact hb wh pins s1 σ H1 Q I1 q1
 | false=>exact ⟨H1,I1,q1⟩
theorem gq (ha:PT X a tA) (hb:PW X (.BoolOp .Or (b::rest) pos) ZV):PW X (.BoolOp .Or (a::b::rest) pos) (tOr tA ZV):=by
 intro wh pins s σ H Q I h;refine isTrue_or (Qt (ha pins s σ H _ I h) λc s1 ⟨H1,I1,q1⟩=>?_)
 cases c with
 | true=>exact ⟨H1,I1,q1⟩
 | false=>exact hb wh pins s1 σ H1 Q I1 q1
theorem cR (ha:PT X a tA):PT X (.UnaryOp .Not a pos) (Gk tA):=by intro pins s σ H Q I h;exact isTrue_not (ha pins s σ H (λc H1=>Q (!c) H1) I h)
noncomputable def Cj (ta tb:TE):TE:=λσ H Q=>ta σ H λx H1=>∃ c,x=.bl c/\if c=true then tb σ H1 Q else Q (.bl false) H1
noncomputable def Hi (ta tb:TE):TE:=λσ H Q=>ta σ H λx H1=>∃ c,x=.bl c/\if c=true then Q (.bl true) H1 else tb σ H1 Q
noncomputable def EK (ta:TE):TE:=λσ H Q=>ta σ H λx H1=>∃ c,x=.bl c/\Q (.bl (!c)) H1
theorem gO {op} {t:TE} (h:PE X a t):PE X (.BoolOp op [a] pos) t:=λpins s σ H Q I hw=>BoolOp_one (h pins s σ H Q I hw)
theorem hZ (ha:PE X a ta) (hb:PE X (.BoolOp .And (b::rest) pos) tb):PE X (.BoolOp .And (a::b::rest) pos) (Cj ta tb):=by
 intro pins s σ H Q I h;refine BoolOp_and (Qt (ha pins s σ H _ I h) λv s1 ⟨x,H1,I1,r1,q1⟩=>?_);obtain ⟨c,rfl,q1⟩:=q1;cases r1;refine N3 ?_
 cases c with
 | true=>exact hb pins s1 σ H1 Q I1 q1
 | false=>exact ⟨.bl false,H1,I1,rfl,q1⟩
theorem yp (ha:PE X a ta) (hb:PE X (.BoolOp .Or (b::rest) pos) tb):PE X (.BoolOp .Or (a::b::rest) pos) (Hi ta tb):=by
 intro pins s σ H Q I h;refine BoolOp_or (Qt (ha pins s σ H _ I h) λv s1 ⟨x,H1,I1,r1,q1⟩=>?_);obtain ⟨c,rfl,q1⟩:=q1;cases r1;refine N3 ?_
 cases c with
 | false=>exact hb pins s1 σ H1 Q I1 q1
 | true=>exact ⟨.bl true,H1,I1,rfl,q1⟩
theorem FL (ha:PE X a ta):PE X (.UnaryOp .Not a pos) (EK ta):=by intro pins s σ H Q I h;refine UnaryOp_ (Qt (ha pins s σ H _ I h) λv s1 ⟨x,H1,I1,r1,q1⟩=>?_);obtain ⟨c,rfl,q1⟩:=q1;cases r1;exact not_of (N3 ⟨.bl (!c),H1,I1,rfl,q1⟩)
noncomputable def tIf (t:TT) (ta tb:TE):TE:=λσ H Q=>t σ H λc H1=>if c=true then ta σ H1 Q else tb σ H1 Q
theorem g7 {c:Expr} (hc:PT X c tA) (ha:PE X a ta) (hb:PE X b tb):PE X (.IfExp c a b pos) (tIf tA ta tb):=by
 intro pins s σ H Q I h;refine wpAny_IfExp (Qt (hc pins s σ H _ I h) λd s1 ⟨H1,I1,q1⟩=>?_)
 cases d with
 | true=>exact ha pins s1 σ H1 Q I1 q1
 | false=>exact hb pins s1 σ H1 Q I1 q1
end
noncomputable def Qp (K:W.Frag) (H:Hp) (a:Addr) (xs:List V):Prop :=
 Rd H a (.lst xs) \/
  ∃ (o:Obj) (its:Array Value) (n:Nat),K.lookup a=some o/\o.cls=.type "list"/\o.dict=none/\o.data=.seq its n/\its.size<=sizeLine/\Vals xs its.toList
noncomputable def QH (K:W.Frag) (H:Hp) (a:Addr) (xs:List V):Prop :=
 Rd H a (.tup xs) \/
  ∃ (o:Obj) (its:Array Value) (n:Nat),K.lookup a=some o/\o.cls=.type "tuple"/\o.data=.seq its n/\its.size<=sizeLine/\Vals xs its.toList
noncomputable def Hs:Value->Option V
 | .none=>some .Qj
 | .bool b=>some (.bl b)
 | .int i _=>some (.int i)
 | .str x _=>some (.str x)
 | .bytes b _=>some (.Wh b)
 | .float b _=>some (.ZS b)
 | .ref a=>some (.ref a)
 | .type n=>some (.ty n)
 | _=>none
theorem RelV.abs {x:V} (r:RelV x u):Hs u=some x:=by
 cases x with
 | Qj=>cases r;rfl
 | bl _=>cases r;rfl
 | int _=>obtain ⟨t,rfl⟩:=r;rfl
 | str _=>obtain ⟨t,rfl⟩:=r;rfl
 | Wh _=>obtain ⟨t,rfl⟩:=r;rfl
 | ZS _=>obtain ⟨t,rfl⟩:=r;rfl
 | ref _=>cases r;rfl
 | ty _=>cases r;rfl
theorem RelV.inj {x y:V} (r:RelV x u) (q:RelV y u):x=y:=NK (r.abs.symm.trans q.abs)
theorem Vals.inj:∀ {xs ys:List V} {us:List Value},Vals xs us->Vals ys us->xs=ys
 | _,_,_,.nil,.nil=>rfl
 | _,_,_,.cons r t,.cons r' t'=>by rw [r.inj r',Vals.inj t t']
section
variable {X:Cx} {pins:List (Addr × Obj)} {σ:St} {H:Hp} {s:Shared} {a:Addr} {xs ys:List V}
variable {K:W.Frag}
theorem Qp.of (h:H a=some (.lst xs)):Qp K H a xs:=.inl (.inl h)
theorem QH.of (h:H a=some (.tup xs)):QH K H a xs:=.inl (.inl h)
theorem Inv.list (I:Inv X pins σ H s) (h:Qp X.K H a xs):∃ its:List Value,Vals xs its/\PlainL s.heap a its.toArray/\xs.length<=sizeLine:=by
 rcases h with h | ⟨o,its,n,hk,hc,hd,hs,hz,r⟩
 ·obtain ⟨z,its,n,r,e⟩:=h.ok I.hok;exact ⟨its,r,⟨_,n,e,rfl,rfl,rfl⟩,z⟩
 ·refine ⟨its.toList,r,⟨o,n,I.TU a o hk,hc,hd,by simpa using hs⟩,?_⟩;have e:=r.length;simp only [Ov] at e;omega
theorem Inv.tuple (I:Inv X pins σ H s) (h:QH X.K H a xs):∃ its:List Value,Vals xs its/\IsTup s.heap a its.toArray/\xs.length<=sizeLine:=by
 rcases h with h | ⟨o,its,n,hk,hc,hs,hz,r⟩
 ·obtain ⟨z,its,r,p⟩:=h.ok I.hok;exact ⟨its,r,p,z⟩
 ·refine ⟨its.toList,r,⟨o,I.TU a o hk,hc,n,by simpa using hs⟩,?_⟩;have e:=r.length;simp only [Ov] at e;omega
theorem Inv.WT (I:Inv X pins σ H s) (h:Qp X.K H a xs) (h':Qp X.K H a ys):xs=ys:=by
 obtain ⟨its,r,⟨o,n,e,_,_,d⟩,_⟩:=I.list h;obtain ⟨its',r',⟨o',n',e',_,_,d'⟩,_⟩:=I.list h';rw [e] at e';cases e';rw [d] at d';injection d' with d1 _;have:its=its':=by simpa using Nq Array.toList d1
 subst this;exact r.inj r'
theorem Inv.VB (I:Inv X pins σ H s) (h:QH X.K H a xs) (h':QH X.K H a ys):xs=ys:=by
 obtain ⟨its,r,⟨o,e,_,n,d⟩,_⟩:=I.tuple h;obtain ⟨its',r',⟨o',e',_,n',d'⟩,_⟩:=I.tuple h';rw [e] at e';cases e';rw [d] at d';injection d' with d1 _;have:its=its':=by simpa using Nq Array.toList d1
 subst this;exact r.inj r'
end
noncomputable abbrev Cx.Vv (X:Cx) (E:Value->Shared->Prop):Cx:={ X with xe:=E }
noncomputable abbrev Cx.YI (X:Cx):Cx:=X.Vv λ_ _=>False
theorem Cx.Ok.Vv (ok:X.Ok) (E:Value->Shared->Prop):(X.Vv E).Ok :=
 ⟨ok.mod,ok.kind,ok.glob,ok.blt,ok.above,ok.inj,ok.has,ok.Y8,ok.hd,ok.frames,ok.stk,ok.exf,ok.bs,ok.Xs,ok.WR,ok.Xu,ok.U5,ok.Yb⟩
theorem Cx.Ok.Tu {E:Value->Shared->Prop} (ok:(X.Vv E).Ok):X.Ok :=
 ⟨ok.mod,ok.kind,ok.glob,ok.blt,ok.above,ok.inj,ok.has,ok.Y8,ok.hd,ok.frames,ok.stk,ok.exf,ok.bs,ok.Xs,ok.WR,ok.Xu,ok.U5,ok.Yb⟩
section
variable {X:Cx} {pins:List (Addr × Obj)} {σ:St} {H:Hp} {s:Shared} {E:Value->Shared->Prop}
theorem Inv.Vv (I:Inv X pins σ H s) (E:Value->Shared->Prop):Inv (X.Vv E) pins σ H s:=⟨I.ok.Vv E,I.os,I.bare,I.base,I.loc,I.cell,I.free,I.TX,I.pin,I.hok,I.len⟩
theorem Inv.Tu (I:Inv (X.Vv E) pins σ H s):Inv X pins σ H s:=⟨I.ok.Tu,I.os,I.bare,I.base,I.loc,I.cell,I.free,I.TX,I.pin,I.hok,I.len⟩
theorem SP.Tu {D:i5} {f:Flow} {s':Shared} (h:SP (X.Vv E) pins D f s'):SP X pins D f s':=by
 cases f with
 | next=>obtain ⟨σ',H',I,q⟩:=h;exact ⟨σ',H',I.Tu,q⟩
 | brk=>obtain ⟨σ',H',I,q⟩:=h;exact ⟨σ',H',I.Tu,q⟩
 | cont=>obtain ⟨σ',H',I,q⟩:=h;exact ⟨σ',H',I.Tu,q⟩
 | ret u=>obtain ⟨v,σ',H',I,r,q⟩:=h;exact ⟨v,σ',H',I.Tu,r,q⟩
theorem V4.YI {st:List Stmt} {t:TS} (h:V4 X.YI st t):V4 X st t:=λpins s σ H D I hw =>
 O2 (h pins s σ H D (I.Vv _) hw) (λ_ _ q=>q.Tu) λ_ _ z=>False.elim z
end
section
variable {X:Cx} {st:Stmt} {rest:List Stmt} {t u:TS} {e:Expr} {te:TE} {pos:Pos}
noncomputable def yL:TS:=λD σ H=>D.nx σ H
noncomputable def l8 (t u:TS):TS:=λD σ H=>t { D with nx:=u D } σ H
theorem aM:V4 X [] yL:=λ_ _ σ H _ I h=>Pu ⟨σ,H,I,h⟩
theorem aC (h1:PS X st t) (h2:V4 X rest u):V4 X (st::rest) (l8 t u):=by
 intro pins s σ H D I h;refine wpAny_execs_cons (Qt (h1 pins s σ H { D with nx:=u D } I h) λf s1 q=>?_)
 cases f with
 | next =>obtain ⟨σ',H',I',q⟩:=q;exact h2 pins s1 σ' H' D I' q
 | ret v=>exact q
 | brk=>exact q
 | cont=>exact q
theorem aH (h1:PS X st t):V4 X [st] t:=by
 intro pins s σ H D I h;refine wpAny_execs_cons (Qt (h1 pins s σ H D I h) λf s1 q=>?_)
 cases f with
 | next=>exact Pu q
 | ret v=>exact q
 | brk=>exact q
 | cont=>exact q
noncomputable def EI:TS:=λD σ H=>D.ct σ H
theorem vc:PS X (.Continue pos) EI:=λ_ _ σ H _ I h=>wpAny_Continue ⟨σ,H,I,h⟩
theorem Inv.quiet {pins:List (Addr × Obj)} {σ:St} {H:Hp} {s:Shared} (I:Inv X pins σ H s):interactive X.env=false:=by simp [interactive,I.ok.kind]
noncomputable def vD (te:TE):TS:=λD σ H=>te σ H λ_ H1=>D.nx σ H1
theorem bT (he:PE X e te) (hs:swapsWith e none pos.line X.env=pure false:=by rfl):PS X (.Expr e pos) (vD te):=by intro pins s σ H D I h;exact wpAny_Expr_any (Qt (he pins s σ H _ I h) λv s1 ⟨x,H1,I1,r1,q1⟩=>⟨σ,H1,I1,q1⟩) I.quiet hs
noncomputable def Gm (te:TE):TS:=λD σ H=>te σ H D.rt
theorem aL (he:PE X e te):PS X (.Return (some e) pos) (Gm te):=by intro pins s σ H D I h;exact wpAny_Return_some (Qt (he pins s σ H _ I h) λv s1 ⟨x,H1,I1,r1,q1⟩=>⟨x,σ,H1,I1,r1,q1⟩)
noncomputable def Hj:TS:=λD _ H=>D.rt .Qj H
theorem yu:PS X (.Return none pos) Hj:=λ_ _ σ H _ I h=>wpAny_Return_none ⟨.Qj,σ,H,I,rfl,h⟩
noncomputable def Eb (c:TT) (t u:TS):TS:=λD σ H=>c σ H λb H1=>if b=true then t D σ H1 else u D σ H1
theorem bE {c:Expr} {a b:List Stmt} {tc:TT} (hc:PT X c tc) (ha:V4 X a t) (hb:V4 X b u):PS X (.If c a b pos) (Eb tc t u):=by
 intro pins s σ H D I h;refine wpAny_If (Qt (hc pins s σ H _ I h) λd s1 ⟨H1,I1,q1⟩=>?_)
 cases d with
 | true=>exact ha pins s1 σ H1 D I1 q1
 | false=>exact hb pins s1 σ H1 D I1 q1
noncomputable def Gj:TS:=λ_ _ _=>False
theorem c8:PS X st Gj:=λ_ _ _ _ _ _ h=>h.elim
end
noncomputable abbrev TG:=V->St->Hp->(St->Hp->Prop)->Prop
noncomputable abbrev Xv:=List V->St->Hp->(St->Hp->Prop)->Prop
noncomputable def PG (X:Cx) (target:Expr) (t:TG):Prop :=
 ∀ (pins:List (Addr × Obj)) (s:Shared) (σ:St) (H:Hp) (v:V) (u:Value) (Q:St->Hp->Prop),Inv X pins σ H s->RelV v u->t v σ H Q ->
  wpAny (model X.prog X.w) X.A (assign target X.env u) (λ_ s'=>∃ σ' H',Inv X pins σ' H' s'/\Q σ' H') X.xe s
noncomputable def YJ (X:Cx) (ts:List Expr) (t:Xv):Prop :=
 ∀ (pins:List (Addr × Obj)) (s:Shared) (σ:St) (H:Hp) (vs:List V) (us:List Value) (Q:St->Hp->Prop),Inv X pins σ H s->Vals vs us->t vs σ H Q ->
  wpAny (model X.prog X.w) X.A (assignInOrder ((assignEach ts X.env).map (·.2)) us) (λ_ s'=>∃ σ' H',Inv X pins σ' H' s'/\Q σ' H') X.xe s
noncomputable abbrev Ay:=V->V->V->Hp->(Hp->Prop)->Prop
noncomputable def EL (X:Cx) (t:Ay):Prop :=
 ∀ (pins:List (Addr × Obj)) (s:Shared) (σ:St) (H:Hp) (o i v:V) (ov iv u:Value) (Q:Hp->Prop),Inv X pins σ H s->RelV o ov->RelV i iv->RelV v u->t o i v H Q ->
  wpAny (model X.prog X.w) X.A (setItem ov iv u) (λ_ s'=>∃ H',Inv X pins σ H' s'/\Q H') X.xe s
noncomputable abbrev YK:=V->V->Hp->VK->Prop
noncomputable def ZW (X:Cx) (op:Operator) (t:YK):Prop :=
 ∀ (pins:List (Addr × Obj)) (s:Shared) (σ:St) (H:Hp) (x y:V) (v u:Value) (Q:VK),Inv X pins σ H s->RelV x v->RelV y u->t x y H Q ->
  wpAny (model X.prog X.w) X.A (inplaceOp op v u) (EP X pins σ Q) X.xe s
section
variable {X:Cx} {pos:Pos}
noncomputable def d6 (i:Nat):TG:=λv σ H Q=>Q (σ.set i (some v)) H
variable {i:Nat} {x:Str}
theorem a7 (hN:X.N.Nodup) (hi:X.N[i]?=some x) (hx:Loc X.env.scope x) (hf:X.fn x=true\/X.env.scope.names.lookup x=some .local:=by first | exact .inl rfl | exact .inr rfl | assumption):PG X (.Name x pos) (d6 i):=by intro pins s σ H v u Q I r h;exact wpAny_assign_Name (jU I hN hi hx r (λs' I'=>⟨_,H,I',h⟩) hf)
noncomputable def AZ:Xv:=λvs σ H Q=>vs=[]/\Q σ H
noncomputable def jG (t:TG) (u:Xv):Xv:=λvs σ H Q=>∃ v r,vs=v::r/\t v σ H λσ' H'=>u r σ' H' Q
theorem eE:YJ X [] AZ:=by intro pins s σ H vs us Q I r h;obtain ⟨e,h⟩:=h;subst e;cases r;exact assignInOrder_nil ⟨σ,H,I,h⟩
variable {e:Expr} {es:List Expr}
theorem bJ {t:TG} {u:Xv} (h1:PG X e t) (h2:YJ X es u)
  (hs:(assignEach (e::es) X.env).map (·.2)=assign e X.env::(assignEach es X.env).map (·.2):=by rfl):YJ X (e::es) (jG t u):=by
 intro pins s σ H vs us Q I r h;obtain ⟨v,vr,e1,h⟩:=h;subst e1
 cases r with
 | cons r rr =>rw [hs];refine PV (Qt (h1 pins s σ H _ _ _ I r h) λ_ s1 ⟨σ1,H1,I1,q1⟩=>?_);exact h2 pins s1 σ1 H1 _ _ Q I1 rr q1
noncomputable def zj (K:W.Frag) (n:Nat) (t:Xv):TG:=λv σ H Q=>∃ a xs,v=.ref a/\QH K H a xs/\xs.length=n/\t xs σ H Q
theorem f6 {k:Nat} {t:Xv} {n:Nat} (hc:X.calm=true) (h:YJ X es t)
  (hn:(assignEach es X.env).length=n:=by rfl) (hst:(assignEach es X.env).findIdx? (·.1)=none:=by rfl):PG X (.Tuple es k pos) (zj X.K n t):=by
 intro pins s σ H v u Q I r hw;obtain ⟨a,xs,e1,hq,hl,hw⟩:=hw;subst e1;cases r;obtain ⟨its,rv,ht,hz⟩:=I.tuple hq;refine assign_Tuple_tuple (I.ok.hd hc) ht (by simp [hn,<- hl,rv.length]) hst λh' hx=>?_;have I1:Inv X pins σ H { s with heap:=h' }:=I.kept (t':=s.toks) λb o e=>hx b o (ND (Ni e)) e;exact h pins _ σ H xs _ Q I1 (by simpa using rv) hw
noncomputable def Hw (to ti:TE) (t:Ay):TG:=λv σ H Q=>to σ H λo H1=>ti σ H1 λi H2=>t o i v H2 λH3=>Q σ H3
variable {o:Expr} {to ti:TE}
theorem tF {i:Expr} {t:Ay} (ho:PE X o to) (hi:PE X i ti) (hs:EL X t)
  (ha:∀ v,assign (.Subscript o i pos) X.env v=(do
   let ov <- holding [v] (eval o X.env);let iv <- holding [v,ov] (eval i X.env)
   standAt pos
   holding [v,ov,iv] (setItem ov iv v)
   release [v,ov,iv] []):=by intro _;rfl):PG X (.Subscript o i pos) (Hw to ti t):=by
 intro pins s σ H v u Q I r h;rw [ha];refine MV (OQ (Qt (ho pins s σ H _ I h) λov s1 ⟨x,H1,I1,r1,q1⟩=>?_));refine MV (OQ (Qt (hi pins s1 σ H1 _ I1 q1) λiv s2 ⟨y,H2,I2,r2,q2⟩=>?_));refine MV (O4 (MV (OQ (Qt (hs pins s2 σ H2 x y v ov iv u _ I2 r1 r2 r q2) λ_ s3 ⟨H3,I3,q3⟩=>?_))));exact wpAny_release ⟨σ,H3,I3,q3⟩
noncomputable def pZ (te:TE) (g:TG):TS:=λD σ H=>te σ H λx H1=>g x σ H1 D.nx
variable {te:TE}
theorem fH {tg:Expr} {g:TG} (he:PE X e te) (hg:PG X tg g) (hs:swapsWithSole [tg] e pos.line X.env=pure false:=by rfl) (hw:swappedStores [tg] e X.env=pure none:=by rfl)
  (h1:(assignEach [tg] X.env).map (·.2)=[assign tg X.env]:=by rfl):PS X (.Assign [tg] e pos) (pZ te g):=by
 intro pins s σ H D I h;refine wpAny_Assign_stores (Qt (he pins s σ H _ I h) λv s1 ⟨x,H1,I1,r1,q1⟩=>?_) hs hw;rw [h1];exact Qt (hg pins s1 σ H1 x v _ I1 r1 q1) λ_ s2 q=>q
variable {pos':Pos}
theorem bO (hN:X.N.Nodup) (hi:X.N[i]?=some x) (hx:Loc X.env.scope x) (he:PE X e te) (hs:swapsWith e (some (.Name x pos')) pos.line X.env=pure false:=by rfl) (hf:X.fn x=true\/X.env.scope.names.lookup x=some .local:=by first | exact .inl rfl | exact .inr rfl | assumption) :
  PS X (.Assign [.Name x pos'] e pos) (pZ te (d6 i)):=by
 intro pins s σ H D I h;refine wpAny_Assign_Name (Qt (he pins s σ H _ I h) λv s1 ⟨y,H1,I1,r1,q1⟩=>?_) hs;exact jU I1 hN hi hx r1 (λs2 I2=>⟨_,H1,I2,q1⟩) hf
noncomputable def HI (i j:Nat) (ta:TA):TS:=λD σ H=>ta σ H λvs H1=>∃ v w,vs=[v,w]/\D.nx ((σ.set i (some v)).set j (some w)) H1
theorem FV {j:Nat} {y:Str} {a b:Expr} {ta:TA} {px py pt:Pos} {kt k2 pt2} (hc:X.calm=true) (hN:X.N.Nodup) (hi:X.N[i]?=some x) (hj:X.N[j]?=some y) (hij:i≠j)
  (hx:X.env.scope.names.lookup x=some .local) (hy:X.env.scope.names.lookup y=some .local) (ha:PA X [a,b] ta)
  (hw:swappedStores [.Tuple [.Name x px,.Name y py] kt pt] (.Tuple [a,b] k2 pt2) X.env=pure (some [x,y]))
  (hs:swapsWithSole [.Tuple [.Name x px,.Name y py] kt pt] (.Tuple [a,b] k2 pt2) pos.line X.env=pure false:=by rfl) :
  PS X (.Assign [.Tuple [.Name x px,.Name y py] kt pt] (.Tuple [a,b] k2 pt2) pos) (HI i j ta):=by
 intro pins s σ H D I h;rw [exec_Assign_arm];refine MV (O4 ?_);rw [hs];refine MV (Nc ?_);rw [MR (by decide)];refine MV (Tuple_ (Qt (ha _ pins s σ H _ I h) λus s1 ⟨vs,H1,I1,r1,q1⟩=>?_));obtain ⟨v,w,e1,q1⟩:=q1;subst e1
 obtain ⟨u1,u2,rfl,rv,rw'⟩:∃ u1 u2,us=[u1,u2]/\RelV v u1/\RelV w u2:=by
  cases r1 with
  | cons p q =>
   cases q with
   | cons p' q' =>cases q';exact ⟨_,_,rfl,p,p'⟩
 refine OI ?_ (by show 2<=sizeLine;decide);have I2:Inv X pins σ H1 { s1 with heap:=s1.heap.push { cls:=.type "tuple",data:=.seq [u1,u2].toArray } }:=I1.kept (t':=s1.toks) λb o e=>MU _ e;rw [hw];refine MV (Nc ?_);show wpAny (model X.prog X.w) X.A (do rule "assign.swapped-stores";let items <- unpackItems (.ref s1.heap.objs.size) 2 none;assignInOrder [λv=>bindName X.env y v,λv=>bindName X.env x v] items.reverse;pure Flow.next) _ _ _;refine MV (wpAny_rule (MV (unpackItems_tuple (items:=#[u1,u2]) (I.ok.hd hc) (PX s1.heap _) λh' hx'=>?_)));have I3:=I2.kept (h':=h') (t':=s1.toks) λb o e=>hx' b o (ND (Ni e)) e;show wpAny _ _ (assignInOrder [λv=>bindName X.env y v,λv=>bindName X.env x v] [u2,u1] >>= λ_=>pure Flow.next) _ _ _;refine MV (PV (wpAny_bindName (jU I3 hN hj (.inl hy) rw' (λs2 I4=>?_) (.inr hy))));refine PV (wpAny_bindName (jU I4 hN hi (.inl hx) rv (λs3 I5=>assignInOrder_nil (Nc ?_)) (.inr hx)));rw [List.set_comm _ _ (Nz hij)] at I5;exact ⟨_,H1,I5,q1⟩
noncomputable def HH (i:Nat) (te:TE) (ti:YK):TS:=λD σ H=>∃ x,σ[i]?=some (some x)/\te σ H λy H1=>ti x y H1 λz H2=>D.nx (σ.set i (some z)) H2
variable {op:Operator}
theorem tI {ti:YK} (hN:X.N.Nodup) (hi:X.N[i]?=some x) (hx:Loc X.env.scope x) (he:PE X e te) (ho:ZW X op ti) (hf:X.fn x=true\/X.env.scope.names.lookup x=some .local:=by first | exact .inl rfl | exact .inr rfl | assumption) :
  PS X (.AugAssign (.Name x pos') op e pos) (HH i te ti):=by
 intro pins s σ H D I h;obtain ⟨v,e1,h⟩:=h;obtain ⟨m,hn,hl⟩:=I.loc;have vis:Y7 X.env.scope x:=by rcases hx with k | k;exact .inl k;exact .inr (.inl k)
 obtain ⟨u,r,l⟩:=hl i x v hi e1 vis;refine wpAny_AugAssign_Name ?_
 have go:wpAny (model X.prog X.w) X.A (eval e X.env) (λw s₂=>wpAny (model X.prog X.w) X.A (inplaceOp op u w) (λr s₃=>wpAny (model X.prog X.w) X.A (storeName X.env x r) (λ_=>SP X pins D .next) X.xe s₃) X.xe s₂) X.xe s:=by refine Qt (he pins s σ H _ I h) λw s1 ⟨y,H1,I1,r1,q1⟩=>?_;refine Qt (ho pins s1 σ H1 v y u w _ I1 r r1 q1) λz s2 ⟨zv,H2,I2,r2,q2⟩=>?_;exact jU I2 hN hi hx r2 (λs3 I3=>⟨_,H2,I3,q2⟩) hf
 rcases l with ⟨hk,hm⟩ | ⟨hk,c,hc,hcell⟩
 ·exact wpAny_loadName_local I.ok.kind hk hn hm go
 ·rcases hk with hk | hk
  ·exact wpAny_loadName_cell I.ok.kind hk hc hcell go
  ·rcases hx with k | k
   ·have:X.env.scope.names.lookup x=some .free:=hk;rw [k] at this;cases this
   ·have:X.env.scope.names.lookup x=some .free:=hk;rw [k] at this;cases this
noncomputable def Hd (to ti te:TE) (Xw:V->V->Hp->VK->Prop) (ZX:YK) (Xx:Ay):TS:=λD σ H=>to σ H λo H1=>ti σ H1 λi H2=>Xw o i H2 λx H3=>te σ H3 λy H4=>ZX x y H4 λz H5=>Xx o i z H5 λH6=>D.nx σ H6
noncomputable def Gv (X:Cx) (t:V->V->Hp->VK->Prop):Prop :=
 ∀ (pins:List (Addr × Obj)) (s:Shared) (σ:St) (H:Hp) (o i:V) (ov iv:Value) (Q:VK),Inv X pins σ H s->RelV o ov->RelV i iv->t o i H Q ->
  wpAny (model X.prog X.w) X.A (getItem ov iv) (EP X pins σ Q) X.xe s
theorem DG {i:Expr} {Xw:V->V->Hp->VK->Prop} {ZX:YK} {Xx:Ay} {tpos:Pos} (ho:PE X o to) (hi:PE X i ti) (hg:Gv X Xw) (he:PE X e te) (hp:ZW X op ZX) (hs:EL X Xx)
  (ha:∀ ov iv new,augStore i ov iv new=(do holding [new,ov,iv] (setItem ov iv new);release [new,ov,iv] [];pure .next):=by intros;rfl):PS X (.AugAssign (.Subscript o i tpos) op e pos) (Hd to ti te Xw ZX Xx):=by
 intro pins s σ H D I h;refine wpAny_AugAssign_SubscriptAny (Qt (ho pins s σ H _ I h) λov s1 ⟨x1,H1,I1,r1,q1⟩=>?_) ha;refine Qt (hi pins s1 σ H1 _ I1 q1) λiv s2 ⟨x2,H2,I2,r2,q2⟩=>?_;refine Qt (hg pins s2 σ H2 x1 x2 ov iv _ I2 r1 r2 q2) λold s3 ⟨x3,H3,I3,r3,q3⟩=>?_;refine Qt (he pins s3 σ H3 _ I3 q3) λv s4 ⟨x4,H4,I4,r4,q4⟩=>?_;refine Qt (hp pins s4 σ H4 x3 x4 old v _ I4 r3 r4 q4) λnew s5 ⟨x5,H5,I5,r5,q5⟩=>?_;exact Qt (hs pins s5 σ H5 x1 x2 x5 ov iv new _ I5 r1 r2 r5 q5) λ_ s6 ⟨H6,I6,q6⟩=>⟨σ,H6,I6,q6⟩
noncomputable def ipI (f:Int->Int->Int):YK:=λx y H Q=>∃ i j,x=.int i/\y=.int j/\Q (.int (f i j)) H
theorem sJ:ZW X .Add (ipI λi j=>i+j):=by intro pins s σ H x y v u Q I r1 r2 h;obtain ⟨i,j,e1,e2,q⟩:=h;subst e1;subst e2;obtain ⟨t,rfl⟩:=r1;obtain ⟨t',rfl⟩:=r2;exact iadd_int ⟨.int _,H,I.tok _,⟨_,rfl⟩,q⟩
theorem Fq:ZW X .Sub (ipI λi j=>i - j):=by intro pins s σ H x y v u Q I r1 r2 h;obtain ⟨i,j,e1,e2,q⟩:=h;subst e1;subst e2;obtain ⟨t,rfl⟩:=r1;obtain ⟨t',rfl⟩:=r2;exact isub_int ⟨.int _,H,I.tok _,⟨_,rfl⟩,q⟩
noncomputable def xp (c:TT) (tb:TS):TS:=λD σ H=>∃ W:Nat->St->Hp->Prop,(∃ m,W m σ H)/\∀ m σ H,W m σ H ->
 c σ H λb H1=>if b=true then ∃ N:St->Hp->Prop,(∀ σ' H',N σ' H'->∃ m',m' < m/\W m' σ' H')/\tb { D with nx:=N,ct:=N,bk:=D.nx } σ H1 else D.nx σ H1
theorem lO {c:Expr} {body:List Stmt} {tc:TT} {tb:TS} (hp:PassesOwn (model X.prog X.w) X.A X.env X.xe) (hc:PT X c tc) (hb:V4 X body tb):PS X (.While c body [] pos) (xp tc tb):=by
 intro pins s σ H D I h;obtain ⟨W,⟨m0,w0⟩,turn⟩:=h;refine wpAny_While (codeAny_whileLoop (λn s'=>∃ σ' H',Inv X pins σ' H' s'/\W n σ' H') ?_ m0 ⟨σ,H,I,w0⟩);rintro n s1 ⟨σ1,H1,I1,w1⟩;refine OC hp (Qt (hc pins s1 σ1 H1 _ I1 (turn n σ1 H1 w1)) λb s2 ⟨H2,I2,q2⟩=>?_)
 cases b with
 | true =>
  obtain ⟨N,hN,q2⟩:=q2;rw [MW rfl];refine OC hp (Qt (hb pins s2 σ1 H2 _ I2 q2) λf s3 q3=>?_)
  cases f with
  | next =>obtain ⟨σ3,H3,I3,n3⟩:=q3;obtain ⟨m',hm,w3⟩:=hN σ3 H3 n3;exact ⟨m',hm,σ3,H3,I3,w3⟩
  | cont =>obtain ⟨σ3,H3,I3,n3⟩:=q3;obtain ⟨m',hm,w3⟩:=hN σ3 H3 n3;exact ⟨m',hm,σ3,H3,I3,w3⟩
  | brk=>exact q3
  | ret v=>exact q3
 | false =>rw [MR MY];exact Pu ⟨σ1,H2,I2,q2⟩
end
structure It where
 go:Nat->Hp->Prop
 VC:Nat->Hp->V->Hp->Prop
 stop:Nat->Hp->Prop
noncomputable def ql (X:Cx) (pins:List (Addr × Obj)) (H:Hp) (b:Addr):Prop :=
 H b=none/\b≠X.env.locals/\b ∉ X.fs/\(b ∈ X.ex\/X.s₀.heap.objs.size<=b)/\(∀ x c,X.env.cells.lookup x=some c->c≠b)/\∀ p ∈ X.pn++pins,p.1≠b
variable {σ:St}
theorem Inv.VR {pins:List (Addr × Obj)} {H':Hp} (I:Inv X pins σ H s) (hb:s.heap.objs.size<=b) (hn:H' b=none):ql X pins H' b:=by
 refine ⟨hn,Ox (Nk I.lt hb),I.nofs hb,.inr (Nv I.sz hb),λx c e z=>?_,λp hp z=>?_⟩
 ·obtain ⟨v,q⟩:=I.cell x c e;exact absurd (Nk q.lt (by rw [z];exact hb)) (Oh _)
 ·exact absurd (Nk (Ni (I.pin p hp).1) (by rw [z];exact hb)) (Oh _)
structure oo (P:Program) (w:World) (K:W.Frag) (tg:Expr) (J:It) (fp:List Addr) (it:Addr) (tn:Nat->Heap->Prop):Prop where
 mem:it ∈ fp
 obj:∀ i h,tn i h->∀ b ∈ fp,∃ o,h.get? b=some o/\∀ v,o.data≠.cell v
 keep:∀ i h h',tn i h->(∀ b ∈ fp,∀ o,h.get? b=some o->h'.get? b=some o)->tn i h'
 item:∀ (X:Cx),X.prog=P->X.w=w->X.K=K->X.calm=true->∀ (i:Nat) (pins:List (Addr × Obj)) (s:Shared) (σ:St) (H:Hp) (E:Value->Shared->Prop),Inv X pins σ H s->(∀ b ∈ fp,ql X pins H b)->tn i s.heap->J.go i H ->
  wpAny (model P w) X.A (pyNext (.ref it)) (λr s1=>∃ u,r=some u /\
   wpAny (model P w) X.A (letOwnedTupleGo tg (.ref it) u) (λ_ s2=>∃ x H',Inv X pins σ H' s2/\RelV x u/\J.VC i H x H'/\tn (i+1) s2.heap/\∀ b ∈ fp,H' b=none) E s1) E s
 done:∀ (X:Cx),X.prog=P->X.w=w->X.K=K->X.calm=true->∀ (i:Nat) (pins:List (Addr × Obj)) (s:Shared) (σ:St) (H:Hp) (E:Value->Shared->Prop),Inv X pins σ H s->(∀ b ∈ fp,ql X pins H b)->tn i s.heap->J.stop i H ->
  wpAny (model P w) X.A (pyNext (.ref it)) (λr s1=>r=none/\Inv X pins σ H s1) E s
 self:∀ (A:Around) (i:Nat) (s:Shared) (Q:Value->Shared->Prop) (E:Value->Shared->Prop),tn i s.heap->Q (.ref it) s->wpAny (model P w) A (pyIter (.ref it)) Q E s
noncomputable abbrev TI:=St->Hp->(It->Hp->Prop)->Prop
noncomputable def PIE (X:Cx) (pins:List (Addr × Obj)) (σ:St) (tg:Expr) (R:It->Hp->Prop) (itv:Value) (s2:Shared):Prop :=
 ∃ (it:Addr) (fp:List Addr) (tn:Nat->Heap->Prop) (J:It) (H':Hp),itv=.ref it/\Inv X pins σ H' s2/\oo X.prog X.w X.K tg J fp it tn/\tn 0 s2.heap/\(∀ b ∈ fp,ql X pins H' b)/\R J H'
noncomputable def PI (X:Cx) (tg iter:Expr) (wi:TI):Prop :=
 ∀ (pins:List (Addr × Obj)) (s:Shared) (σ:St) (H:Hp) (R:It->Hp->Prop),Inv X pins σ H s->wi σ H R ->
  wpAny (model X.prog X.w) X.A (eval iter X.env) (λv s1=>wpAny (model X.prog X.w) X.A (pyIter v) (PIE X pins σ tg R) X.xe s1) X.xe s
variable {tg:Expr}
theorem qZ {E:Value->Shared->Prop} {it:Addr} {n:String} {vs:Array Value} {Q:Unit->Shared->Prop} (ho:s.heap.get? it=some o) (hc:o.cls=.type n) (hd:o.data=.fields vs)
  (hn:["enumerate","zip","dict_itemiterator","dict_reverseitemiterator","odict_iterator","itertools.zip_longest","itertools.pairwise"].contains n=false) (hQ:Q () s):wpAny M A (letOwnedTupleGo tg (.ref it) u) Q E s:=by
 unfold letOwnedTupleGo
 cases tg <;> first
  | exact Nc hQ
  | (cases u <;> first
    | exact Nc hQ
    | (refine MV (wpAny_load ho ?_)
       rw [hc,hd];show wpAny M A (if (["enumerate","zip","dict_itemiterator","dict_reverseitemiterator","odict_iterator","itertools.zip_longest","itertools.pairwise"].contains n && vs[0]? == some (rawInt _))=true then _ else _) Q E s;rw [MR (by intro h;rw [hn,OL] at h;cases h)];exact Nc hQ))
noncomputable def XN (K:W.Frag) (a:Addr):It :=
 ⟨λi H=>∃ xs x,Qp K H a xs/\xs[i]?=some x,λi H x H'=>H'=H/\∀ xs,Qp K H a xs->xs[i]?=some x,λi H=>∃ xs,Qp K H a xs/\xs.length<=i⟩
noncomputable def Yd (K:W.Frag) (a:Addr):It :=
 ⟨λi H=>∃ xs x,QH K H a xs/\xs[i]?=some x,λi H x H'=>H'=H/\∀ xs,QH K H a xs->xs[i]?=some x,λi H=>∃ xs,QH K H a xs/\xs.length<=i⟩
noncomputable def XO (lo:Int) (n:Nat):It:=⟨λi _=>i < n,λi H x H'=>H'=H/\x=.int (lo+i),λi _=>n<=i⟩
variable {K:W.Frag}
theorem Ad (a it:Addr):oo P w K tg (XN K a) [it] it (λi h=>h.IsListIter it a i) where
 mem:=by simp
 obj:=λi h st b hb=>by
  have e:b=it:=by simpa using hb
  subst e;obtain ⟨o,e,c,d⟩:=st;exact ⟨o,e,λv z=>by rw [d] at z;cases z⟩
 keep:=λi h h' st k=>st.at λo e=>k it (by simp) o e
 item:=by intro X hP hw hK hc i pins s σ H E I hf st hg;subst hP hw hK;obtain ⟨xs,x,hq,hx⟩:=hg;obtain ⟨its,rv,p,hz⟩:=I.list hq;obtain ⟨u,hu,ru⟩:=rv.get hx;obtain ⟨f0,f1,f2,f3,f4,f5⟩:=hf it (by simp);refine wpAny_pyNext_list_item st p.isList (x:=u) (by simpa using hu) λh' st' sb=>?_;have I1:Inv X pins σ H { s with heap:=h' }:=I.turned (t':=s.toks) (λb o hb e=>(sb.2 b hb).trans e) f0 f1 f3 f4 f5;obtain ⟨o,e,c,d⟩:=id st';exact ⟨u,rfl,qZ (s:={ s with heap:=h' }) e c d (by decide) ⟨x,H,I1,ru,⟨rfl,λys hy=>by rw [I.WT hy hq];exact hx⟩,st',λb hb=>(hf b hb).1⟩⟩
 done:=by intro X hP hw hK hc i pins s σ H E I hf st hg;subst hP hw hK;obtain ⟨xs,hq,hx⟩:=hg;obtain ⟨its,rv,p,hz⟩:=I.list hq;obtain ⟨f0,f1,f2,f3,f4,f5⟩:=hf it (by simp);have hl:=rv.length;exact wpAny_pyNext_list_end (I.ok.hd hc) st p.isList (by simp;omega) λh' eb=>⟨rfl,I.turned (t':=s.toks) (λb o hb e=>eb b o hb e) f0 f1 f3 f4 f5⟩
 self:=λ_ _ _ _ _ st h=>wpAny_pyIter_listiter st h
theorem xw (a it:Addr):oo P w K tg (Yd K a) [it] it (λi h=>h.IsTupleIter it a i) where
 mem:=by simp
 obj:=λi h st b hb=>by
  have e:b=it:=by simpa using hb
  subst e;obtain ⟨o,e,c,d⟩:=st;exact ⟨o,e,λv z=>by rw [d] at z;cases z⟩
 keep:=λi h h' st k=>st.at λo e=>k it (by simp) o e
 item:=by intro X hP hw hK hc i pins s σ H E I hf st hg;subst hP hw hK;obtain ⟨xs,x,hq,hx⟩:=hg;obtain ⟨its,rv,p,hz⟩:=I.tuple hq;obtain ⟨u,hu,ru⟩:=rv.get hx;obtain ⟨f0,f1,f2,f3,f4,f5⟩:=hf it (by simp);refine wpAny_pyNext_tuple_item st (show s.heap.IsTuple a its.toArray from p) (x:=u) (by simpa using hu) λh' st' sb=>?_;have I1:Inv X pins σ H { s with heap:=h' }:=I.turned (t':=s.toks) (λb o hb e=>(sb.2 b hb).trans e) f0 f1 f3 f4 f5;obtain ⟨o,e,c,d⟩:=id st';exact ⟨u,rfl,qZ (s:={ s with heap:=h' }) e c d (by decide) ⟨x,H,I1,ru,⟨rfl,λys hy=>by rw [I.VB hy hq];exact hx⟩,st',λb hb=>(hf b hb).1⟩⟩
 done:=by intro X hP hw hK hc i pins s σ H E I hf st hg;subst hP hw hK;obtain ⟨xs,hq,hx⟩:=hg;obtain ⟨its,rv,p,hz⟩:=I.tuple hq;obtain ⟨f0,f1,f2,f3,f4,f5⟩:=hf it (by simp);have hl:=rv.length;exact wpAny_pyNext_tuple_end (I.ok.hd hc) st (show s.heap.IsTuple a its.toArray from p) (by simp;omega) λh' eb=>⟨rfl,I.turned (t':=s.toks) (λb o hb e=>eb b o hb e) f0 f1 f3 f4 f5⟩
 self:=λ_ _ _ _ _ st h=>wpAny_pyIter_tupleiter st h
theorem xu {K:PySem.W.Frag} (it:Addr) (lo:Int) (n:Nat):oo P w K tg (XO lo n) [it] it (λi h=>IsRangeIter h it (lo+(i:Nat) * 1) ((n:Int) - (i:Nat)) 1) where
 mem:=by simp
 obj:=λi h st b hb=>by
  have e:b=it:=by simpa using hb
  subst e
  exact ⟨_,st,λv z=>by
   have z':Data.fields _=Data.cell v:=z;cases z'⟩
 keep:=λi h h' st k=>k it (by simp) _ st
 item:=by intro X hP hw hK hc i pins s σ H E I hf st hg;subst hP hw hK;obtain ⟨f0,f1,f2,f3,f4,f5⟩:=hf it (by simp);have W:=Walks.range (prog:=X.prog) (w:=X.w) (I.ok.hd hc) it lo 1 n;refine W.item i s _ _ hg st λv h' tk hv st' kk=>?_;obtain ⟨t,rfl⟩:=hv;have I1:Inv X pins σ H { s with heap:=h',toks:=tk }:=I.turned (λb o hb e=>kk b o (by simpa using hb) e) f0 f1 f3 f4 f5;refine ⟨_,rfl,qZ (s:={ s with heap:=h',toks:=tk }) (n:="range_iterator") st' rfl rfl (by decide) ⟨.int (lo+i),H,I1,⟨t,?_⟩,⟨rfl,rfl⟩,st',λb hb=>(hf b hb).1⟩⟩;rw [Int.mul_one]
 done:=by intro X hP hw hK hc i pins s σ H E I hf st hg;subst hP hw hK;obtain ⟨f0,f1,f2,f3,f4,f5⟩:=hf it (by simp);exact wpAny_pyNext_range_end (I.ok.hd hc) st (by have:n<=i:=hg;omega) λh' eb=>⟨rfl,I.turned (t':=s.toks) (λb o hb e=>eb b o hb e) f0 f1 f3 f4 f5⟩
 self:=λ_ _ _ _ _ st h=>wpAny_pyIter_rangeiter st h
section
variable {X:Cx} {tg:Expr}
noncomputable def ra (K:W.Frag) (tl:TE):TI:=λσ H R=>tl σ H λx H1=>∃ a,x=.ref a/\(∃ xs,Qp K H1 a xs)/\R (XN K a) H1
noncomputable def C9 (K:W.Frag) (tl:TE):TI:=λσ H R=>tl σ H λx H1=>∃ a,x=.ref a/\(∃ xs,QH K H1 a xs)/\R (Yd K a) H1
variable {l:Expr} {tl:TE}
theorem fN (hl:PE X l tl):PI X tg l (ra X.K tl):=by
 intro pins s σ H R I h;refine Qt (hl pins s σ H _ I h) λv s1 ⟨x,H1,I1,r1,q1⟩=>?_;obtain ⟨a,e,⟨xs,hq⟩,q⟩:=q1;subst e;cases r1;obtain ⟨its,rv,p,hz⟩:=I1.list hq;refine Pf p.isList ?_;refine ⟨s1.heap.objs.size,[s1.heap.objs.size],_,_,H1,rfl,I1.kept (t':=s1.toks) λb o e=>MU _ e,Ad a _,⟨_,Nr _ rfl,rfl,rfl⟩,λb hb=>?_,q⟩;have e:b=s1.heap.objs.size:=by simpa using hb
 subst e;exact I1.VR (M0 _) (I1.hok.fresh (M0 _))
theorem h6 (hl:PE X l tl):PI X tg l (C9 X.K tl):=by
 intro pins s σ H R I h;refine Qt (hl pins s σ H _ I h) λv s1 ⟨x,H1,I1,r1,q1⟩=>?_;obtain ⟨a,e,⟨xs,hq⟩,q⟩:=q1;subst e;cases r1;obtain ⟨its,rv,p,hz⟩:=I1.tuple hq;refine PY (show s1.heap.IsTuple a its.toArray from p) ?_;refine ⟨s1.heap.objs.size,[s1.heap.objs.size],_,_,H1,rfl,I1.kept (t':=s1.toks) λb o e=>MU _ e,xw a _,⟨_,Nr _ rfl,rfl,rfl⟩,λb hb=>?_,q⟩;have e:b=s1.heap.objs.size:=by simpa using hb
 subst e;exact I1.VR (M0 _) (I1.hok.fresh (M0 _))
variable {pins:List (Addr × Obj)} {σ:St} {H:Hp} {s:Shared}
theorem B0 {R:It->Hp->Prop} {E:Value->Shared->Prop} {lo hi:Int} {t u v:Tok} {tk:Nat} (I:Inv X pins σ H s) (h1:-(2 ^ 62)<=lo) (h2:lo < 2 ^ 62) (h3:-(2 ^ 62)<=hi) (h4:hi < 2 ^ 62)
  (q:R (XO lo (hi - lo).toNat) H):wpAny (model X.prog X.w) X.A (pyIter (.ref s.heap.objs.size)) (PIE X pins σ tg R) E { s with heap:=s.heap.push { cls:=.type "range",data:=.fields #[.int lo t,.int hi u,.int 1 v] },toks:=tk }:=by
 refine wpAny_pyIter_range (IsRange.new ..) (small_one h1 h2 h3 h4) ?_;have I1:Inv X pins σ H { s with heap:=s.heap.push { cls:=.type "range",data:=.fields #[.int lo t,.int hi u,.int 1 v] },toks:=tk }:=I.kept λb o e=>MU _ e
 refine ⟨(s.heap.push { cls:=.type "range",data:=.fields #[.int lo t,.int hi u,.int 1 v] }).objs.size,[(s.heap.push { cls:=.type "range",data:=.fields #[.int lo t,.int hi u,.int 1 v] }).objs.size],_,_,H,rfl,
  I1.kept (t':=tk) λb o e=>MU _ e,xu _ lo (hi - lo).toNat,?_,λb hb=>?_,q⟩
 ·have e1:lo+((0:Nat):Int) * 1=lo:=by simp
  have e2:(((hi - lo).toNat:Nat):Int) - ((0:Nat):Int)=Builtin.Range.rangeSize lo hi 1:=by rw [rangeSize_one];split <;> omega
  show IsRangeIter _ _ (lo+((0:Nat):Int) * 1) ((((hi - lo).toNat:Nat):Int) - ((0:Nat):Int)) 1;rw [e1,e2];exact Nr _ rfl
 ·have e:b=(s.heap.push { cls:=.type "range",data:=.fields #[.int lo t,.int hi u,.int 1 v] }).objs.size:=by simpa using hb
  subst e;exact I1.VR (M0 _) (I1.hok.fresh (M0 _))
noncomputable def Eo (ta:TA):TI:=λσ H R=>ta σ H λvs H1=>∃ j:Int,vs=[.int j]/\-(2 ^ 62)<=j/\j < 2 ^ 62/\R (XO 0 j.toNat) H1
variable {pos:Pos}
theorem mL {a:Expr} {ta:TA} {p:Pos} (hg:Gl X "range") (hm:X.mg "range"=none) (ha:PA X [a] ta) (hs:starEach [a] X.env=[(false,eval a X.env)]:=by rfl):PI X tg (.Call (.Name "range" p) [a] [] pos) (Eo ta):=by
 intro pins s σ H R I h;refine Call_ (kM I hg hm boot_range (Oe (Qt (ha pos pins s σ H _ I h) λus s1 ⟨vs,H1,I1,r1,q1⟩=>?_) hs rfl));obtain ⟨j,e,q1,q2,q⟩:=q1;subst e
 cases r1 with
 | cons r rr =>cases rr;obtain ⟨t,rfl⟩:=r;exact call_range_1 (B0 I1 (by omega) (by omega) q1 q2 (by simpa using q))
noncomputable def Hg (wi:TI) (g:TG) (tb:TS):TS:=λD σ H=>wi σ H λJ H1=>∃ W:Nat->Nat->St->Hp->Prop,(∃ m,W 0 m σ H1)/\∀ i m σ H,W i m σ H ->
 (J.stop i H/\D.nx σ H)\/(J.go i H/\∃ N:St->Hp->Prop,(∀ σ' H',N σ' H'->∃ m',m' < m/\W (i+1) m' σ' H')/\∀ x H',J.VC i H x H'->g x σ H' λσ2 H2=>tb { D with nx:=N,ct:=N,bk:=D.nx } σ2 H2)
noncomputable def pG (fp:List Addr) (h:Heap):List (Addr × Obj):=fp.filterMap λb=>(h.get? b).map λo=>(b,o)
variable {fp:List Addr} {h:Heap}
theorem jf {b:Addr} {o:Obj} (hb:b ∈ fp) (e:h.get? b=some o):(b,o) ∈ pG fp h:=Oz.mpr ⟨b,hb,by rw [e];rfl⟩
theorem zF {p:Addr × Obj} (hp:p ∈ pG fp h):p.1 ∈ fp/\h.get? p.1=some p.2:=by
 obtain ⟨b,hb,e⟩:=Oz.mp hp
 cases q:h.get? b with
 | none=>rw [q] at e;cases e
 | some o =>rw [q] at e;have e':(b,o)=p:=NK e;subst e';exact ⟨hb,q⟩
theorem Inv.pinned (I:Inv X pins σ H s) (hf:∀ b ∈ fp,ql X pins H b) (ho:∀ b ∈ fp,∃ o,s.heap.get? b=some o/\∀ v,o.data≠.cell v):Inv X (pins++pG fp s.heap) σ H s :=
 I.Wj λp hp=>(Nh.mp hp).elim (λz=>I.pin p (NG _ z)) λz=>by obtain ⟨hb,e⟩:=zF z;obtain ⟨f0,f1,f2,_⟩:=hf p.1 hb;obtain ⟨o,e',d⟩:=ho p.1 hb;rw [e] at e';cases e';exact ⟨e,f0,f1,f2,d⟩
theorem Inv.Uo {pl:List (Addr × Obj)} (I:Inv X (pins++pl) σ H s):Inv X pins σ H s:=I.Wj λp hp=>I.pin p (NG _ (Oa _ hp))
theorem h7 {iter:Expr} {body:List Stmt} {wi:TI} {g:TG} {tb:TS} (hp:PassesOwn (model X.prog X.w) X.A X.env X.xe) (hc:X.calm=true) (hi:PI X tg iter wi) (hg:PG X tg g) (hb:V4 X body tb)
  (hs:∀ x,foldedSetIterable iter X.env x=pure x:=by intro _;rfl):PS X (.For tg iter body [] pos) (Hg wi g tb):=by
 intro pins s σ H D I h;refine wpAny_For (Qt (hi pins s σ H _ I h) λv s1 h1=>Qt h1 λitv s2 h2=>?_) hs;obtain ⟨it,fp,tn,J,H2,e,I2,T,st2,f2,W,⟨m0,w0⟩,turn⟩:=h2;subst e;have t8:∀ {H':Hp},(∀ b ∈ fp,H' b=none)->∀ b ∈ fp,ql X pins H' b:=λhn b hb=>⟨hn b hb,(f2 b hb).2⟩
 refine codeAny_forLoop_any (λn s'=>∃ i σ' H',Inv X pins σ' H' s'/\tn i s'.heap/\(∀ b ∈ fp,H' b=none)/\W i n σ' H') ?_ m0 ⟨0,σ,H2,I2,st2,λb hb=>(f2 b hb).1,w0⟩;rintro n s3 ⟨i,σ3,H3,I3,st3,Zb,w3⟩;rcases turn i n σ3 H3 w3 with ⟨stop,qn⟩ | ⟨go,N,hN,step⟩
 ·refine OC hp (Qt (T.done X rfl rfl rfl hc i pins s3 σ3 H3 X.xe I3 (t8 Zb) st3 stop) λr s4 ⟨hr,I4⟩=>?_);subst hr;exact Pu ⟨σ3,H3,I4,qn⟩
 ·refine OC hp (Qt (T.item X rfl rfl rfl hc i pins s3 σ3 H3 X.xe I3 (t8 Zb) st3 go) λr s4 ⟨u,hr,h4⟩=>?_);subst hr;refine OC hp (Qt h4 λ_ s5 ⟨x,H5,I5,r5,y5,Ye,fr5⟩=>?_);have I5':=I5.pinned (t8 fr5) (T.obj _ _ Ye);refine OC hp (Qt (hg _ s5 σ3 H5 x u _ I5' r5 (step x H5 y5)) λ_ s6 ⟨σ6,H6,I6,q6⟩=>?_);refine OC hp (Qt (hb _ s6 σ6 H6 _ I6 q6) λf s7 q7=>?_)
  have again:∀ {σ7:St} {H7:Hp},Inv X (pins++pG fp s5.heap) σ7 H7 s7->N σ7 H7->∃ m,m < n/\∃ i σ' H',Inv X pins σ' H' s7/\tn i s7.heap/\(∀ b ∈ fp,H' b=none)/\W i m σ' H':=λ{σ7 H7} I7 n7=>by obtain ⟨m',hm,w7⟩:=hN σ7 H7 n7;refine ⟨m',hm,i+1,σ7,H7,I7.Uo,T.keep _ _ _ Ye λb hb o e=>(I7.pin (b,o) (NG _ (NG _ (jf hb e)))).1,λb hb=>?_,w7⟩;obtain ⟨o,e,d⟩:=T.obj _ _ Ye b hb;exact (I7.pin (b,o) (NG _ (NG _ (jf hb e)))).2.1
  cases f with
  | next=>obtain ⟨σ7,H7,I7,n7⟩:=q7;exact again I7 n7
  | cont=>obtain ⟨σ7,H7,I7,n7⟩:=q7;exact again I7 n7
  | brk=>obtain ⟨σ7,H7,I7,q7⟩:=q7;exact ⟨σ7,H7,I7.Uo,q7⟩
  | ret v=>obtain ⟨x7,σ7,H7,I7,r7,q7⟩:=q7;exact ⟨x7,σ7,H7,I7.Uo,r7,q7⟩
end
variable {g:TG} {tb:TS}
theorem oV {K:PySem.W.Frag} {D:i5} (Pv:Nat->St->Hp->Prop) (h0:Pv 0 σ H) (hl:∀ i σ H,i<=xs.length->Pv i σ H->Qp K H a xs)
  (hs:∀ i x σ H,xs[i]?=some x->Pv i σ H->g x σ H λσ2 H2=>tb { D with nx:=Pv (i+1),ct:=Pv (i+1),bk:=D.nx } σ2 H2) (hd:∀ σ H,Pv xs.length σ H->D.nx σ H) :
  ∃ W:Nat->Nat->St->Hp->Prop,(∃ m,W 0 m σ H)/\∀ i m σ H,W i m σ H ->
   ((XN K a).stop i H/\D.nx σ H)\/((XN K a).go i H/\∃ N:St->Hp->Prop,(∀ σ' H',N σ' H'->∃ m',m' < m/\W (i+1) m' σ' H')/\∀ x H',(XN K a).VC i H x H'->g x σ H' λσ2 H2=>tb { D with nx:=N,ct:=N,bk:=D.nx } σ2 H2):=by
 refine ⟨λi m σ H=>m=xs.length - i/\i<=xs.length/\Pv i σ H,⟨xs.length,by simp,NW _,h0⟩,?_⟩;rintro i m σ H ⟨rfl,hi,p⟩;have q:=hl i σ H hi p;by_cases hlt:i < xs.length
 ·refine .inr ⟨⟨xs,xs[i],q,by simp [hlt]⟩,Pv (i+1),λσ' H' p'=>⟨xs.length - (i+1),by omega,rfl,hlt,p'⟩,λx H' y=>?_⟩;obtain ⟨e,y⟩:=y;subst e;exact hs i x σ _ (y xs q) p
 ·have e:i=xs.length:=by omega
  subst e;exact .inl ⟨⟨xs,q,M0 _⟩,hd σ H p⟩
theorem lB {K:PySem.W.Frag} {D:i5} (Pv:Nat->St->Hp->Prop) (h0:Pv 0 σ H) (hl:∀ i σ H,i<=xs.length->Pv i σ H->QH K H a xs)
  (hs:∀ i x σ H,xs[i]?=some x->Pv i σ H->g x σ H λσ2 H2=>tb { D with nx:=Pv (i+1),ct:=Pv (i+1),bk:=D.nx } σ2 H2) (hd:∀ σ H,Pv xs.length σ H->D.nx σ H) :
  ∃ W:Nat->Nat->St->Hp->Prop,(∃ m,W 0 m σ H)/\∀ i m σ H,W i m σ H ->
   ((Yd K a).stop i H/\D.nx σ H)\/((Yd K a).go i H/\∃ N:St->Hp->Prop,(∀ σ' H',N σ' H'->∃ m',m' < m/\W (i+1) m' σ' H')/\∀ x H',(Yd K a).VC i H x H'->g x σ H' λσ2 H2=>tb { D with nx:=N,ct:=N,bk:=D.nx } σ2 H2):=by
 refine ⟨λi m σ H=>m=xs.length - i/\i<=xs.length/\Pv i σ H,⟨xs.length,by simp,NW _,h0⟩,?_⟩;rintro i m σ H ⟨rfl,hi,p⟩;have q:=hl i σ H hi p;by_cases hlt:i < xs.length
 ·refine .inr ⟨⟨xs,xs[i],q,by simp [hlt]⟩,Pv (i+1),λσ' H' p'=>⟨xs.length - (i+1),by omega,rfl,hlt,p'⟩,λx H' y=>?_⟩;obtain ⟨e,y⟩:=y;subst e;exact hs i x σ _ (y xs q) p
 ·have e:i=xs.length:=by omega
  subst e;exact .inl ⟨⟨xs,q,M0 _⟩,hd σ H p⟩
variable {n:Nat}
theorem zi {lo:Int} {D:i5} (Pv:Nat->St->Hp->Prop) (h0:Pv 0 σ H)
  (hs:∀ i σ H,i < n->Pv i σ H->g (.int (lo+i)) σ H λσ2 H2=>tb { D with nx:=Pv (i+1),ct:=Pv (i+1),bk:=D.nx } σ2 H2) (hd:∀ σ H,Pv n σ H->D.nx σ H) :
  ∃ W:Nat->Nat->St->Hp->Prop,(∃ m,W 0 m σ H)/\∀ i m σ H,W i m σ H ->
   ((XO lo n).stop i H/\D.nx σ H)\/((XO lo n).go i H/\∃ N:St->Hp->Prop,(∀ σ' H',N σ' H'->∃ m',m' < m/\W (i+1) m' σ' H')/\∀ x H',(XO lo n).VC i H x H'->g x σ H' λσ2 H2=>tb { D with nx:=N,ct:=N,bk:=D.nx } σ2 H2):=by
 refine ⟨λi m σ H=>m=n - i/\i<=n/\Pv i σ H,⟨n,by simp,NW _,h0⟩,?_⟩;rintro i m σ H ⟨rfl,hi,p⟩;by_cases hlt:i < n
 ·refine .inr ⟨hlt,Pv (i+1),λσ' H' p'=>⟨n - (i+1),by omega,rfl,hlt,p'⟩,λx H' y=>?_⟩;obtain ⟨e,y⟩:=y;subst e y;exact hs i σ _ hlt p
 ·have e:i=n:=by omega
  subst e;exact .inl ⟨M0 _,hd σ H p⟩
theorem qj {c:TT} {D:i5} (Pv:St->Hp->Prop) (μ:St->Hp->Nat) (h0:Pv σ H)
  (hs:∀ σ H,Pv σ H->c σ H λb H1=>if b=true then tb { D with nx:=λσ' H'=>Pv σ' H'/\μ σ' H' < μ σ H,ct:=λσ' H'=>Pv σ' H'/\μ σ' H' < μ σ H,bk:=D.nx } σ H1 else D.nx σ H1)
  (mono:∀ σ H Q Q',(∀ b H1,Q b H1->Q' b H1)->c σ H Q->c σ H Q'):xp c tb D σ H:=by
 refine ⟨λm σ H=>m=μ σ H/\Pv σ H,⟨_,rfl,h0⟩,?_⟩;rintro m σ H ⟨rfl,p⟩;refine mono σ H _ _ (λb H1 q=>?_) (hs σ H p)
 cases b with
 | true=>exact ⟨_,λσ' H' ⟨p',l⟩=>⟨_,l,rfl,p'⟩,q⟩
 | false=>exact q
noncomputable abbrev R2:=V->V->Hp->VK->Prop
noncomputable def So (X:Cx) (f:Value->Value->Sem Value) (r:R2):Prop :=
 ∀ (pins:List (Addr × Obj)) (s:Shared) (σ:St) (H:Hp) (x y:V) (v u:Value) (Q:VK),Inv X pins σ H s->RelV x v->RelV y u->r x y H Q ->
  wpAny (model X.prog X.w) X.A (f v u) (EP X pins σ Q) X.xe s
noncomputable def UnR (X:Cx) (f:Value->Sem Value) (r:V->Hp->VK->Prop):Prop :=
 ∀ (pins:List (Addr × Obj)) (s:Shared) (σ:St) (H:Hp) (x:V) (v:Value) (Q:VK),Inv X pins σ H s->RelV x v->r x H Q ->
  wpAny (model X.prog X.w) X.A (f v) (EP X pins σ Q) X.xe s
noncomputable def iu (X:Cx) (f:Value) (r:List V->Hp->VK->Prop):Prop :=
 ∀ (pins:List (Addr × Obj)) (s:Shared) (σ:St) (H:Hp) (xs:List V) (us:List Value) (Q:VK),Inv X pins σ H s->Vals xs us->r xs H Q ->
  wpAny (model X.prog X.w) X.A (call f us) (EP X pins σ Q) X.xe s
noncomputable def Hr (X:Cx) (r:V->Hp->(Bool->Hp->Prop)->Prop):Prop :=
 ∀ (pins:List (Addr × Obj)) (s:Shared) (σ:St) (H:Hp) (x:V) (v:Value) (Q:Bool->Hp->Prop),Inv X pins σ H s->RelV x v->r x H Q ->
  wpAny (model X.prog X.w) X.A (truthy v) (TP X pins σ Q) X.xe s
noncomputable def S5 (r:R2) (ta tb:TE):TE:=λσ H Q=>ta σ H λx H1=>tb σ H1 λy H2=>r x y H2 Q
noncomputable def tUn (r:V->Hp->VK->Prop) (ta:TE):TE:=λσ H Q=>ta σ H λx H1=>r x H1 Q
noncomputable def rI (C:Int->Int->Prop) (g:Int->Int->V):R2:=λx y H Q=>∃ i j,x=.int i/\y=.int j/\C i j/\Q (g i j) H
noncomputable def Wl (g:Int->Int->V):R2:=λx y H Q=>∃ i j,x=.int i/\y=.int j/\Q (g i j) H
noncomputable def rU (g:Int->V):V->Hp->VK->Prop:=λx H Q=>∃ i,x=.int i/\Q (g i) H
section
variable {X:Cx} {a b c:Expr} {ta tb tc:TE} {pos:Pos}
variable {f:Value->Value->Sem Value}
theorem E4 (ha:PE X a ta) (hb:PE X b tb) {pins:List (Addr × Obj)} {s:Shared} {σ:St} {H:Hp} {R:V->V->Hp->Prop} (I:Inv X pins σ H s)
  (h:ta σ H λx H1=>tb σ H1 λy H2=>R x y H2) {Q:Value->Shared->Prop}
  (hf:∀ v u s2 x y H2,Inv X pins σ H2 s2->RelV x v->RelV y u->R x y H2->wpAny (model X.prog X.w) X.A (f v u) Q X.xe s2) :
  wpAny (model X.prog X.w) X.A (eval a X.env) (λv s₁=>wpAny (model X.prog X.w) X.A (eval b X.env) (λu s₂=>wpAny (model X.prog X.w) X.A (f v u) Q X.xe s₂) X.xe s₁) X.xe s:=by
 refine Qt (ha pins s σ H _ I h) λv s1 ⟨x,H1,I1,r1,q1⟩=>?_;refine Qt (hb pins s1 σ H1 _ I1 q1) λu s2 ⟨y,H2,I2,r2,q2⟩=>?_;exact hf v u s2 x y H2 I2 r1 r2 q2
theorem bK {op:Operator} {r:R2} (ho:So X (binaryOp op) r) (ha:PE X a ta) (hb:PE X b tb):PE X (.BinOp a op b pos) (S5 r ta tb):=by intro pins s σ H Q I h;exact wpAny_BinOp (E4 ha hb I h λv u s2 x y H2 I2 rx ry q=>ho pins s2 σ H2 x y v u Q I2 rx ry q)
theorem Eu {op:UnaryOp} {r:V->Hp->VK->Prop} (ho:UnR X (unaryOp op) r) (ha:PE X a ta):PE X (.UnaryOp op a pos) (tUn r ta):=by intro pins s σ H Q I h;exact UnaryOp_ (Qt (ha pins s σ H _ I h) λv s1 ⟨x,H1,I1,r1,q1⟩=>ho pins s1 σ H1 x v Q I1 r1 q1)
variable {g:Int->Int->Int}
theorem Zc {C:Int->Int->Prop}
  (rule:∀ (i j:Int) (t u:Tok) (s:Shared) (Q:Value->Shared->Prop) (E:Value->Shared->Prop),C i j->Q (.int (g i j) s.toks) { s with toks:=s.toks+1 }->wpAny (model X.prog X.w) X.A (f (.int i t) (.int j u)) Q E s) :
  So X f (rI C λi j=>.int (g i j)):=by
 intro pins s σ H x y v u Q I rx ry h;obtain ⟨i,j,rfl,rfl,hc,q⟩:=h;obtain ⟨t,rfl⟩:=rx;obtain ⟨t',rfl⟩:=ry;exact rule i j t t' s _ _ hc ⟨.int (g i j),H,I.tok _,⟨_,rfl⟩,q⟩
theorem GS
  (rule:∀ (i j:Int) (t u:Tok) (s:Shared) (Q:Value->Shared->Prop) (E:Value->Shared->Prop),Q (.int (g i j) s.toks) { s with toks:=s.toks+1 }->wpAny (model X.prog X.w) X.A (f (.int i t) (.int j u)) Q E s) :
  So X f (Wl λi j=>.int (g i j)):=by
 intro pins s σ H x y v u Q I rx ry h;obtain ⟨i,j,rfl,rfl,q⟩:=h;obtain ⟨t,rfl⟩:=rx;obtain ⟨t',rfl⟩:=ry;exact rule i j t t' s _ _ ⟨.int (g i j),H,I.tok _,⟨_,rfl⟩,q⟩
theorem Dr {g:Int->Int->Bool}
  (rule:∀ (i j:Int) (t u:Tok) (s:Shared) (Q:Value->Shared->Prop) (E:Value->Shared->Prop),Q (.bool (g i j)) s->wpAny (model X.prog X.w) X.A (f (.int i t) (.int j u)) Q E s) :
  So X f (Wl λi j=>.bl (g i j)):=by
 intro pins s σ H x y v u Q I rx ry h;obtain ⟨i,j,rfl,rfl,q⟩:=h;obtain ⟨t,rfl⟩:=rx;obtain ⟨t',rfl⟩:=ry;exact rule i j t t' s _ _ ⟨.bl (g i j),H,I,rfl,q⟩
noncomputable def CC (i j:Int):Prop:=0 < j/\j < 1073741824
noncomputable def Ho (i j:Int):Prop:=0<=j/\j<=1000000/\i.natAbs < 2 ^ 64
noncomputable def WU (i j:Int):Prop:=(-(2 ^ 64) < i/\i < 2 ^ 64)\/(-(2 ^ 64) < j/\j < 2 ^ 64)
theorem WU.ok {i j:Int} (h:WU i j):IntMulOk i j:=by
 rcases h with ⟨h1,h2⟩ | ⟨h1,h2⟩
 ·exact .of_left (intBits_le_64 h1 h2)
 ·exact .of_right (intBits_le_64 h1 h2)
theorem cJ:So X (binaryOp .Add) (Wl λi j=>.int (i+j)):=GS λ_ _ _ _ _ _ _ q=>add_int q
theorem kP:So X (binaryOp .Sub) (Wl λi j=>.int (i - j)):=GS λ_ _ _ _ _ _ _ q=>sub_int q
theorem pC:So X (binaryOp .Mult) (rI WU λi j=>.int (i * j)):=Zc λ_ _ _ _ _ _ _ hc q=>mul_int q hc.ok
theorem jg:So X (binaryOp .FloorDiv) (rI CC λi j=>.int (i / j)):=Zc λi j _ _ _ _ _ hc q=>by have h1:(0:Int) < j:=hc.1;have h2:j < 1073741824:=hc.2;exact floordiv_int (by omega) (by rw [Int.fdiv_eq_ediv_of_nonneg i (by omega)];exact q) (.inl (PyProof.noPylong_small (by omega)))
theorem fg:So X (binaryOp .Mod) (rI (λ_ j=>0 < j) λi j=>.int (i % j)):=Zc λi j _ _ _ _ _ hc q=>by have h1:(0:Int) < j:=hc;exact mod_int' (by omega) (by rw [Int.fmod_eq_emod_of_nonneg i (by omega)];exact q)
theorem tD:So X (binaryOp .Pow) (rI Ho λi j=>.int (i ^ j.toNat)):=Zc λ_ _ _ _ _ _ _ hc q=>pow_int_small hc.1 hc.2.1 hc.2.2 q
theorem unI {f:Value->Sem Value} {g:Int->Int}
  (rule:∀ (i:Int) (t:Tok) (s:Shared) (Q:Value->Shared->Prop) (E:Value->Shared->Prop),Q (.int (g i) s.toks) { s with toks:=s.toks+1 }->wpAny (model X.prog X.w) X.A (f (.int i t)) Q E s) :
  UnR X f (rU λi=>.int (g i)):=by
 intro pins s σ H x v Q I rx h;obtain ⟨i,rfl,q⟩:=h;obtain ⟨t,rfl⟩:=rx;exact rule i t s _ _ ⟨.int (g i),H,I.tok _,⟨_,rfl⟩,q⟩
theorem Ct:UnR X (unaryOp .USub) (rU λi=>.int (-i)):=unI λ_ _ _ _ _ q=>neg_int q
end
noncomputable def Hb:V->V->Bool
 | .Qj,.Qj=>true | .Qj,.int _=>true | .int _,.Qj=>true | .Qj,.bl _=>true | .bl _,.Qj=>true | .Qj,.str _=>true | .str _,.Qj=>true
 | .int _,.int _=>true | .bl _,.bl _=>true | .str _,.str _=>true | .Wh _,.Wh _=>true
 | .int _,.str _=>true | .str _,.int _=>true | .bl _,.str _=>true | .str _,.bl _=>true
 | _,_=>false
noncomputable def rEq:R2:=λx y H Q=>Hb x y=true/\Q (.bl (decide (x=y))) H
noncomputable def ZY:R2:=λx y H Q=>Hb x y=true/\Q (.bl (!decide (x=y))) H
theorem xR {i j:Int}:decide (V.int i=V.int j)=(i == j):=by rw [O7];simp
theorem AO {i j:Bool}:decide (V.bl i=V.bl j)=(i == j):=by rw [O7];simp
theorem xS {i j:Str}:decide (V.str i=V.str j)=(i == j):=by rw [O7];simp
theorem xQ {i j:Array UInt8}:decide (V.Wh i=V.Wh j)=(i.toList == j.toList):=by rw [O7];cases i;cases j;simp
section
variable {X:Cx} {a b c:Expr} {ta tb tc:TE} {pos:Pos}
theorem cP {pins:List (Addr × Obj)} {σ:St} {H:Hp} {s:Shared} {Q:VK} {k k':Bool} (I:Inv X pins σ H s) (q:Q (.bl k) H) (e:k=k'):EP X pins σ Q (.bool k') s:=by subst e;exact ⟨.bl k,H,I,rfl,q⟩
theorem cA:So X (compareOp .Eq) rEq:=by
 intro pins s σ H x y v u Q I rx ry h;obtain ⟨hs,q⟩:=h
 cases x with
 | Qj =>
  cases rx
  cases y with
  | Qj=>cases ry;exact PySem.EqNone.eq_none_none (cP I q (by simp))
  | bl j=>cases ry;exact PySem.EqNone.eq_none_bool (cP I q (by simp))
  | int j=>obtain ⟨t',rfl⟩:=ry;exact PySem.EqNone.eq_none_int (cP I q (by simp))
  | str j=>obtain ⟨t',rfl⟩:=ry;exact PySem.EqNone.eq_none_str (cP I q (by simp))
  | _=>exact absurd (show false=true from hs) MY
 | bl i =>
  cases rx
  cases y with
  | Qj=>cases ry;exact PySem.EqNone.eq_bool_none (cP I q (by simp))
  | bl j=>cases ry;exact eq_bool (cP I q AO)
  | str j=>obtain ⟨t',rfl⟩:=ry;exact PySem.EqMixed.eq_bool_str (cP I q (by simp))
  | _=>exact absurd (show false=true from hs) MY
 | int i =>
  obtain ⟨t,rfl⟩:=rx
  cases y with
  | Qj=>cases ry;exact PySem.EqNone.eq_int_none (cP I q (by simp))
  | int j=>obtain ⟨t',rfl⟩:=ry;exact eq_int (cP I q xR)
  | str j=>obtain ⟨t',rfl⟩:=ry;exact PySem.EqMixed.eq_int_str (cP I q (by simp))
  | _=>exact absurd (show false=true from hs) MY
 | str i =>
  obtain ⟨t,rfl⟩:=rx
  cases y with
  | Qj=>cases ry;exact PySem.EqNone.eq_str_none (cP I q (by simp))
  | bl j=>cases ry;exact PySem.EqMixed.eq_str_bool (cP I q (by simp))
  | int j=>obtain ⟨t',rfl⟩:=ry;exact PySem.EqMixed.eq_str_int (cP I q (by simp))
  | str j=>obtain ⟨t',rfl⟩:=ry;exact eq_str (cP I q xS)
  | _=>exact absurd (show false=true from hs) MY
 | Wh i =>
  obtain ⟨t,rfl⟩:=rx
  cases y with
  | Wh j=>obtain ⟨t',rfl⟩:=ry;exact W.eq_bytes (cP I q xQ)
  | _=>exact absurd (show false=true from hs) MY
 | _=>cases y <;> exact absurd (show false=true from hs) MY
theorem jN:So X (compareOp .NotEq) ZY:=by
 intro pins s σ H x y v u Q I rx ry h;obtain ⟨hs,q⟩:=h
 cases x with
 | Qj =>
  cases rx
  cases y with
  | Qj=>cases ry;exact PySem.EqNone.ne_none_none (cP I q (by simp))
  | bl j=>cases ry;exact PySem.EqNone.ne_none_bool (cP I q (by simp))
  | int j=>obtain ⟨t',rfl⟩:=ry;exact PySem.EqNone.ne_none_int (cP I q (by simp))
  | str j=>obtain ⟨t',rfl⟩:=ry;exact PySem.EqNone.ne_none_str (cP I q (by simp))
  | _=>exact absurd (show false=true from hs) MY
 | bl i =>
  cases rx
  cases y with
  | Qj=>cases ry;exact PySem.EqNone.ne_bool_none (cP I q (by simp))
  | bl j=>cases ry;exact ne_bool (cP I q (Nq not AO))
  | str j=>obtain ⟨t',rfl⟩:=ry;exact PySem.EqMixed.ne_bool_str (cP I q (by simp))
  | _=>exact absurd (show false=true from hs) MY
 | int i =>
  obtain ⟨t,rfl⟩:=rx
  cases y with
  | Qj=>cases ry;exact PySem.EqNone.ne_int_none (cP I q (by simp))
  | int j=>obtain ⟨t',rfl⟩:=ry;exact ne_int (cP I q (Nq not xR))
  | str j=>obtain ⟨t',rfl⟩:=ry;exact PySem.EqMixed.ne_int_str (cP I q (by simp))
  | _=>exact absurd (show false=true from hs) MY
 | str i =>
  obtain ⟨t,rfl⟩:=rx
  cases y with
  | Qj=>cases ry;exact PySem.EqNone.ne_str_none (cP I q (by simp))
  | bl j=>cases ry;exact PySem.EqMixed.ne_str_bool (cP I q (by simp))
  | int j=>obtain ⟨t',rfl⟩:=ry;exact PySem.EqMixed.ne_str_int (cP I q (by simp))
  | str j=>obtain ⟨t',rfl⟩:=ry;exact ne_str (cP I q (Nq not xS))
  | _=>exact absurd (show false=true from hs) MY
 | Wh i =>
  obtain ⟨t,rfl⟩:=rx
  cases y with
  | Wh j=>obtain ⟨t',rfl⟩:=ry;exact W.ne_bytes (cP I q (Nq not xQ))
  | _=>exact absurd (show false=true from hs) MY
 | _=>cases y <;> exact absurd (show false=true from hs) MY
theorem ni:So X (compareOp .Lt) (Wl λi j=>.bl (decide (i < j))):=Dr λ_ _ _ _ _ _ _ q=>lt_int q
theorem ib:So X (compareOp .LtE) (Wl λi j=>.bl (decide (i<=j))):=Dr λ_ _ _ _ _ _ _ q=>le_int q
theorem rl:So X (compareOp .Gt) (Wl λi j=>.bl (decide (j < i))):=Dr λ_ _ _ _ _ _ _ q=>gt_int q
theorem rj:So X (compareOp .GtE) (Wl λi j=>.bl (decide (j<=i))):=Dr λ_ _ _ _ _ _ _ q=>ge_int q
theorem wN:So X (compareOp .Is) (λx y H Q=>y=.Qj/\Q (.bl (decide (x=.Qj))) H):=by
 intro pins s σ H x y v u Q I rx ry h;obtain ⟨rfl,q⟩:=h;cases ry;refine is_none_gen (cP I q ?_)
 cases x <;> first
  | (cases rx;rfl)
  | (obtain ⟨t,rfl⟩:=rx;rfl)
theorem Dv:So X (compareOp .IsNot) (λx y H Q=>y=.Qj/\Q (.bl (!decide (x=.Qj))) H):=by
 intro pins s σ H x y v u Q I rx ry h;obtain ⟨rfl,q⟩:=h;cases ry;refine isnot_none_gen (cP I q ?_)
 cases x <;> first
  | (cases rx;rfl)
  | (obtain ⟨t,rfl⟩:=rx;rfl)
variable {r r':R2}
theorem So.or {f:Value->Value->Sem Value} (h:So X f r) (h':So X f r'):So X f (λx y H Q=>r x y H Q\/r' x y H Q):=by
 intro pins s σ H x y v u Q I rx ry q;rcases q with q | q
 ·exact h pins s σ H x y v u Q I rx ry q
 ·exact h' pins s σ H x y v u Q I rx ry q
variable {op:CmpOp}
theorem aU (b:Expr) (h:op≠.In:=by decide) (h2:op≠.NotIn:=by decide):behindInMarks op b=false:=by
 have e1:(op == CmpOp.In)=false:=by cases op <;> first | rfl | exact absurd rfl h
 have e2:(op == CmpOp.NotIn)=false:=by cases op <;> first | rfl | exact absurd rfl h2
 cases b <;> simp [behindInMarks,e1,e2]
theorem dP (ho:So X (compareOp op) r) (ha:PE X a ta) (hb:PE X b tb) (hm:behindInMarks op b=false):PE X (.Compare a [op] [b] pos) (S5 r ta tb):=by intro pins s σ H Q I h;exact wpAny_Compare1 (E4 ha hb I h λv u s2 x y H2 I2 rx ry q=>ho pins s2 σ H2 x y v u Q I2 rx ry q) hm
noncomputable def Cm (t:TE):TT:=λσ H Q=>t σ H λx H'=>∃ k,x=.bl k/\Q k H'
theorem aN (ho:So X (compareOp op) r) (ha:PE X a ta) (hb:PE X b tb) (hm:behindInMarks op b=false):PT X (.Compare a [op] [b] pos) (Cm (S5 r ta tb)):=by
 intro pins s σ H Q I h
 refine wpAny_isTrue_Compare1 (Qt (ha pins s σ H _ I h) λv s1 ⟨x,H1,I1,r1,q1⟩=>Qt (hb pins s1 σ H1 _ I1 q1) λu s2 ⟨y,H2,I2,r2,q2⟩ =>
  Qt (ho pins s2 σ H2 x y v u _ I2 r1 r2 q2) λc s3 ⟨z,H3,I3,r3,k,e,q3⟩=>?_) hm
 subst e;cases r3;exact N3 ⟨H3,I3,q3⟩
noncomputable def t9 (r r':R2) (ta tb tc:TE):TE:=λσ H Q=>ta σ H λx H1=>tb σ H1 λy H2=>r x y H2 λz H3=>∃ k,z=.bl k /\
 (if k=true then tc σ H3 λw' H4=>r' y w' H4 Q else Q (.bl false) H3)
variable {op':CmpOp}
theorem uZ (ho:So X (compareOp op) r) (ho':So X (compareOp op') r') (ha:PE X a ta) (hb:PE X b tb) (hc:PE X c tc)
  (hm:lastMarks [op,op'] [b,c]=false:=by with_unfolding_all rfl):PE X (.Compare a [op,op'] [b,c] pos) (t9 r r' ta tb tc):=by
 intro pins s σ H Q I h
 refine Compare_chain (Qt (ha pins s σ H _ I h) λv s1 ⟨x,H1,I1,r1,q1⟩=>chain_link (Qt (hb pins s1 σ H1 _ I1 q1) λu s2 ⟨y,H2,I2,r2,q2⟩ =>
  Qt (ho pins s2 σ H2 x y v u _ I2 r1 r2 q2) λd s3 ⟨z,H3,I3,r3,k,e,q3⟩=>?_)) hm
 subst e;cases r3;refine N3 ?_
 cases k with
 | false=>exact ite_ff ⟨.bl false,H3,I3,rfl,q3⟩
 | true=>exact ite_tt (chain_last (Qt (hc pins s3 σ H3 _ I3 q3) λw' s4 ⟨z',H4,I4,r4,q4⟩=>ho' pins s4 σ H4 y z' u w' Q I4 r2 r4 q4))
theorem lP (ho:So X (compareOp op) r) (ho':So X (compareOp op') r') (ha:PE X a ta) (hb:PE X b tb) (hc:PE X c tc)
  (hm:lastMarks [op,op'] [b,c]=false:=by with_unfolding_all rfl):PT X (.Compare a [op,op'] [b,c] pos) (Cm (t9 r r' ta tb tc)):=by
 intro pins s σ H Q I h
 refine isTrue_chain (Qt (ha pins s σ H _ I h) λv s1 ⟨x,H1,I1,r1,q1⟩=>test_link (Qt (hb pins s1 σ H1 _ I1 q1) λu s2 ⟨y,H2,I2,r2,q2⟩ =>
  Qt (ho pins s2 σ H2 x y v u _ I2 r1 r2 q2) λd s3 ⟨z,H3,I3,r3,k,e,q3⟩=>?_)) hm
 subst e;cases r3;refine N3 ?_
 cases k with
 | false =>obtain ⟨k',e',q'⟩:=q3;cases e';exact ite_ff ⟨H3,I3,q'⟩
 | true =>refine ite_tt (test_last (Qt (hc pins s3 σ H3 _ I3 q3) λw' s4 ⟨z',H4,I4,r4,q4⟩=>Qt (ho' pins s4 σ H4 y z' u w' _ I4 r2 r4 q4) λd' s5 ⟨z2,H5,I5,r5,k2,e2,q5⟩=>?_));subst e2;cases r5;exact N3 ⟨H5,I5,q5⟩
noncomputable def vR (K:W.Frag) (x:V) (H:Hp) (k:Bool):Prop :=
 match x with
 | .Qj=>k=false
 | .bl b=>k=b
 | .int i=>k=(i != 0)
 | .str y=>y.length<=sizeLine/\k=((y.length:Int) != 0)
 | .Wh y=>y.size<=sizeLine/\k=((y.size:Int) != 0)
 | .ref p=>(∃ xs,Qp K H p xs/\k=!xs.isEmpty)\/(∃ xs,QH K H p xs/\k=!xs.isEmpty)\/∃ kvs,H p=some (.dK kvs)/\k=!kvs.isEmpty
 | _=>False
theorem wg {κ:Type} {kvs:List (κ × V)} {vs:List (κ × Value)} (r:KV kvs vs):(!vs.isEmpty)=!kvs.isEmpty:=by cases r <;> rfl
theorem o3 {xs:List V} {its:List Value} (r:Vals xs its):(!its.toArray.isEmpty)=!xs.isEmpty:=by cases r <;> simp
theorem kN:(sizeLine:Nat) < 2 ^ 63:=by rw [OW];decide
theorem Gp:Hr X (λx H Q=>∃ k,vR X.K x H k/\Q k H):=by
 intro pins s σ H x v Q I rx h;obtain ⟨k,e,q⟩:=h;have hl:=kN;have hs:sizeLine=16777216:=OW
 cases x with
 | Qj =>cases rx;have e':k=false:=e;subst e';exact truthy_none ⟨H,I,q⟩
 | bl b =>cases rx;have e':k=b:=e;subst e';exact N3 ⟨H,I,q⟩
 | int i =>obtain ⟨t,rfl⟩:=rx;have e':k=(i != 0):=e;subst e';exact PySem.P.truthy_int ⟨H,I,q⟩
 | str y =>obtain ⟨t,rfl⟩:=rx;obtain ⟨hy,e'⟩:y.length<=sizeLine/\k=((y.length:Int) != 0):=e;subst e';exact PySem.P.truthy_str (by omega) ⟨H,I.tok _,q⟩
 | Wh y =>obtain ⟨t,rfl⟩:=rx;obtain ⟨hy,e'⟩:y.size<=sizeLine/\k=((y.size:Int) != 0):=e;subst e';exact W.truthy_bytes (by omega) ⟨H,I.tok _,q⟩
 | ref p =>
  cases rx;have e':(∃ xs,Qp X.K H p xs/\k=!xs.isEmpty)\/(∃ xs,QH X.K H p xs/\k=!xs.isEmpty)\/∃ kvs,H p=some (.dK kvs)/\k=!kvs.isEmpty:=e;rcases e' with ⟨xs,hx,e'⟩ | ⟨xs,hx,e'⟩ | ⟨kvs,hx,e'⟩
  ·subst e';obtain ⟨its,r,pl,hz⟩:=I.list hx;have hlen:=r.length;exact wpAny_truthy_list pl.isList (by simp only [M9];omega) ⟨H,I.tok _,by rw [o3 r];exact q⟩
  ·subst e';obtain ⟨its,r,pl,hz⟩:=I.tuple hx;have hlen:=r.length;exact truthy_tuple pl (by simp only [M9];omega) ⟨H,I.tok _,by rw [o3 r];exact q⟩
  ·subst e';obtain ⟨hz,hS,vs,r,m⟩:kvs.length<=sizeLine/\(p == sysModules)=false/\∃ vs,KV kvs vs/\s.heap.DictOf (ft X.prog X.w) p vs:=I.hok p _ hx;have hlen:kvs.length=vs.length:=Paired.length r;exact wpAny_truthy_dict hS m (by omega) ⟨H,I.tok _,by rw [wg r];exact q⟩
 | _=>exact (show False from e).elim
theorem bP (ha:PE X a ta) (he:∀ whole,isTrue a X.env whole=(do let v <- whole;standAt a.pos;holding [v] (truthy v))) :
  PT X a (λσ H Q=>ta σ H λx H'=>∃ k,vR X.K x H' k/\Q k H'):=by
 intro pins s σ H Q I h;exact isTrue_plain (Qt (ha pins s σ H _ I h) λv s1 ⟨x,H1,I1,r1,q1⟩=>Gp pins s1 σ H1 x v Q I1 r1 q1) (he _)
variable {x:V} {us:List Value}
theorem ie (r:Vals [x] us):∃ u,us=[u]/\RelV x u:=by
 cases r with
 | cons r1 r2=>cases r2;exact ⟨_,rfl,r1⟩
theorem Hn {y:V} (r:Vals [x,y] us):∃ u w',us=[u,w']/\RelV x u/\RelV y w':=by
 cases r with
 | cons r1 r2 =>
  cases r2 with
  | cons r3 r4=>cases r4;exact ⟨_,_,rfl,r1,r3⟩
end
structure V5 (h:Heap) (x dx C:Addr) (mA:Str->Option Value):Prop where
 obj:h.get? x=some (W.instObj C dx)
 ns:h.Ns1 dx mA
 ne:dx≠x
variable {dx:Addr} {mA:Str->Option Value}
theorem zw (n:h.Ns1 dx mA):∃ od,h.get? dx=some od/\∀ name,W.lookIn name od=some (mA name):=by
 obtain ⟨o,es,ep,ho,hd,hk,_,hm⟩:=n;refine ⟨o,ho,λname=>?_⟩;have e:=hm name;unfold nsFind findBy at e;rw [<- Array.find?_toList] at e;unfold W.lookIn;rw [hd];dsimp only;split
 ·rename_i y q;rw [q] at e;exact Nq some e
 ·rename_i q;rw [q] at e
  have a:es.toList.any (·.refKey)=false:=by rw [List.any_eq_false];intro y hy;obtain ⟨z,t,hkey⟩:=hk y (Array.mem_toList_iff.mp hy);simp [DictEntry.refKey,hkey]
  have a':¬ es.toList.any (·.refKey)=true:=by rw [a];exact MY
  rw [MR a'];exact Nq some e
variable {C:Addr}
theorem V5.look {x:Addr} (I:V5 h x dx C mA):∃ od,W.InstAt h x (W.instObj C dx) C (some od)/\∀ name,W.lookIn name od=some (mA name) :=
 let ⟨od,ho,hl⟩:=zw I.ns
 ⟨od,⟨I.obj,rfl,rfl,ho⟩,hl⟩
section
variable {prog:Program} {w:World} {A:Around} {E:Value->Shared->Prop} {s:Shared} {K:W.Frag} {x dx C f:Addr} {mA:Str->Option Value} {name:Str} {v:Value}
theorem C3 {expr:Bool} {Q:Value->Shared->Prop} (X:K.In s.heap) (I:V5 s.heap x dx C mA) (hg:W.plainGet K C name=true) (hh:W.hasDictIn K C=true)
  (ha:W.findIn K (.ref C) name=some none) (hv:mA name=some v) (hv':W.handedIn v=true) (h:Q v { s with toks:=s.toks+1 }) :
  wpAny (model prog w) A (getAttr (.ref x) name expr) Q E s:=by
 obtain ⟨od,J,hl⟩:=I.look;exact W.get_value X J (W.plainGet_of hg).1 (W.findObj_own hh ha rfl (by rw [hl,hv])) hv' h
theorem A6 {pl:Sem Bool} {Q:Value × List Value->Shared->Prop} (X:K.In s.heap) (I:V5 s.heap x dx C mA) (hg:W.plainGet K C name=true)
  (hf:W.findIn K (.ref C) name=some (some (.ref f))) (ht:W.isFn K (.ref f)=true) (hv:mA name=none) (h:Q (.ref f,[.ref x]) s) :
  wpAny (model prog w) A (getMethod (.ref x) name pl) Q E s:=by
 obtain ⟨od,J,hl⟩:=I.look;exact W.method_fn X J (W.plainGet_of hg).1 (W.plainGet_of hg).2 hf (P9.mp ht) (by show (W.lookIn name od).map (·.isSome)=some false;rw [hl,hv];rfl) h
theorem D5 {ns:List Str} {Q:Unit->Shared->Prop} (X:K.In s.heap) (I:V5 s.heap x dx C mA)
  (hs:W.findIn K (.ref C) "__setattr__"=some (some (.builtin "object.__setattr__"))) (hp:W.plainOver K C=true) (ht:W.takerIn K C name=some none) (hh:W.hasDictIn K C=true)
  (hw:PySem.Within mA ns) (hsz:ns.length<=sizeLine)
  (h:∀ h',V5 h' x dx C (λy=>if y=name then some v else mA y)->Heap.SameBut dx s.heap h'->Q () { s with heap:=h',toks:=s.toks+2 }) :
  wpAny (model prog w) A (setAttr (.ref x) name v) Q E s:=by
 obtain ⟨od,J,hl⟩:=I.look;refine W.set_plain X J hs (W.osa_open (s:={ s with toks:=s.toks+1 }) (r:=none) X J hp ht λb=>?_);obtain ⟨cd,hc,hd'⟩:=W.any_some hh;have hx:s.heap.get? x=some ⟨.ref C,some dx,.plain,#[]⟩:=I.obj;refine MV (Nc (MV (MV (wpAny_loadPart hx (MV (W.Looks.here (s:={ s with toks:=s.toks+1 }) (W.looks_clsIn X hc) ?_))))));rw [hd'];refine Nc (a:=some dx) (MV (Nc (MV ?_)));refine wpAny_nsSet1 (s:={ s with toks:=s.toks+1 }) I.ns λh' hn2 hs2=>?_;obtain ⟨oD,esD,epD,hoD,hdD,hcD⟩:=hn2.count (PySem.Within.cons name v hw);refine MV (wpAny_lookBehind hoD (by rw [hdD];exact pastItsLine_dict (Nv hcD (by rw [Nd];omega))) ?_);exact Nc (h _ ⟨(hs2.2 _ (Nz I.ne)).trans I.obj,hn2,I.ne⟩ hs2)
theorem Bk {R:Result->Shared->Prop} {vs:List Value} {kw:List (Str × Value)} (X:K.In s.heap) (hm:W.makesIn K C=true)
  (hi:W.findIn K (.ref C) "__init__"=some (some (.ref f))) (hf:W.typeIn K (.ref f)=some (.type "function"))
  (h:codeAny (model prog w) (A.under (.builtin "type.__call__" ⟨.ref C::vs,kw⟩)) (.call (.ref f) ⟨.ref (s.heap.objs.size+1)::vs,kw⟩) (W.InitBack (s.heap.objs.size+1) R)
   {s with heap:=(s.heap.push W.emptyDict).push (W.instObj C s.heap.objs.size) }) :
  codeAny (model prog w) A (.call (.ref C) ⟨vs,kw⟩) R s:=by
 obtain ⟨hh,g,d,t,os⟩:=s;exact W.make_core (W.makes_of X hm) (W.looks_findIn X hi) (λself=>W.bind_fn X self hf) (.inl rfl) h
end
noncomputable def ji (f:Str) (v:V):List (Str × V)->List (Str × V)
 | []=>[(f,v)]
 | (g,x)::r=>if g=f then (g,v)::r else (g,x)::ji f v r
theorem ng (f g:Str) (v:V):∀ fs:List (Str × V),(ji f v fs).lookup g=if g=f then some v else fs.lookup g
 | []=>by
  show List.lookup g [(f,v)]=_;by_cases h:g=f
  ·have hb:(g == f)=true:=P9.mpr h;simp only [List.lookup,hb,MW h]
  ·have hb:(g == f)=false:=OO.mpr h;simp only [List.lookup,hb,MR h]
 | (k,x)::r=>by
  have ih:=ng f g v r;rw [show ji f v ((k,x)::r)=(if k=f then (k,v)::r else (k,x)::ji f v r) from rfl];by_cases hk:k=f
  ·rw [MW hk];by_cases h:g=k
   ·have hb:(g == k)=true:=P9.mpr h;simp only [List.lookup,hb,MW (h.trans hk)]
   ·have hb:(g == k)=false:=OO.mpr h;simp only [List.lookup,hb,MR (λe:g=f=>h (e.trans hk.symm))]
  ·rw [MR hk];by_cases h:g=k
   ·have hb:(g == k)=true:=P9.mpr h;simp only [List.lookup,hb,MR (λe:g=f=>hk (h.symm.trans e))]
   ·have hb:(g == k)=false:=OO.mpr h;simp only [List.lookup,hb];exact ih
theorem my (f:Str) (v:V):∀ fs:List (Str × V),f ∈ (ji f v fs).map (·.1)/\∀ g,g ∈ fs.map (·.1)->g ∈ (ji f v fs).map (·.1)
 | []=>⟨by simp [ji],λg h=>by simp at h⟩
 | (k,x)::r=>by
  obtain ⟨i1,i2⟩:=my f v r;rw [show ji f v ((k,x)::r)=(if k=f then (k,v)::r else (k,x)::ji f v r) from rfl];by_cases hk:k=f
  ·rw [MW hk];subst hk;exact ⟨by simp,λg h=>by simpa using h⟩
  ·rw [MR hk];refine ⟨?_,λg h=>?_⟩
   ·rw [Nb];exact Nj _ i1
   ·rw [Nb] at h ⊢;rcases Na.mp h with e | e
    ·exact Na.mpr (.inl e)
    ·exact Nj _ (i2 g e)
theorem m9 (f:Str) (v:V):∀ fs:List (Str × V),(ji f v fs).length<=fs.length+1
 | []=>by simp [ji]
 | (k,x)::r=>by
  have ih:=m9 f v r;rw [show ji f v ((k,x)::r)=(if k=f then (k,v)::r else (k,x)::ji f v r) from rfl];by_cases hk:k=f
  ·rw [MW hk,Nd,Nd];omega
  ·rw [MR hk,Nd,Nd];omega
theorem Ul.some_of {v:V} {o:Option Value} (r:Ul (some v) o):∃ u,o=some u/\RelV v u:=by
 cases o with
 | none=>exact (show False from r).elim
 | some u=>exact ⟨u,rfl,r⟩
theorem Ul.none_of {o:Option Value} (r:Ul none o):o=none:=by
 cases o with
 | none=>rfl
 | some u=>exact (show False from r).elim
theorem zk {v:V} (r:RelV v u):W.handedIn u=true:=by
 cases v with
 | Qj=>cases (show u=Value.none from r);rfl
 | bl b=>cases (show u=Value.bool b from r);rfl
 | int i=>obtain ⟨t,e⟩:=(show ∃ t,u=Value.int i t from r);cases e;rfl
 | str x=>obtain ⟨t,e⟩:=(show ∃ t,u=Value.str x t from r);cases e;rfl
 | Wh b=>obtain ⟨t,e⟩:=(show ∃ t,u=Value.bytes b t from r);cases e;rfl
 | ZS b=>obtain ⟨t,e⟩:=(show ∃ t,u=Value.float b t from r);cases e;rfl
 | ref a=>cases (show u=Value.ref a from r);rfl
 | ty n=>cases (show u=Value.type n from r);rfl
section
variable {P:Program} {w:World} {H H':Hp} {h h':Heap} {a C dx:Addr} {fs fs':List (Str × V)}
theorem sF (hok:Um P w H h) (e:H a=some (.ins C dx fs)):∃ mA,V5 h a dx C mA/\(∀ f,Ul (fs.lookup f) (mA f))/\PySem.Within mA (fs.map (·.1))/\fs.length<=1000/\H dx=some (.own a):=by
 obtain ⟨d,z,ne,ob,mA,n,r,q⟩:=(show QC P w H h a (.ins C dx fs) from hok a _ e)
 exact ⟨mA,⟨ob,n,ne⟩,r,q,z,d⟩
end
structure Vw (K:W.Frag) (C:Addr):Prop where
 pg:W.plainGet K C Str.empty=true
 hd:W.hasDictIn K C=true
 po:W.plainOver K C=true
 sa:W.findIn K (.ref C) "__setattr__"=some (some (.builtin "object.__setattr__"))
theorem Vw.get (c:Vw K C) (f:Str):W.plainGet K C f=true:=c.pg
noncomputable def Qx (K:W.Frag) (C:Addr) (f:Str):Prop:=W.findIn K (.ref C) f=some none
theorem Qx.Zd {f:Str} (n:Qx K C f):W.takerIn K C f=some none:=by unfold W.takerIn;rw [show W.findIn K (.ref C) f=some none from n];rfl
structure rY (K:W.Frag) (C:Addr) (m:Str) (f:Addr):Prop where
 at_:W.findIn K (.ref C) m=some (some (.ref f))
 fn:W.isFn K (.ref f)=true
 kp:W.keepIn K (.ref f)=true
section
variable {X:Cx} {pins:List (Addr × Obj)} {σ:St} {H:Hp} {s:Shared} {a C dx:Addr} {fs:List (Str × V)} {f:Str} {v:V} {A:Around} {E:Value->Shared->Prop}
theorem wc {b:Bool} {Q:Value->Shared->Prop} (I:Inv X pins σ H s) (e:H a=some (.ins C dx fs)) (c:Vw X.K C) (n:Qx X.K C f) (l:fs.lookup f=some v)
  (h:∀ u s',Inv X pins σ H s'->RelV v u->Q u s'):wpAny (model X.prog X.w) A (getAttr (.ref a) f b) Q E s:=by
 obtain ⟨mA,O,r,_,_,_⟩:=sF I.hok e;obtain ⟨u,hu,ru⟩:=Ul.some_of (v:=v) (o:=mA f) (by rw [<- l];exact r f);exact C3 I.TU O (c.get f) c.hd n hu (zk ru) (h u _ (I.tok _) ru)
theorem oW {m:Str} {g:Addr} {pl:Sem Bool} {Q:Value × List Value->Shared->Prop} (I:Inv X pins σ H s) (e:H a=some (.ins C dx fs)) (c:Vw X.K C) (k:rY X.K C m g) (l:fs.lookup m=none)
  (h:Q (.ref g,[.ref a]) s):wpAny (model X.prog X.w) A (getMethod (.ref a) m pl) Q E s:=by
 obtain ⟨mA,O,r,_,_,_⟩:=sF I.hok e;have hn:mA m=none:=Ul.none_of (by rw [<- l];exact r m);exact A6 I.TU O (c.get m) k.at_ k.fn hn h
theorem xi {y:V} {u:Value} {Q:Unit->Shared->Prop} (I:Inv X pins σ H s) (e:H a=some (.ins C dx fs)) (c:Vw X.K C) (n:Qx X.K C f) (hl:fs.length < 1000) (ry:RelV y u)
  (h:∀ s',Inv X pins σ (upd H a (.ins C dx (ji f y fs))) s'->Q () s'):wpAny (model X.prog X.w) A (setAttr (.ref a) f u) Q E s:=by
 obtain ⟨mA,O,r,wi,_,ho⟩:=sF I.hok e;have hz:(fs.map (·.1)).length<=sizeLine:=by rw [tB,OW];omega
 refine D5 I.TU O c.sa c.po n.Zd c.hd wi hz λh' O' sb=>h _ ?_;have hd:∃ o,h'.get? dx=some o:=let ⟨o,_,_,e',_⟩:=O'.ns;⟨o,e'⟩;refine I.write (x:=a) (e:=dx) (by rw [e];exact True.intro) (.inr ho) (λb q hb z=>(sb.2 b hb).trans z) hd ?_;refine ⟨by rw [aR O.ne];exact ho,?_,O.ne,O'.obj,_,O'.ns,λg=>?_,λg hg=>?_⟩
 ·have:=m9 f y fs;omega
 ·show Ul ((ji f y fs).lookup g) (if g=f then some u else mA g);rw [ng];by_cases q:g=f
  ·rw [MW q,MW q];exact ry
  ·rw [MR q,MR q];exact r g
 ·by_cases q:g=f
  ·rw [q];exact (my f y fs).1
  ·refine (my f y fs).2 g (wi g λz=>hg ?_);show (if g=f then some u else mA g)=none;rw [MR q];exact z
theorem Inv.made (I:Inv X pins σ H s):Inv X pins σ (upd (upd H s.heap.objs.size (.own (s.heap.objs.size+1))) (s.heap.objs.size+1) (.ins C s.heap.objs.size []))
  {s with heap:=(s.heap.push W.emptyDict).push (W.instObj C s.heap.objs.size) }:=by
 have e1:(s.heap.push W.emptyDict).get? s.heap.objs.size=some W.emptyDict:=Nr s.heap rfl
 have e2:((s.heap.push W.emptyDict).push (W.instObj C s.heap.objs.size)).get? (s.heap.objs.size+1)=some (W.instObj C s.heap.objs.size):=by
  have:=Nr (s.heap.push W.emptyDict) (o:=W.instObj C s.heap.objs.size) rfl
  rwa [NY] at this
 have e3:(s.heap.push W.emptyDict).Ns s.heap.objs.size (λ_=>none):=⟨W.emptyDict,#[],_,e1,rfl,(λe he=>absurd he (by simp)),λ_=>rfl⟩
 have I1:=I.laid (a:=s.heap.objs.size) (o:=.own (s.heap.objs.size+1)) (h':=s.heap.push W.emptyDict) (t':=s.toks) (λb u q=>MU _ q) (M0 _) ⟨_,e1⟩;refine I1.laid (a:=s.heap.objs.size+1) (o:=.ins C s.heap.objs.size []) (t':=s.toks) (λb u q=>MU _ q) (Pw (NY _ _)) ?_;have ne:s.heap.objs.size≠s.heap.objs.size+1:=ND (Pp _);refine ⟨by rw [aR ne,aI],NW _,ne,e2,λ_=>none,(Heap.Ns1.of_empty e3).at λo q=>MU _ q,λ_=>True.intro,λy hy=>absurd rfl hy⟩
theorem CI {prog:Program} {w:World} {env:Env} {e:Expr} {f:Str} {pos:Pos} {s:Shared} {Q:Value->Shared->Prop} (hb:attributeBase e f env (eval e env)=eval e env)
  (h:wpAny (model prog w) A (eval e env) (λo s₁=>wpAny (model prog w) A (getAttr o f true) Q E s₁) E s):wpAny (model prog w) A (eval (.Attribute e f pos) env) Q E s :=
 Attribute_any_ h (by rw [arm_eval_Attribute,hb])
end
noncomputable def nP (K:W.Frag) (ta:TE) (f:Str):TE:=λσ H Q=>ta σ H λx H1=>∃ a C dx fs v,x=.ref a/\H1 a=some (.ins C dx fs)/\Vw K C/\Qx K C f/\fs.lookup f=some v/\Q v H1
noncomputable def G9 (K:W.Frag) (ta tv:TE) (f:Str):TS:=λD σ H=>tv σ H λy H1=>ta σ H1 λx H2=>∃ a C dx fs,x=.ref a/\H2 a=some (.ins C dx fs)/\Vw K C/\Qx K C f/\fs.length < 1000 /\
 D.nx σ (upd H2 a (.ins C dx (ji f y fs)))
section
variable {X:Cx} {o e value:Expr} {f:Str} {pos pos' tpos:Pos} {ta tv:TE}
theorem fG (he:PE X e ta) (hb:attributeBase e f X.env (eval e X.env)=eval e X.env):PE X (.Attribute e f pos) (nP X.K ta f):=by intro pins s σ H Q I h;refine CI hb (Qt (he pins s σ H _ I h) λu s1 ⟨x,H1,I1,rx,a,C,dx,fs,v,ex,ea,c,n,l,q⟩=>?_);subst ex;obtain rfl:u=Value.ref a:=rx;exact wc I1 ea c n l λu' s2 I2 ru=>⟨v,H1,I2,ru,q⟩
theorem jh (ha:PE X o ta) (hv:PE X value tv) (hs:swapsWith value (some (.Attribute o f pos')) pos.line X.env=pure false):PS X (.Assign [.Attribute o f pos'] value pos) (G9 X.K ta tv f):=by intro pins s σ H D I h;refine plainObj_wpAny_Assign_Attribute (Qt (hv pins s σ H _ I h) λu s1 ⟨y,H1,I1,ry,q⟩=>Qt (ha pins s1 σ H1 _ I1 q) λov s2 ⟨x,H2,I2,rx,a,C,dx,fs,ex,ea,c,n,l,q2⟩=>?_) hs;subst ex;obtain rfl:ov=Value.ref a:=rx;exact xi I2 ea c n l ry λs3 I3=>⟨σ,_,I3,q2⟩
end
section
variable {X:Cx} {pins:List (Addr × Obj)} {σ:St} {H:Hp} {s:Shared} {A:Around} {E:Value->Shared->Prop} {Q:Value->Shared->Prop} {c:Value} {b:Bool}
end
structure QM (k:Nat) (A:Around):Prop where
 hd:A.handled=none
 dp:A.depth+3 * k+5 < recursionLimit
 un:A.units+16 * k+200 < cLine
variable {j:Nat}
theorem QM.mono {k:Nat} (r:QM k A) (h:j<=k):QM j A:=⟨r.hd,by have:=r.dp;omega,by have:=r.un;omega⟩
theorem QM.deeper {k:Nat} (r:QM (k+1) A) (env:Env):QM k (A.deeper env) :=
 ⟨r.hd,by have:=r.dp;show A.depth+1+3 * k+5 < _;omega,by have:=r.un;show A.units+3+16 * k+200 < _;omega⟩
variable {kw:List (Str × Value)}
theorem wq:(A.under (.builtin "type.__call__" ⟨.ref C::us,kw⟩)).depth=A.depth+1:=by
 first | rfl | simp [Around.under,Code.weight,Code.isCreation,Code.isGuard,Code.isCaller,Code.frames,Code.isFrame,guardIds]
theorem wt:(A.under (.builtin "type.__call__" ⟨.ref C::us,kw⟩)).units=A.units+1:=by
 first | rfl | simp [Around.under,Code.cUnits,Code.frames,Code.isFrame]
theorem QM.make {k:Nat} (r:QM (k+1) A) (C:Addr) (us:List Value) (kw:List (Str × Value)):QM k (A.under (.builtin "type.__call__" ⟨.ref C::us,kw⟩)) :=
 ⟨r.hd,by have:=r.dp;rw [wq];omega,by have:=r.un;rw [wt];omega⟩
theorem QM.depth {k:Nat} (r:QM k A):A.depth < recursionLimit:=by have:=r.dp;omega
theorem QM.units {k:Nat} (r:QM k A):A.units+64 < cLine:=by have:=r.un;omega
noncomputable def eI:TA:=λ_ H Q=>Q [] H
noncomputable def cC (ta:TE) (tr:TA):TA:=λσ H Q=>ta σ H λx H1=>tr σ H1 λxs H2=>Q (x::xs) H2
section
variable {X:Cx} {e:Expr} {es:List Expr} {te:TE} {t:TA} {pos:Pos}
theorem aB:PA X [] eI:=λ_ _ _ _ H Q I h=>Calls.spliced_nil ⟨[],H,I,.nil,h⟩
theorem cZ (ha:PE X e te) (hr:PA X es t) (hs:starEach (e::es) X.env=(false,eval e X.env)::starEach es X.env:=by rfl):PA X (e::es) (cC te t):=by intro pos pins s σ H Q I h;rw [hs];show wpAny _ _ (spliced ((false,eval e X.env)::backTo pos (starEach es X.env))) _ _ s;refine PZ (Qt (ha pins s σ H _ I h) λu s1 ⟨x,H1,I1,r1,q1⟩=>?_);exact Qt (hr pos pins s1 σ H1 _ I1 q1) λus s2 ⟨xs,H2,I2,r2,q2⟩=>⟨x::xs,H2,I2,.cons r1 r2,q2⟩
noncomputable def Cn (t:TA):TE:=λσ H Q=>t σ H λxs H1=>xs.length<=sizeLine/\∀ p,H1 p=none->Q (.ref p) (upd H1 p (.tup xs))
noncomputable def vE (t:TA):TE:=λσ H Q=>t σ H λxs H1=>xs.length<=sizeLine/\∀ p,H1 p=none->Q (.ref p) (upd H1 p (.lst xs))
theorem bR {x1} (h:PA X es t):PE X (.Tuple es x1 pos) (Cn t):=by intro pins s σ H Q I hq;refine wpAny_Tuple_spliced (Qt (h pos pins s σ H _ I hq) λus s1 ⟨xs,H1,I1,r,z,q⟩=>⟨by rw [<- r.length];exact z,?_⟩);have hf:H1 s1.heap.objs.size=none:=I1.hok.fresh (M0 _);refine ⟨.ref s1.heap.objs.size,upd H1 s1.heap.objs.size (.tup xs),I1.laid (t':=s1.toks) (λb u e=>MU _ e) (M0 _) ?_,rfl,q _ hf⟩;exact ⟨z,us,r,⟨_,Nr _ rfl,rfl,_,rfl⟩⟩
theorem c7 (h:PA X es t):PE X (.List es pos) (vE t):=by intro pins s σ H Q I hq;refine wpAny_List_spliced (Qt (h pos pins s σ H _ I hq) λus s1 ⟨xs,H1,I1,r,z,q⟩=>⟨by rw [<- r.length];exact z,?_⟩);have hf:H1 s1.heap.objs.size=none:=I1.hok.fresh (M0 _);refine ⟨.ref s1.heap.objs.size,upd H1 s1.heap.objs.size (.lst xs),I1.laid (t':=s1.toks) (λb u e=>MU _ e) (M0 _) ?_,rfl,q _ hf⟩;exact ⟨z,us,0,r,Nr _ rfl⟩
end
noncomputable abbrev Sp:=List V->Hp->VK->XK->Prop
noncomputable abbrev WI:=List Env->Hp->Shared->XK->Value->Shared->Prop
structure V6 (P:Program) (w:World) (K:W.Frag) (mg:Str->Option Value) (base:Heap) (A:Around) (outer:List Env) (s:Shared) (H:Hp):Prop where
 frames:A.frames=some outer
 mod:Mod K mg base
 bs:∀ b o,base.get? b=some o->s.heap.get? b=some o/\H b=none
 Xs:base.objs.size<=s.heap.objs.size
 U5:s.heap.FunFrames base outer
 Yb:∀ b ∈ frs outer,H b=none
 hok:Um P w H s.heap
 bare:AllBare s.gens
noncomputable def CE (outer:List Env) (P:Program) (w:World) (H:Hp) (s:Shared) (Q:VK) (u:Value) (s':Shared):Prop :=
 ∃ v H',s'.os=s.os/\AllBare s'.gens/\Un (frs outer) [] H H' s.heap s'.heap/\Um P w H' s'.heap/\RelV v u/\Q v H'
noncomputable def CR (CX:WI) (outer:List Env) (P:Program) (w:World) (H:Hp) (s:Shared) (Q:VK) (E:XK) (r:Result) (s':Shared):Prop :=
 match r with
 | .ok (.ret u)=>CE outer P w H s Q u s'
 | .ok _=>False
 | .error e=>CX outer H s E e s'
structure QE (P:Program) (w:World) (K:W.Frag) (mg:Str->Option Value) (base:Heap) (CX:WI) (k:Nat) (f:Addr) (fd:FuncData) (ps:List Str) (sp:Sp):Prop where
 len:∀ vs H Q E,sp vs H Q E->vs.length=ps.length
 run:∀ (A:Around) (outer:List Env) (s:Shared) (H:Hp) (args:Args) (us:List Value) (vs:List V) (Q:VK) (E:XK),QM k A->V6 P w K mg base A outer s H->BindsTo s fd args (ps.zip us)->Vals vs us->sp vs H Q E ->
  codeAny (model P w) A (.call (.ref f) args) (CR CX outer P w H s Q E) s
variable {mg:Str->Option Value} {base:Heap} {CX:WI} {f:Addr} {fd:FuncData} {ps:List Str} {sp:Sp}
theorem QE.mono {k:Nat} (F:QE P w K mg base CX j f fd ps sp) (h:j<=k) :
  QE P w K mg base CX k f fd ps sp:=⟨F.len,λA outer s H args us vs Q E hr=>F.run A outer s H args us vs Q E (hr.mono h)⟩
variable {outer:List Env}
theorem V6.make (e:V6 P w K mg base A outer s H) (C:Addr) (us:List Value) (kw:List (Str × Value)) :
  V6 P w K mg base (A.under (.builtin "type.__call__" ⟨.ref C::us,kw⟩)) outer s H:=⟨by first | exact e.frames | (simpa [Around.under,Code.envs,Code.isFrame,pushEnvs] using e.frames),e.mod,e.bs,e.Xs,e.U5,e.Yb,e.hok,e.bare⟩
section
variable {X:Cx} {pins:List (Addr × Obj)} {σ:St} {H:Hp} {s s':Shared}
theorem Inv.Yg (I:Inv X pins σ H s):V6 X.prog X.w X.K X.mg X.base X.A X.stack s H :=
 ⟨I.ok.frames,I.ok.mod,I.bs,Nv I.ok.Xs I.sz,I.stack,I.Wi,I.hok,I.bare⟩
theorem Inv.after {Q:VK} {u:Value} (I:Inv X pins σ H s) (h:CE X.stack X.prog X.w H s Q u s'):EP X pins σ Q u s':=by obtain ⟨v,H',os,bare,un,hok,r,q⟩:=h;obtain ⟨hh,g,d,t,os'⟩:=s';obtain rfl:os'=s.os:=os;exact ⟨v,H',I.call (h':=hh) (g':=g) (d':=d) (t':=t) (ch:=[]) un hok bare (λb z=>absurd z (by simp)),r,q⟩
end
noncomputable def jV (sp:Sp) (Up:List V) (E:XK) (t:TA):TE:=λσ H Q=>t σ H λvs H1=>sp (vs++Up) H1 Q E
noncomputable def yK (C:Addr) (m:Str) (sp:Sp) (Up:List V) (E:XK) (ta:TE) (t:TA):TE:=λσ H Q=>ta σ H λx H1=>∃ a dx fs,x=.ref a/\H1 a=some (.ins C dx fs)/\fs.lookup m=none /\
 t σ H1 λvs H2=>sp (x::(vs++Up)) H2 Q E
noncomputable def Hh (C:Addr) (sp:Sp) (Up:List V) (E:XK) (t:TA):TE:=λσ H Q=>t σ H λvs H1=>∀ x dx,H1 x=none->H1 dx=none->dx≠x ->
 sp (.ref x::(vs++Up)) (upd (upd H1 dx (.own x)) x (.ins C dx [])) (λv H2=>v=.Qj/\Q (.ref x) H2) E
noncomputable def Binds (K:W.Frag) (fd:FuncData) (ps:List Str) (ds:List Value):Prop :=
 ∀ (s:Shared) (us:List Value),K.In s.heap->(us++ds).length=ps.length->BindsTo s fd ⟨us,[]⟩ (ps.zip (us++ds))
theorem Binds.all (h:∀ us:List Value,us.length=ps.length->bindArgs fd ⟨us,[]⟩=pure (ps.zip us)):Binds K fd ps []:=λs us _ hl=>by rw [Np] at hl ⊢;exact .of_eq (h us hl)
noncomputable def i6 (CX:WI) (X:Cx) (E:XK):Prop:=∀ (pins:List (Addr × Obj)) (σ:St) (H:Hp) (s:Shared) (e:Value) (s':Shared),Inv X pins σ H s->CX X.stack H s E e s'->X.xe e s'
section
variable {X:Cx} {CX:WI} {k:Nat} {f C:Addr} {fd:FuncData} {ps:List Str} {sp:Sp} {Up:List V} {ds:List Value} {E:XK} {x m:Str} {p pos apos:Pos} {e o:Expr} {es:List Expr} {ta:TE} {t:TA}
variable {pins:List (Addr × Obj)} {σ:St} {H:Hp} {s:Shared} {Q:VK} {us:List Value} {vs:List V}
theorem xg (F:QE X.prog X.w X.K X.mg X.base CX k f fd ps sp) (hr:QM k X.A) (hb:Binds X.K fd ps ds) (hd:Vals Up ds) (hx:i6 CX X E)
  (I:Inv X pins σ H s) (r:Vals vs us) (h:sp (vs++Up) H Q E):wpAny (model X.prog X.w) X.A (call (.ref f) us) (EP X pins σ Q) X.xe s:=by
 have r2:Vals (vs++Up) (us++ds):=r.append hd;have hl:(us++ds).length=ps.length:=by rw [<- r2.length];exact F.len _ _ _ _ h
 refine wpAny_call (O0 (F.run X.A X.stack s H ⟨us,[]⟩ (us++ds) (vs++Up) Q E hr I.Yg (hb s us I.TU hl) r2 h) λr s' hq=>?_)
 cases r with
 | error e=>exact hx pins σ H s e s' I hq
 | ok fl =>
  cases fl with
  | ret u=>exact I.after hq
  | next=>exact False.elim hq
  | brk=>exact False.elim hq
  | cont=>exact False.elim hq
theorem yo (F:QE X.prog X.w X.K X.mg X.base CX k f fd ps sp) (hr:QM k X.A) (hg:Gl X x) (hm:X.mg x=some (.ref f)) (hk:W.keepIn X.K (.ref f)=true) (hb:Binds X.K fd ps ds) (hd:Vals Up ds) (hx:i6 CX X E)
  (ha:PA X (e::es) t) (hdb:(x == ("__debug__":Str))=false:=by decide) (he:starEach (e::es) X.env=(false,eval e X.env)::starEach es X.env:=by rfl) (hpl:(backTo pos (starEach es X.env)).any (·.1)=false:=by rfl) :
  PE X (.Call (.Name x p) (e::es) [] pos) (jV sp Up E t):=by
 intro pins s σ H Q I h;refine OR (nU I hg hm ?_ hdb);refine W.callWith_K (h₀:=X.base) I.ok.mod.YH hk (Qt (ha pos pins s σ H _ I h) λus s1 ⟨vs,H1,I1,r,q⟩=>⟨I1.TU,?_⟩) he hpl;exact xg F hr hb hd hx I1 r q
variable {pl:Sem Bool}
theorem gU (he:PE X o ta) (c:Vw X.K C) (hm:rY X.K C m f) (F:QE X.prog X.w X.K X.mg X.base CX k f fd ps sp) (hr:QM k X.A) (hb:Binds X.K fd ps ds) (hd:Vals Up ds) (hx:i6 CX X E) (ha:PA X (e::es) t)
  (hst:starEach (e::es) X.env=(false,eval e X.env)::starEach es X.env:=by rfl) (hpl:(backTo pos (starEach es X.env)).any (·.1)=false:=by rfl)
  (ht:eval (.Call (.Attribute o m apos) (e::es) [] pos) X.env=(do
   let ov <- eval o X.env
   standAt apos.atName
   let (f,first) <- holding [ov] (getMethod ov m pl)
   callWith pos f first (backTo pos (starEach (e::es) X.env)) (backToKw pos (keywordEach [] X.env))):=by rfl) :
  PE X (.Call (.Attribute o m apos) (e::es) [] pos) (yK C m sp Up E ta t):=by
 intro pins s σ H Q I h;refine W.methodCall_KW (pl:=pl) (Qt (he pins s σ H _ I h) λu s1 ⟨x,H1,I1,rx,a,dx,fs,ex,ea,l,q⟩=>?_) ht;subst ex;obtain rfl:u=Value.ref a:=rx;refine oW I1 ea c hm l ?_;refine W.callWith_K (first:=[.ref a]) (h₀:=X.base) I.ok.mod.YH hm.kp (Qt (ha pos pins s1 σ H1 _ I1 q) λus s2 ⟨vs,H2,I2,r,q2⟩=>⟨I2.TU,?_⟩) hst hpl;exact xg (us:=.ref a::us) (vs:=.ref a::vs) F hr hb hd hx I2 (.cons rfl r) q2
theorem iZ (he:PE X o ta) (c:Vw X.K C) (hm:rY X.K C m f) (F:QE X.prog X.w X.K X.mg X.base CX k f fd ps sp) (hr:QM k X.A) (hb:Binds X.K fd ps ds) (hd:Vals Up ds) (hx:i6 CX X E)
  (ht:eval (.Call (.Attribute o m apos) [] [] pos) X.env=(do
   let ov <- eval o X.env
   standAt apos.atName
   let (f,first) <- holding [ov] (getMethod ov m pl)
   callWith pos f first (backTo pos (starEach [] X.env)) (backToKw pos (keywordEach [] X.env))):=by rfl) :
  PE X (.Call (.Attribute o m apos) [] [] pos) (yK C m sp Up E ta eI):=by
 intro pins s σ H Q I h;refine W.methodCall_KW (pl:=pl) (Qt (he pins s σ H _ I h) λu s1 ⟨x,H1,I1,rx,a,dx,fs,ex,ea,l,q⟩=>?_) ht;subst ex;obtain rfl:u=Value.ref a:=rx;refine oW I1 ea c hm l ?_;exact W.callWith_K0 (first:=[.ref a]) I1.TU hm.kp (xg (us:=[.ref a]) (vs:=[.ref a]) F hr hb hd hx I1 (.cons rfl .nil) q)
structure Mk (K:W.Frag) (C f:Addr):Prop where
 makes:W.makesIn K C=true
 init:W.findIn K (.ref C) "__init__"=some (some (.ref f))
 fn:W.isFn K (.ref f)=true
 kp:W.keepIn K (.ref C)=true
theorem Ca (M:Mk X.K C f) (F:QE X.prog X.w X.K X.mg X.base CX k f fd ps sp) (hr:QM (k+1) X.A) (hb:Binds X.K fd ps ds) (hd:Vals Up ds)
  (hx:i6 CX X E) (I:Inv X pins σ H s) (r:Vals vs us)
  (h:∀ x dx,H x=none->H dx=none->dx≠x->sp (.ref x::(vs++Up)) (upd (upd H dx (.own x)) x (.ins C dx [])) (λv H2=>v=.Qj/\Q (.ref x) H2) E) :
  wpAny (model X.prog X.w) X.A (call (.ref C) us) (EP X pins σ Q) X.xe s:=by
 have hq:=h (s.heap.objs.size+1) s.heap.objs.size (I.hok.fresh (Nat.le_succ _)) (I.hok.fresh (M0 _)) (ND (Pp _));have I2:=Inv.made (C:=C) I;have r2:Vals (V.ref (s.heap.objs.size+1)::(vs++Up)) (Value.ref (s.heap.objs.size+1)::(us++ds)):=.cons rfl (r.append hd)
 have hl:(Value.ref (s.heap.objs.size+1)::us++ds).length=ps.length:=by have e:=r2.length;rw [F.len _ _ _ _ hq] at e;exact e.symm
 refine wpAny_call (Bk (f:=f) I.TU M.makes M.init (P9.mp M.fn) (O0 (F.run _ X.stack _ _ ⟨Value.ref (s.heap.objs.size+1)::us,[]⟩ (Value.ref (s.heap.objs.size+1)::(us++ds)) _ _ E (hr.make C us [])
  (I2.Yg.make C us []) (hb _ (Value.ref (s.heap.objs.size+1)::us) I2.TU hl) r2 hq) λr s' hq'=>?_))
 cases r with
 | error e=>exact hx pins σ _ _ e s' I2 hq'
 | ok fl =>
  cases fl with
  | ret u =>obtain ⟨v,H',I3,rv,ev,q3⟩:=I2.after hq';subst ev;exact ⟨rv,⟨V.ref (s.heap.objs.size+1),H',I3,rfl,q3⟩⟩
  | next=>exact False.elim hq'
  | brk=>exact False.elim hq'
  | cont=>exact False.elim hq'
theorem Dx (M:Mk X.K C f) (F:QE X.prog X.w X.K X.mg X.base CX k f fd ps sp) (hr:QM (k+1) X.A) (hg:Gl X x) (hm:X.mg x=some (.ref C)) (hb:Binds X.K fd ps ds) (hd:Vals Up ds) (hx:i6 CX X E)
  (ha:PA X (e::es) t) (hdb:(x == ("__debug__":Str))=false:=by decide) (he:starEach (e::es) X.env=(false,eval e X.env)::starEach es X.env:=by rfl) (hpl:(backTo pos (starEach es X.env)).any (·.1)=false:=by rfl) :
  PE X (.Call (.Name x p) (e::es) [] pos) (Hh C sp Up E t):=by
 intro pins s σ H Q I h;refine OR (nU I hg hm ?_ hdb);refine W.callWith_K (h₀:=X.base) I.ok.mod.YH M.kp (Qt (ha pos pins s σ H _ I h) λus s1 ⟨vs,H1,I1,r,q⟩=>⟨I1.TU,?_⟩) he hpl;exact Ca M F hr hb hd hx I1 r q
end
noncomputable def PK (X:Cx) (kws:List Keyword) (t:TA):Prop :=
 ∀ (pos:Pos) (pins:List (Addr × Obj)) (s:Shared) (σ:St) (H:Hp) (Q:List V->Hp->Prop),Inv X pins σ H s->t σ H Q->wpAny (model X.prog X.w) X.A (evalAll ((backToKw pos (keywordEach kws X.env)).map (·.2))) (AP X pins σ Q) X.xe s
section
variable {X:Cx} {CX:WI} {k:Nat} {f C:Addr} {fd:FuncData} {ps ks:List Str} {sp:Sp} {E:XK} {x m:Str} {p pos apos kpos:Pos} {e o:Expr} {es:List Expr} {kws:List Keyword} {te ta:TE} {t tk:TA} {nm:Option Str}
theorem FU:PK X [] eI:=λ_ _ _ _ H Q I h=>wpAny_evalAll_nil ⟨[],H,I,.nil,h⟩
theorem yt (ha:PE X e te) (hr:PK X kws t):PK X (⟨nm,e,kpos⟩::kws) (cC te t):=by intro pos pins s σ H Q I h;show wpAny _ _ (evalAll ((do let v <- eval e X.env;standAt pos;pure v)::(backToKw pos (keywordEach kws X.env)).map (·.2))) _ _ s;refine wpAny_evalAll_cons (MV (Qt (ha pins s σ H _ I h) λu s1 ⟨x,H1,I1,r1,q1⟩=>MV (O4 (Nc ?_))));exact Qt (hr pos pins s1 σ H1 _ I1 q1) λus s2 ⟨xs,H2,I2,r2,q2⟩=>⟨x::xs,H2,I2,.cons r1 r2,q2⟩
structure vN (K:W.Frag) (fd:FuncData) (ps ks:List Str) (g:List Value->List Value->List Value) (gV:List V->List V->List V):Prop where
 to:∀ (s:Shared) (us ws:List Value),K.In s.heap->(g us ws).length=ps.length->BindsTo s fd ⟨us,ks.zip ws⟩ (ps.zip (g us ws))
 rel:∀ {vs:List V} {us:List Value} {zs:List V} {ws:List Value},Vals vs us->Vals zs ws->Vals (gV vs zs) (g us ws)
noncomputable def Gi (sp:Sp) (gV:List V->List V->List V) (E:XK) (t tk:TA):TE:=λσ H Q=>t σ H λvs H1=>tk σ H1 λzs H2=>sp (gV vs zs) H2 Q E
variable {g:List Value->List Value->List Value} {gV:List V->List V->List V}
theorem D4 {pins:List (Addr × Obj)} {σ:St} {H:Hp} {s:Shared} {Q:VK} {us ws:List Value} {vs zs:List V} (F:QE X.prog X.w X.K X.mg X.base CX k f fd ps sp) (hr:QM k X.A) (hb:vN X.K fd ps ks g gV) (hx:i6 CX X E)
  (I:Inv X pins σ H s) (r:Vals vs us) (rz:Vals zs ws) (h:sp (gV vs zs) H Q E):wpAny (model X.prog X.w) X.A (call (.ref f) us (ks.zip ws)) (EP X pins σ Q) X.xe s:=by
 have r2:=hb.rel r rz;have hl:(g us ws).length=ps.length:=by rw [<- r2.length];exact F.len _ _ _ _ h
 refine wpAny_call (O0 (F.run X.A X.stack s H ⟨us,ks.zip ws⟩ (g us ws) (gV vs zs) Q E hr I.Yg (hb.to s us ws I.TU hl) r2 h) λr s' hq=>?_)
 cases r with
 | error e=>exact hx pins σ H s e s' I hq
 | ok fl =>
  cases fl with
  | ret u=>exact I.after hq
  | next=>exact False.elim hq
  | brk=>exact False.elim hq
  | cont=>exact False.elim hq
theorem BH (F:QE X.prog X.w X.K X.mg X.base CX k f fd ps sp) (hr:QM k X.A) (hg:Gl X x) (hm:X.mg x=some (.ref f)) (hk:W.keepIn X.K (.ref f)=true) (hb:vN X.K fd ps ks g gV) (hx:i6 CX X E)
  (ha:PA X (e::es) t) (hkw:PK X kws tk) (hall:(backToKw pos (keywordEach kws X.env)).all (·.1.isSome)=true:=by rfl) (hks:(backToKw pos (keywordEach kws X.env)).filterMap (·.1)=ks:=by rfl)
  (hdb:(x == ("__debug__":Str))=false:=by decide) (he:starEach (e::es) X.env=(false,eval e X.env)::starEach es X.env:=by rfl)
  (hpl:((backTo pos (starEach (e::es) X.env)).any (·.1) || (backToKw pos (keywordEach kws X.env)).any (·.1.isNone))=false:=by rfl) :
  PE X (.Call (.Name x p) (e::es) kws pos) (Gi sp gV E t tk):=by
 intro pins s σ H Q I h;refine OR (nU I hg hm ?_ hdb);refine W.callWith_KW (h₀:=X.base) I.ok.mod.YH hk hall (Qt (ha pos pins s σ H _ I h) λus s1 ⟨vs,H1,I1,r,q⟩=>?_) hpl he;refine Qt (hkw pos pins s1 σ H1 _ I1 q) λws s2 ⟨zs,H2,I2,rz,q2⟩=>⟨I2.TU,?_⟩
 rw [hks];exact D4 F hr hb hx I2 r rz q2
end
structure Qi (N P:List Str) (sc:Scope):Prop where
 kind:sc.kind=.function
 co:sc.isCoroutine=false
 gen:sc.isGenerator=false
 nd:N.Nodup
 pre:N.take P.length=P
 par:∀ x ∈ P,sc.names.lookup x=some .local\/sc.names.lookup x=some .cell
 Yh:∀ y ∈ sc.names,y.2≠.free
theorem Qi.Rg {N P:List Str} {sc:Scope} (a:sc.kind=.function:=by rfl) (b:sc.isCoroutine=false:=by rfl) (c:sc.isGenerator=false:=by rfl) (d:N.Nodup:=by decide +kernel) (e:N.take P.length=P:=by rfl) (f:∀ x ∈ P,sc.names.lookup x=some .local\/sc.names.lookup x=some .cell:=by decide +kernel) (g:∀ y ∈ sc.names,y.2≠.free:=by decide +kernel):Qi N P sc:=⟨a,b,c,d,e,f,g⟩
variable {kindOf:Str->Option NameKind} {x:Str}
theorem qP:∀ {binds:List (Str × Value)} {m:Str->Option Value},(∀ v,(x,v) ∉ binds)->bindL kindOf binds m x=m x
 | [],_,_=>rfl
 | (n,v)::r,m,h=>by
  unfold bindL;rw [qP λw hw=>h w (Nj _ hw)];split
  ·have:x≠n:=by rintro rfl;exact h v NB
   simp [this]
  ·rfl
theorem qN:∀ {binds:List (Str × Value)} {m:Str->Option Value},(∀ v,(x,v) ∉ binds)->bindC kindOf binds m x=m x
 | [],_,_=>rfl
 | (n,v)::r,m,h=>by
  unfold bindC;rw [qN λw hw=>h w (Nj _ hw)];split
  ·rfl
  ·have:x≠n:=by rintro rfl;exact h v NB
   simp [this]
variable {v:Value}
theorem qO:∀ {P:List Str} {vs:List Value} {i:Nat} {m:Str->Option Value},P.Nodup->P[i]?=some x->vs[i]?=some v->kindOf x=some .local ->
  bindL kindOf (P.zip vs) m x=some v
 | [],_,_,_,_,h,_,_=>by simp at h
 | _::_,[],_,_,_,_,h,_=>by simp at h
 | p::P,w::vs,0,m,nd,h1,h2,hk=>by simp at h1 h2;subst h1;subst h2;show bindL kindOf ((p,w)::P.zip vs) m p=_;unfold bindL;rw [qP λv hv=>(OS.mp nd).1 (List.of_mem_zip hv).1,MW hk];simp
 | p::P,w::vs,i+1,m,nd,h1,h2,hk=>by show bindL kindOf ((p,w)::P.zip vs) m x=_;unfold bindL;exact qO (i:=i) (OS.mp nd).2 (by simpa using h1) (by simpa using h2) hk
theorem qM:∀ {P:List Str} {vs:List Value} {i:Nat} {m:Str->Option Value},P.Nodup->P[i]?=some x->vs[i]?=some v->kindOf x≠some .local ->
  bindC kindOf (P.zip vs) m x=some v
 | [],_,_,_,_,h,_,_=>by simp at h
 | _::_,[],_,_,_,_,h,_=>by simp at h
 | p::P,w::vs,0,m,nd,h1,h2,hk=>by simp at h1 h2;subst h1;subst h2;show bindC kindOf ((p,w)::P.zip vs) m p=_;unfold bindC;rw [qN λv hv=>(OS.mp nd).1 (List.of_mem_zip hv).1,MR hk];simp
 | p::P,w::vs,i+1,m,nd,h1,h2,hk=>by show bindC kindOf ((p,w)::P.zip vs) m x=_;unfold bindC;exact qM (i:=i) (OS.mp nd).2 (by simpa using h1) (by simpa using h2) hk
noncomputable def start (N:List Str) (vs:List V):St:=vs.map some++List.replicate (N.length - vs.length) none
noncomputable def vX (CX:WI) (P:Program) (w:World) (K:W.Frag) (mg:Str->Option Value) (base:Heap) (N:List Str) (qual:Str) (scope:Scope) (f:Addr) (cd:Value) (A:Around) (outer:List Env) (s:Shared) (H:Hp) (E:XK):Cx where
 prog:=P
 w:=w
 K:=K
 mg:=mg
 base:=base
 A:=A.deeper (envOfC qual scope s.heap.objs.size f cd)
 N:=N
 s₀:=s
 H₀:=H
 env:=envOfC qual scope s.heap.objs.size f cd
 outer:=outer
 stack:=envOfC qual scope s.heap.objs.size f cd::outer
 ex:=[]
 calm:=true
 fn:=λ_=>true
 pn:=[]
 xe:=λe s'=>wpAny (model P w) (A.deeper (envOfC qual scope s.heap.objs.size f cd)) (leaving (envOfC qual scope s.heap.objs.size f cd) e) (λ_ s''=>CX outer H s E e s'') (λe' s''=>CX outer H s E e' s'') s'
theorem uq {sc:Scope} (h:sc.names.lookup x=some .cell):∃ c,(cellsFrom n sc.names []).lookup x=some c:=by have q:=W.cellsFrom_some sc.names n [] (.inl h);exact Option.isSome_iff_exists.mp q
variable {N:List Str} {qual:Str} {scope:Scope}
theorem zm {cd:Value} {s1:Shared} {E:XK} {vs:List V}
  (S:Qi N ps scope) (hd:A.handled=none) (e0:V6 P w K mg base A outer s H) (hl:vs.length=ps.length) (r:Vals vs us)
  (x:InCallC s s.heap.objs.size (bindL (envOfC qual scope s.heap.objs.size f cd).kindOf (ps.zip us) λ_=>none) (cellsFrom (s.heap.objs.size+1) scope.names []) (bindC (envOfC qual scope s.heap.objs.size f cd).kindOf (ps.zip us) λ_=>none) s1) :
  Inv (vX CX P w K mg base N qual scope f cd A outer s H E) [] (start N vs) H s1:=by
 have hpl:ps.length<=N.length:=by have:=Nq List.length S.pre;rw [NI] at this;omega
 obtain ⟨h1,tk,rfl,hk⟩:=x.done;have Ze:∀ b:Addr,b ∉ (vX CX P w K mg base N qual scope f cd A outer s H E).ex:=λb z=>absurd (show b ∈ ([]:List Addr) from z) (by simp)
 refine ⟨⟨e0.mod,S.kind,rfl,rfl,M0 _,λy z c h1 h2=>?_,λy hy=>?_,λy c _ h=>?_,λ_=>hd,Around.frames_deeper e0.frames,.inr ⟨rfl,rfl⟩,λb z=>absurd z (Ze b),e0.bs,e0.Xs,λb _ _=>Ze b,λb z=>absurd z (Ze b),e0.U5,e0.Yb⟩,
  rfl,e0.bare,Un.kept hk,⟨_,x.toInCall.ns,λi y v h1 h2 h3=>?_⟩,λy c h=>⟨_,x.cell y c h⟩,e0.hok.fresh (M0 _),λy c h=>?_,λp hp=>absurd (show p ∈ ([]:List (Addr × Obj)) from hp) (by simp),e0.hok.kept hk,?_⟩
 ·exact name_of_addr x.apart (Of h1) (Of h2)
 ·have hy:scope.names.lookup y=some .cell\/scope.names.lookup y=some .free:=hy;rcases hy with hy | hy
  ·exact uq hy
  ·exact absurd rfl (S.Yh _ (Of hy))
 ·exact Og (x.above y c (Of h))
 ·have hi:i < vs.length:=by
   unfold start at h2;by_cases hi:i < vs.length
   ·exact hi
   ·rw [NQ (by simpa using hi)] at h2;rw [List.getElem?_replicate] at h2;split at h2 <;> cases h2
  have ha:vs[i]?=some v:=by
   unfold start at h2;rw [Oq (by simpa using hi),MZ] at h2
   cases e:vs[i]? with
   | none=>rw [e] at h2;cases h2
   | some a=>rw [e] at h2;cases h2;rfl
  obtain ⟨u,hu,rv⟩:=r.get ha
  have hp:ps[i]?=some y:=by rw [<- S.pre,List.getElem?_take_of_lt (by omega)];exact h1
  have ndP:ps.Nodup:=by rw [<- S.pre];exact S.nd.sublist (List.take_sublist _ _)
  refine ⟨u,rv,?_⟩;rcases S.par y (Nn hp) with k | k
  ·exact .inl ⟨k,qO ndP hp hu k⟩
  ·obtain ⟨c,e⟩:=uq (n:=s.heap.objs.size+1) k;refine .inr ⟨.inl k,c,e,?_⟩;have q:=x.cell y c e;rw [qM ndP hp hu (by show scope.names.lookup y≠_;rw [k];decide)] at q;exact q
 ·exact e0.hok.fresh (Og (x.above y c (Of h)))
 ·unfold start;show _=N.length;rw [MQ,tB,List.length_replicate];omega
theorem Em {k:Nat} {name:Str} {params:Arguments} {body:List Stmt} {dV kV doc pm cdv ct oc:Value} {an od:Option Addr} {osl:Array (Option Value)} (lk:K.lookup f=some ⟨oc,od,.func (W.fnOf name qual params body scope dV kV doc pm an cdv ct),osl⟩) (hcd:W.codeIn K cdv qual=true) (S:Qi N ps scope)
  (len:∀ vs H Q E,sp vs H Q E->vs.length=ps.length)
  (hbody:∀ (A:Around) (outer:List Env) (s:Shared) (H:Hp) (vs:List V) (Q:VK) (E:XK),QM k (A.deeper (envOfC qual scope s.heap.objs.size f cdv))->sp vs H Q E ->
   ∃ t,V4 (vX CX P w K mg base N qual scope f cdv A outer s H E) body t/\t { nx:=λ_ H'=>Q .Qj H',rt:=Q } (start N vs) H) :
  QE P w K mg base CX (k+1) f (W.fnOf name qual params body scope dV kV doc pm an cdv ct) ps sp:=by
 refine ⟨len,λA outer s H args us vs Q E hr e0 hb r Xj=>?_⟩;have hl:=len _ _ _ _ Xj;have KX:K.In s.heap:=e0.mod.YH.keeps λb o e=>(e0.bs b o e).1;have lim:s.heap.NoLimit:=e0.mod.nolimit.keeps λb o e=>(e0.bs b o e).1
 have hkind:∀ y ∈ ps.zip us,scope.names.lookup y.1=some .local\/(scope.names.lookup y.1=some .cell/\((cellsFrom (s.heap.objs.size+1) scope.names []).lookup y.1).isSome=true):=λ⟨n,v⟩ hy=>by
  rcases S.par n (List.of_mem_zip hy).1 with q | q
  ·exact .inl q
  ·exact .inr ⟨q,W.cellsFrom_some _ _ _ (.inl q)⟩
 refine codeAny_call_function hr.depth (KX _ _ lk) rfl S.co S.gen rfl (W.codeRec_of KX hcd) (hb _ _ _ _ ?_);refine wpAny_newFunctionEnv_cells S.kind hkind λenv he s1 x=>?_;subst he;refine ⟨lim.keeps x.toInCall.keep,codeAny_func ?_⟩;obtain ⟨t,ht,hq⟩:=hbody A outer s H vs Q E (hr.deeper _) Xj;have I:Inv (vX CX P w K mg base N qual scope f cdv A outer s H E) [] (start N vs) H s1:=zm S hr.hd e0 hl r x;refine O2 (ht [] s1 (start N vs) H _ I hq) (λfl s' hs=>?_) λe s' hs=>hs
 have fin:∀ {σ':St} {H':Hp} {v:V} {u:Value},Inv (vX CX P w K mg base N qual scope f cdv A outer s H E) [] σ' H' s'->RelV v u->Q v H'->CE outer P w H s Q u s' :=
  λ{σ' H' v u} J rv q=>⟨v,H',J.os,J.bare,J.base,J.hok,rv,q⟩
 cases fl with
 | ret u =>obtain ⟨v,σ',H',J,rv,q⟩:=hs;exact fin J rv q
 | next =>obtain ⟨σ',H',J,q⟩:=hs;exact fin (v:=V.Qj) (u:=Value.none) J rfl q
 | brk =>obtain ⟨_,_,_,q⟩:=hs;exact False.elim q
 | cont =>obtain ⟨_,_,_,q⟩:=hs;exact False.elim q
section
variable {X:Cx} {x:Str} {p pos:Pos} {e:Expr} {es:List Expr} {t:TA} {id T:String} {r:List V->Hp->VK->Prop}
noncomputable def Vd (r:List V->Hp->VK->Prop) (t:TA):TE:=λσ H Q=>t σ H λvs H1=>r vs H1 Q
theorem aW (hc:iu X (.builtin id) r) (hg:Gl X x) (hm:X.mg x=none) (hv:bootBuiltins x=some (.builtin id)) (ha:PA X (e::es) t) (hn:x≠"__name__":=by decide) (hdb:(x == ("__debug__":Str))=false:=by decide)
  (he:starEach (e::es) X.env=(false,eval e X.env)::starEach es X.env:=by rfl) (hpl:(backTo pos (starEach es X.env)).any (·.1)=false:=by rfl):PE X (.Call (.Name x p) (e::es) [] pos) (Vd r t):=by
 intro pins s σ H Q I h;refine OR (kM I hg hm hv ?_ hn hdb);exact PyProof.Rows.callWith_builtin1 (Qt (ha pos pins s σ H _ I h) λus s1 ⟨vs,H1,I1,r1,q1⟩=>hc pins s1 σ H1 vs us Q I1 r1 q1) he hpl
theorem fh (hc:iu X (.type T) r) (hg:Gl X x) (hm:X.mg x=none) (hv:bootBuiltins x=some (.type T)) (ha:PA X (e::es) t) (hn:x≠"__name__":=by decide) (hdb:(x == ("__debug__":Str))=false:=by decide)
  (he:starEach (e::es) X.env=(false,eval e X.env)::starEach es X.env:=by rfl) (hpl:(backTo pos (starEach es X.env)).any (·.1)=false:=by rfl):PE X (.Call (.Name x p) (e::es) [] pos) (Vd r t):=by
 intro pins s σ H Q I h;refine OR (kM I hg hm hv ?_ hn hdb);exact Oe (Qt (ha pos pins s σ H _ I h) λus s1 ⟨vs,H1,I1,r1,q1⟩=>hc pins s1 σ H1 vs us Q I1 r1 q1) he hpl
end
end L2
namespace HT
open PySem PyProof.Rows
section
open PySem.SeqAt
open PySem.AutoSeq1 (wpAny_loadPart')
open PySem.MeetsSeq PySem.MeetsSeq2 PySem.MeetsSeq3
end
section
variable {prog:Program} {w:World} {A:Around} {E:Value->Shared->Prop} {s:Shared}
variable {t:Addr}
theorem Xy {b:Addr} {vs ws:List Value} {Q:Value->Shared->Prop} (ht:IsTup s.heap t vs.toArray) (hb:IsTup s.heap b ws.toArray) (hv:vs≠[])
  (h1:ws=[]->Q (.ref t) s) (h2:ws≠[]->Q (.ref s.heap.objs.size) { s with heap:=s.heap.push { cls:=.type "tuple",data:=.seq (vs++ws).toArray } })
  (hsz:vs.length+ws.length<=sizeLine):wpAny (model prog w) A (binaryOp .Add (.ref t) (.ref b)) Q E s:=by
 obtain ⟨⟨cls,dd,data,sl⟩,ho,hc,n,hd⟩:=id ht;obtain ⟨⟨cls2,dd2,data2,sl2⟩,ho2,hc2,n2,hd2⟩:=id hb;simp only at hc hd hc2 hd2;subst hc hd hc2 hd2;have e:vs.toArray++ws.toArray=(vs++ws).toArray:=by simp
 by_cases hw:ws=[]
 ·exact concat_meets ⟨_,ho,rfl⟩ ⟨_,ho2,rfl⟩ noFill_tuple_add seq_tuple_add F.slot_tuple_add P8 (P0 _ _)
   (tuple_addW1 t b vs.toArray ws.toArray n n2 dd dd2 sl sl2 (by simpa using hv) (by simp [hw])) ⟨ho,ho2,h1 hw⟩
 ·refine concat_meets ⟨_,ho,rfl⟩ ⟨_,ho2,rfl⟩ noFill_tuple_add seq_tuple_add F.slot_tuple_add P8 (P0 _ _)
   (tuple_addW2 t b vs.toArray ws.toArray n n2 dd dd2 sl sl2 (by simpa using hv) (by simpa using hw) (by rw [M9,M9];exact hsz)) ⟨ho,ho2,?_⟩
  rw [e];exact h2 hw
noncomputable def Rw (n d:Nat):Option Int->Nat
 | none=>d
 | some v=>if v < 0 then (v+(n:Int)).toNat else min v.toNat n
theorem WV (n d:Nat):Rw n d none=d:=rfl
theorem Vb (n d k:Nat):Rw n d (some (k:Int))=min k n:=by show (if (k:Int) < 0 then ((k:Int)+(n:Int)).toNat else min (k:Int).toNat n)=min k n;rw [MR (by omega),Pg]
theorem Gc (n d:Nat) (hd:d<=n) (o:Option Int):Rw n d o<=n:=by
 cases o with
 | none=>exact hd
 | some v =>
  show (if v < 0 then (v+(n:Int)).toNat else min v.toNat n)<=n;by_cases hv:v < 0
  ·rw [MW hv];omega
  ·rw [MR hv];exact Nat.min_le_right _ _
theorem xJ (v:Int) (n d:Nat):(if v < 0 then max (v+(n:Int)) 0 else min v (n:Int))=((Rw n d (some v):Nat):Int):=by
 show (if v < 0 then max (v+(n:Int)) 0 else min v (n:Int))=(((if v < 0 then (v+(n:Int)).toNat else min v.toNat n):Nat):Int)
 by_cases hv:v < 0
 ·simp only [MW hv];omega
 ·simp only [MR hv];omega
theorem vS (lo hi:Option Int) (n:Nat):Builtin.Slice.sliceAdjust lo hi 1 (n:Int)=(((Rw n 0 lo:Nat):Int),((Rw n n hi:Nat):Int)):=by
 have h1:¬ ((1:Int) < 0):=by omega
 unfold Builtin.Slice.sliceAdjust;simp only [h1,Qa];refine Po ?_ ?_
 ·cases lo with
  | none=>rfl
  | some v=>exact xJ v n 0
 ·cases hi with
  | none=>rfl
  | some v=>exact xJ v n n
theorem wQ (i j:Nat):Builtin.Slice.slicePlaces (i:Int) (j:Int) 1=j - i:=by
 unfold Builtin.Slice.slicePlaces;have h1:(1:Int) > 0:=by omega
 simp only [h1,O6,Int.ediv_one];split <;> omega
theorem pY {v:Value} {o:Option Int} {Q:Option Int->Shared->Prop} (p:IsPart v o) (h:Q o s):wpAny (model prog w) A (Builtin.Slice.slicePartIndex v) Q E s:=by
 cases p with
 | none=>exact slicePart_none h
 | int i t=>exact slicePart_int h
variable {sl:Addr} {vl vu:Value} {lo hi:Option Int}
theorem mT {n:Nat} {Q:Int × Int × Nat->Shared->Prop} (hs:s.heap.IsSliceOf sl vl vu .none) (pl:IsPart vl lo) (pu:IsPart vu hi)
  (h:Q (((Rw n 0 lo:Nat):Int),1,Rw n n hi - Rw n 0 lo) s):wpAny (model prog w) A (Builtin.Slice.sliceApplied (.ref sl) (pure (n:Int))) Q E s:=by
 obtain ⟨os,hos,hcs,hds⟩:=id hs;unfold Builtin.Slice.sliceApplied Builtin.Slice.sliceFields;refine MV (MV (Ot hos hds (x:=vl) rfl (MV (Ot hos hds (x:=vu) rfl (MV (Ot hos hds (x:=.none) rfl (Nc ?_)))))));refine MV (slicePart_none ?_);show wpAny _ _ (if ((1:Int) == 0)=true then _ else _) _ _ s;rw [MR (by decide)];refine MV (pY pl (MV (pY pu (MV (Nc ?_)))));show wpAny _ _ (match Builtin.Slice.sliceAdjust lo hi 1 (n:Int) with | (lo,hi)=>pure (lo,(1:Int),Builtin.Slice.slicePlaces lo hi 1)) _ _ s;rw [vS lo hi n];show wpAny _ _ (pure (((Rw n 0 lo:Nat):Int),(1:Int),Builtin.Slice.slicePlaces ((Rw n 0 lo:Nat):Int) ((Rw n n hi:Nat):Int) 1)) _ _ s;rw [wQ];exact Nc h
theorem BL (xs:Array Value) (i k:Nat):((List.range k).filterMap λ(m:Nat)=>xs[((i:Int)+(m:Int) * 1).toNat]?).toArray=((xs.toList.drop i).take k).toArray:=by
 have e:(λ(m:Nat)=>xs[((i:Int)+(m:Int) * 1).toNat]?)=λm=>xs[i+m]?:=by
  funext m
  have:((i:Int)+(m:Int) * 1).toNat=i+m:=by omega
  rw [this]
 rw [e];have:=pick_run xs i k;rw [List.filterMap_map] at this;have e2:((λx=>xs[x]?) ∘ λx=>i+x)=λm=>xs[i+m]?:=rfl;rw [e2] at this;rw [this]
theorem Uq {items:Array Value} {Q:Value->Shared->Prop} (ht:IsTup s.heap t items) (hs:s.heap.IsSliceOf sl vl vu .none) (pl:IsPart vl lo) (pu:IsPart vu hi)
  (hw:¬ (Rw items.size 0 lo=0/\Rw items.size items.size hi=items.size))
  (h:Q (.ref s.heap.objs.size) { s with heap:=s.heap.push { cls:=.type "tuple",data:=.seq ((items.toList.drop (Rw items.size 0 lo)).take (Rw items.size items.size hi - Rw items.size 0 lo)).toArray } })
  (hsz:items.size<=sizeLine):wpAny (model prog w) A (getItem (.ref t) (.ref sl)) Q E s:=by
 have Wm:sizeOk (.seq ((items.toList.drop (Rw items.size 0 lo)).take (Rw items.size items.size hi - Rw items.size 0 lo)).toArray):=by show ((items.toList.drop (Rw items.size 0 lo)).take (Rw items.size items.size hi - Rw items.size 0 lo)).toArray.size<=sizeLine;rw [M9,NI,OM,Ov];omega
 have hj:Rw items.size items.size hi<=items.size:=Gc _ _ (M0 _) hi;obtain ⟨os,hos,hcs,hds⟩:=id hs;have hTs:s.TypeIs (.ref sl) "slice":=⟨os,hos,hcs⟩
 unfold getItem
 try with_reducible refine OQ ?_
 first | refine MV (Nc ?_) | skip
 refine MV (wpAny_sequenceKey ht.typeIs (by decide) ?_)
 refine MV (N5 (name:=Str.ofString "__getitem__") ht.typeIs OP
  (Oj OP ht.typeIs entry_tuple_getitem ?_ (args_tuple_getitem _ _)))
 show wpAny _ _ (Builtin.Tuple.tupleItemsOf (.ref t) >>= _) _ _ s;refine MV (tupleItemsOf_ ht ?_);refine MV (wpAny_typeOf hTs ?_);rw [MW (by decide)];refine MV (mT hs pl pu ?_)
 have hno:¬ ((((Rw items.size 0 lo:Nat):Int) == 0 && (1:Int) == 1 && (Rw items.size items.size hi - Rw items.size 0 lo) == items.size)=true):=by intro q;rw [M4,M4] at q;have q1:((Rw items.size 0 lo:Nat):Int)=0:=eq_of_beq q.1.1;have q2:Rw items.size items.size hi - Rw items.size 0 lo=items.size:=eq_of_beq q.2;exact hw ⟨by omega,by omega⟩
 show wpAny _ _ (if (((Rw items.size 0 lo:Nat):Int) == 0 && (1:Int) == 1 && (Rw items.size items.size hi - Rw items.size 0 lo) == items.size)=true then _ else _) _ _ s;rw [MR hno,BL]
 first
  | exact MV (m:=Builtin.Tuple.tupleExact _) (OI (Nc ⟨_,rfl,Nc h⟩) Wm)
  | exact MV (m:=Builtin.Tuple.tupleExact _) (OI (MV (Nc (Nc ⟨_,rfl,Nc h⟩))) Wm)
  | exact MV (MV (m:=Builtin.Tuple.tupleExact _) (OI (Nc (Nc ⟨_,rfl,Nc h⟩)) Wm))
  | exact MV (MV (m:=Builtin.Tuple.tupleExact _) (OI (Nc ⟨_,rfl,Nc h⟩) Wm))
end
end HT
namespace L2
open PySem PySem.Spec PyProof.Rows
noncomputable abbrev TO:=St->Hp->(Option Int->Hp->Prop)->Prop
noncomputable def PO (X:Cx) (e:Option Expr) (t:TO):Prop :=
 ∀ (pins:List (Addr × Obj)) (s:Shared) (σ:St) (H:Hp) (Q:Option Int->Hp->Prop),Inv X pins σ H s->t σ H Q ->
  wpAny (model X.prog X.w) X.A (evalPart e X.env) (λu s'=>∃ o H',Inv X pins σ H' s'/\IsPart u o/\Q o H') X.xe s
noncomputable def yM:TO:=λ_ H Q=>Q none H
noncomputable def rR (t:TE):TO:=λσ H Q=>t σ H λx H1=>∃ i,x=.int i/\Q (some i) H1
section
variable {X:Cx} {e:Expr} {te:TE} {lo hi:Option Expr} {tl th:TO} {pos p2:Pos}
theorem nW:PO X none yM:=by intro pins s σ H Q I h;rw [evalPart_none];exact Nc ⟨none,H,I,.none,h⟩
theorem iH (h:PE X e te):PO X (some e) (rR te):=by intro pins s σ H Q I hw;rw [evalPart_some];refine Qt (h pins s σ H _ I hw) λu s1 ⟨x,H1,I1,r1,q1⟩=>?_;obtain ⟨i,rfl,q⟩:=q1;obtain ⟨t,rfl⟩:=r1;exact ⟨some i,H1,I1,.int i t,q⟩
noncomputable def SlR (X:Cx) (r:V->Option Int->Option Int->Hp->VK->Prop):Prop :=
 ∀ (pins:List (Addr × Obj)) (s:Shared) (σ:St) (H:Hp) (x:V) (v vl vu:Value) (lo hi:Option Int) (sl:Addr) (Q:VK),Inv X pins σ H s->RelV x v->s.heap.IsSliceOf sl vl vu .none->IsPart vl lo->IsPart vu hi->r x lo hi H Q ->
  ∃ T id,typeLookup (.type T) "__getitem__"=pure (some (.builtin id))/\s.TypeIs v T/\wpAny (model X.prog X.w) X.A (getItem v (.ref sl)) (EP X pins σ Q) X.xe s
noncomputable def ZZ (r:V->Option Int->Option Int->Hp->VK->Prop) (te:TE) (tl th:TO):TE:=λσ H Q=>te σ H λx H1=>tl σ H1 λl H2=>th σ H2 λu H3=>r x l u H3 Q
theorem i0 {r:V->Option Int->Option Int->Hp->VK->Prop} (hr:SlR X r) (he:PE X e te) (hl:PO X lo tl) (hu:PO X hi th):PE X (.Subscript e (.Slice lo hi none p2) pos) (ZZ r te tl th):=by intro pins s σ H Q I h;refine Subscript_ (Qt (he pins s σ H _ I h) λv s1 ⟨x,H1,I1,r1,q1⟩=>?_);refine wpAny_Slice (Qt (hl pins s1 σ H1 _ I1 q1) λvl s2 ⟨l,H2,I2,pl,q2⟩=>Qt (hu pins s2 σ H2 _ I2 q2) λvu s3 ⟨u,H3,I3,pu,q3⟩=>?_);rw [evalPart_none];refine Nc ?_;have I4:Inv X pins σ H3 { s3 with heap:=s3.heap.push { cls:=.type "slice",data:=.fields #[vl,vu,.none] } }:=I3.kept (t':=s3.toks) λb ob q=>MU _ q;obtain ⟨T,id,hT,ht,hg⟩:=hr pins { s3 with heap:=s3.heap.push { cls:=.type "slice",data:=.fields #[vl,vu,.none] } } σ H3 x v vl vu l u s3.heap.objs.size Q I4 r1 (Heap.IsSliceOf.new ..) pl pu q3;show wpAny (model X.prog X.w) X.A (subscriptTail e (.Slice lo hi none p2) v (.ref s3.heap.objs.size)) (EP X pins σ Q) X.xe { s3 with heap:=s3.heap.push { cls:=.type "slice",data:=.fields #[vl,vu,.none] } };exact tail_any (ops:=[.ref s3.heap.objs.size,v]) ht hT hg (by with_unfolding_all rfl)
noncomputable def qu (xs:List V) (lo hi:Option Int):List V:=(xs.drop (HT.Rw xs.length 0 lo)).take (HT.Rw xs.length xs.length hi - HT.Rw xs.length 0 lo)
theorem m6 (xs:List V) (lo hi:Option Int):(qu xs lo hi).length<=xs.length:=by unfold qu;rw [NI,OM];omega
noncomputable def FZ (K:W.Frag):V->Option Int->Option Int->Hp->VK->Prop:=λx lo hi H Q=>∃ a xs,x=.ref a/\QH K H a xs /\
 ¬ (HT.Rw xs.length 0 lo=0/\HT.Rw xs.length xs.length hi=xs.length)/\∀ p,H p=none->Q (.ref p) (upd H p (.tup (qu xs lo hi)))
theorem pX:SlR X (FZ X.K):=by
 intro pins s σ H x v vl vu lo hi sl Q I rx hs pl pu h;obtain ⟨a,xs,rfl,hx,hw,q⟩:=h;cases rx;obtain ⟨its,r,ht,hz⟩:=I.tuple hx;have hlen:its.toArray.size=xs.length:=by rw [M9];exact r.length.symm
 refine ⟨"tuple",_,OP.lookup,ht.typeIs,?_⟩;refine HT.Uq ht hs pl pu (by rw [hlen];exact hw) ?_ (by rw [hlen];exact hz);rw [hlen];refine ⟨.ref s.heap.objs.size,_,I.laid (t':=s.toks) (o:=.tup (qu xs lo hi)) (λb ob q=>MU _ q) (M0 _) ?_,rfl,q _ (I.hok.fresh (M0 _))⟩;exact ⟨Nv (m6 xs lo hi) hz,_,(r.drop (HT.Rw xs.length 0 lo)).take (HT.Rw xs.length xs.length hi - HT.Rw xs.length 0 lo),PX _ _⟩
noncomputable def Ey (K:W.Frag):R2:=λx y H Q=>∃ a b xs ys,x=.ref a/\y=.ref b/\QH K H a xs/\QH K H b ys/\xs≠[]/\xs.length+ys.length<=sizeLine /\
 (ys=[]->Q (.ref a) H)/\(ys≠[]->∀ p,H p=none->Q (.ref p) (upd H p (.tup (xs++ys))))
theorem Vals.Vc {xs:List V} {us:List Value} (r:Vals xs us):us=[]↔xs=[]:=by
 cases r with
 | nil=>simp
 | cons _ _=>simp
theorem Ds:So X (binaryOp .Add) (Ey X.K):=by intro pins s σ H x y v u Q I rx ry h;obtain ⟨a,b,xs,ys,rfl,rfl,ha,hb,hx,hz,q1,q2⟩:=h;cases rx;cases ry;obtain ⟨its,r1,p1,_⟩:=I.tuple ha;obtain ⟨its2,r2,p2,_⟩:=I.tuple hb;refine HT.Xy p1 p2 (λz=>hx (r1.Vc.mp z)) (λz=>⟨.ref a,H,I,rfl,q1 (r2.Vc.mp z)⟩) (λz=>?_) (by rw [<- r1.length,<- r2.length];exact hz);refine ⟨.ref s.heap.objs.size,_,I.laid (t':=s.toks) (o:=.tup (xs++ys)) (λb ob q=>MU _ q) (M0 _) ?_,rfl,q2 (λw=>z (r2.Vc.mpr w)) _ (I.hok.fresh (M0 _))⟩;exact ⟨by rw [MQ];exact hz,_,r1.append r2,PX _ _⟩
end
noncomputable def Wn (n:Nat) (i:Int):Option Nat:=if 0<=i then (if i < n then some i.toNat else none) else if -(n:Int)<=i then some (i+n).toNat else none
noncomputable def WB {α:Type} (xs:List α) (i:Int):Option α:=(Wn xs.length i).bind λj=>xs[j]?
variable {i:Int} {j:Nat}
theorem sM {n:Nat} (h:Wn n i=some j):seqIndex? i n=some j/\j < n/\-(n:Int)<=i/\i < n:=by
 unfold Wn at h;by_cases h0:0<=i
 ·rw [MW h0] at h;by_cases h1:i < n
  ·rw [MW h1] at h;have e:i.toNat=j:=NK h;exact ⟨by rw [seqIndex_of h0 h1,e],by omega,by omega,h1⟩
  ·rw [MR h1] at h;cases h
 ·rw [MR h0] at h;by_cases h1:-(n:Int)<=i
  ·rw [MW h1] at h;have e:(i+n).toNat=j:=NK h;exact ⟨by rw [seqIndex_neg (by omega) h1,e],by omega,h1,by omega⟩
  ·rw [MR h1] at h;cases h
theorem xD {α:Type} {xs:List α} {v:α} (h:WB xs i=some v):∃ j,seqIndex? i xs.length=some j/\xs[j]?=some v/\j < xs.length/\-(xs.length:Int)<=i/\i < xs.length:=by
 unfold WB at h
 cases e:Wn xs.length i with
 | none=>rw [e] at h;cases h
 | some j =>rw [e] at h;obtain ⟨h1,h2,h3,h4⟩:=sM e;exact ⟨j,h1,h,h2,h3,h4⟩
theorem i7 {α:Type} {xs:List α} {v:α} (h:xs[j]?=some v):WB xs (j:Int)=some v:=by
 have hj:j < xs.length:=(Nu.mp h).1
 have e:Wn xs.length (j:Int)=some j:=by unfold Wn;rw [MW (by omega),MW (by omega)];simp
 unfold WB;rw [e];exact h
theorem AA {α:Type} (xs:List α) (v:α):WB (xs++[v]) (-1)=some v:=by
 have hl:(xs++[v]).length=xs.length+1:=by simp
 have e:Wn (xs++[v]).length (-1)=some xs.length:=by unfold Wn;rw [hl,MR (by decide),MW (by omega)];congr 1;omega
 unfold WB;rw [e];show (xs++[v])[xs.length]?=some v;simp
noncomputable def CF (b:Expr):Prop:=∀ o i,subscripted b false o i=operate [o,i] (getItem o i)
noncomputable def Zf (X:Cx) (r:R2):Prop :=
 ∀ (value slice:Expr) (pins:List (Addr × Obj)) (s:Shared) (σ:St) (H:Hp) (x y:V) (v u:Value) (Q:VK),Inv X pins σ H s->RelV x v->RelV y u->r x y H Q ->
  subscripted slice false v u=operate [v,u] (getItem v u)->wpAny (model X.prog X.w) X.A (subscriptTail value slice v u) (EP X pins σ Q) X.xe s
noncomputable def Z0 (X:Cx) (id:String) (r:V->List V->Hp->VK->Prop):Prop :=
 ∀ (pins:List (Addr × Obj)) (s:Shared) (σ:St) (H:Hp) (x:V) (xs:List V) (v:Value) (us:List Value) (Q:VK),Inv X pins σ H s->RelV x v->Vals xs us->r x xs H Q ->
  wpAny (model X.prog X.w) X.A (call (.builtin id) (v::us)) (EP X pins σ Q) X.xe s
section
variable {X:Cx} {a b:Expr} {ta tb:TE} {pos:Pos}
theorem aX {r:R2} (hr:Zf X r) (ha:PE X a ta) (hb:PE X b tb) (hs:CF b:=by exact λ_ _=>rfl):PE X (.Subscript a b pos) (S5 r ta tb):=by intro pins s σ H Q I h;exact Subscript_ (E4 ha hb I h λv u s2 x y H2 I2 rx ry q=>hr a b pins s2 σ H2 x y v u Q I2 rx ry q (hs _ _))
noncomputable def BR (K:W.Frag):R2:=λx y H Q=>∃ p xs i v,x=.ref p/\y=.int i/\Qp K H p xs/\WB xs i=some v/\Q v H
noncomputable def vh (K:W.Frag):R2:=λx y H Q=>∃ p xs i v,x=.ref p/\y=.int i/\QH K H p xs/\WB xs i=some v/\Q v H
theorem cE:Zf X (BR X.K):=by
 intro value slice pins s σ H x y v u Q I rx ry h hs;obtain ⟨p,xs,i,z,rfl,rfl,hq,he,q⟩:=h;cases rx;obtain ⟨t,rfl⟩:=ry;obtain ⟨its,r,pl,hz⟩:=I.list hq;obtain ⟨j,h1,h2,h3,h4,h5⟩:=xD he;obtain ⟨w,ew,rw'⟩:=r.get h2;have hl:=r.length;have hn:=kN;have fin:EP X pins σ Q w s:=⟨z,H,I,rw',q⟩
 by_cases h0:0<=i
 ·have hj:i.toNat=j:=by
   rw [seqIndex_of h0 h5] at h1;exact NK h1
  exact item_listR pl.isList h0 (by omega) (by rw [hj];simpa using ew) fin hs
 ·have hj:(i+(its.toArray.size:Int)).toNat=j:=by
   rw [seqIndex_neg (by omega) h4] at h1;rw [M9,<- hl];exact NK h1
  exact subscriptTail_builtinR (x:=w) pl.isList.typeIs slot_list_getitem.lookup
   (wpAny_getItem_list_neg (Q:=λr s'=>r=w/\EP X pins σ Q r s') pl.isList (by omega) (by rw [M9] <;> omega) (by omega) (by rw [hj];simpa using ew) ⟨rfl,fin⟩) hs
theorem aY:Zf X (vh X.K):=by
 intro value slice pins s σ H x y v u Q I rx ry h hs;obtain ⟨p,xs,i,z,rfl,rfl,hq,he,q⟩:=h;cases rx;obtain ⟨t,rfl⟩:=ry;obtain ⟨its,r,pl,hz⟩:=I.tuple hq;obtain ⟨j,h1,h2,h3,h4,h5⟩:=xD he;obtain ⟨w,ew,rw'⟩:=r.get h2;have hl:=r.length;have hn:=kN;have fin:EP X pins σ Q w s:=⟨z,H,I,rw',q⟩
 exact subscriptTail_builtinR (x:=w) pl.typeIs slot_tuple_getitem.lookup
  (getItem_tuple (j:=j) (Q:=λr s'=>r=w/\EP X pins σ Q r s') pl (by omega) (by omega) (by rw [M9,<- hl];exact h1) (by simpa using ew) ⟨rfl,fin⟩) hs
theorem wu (its:List Value) (n j:Nat) (u:Value):Obj.mapSeq (·.setIfInBounds j u) { cls:=.type "list",data:=.seq its.toArray n }={ cls:=.type "list",data:=.seq (its.set j u).toArray n }:=by simp [Obj.mapSeq]
variable {pins:List (Addr × Obj)} {σ:St} {H:Hp} {s:Shared} {p:Addr} {xs:List V}
theorem Inv.lst (I:Inv X pins σ H s) (h:H p=some (.lst xs)) :
  ∃ (its:List Value) (n:Nat),Vals xs its/\s.heap.get? p=some { cls:=.type "list",data:=.seq its.toArray n }/\xs.length<=sizeLine:=by
 obtain ⟨z,its,n,r,e⟩:=I.hok p _ h;exact ⟨its,n,r,e,z⟩
theorem Inv.Yi {ys:List V} {its its':List Value} {n n':Nat} {f:Obj->Obj} (I:Inv X pins σ H s) (h:H p=some (.lst xs))
  (ho:s.heap.get? p=some { cls:=.type "list",data:=.seq its.toArray n }) (hf:f { cls:=.type "list",data:=.seq its.toArray n }={ cls:=.type "list",data:=.seq its'.toArray n' }) (r:Vals ys its') (hz:ys.length<=sizeLine) (t:Nat) :
  Inv X pins σ (upd H p (.lst ys)) { s with heap:=s.heap.update p f,toks:=t }:=by
 have e:(s.heap.update p f).get? p=some { cls:=.type "list",data:=.seq its'.toArray n' }:=by rw [Heap.get?_update_self f ho (by rw [hf] <;> rfl),hf]
 refine I.write (x:=p) (e:=p) (by rw [h];trivial) (.inl rfl) (λb u hb q=>(Heap.get?_update_other _ _ (Nz hb)).trans q) ⟨_,e⟩ ?_;exact ⟨hz,its',n',r,e⟩
noncomputable def GV:V->V->V->Hp->(Hp->Prop)->Prop:=λo i v H Q=>∃ p xs k j,o=.ref p/\i=.int k/\H p=some (.lst xs)/\Wn xs.length k=some j/\Q (upd H p (.lst (xs.set j v)))
theorem pW:EL X GV:=by
 intro pins s σ H o i v ov iv u Q I ro ri rv h;obtain ⟨p,xs,k,j,rfl,rfl,hp,hj,q⟩:=h;cases ro;obtain ⟨t,rfl⟩:=ri;obtain ⟨its,n,r,ho,hz⟩:=I.lst hp;obtain ⟨h1,h2,h3,h4⟩:=sM hj;have hl:=r.length;have hn:=kN
 have I':Inv X pins σ (upd H p (.lst (xs.set j v))) { s with heap:=s.heap.update p (Obj.mapSeq (·.setIfInBounds j u)) } :=
  I.Yi hp ho (wu its n j u) (r.set rv j) (by rw [List.length_set];exact hz) s.toks
 by_cases h0:0<=k
 ·have hk:k.toNat=j:=by
   rw [seqIndex_of h0 h4] at h1;exact NK h1
  exact W.ki_setAt ho h0 (by omega) (by rw [M9,<- hl];exact h4) (by rw [hk];exact ⟨_,I',q⟩)
 ·have hk:(k+(its.toArray.size:Int)).toNat=j:=by
   rw [seqIndex_neg (by omega) h3] at h1;rw [M9,<- hl];exact NK h1
  exact W.ki_setBack ho (by omega) (by rw [M9,<- hl];exact h3) (by omega) (by rw [hk];exact ⟨_,I',q⟩)
theorem tY (lo hi:Option Int) (n:Nat):(sliceBounds lo hi none n).1=((HT.Rw n 0 lo:Nat):Int)/\(sliceBounds lo hi none n).2.1=((HT.Rw n n hi:Nat):Int)/\(sliceBounds lo hi none n).2.2=1:=by
 refine ⟨?_,?_,rfl⟩
 ·cases lo with
  | none=>simp [sliceBounds,HT.Rw]
  | some i =>
   simp only [sliceBounds,HT.Rw,Option.getD_none,show (1:Int) > 0 by decide,O6];by_cases h:i < 0
   ·simp only [h,O6] <;> omega
   ·simp only [h,Qa] <;> omega
 ·cases hi with
  | none=>simp [sliceBounds,HT.Rw]
  | some i =>
   simp only [sliceBounds,HT.Rw,Option.getD_none,show (1:Int) > 0 by decide,O6];by_cases h:i < 0
   ·simp only [h,O6] <;> omega
   ·simp only [h,Qa] <;> omega
theorem qE (its:List Value) (lo hi:Option Int):slicePick its.toArray lo hi none=((its.drop (HT.Rw its.length 0 lo)).take (HT.Rw its.length its.length hi - HT.Rw its.length 0 lo)).toArray:=by obtain ⟨h1,h2,h3⟩:=tY lo hi its.toArray.size;unfold slicePick;rw [h1,h2,h3];simp only [sliceRange_one,pick_run,M9] <;> rfl
noncomputable def GW (K:W.Frag):V->Option Int->Option Int->Hp->VK->Prop:=λx lo hi H Q=>∃ a xs,x=.ref a/\Qp K H a xs/\∀ p,H p=none->Q (.ref p) (upd H p (.lst (qu xs lo hi)))
theorem D8:SlR X (GW X.K):=by intro pins s σ H x v vl vu lo hi sl Q I rx hs pl pu h;obtain ⟨a,xs,rfl,hx,q⟩:=h;cases rx;obtain ⟨its,r,ht,hz⟩:=I.list hx;have hlen:=r.length;refine ⟨"list",_,slot_list_getitem.lookup,ht.isList.typeIs,?_⟩;refine wpAny_getItem_list_slice ht.isList hs pl pu .none (by simp) ?_ (by rw [M9] <;> omega);rw [qE,<- hlen];refine ⟨.ref s.heap.objs.size,_,I.laid (t':=s.toks) (o:=.lst (qu xs lo hi)) (λb ob q=>MU _ q) (M0 _) ?_,rfl,q _ (I.hok.fresh (M0 _))⟩;exact ⟨Nv (m6 xs lo hi) hz,_,0,(r.drop (HT.Rw xs.length 0 lo)).take (HT.Rw xs.length xs.length hi - HT.Rw xs.length 0 lo),Nr _ rfl⟩
noncomputable def ko:V->Bool
 | .Qj=>true
 | .bl _=>true
 | .int _=>true
 | .str _=>true
 | _=>false
noncomputable def Xk:V->V->Bool
 | .Qj,.Qj=>true
 | .bl a,.bl b=>a == b
 | .bl a,.int b=>(if a then 1 else 0) == b
 | .int a,.bl b=>a == (if b then 1 else 0)
 | .int a,.int b=>a == b
 | .str a,.str b=>a == b
 | _,_=>false
variable {A:Around} {y x:V} {u v:Value}
theorem Ff (ry:RelV y u) (rx:RelV x v) (fy:ko y=true) (fx:ko x=true):SeqAt.EqAt A s u v (Xk y x):=by
 cases y with
 | Qj =>
  cases ry
  cases x with
  | Qj=>cases rx;exact SeqAt.EqAt.same _
  | bl b=>cases rx;exact SeqAt.EqAt.none_bool b
  | int b=>obtain ⟨t,rfl⟩:=rx;exact SeqAt.EqAt.none_int b t
  | str b=>obtain ⟨t,rfl⟩:=rx;exact SeqAt.EqAt.none_str b t
  | _=>exact absurd (show false=true from fx) MY
 | bl a =>
  cases ry
  cases x with
  | Qj=>cases rx;exact SeqAt.EqAt.bool_none a
  | bl b=>cases rx;exact SeqAt.EqAt.bool_bool a b
  | int b=>obtain ⟨t,rfl⟩:=rx;exact SeqAt.EqAt.bool_int a b t
  | str b=>obtain ⟨t,rfl⟩:=rx;exact SeqAt.EqAt.bool_str a b t
  | _=>exact absurd (show false=true from fx) MY
 | int a =>
  obtain ⟨t',rfl⟩:=ry
  cases x with
  | Qj=>cases rx;exact SeqAt.EqAt.int_none a t'
  | bl b=>cases rx;exact SeqAt.EqAt.int_bool a t' b
  | int b=>obtain ⟨t,rfl⟩:=rx;exact SeqAt.EqAt.int_int a t' b t
  | str b=>obtain ⟨t,rfl⟩:=rx;exact PR a t' b t
  | _=>exact absurd (show false=true from fx) MY
 | str a =>
  obtain ⟨t',rfl⟩:=ry
  cases x with
  | Qj=>cases rx;exact SeqAt.EqAt.str_none a t'
  | bl b=>cases rx;exact SeqAt.EqAt.str_bool a t' b
  | int b=>obtain ⟨t,rfl⟩:=rx;exact PU a t' b t
  | str b=>obtain ⟨t,rfl⟩:=rx;exact SeqAt.EqAt.str_str a t' b t
  | _=>exact absurd (show false=true from fx) MY
 | _=>exact absurd (show false=true from fy) MY
noncomputable def V7 (x:V) (u:Value):Bool:=match u with
 | .none=>Xk .Qj x
 | .bool b=>Xk (.bl b) x
 | .int i _=>Xk (.int i) x
 | .str z _=>Xk (.str z) x
 | _=>false
theorem AS (r:RelV y u) (f:ko y=true):V7 x u=Xk y x:=by
 cases y with
 | Qj=>cases r;rfl
 | bl b=>cases r;rfl
 | int i=>obtain ⟨t,rfl⟩:=r;rfl
 | str z=>obtain ⟨t,rfl⟩:=r;rfl
 | _=>exact absurd (show false=true from f) MY
theorem kY:∀ {xs:List V} {us:List Value},Vals xs us->xs.all ko=true->us.any (V7 x)=xs.any λy=>Xk y x
 | _,_,.nil,_=>rfl
 | y::xs,u::us,.cons r t,f=>by rw [List.all_cons,M4] at f;rw [Oi,Oi,AS r f.1,kY t f.2]
theorem jK (rx:RelV x v) (fx:ko x=true):∀ {xs:List V} {us:List Value},Vals xs us->xs.all ko=true->∀ u ∈ us,SeqAt.EqAt A s u v (V7 x u)
 | _,_,.nil,_=>λu hu=>by cases hu
 | y::xs,u::us,.cons r t,f=>λu' hu=>by
  rw [List.all_cons,M4] at f;rcases Na.mp hu with rfl | hu
  ·rw [AS r f.1];exact Ff r rx f.1 fx
  ·exact jK rx fx t f.2 u' hu
noncomputable def XQ (x:V) (xs:List V):Bool:=xs.any λy=>Xk y x
noncomputable def YL (K:W.Frag) (neg:Bool):R2:=λx y H Q=>∃ p xs,y=.ref p/\(Qp K H p xs\/QH K H p xs)/\ko x=true/\xs.all ko=true/\Q (.bl (if neg then !XQ x xs else XQ x xs)) H
theorem ir:So X (compareOp .In) (YL X.K false):=by
 intro pins s σ H x y v u Q I rx ry h;obtain ⟨p,xs,rfl,hq,fx,fs,q⟩:=h;cases ry;rcases hq with hq | hq
 ·obtain ⟨its,r,pl,hz⟩:=I.list hq;refine SeqAt.in_listAt (V7 x) pl.isList (λw hw=>jK rx fx r fs w (by simpa using hw)) ⟨.bl _,H,I,rfl,?_⟩;rw [show its.toArray.any (V7 x)=its.any (V7 x) by simp,kY r fs];exact q
 ·obtain ⟨its,r,pl,hz⟩:=I.tuple hq;refine SeqAt.in_tupleAt (V7 x) pl (λw hw=>jK rx fx r fs w (by simpa using hw)) ⟨.bl _,H,I,rfl,?_⟩;rw [show its.toArray.any (V7 x)=its.any (V7 x) by simp,kY r fs];exact q
theorem lN:So X (compareOp .NotIn) (YL X.K true):=by
 intro pins s σ H x y v u Q I rx ry h;obtain ⟨p,xs,rfl,hq,fx,fs,q⟩:=h;cases ry;rcases hq with hq | hq
 ·obtain ⟨its,r,pl,hz⟩:=I.list hq;refine SeqAt.notIn_listAt (V7 x) pl.isList (λw hw=>jK rx fx r fs w (by simpa using hw)) ⟨.bl _,H,I,rfl,?_⟩;rw [show its.toArray.any (V7 x)=its.any (V7 x) by simp,kY r fs];exact q
 ·obtain ⟨its,r,pl,hz⟩:=I.tuple hq;refine SeqAt.notIn_tupleAt (V7 x) pl (λw hw=>jK rx fx r fs w (by simpa using hw)) ⟨.bl _,H,I,rfl,?_⟩;rw [show its.toArray.any (V7 x)=its.any (V7 x) by simp,kY r fs];exact q
theorem aT:iu X (.builtin "len") (λxs H Q=>∃ p ys,xs=[.ref p]/\(Qp X.K H p ys\/QH X.K H p ys)/\Q (.int ys.length) H):=by
 intro pins s σ H xs us Q I r h;obtain ⟨p,ys,rfl,hq,q⟩:=h;obtain ⟨u,rfl,rx⟩:=ie r;cases rx;have hn:=kN;rcases hq with hq | hq
 ·obtain ⟨its,r',pl,hz⟩:=I.list hq;have hlen:=r'.length;exact Calls.call_len_list pl.isList (by simp only [M9] <;> omega) ⟨.int ys.length,H,I.tok _,⟨s.toks+1,by rw [M9,hlen]⟩,q⟩
 ·obtain ⟨its,r',pl,hz⟩:=I.tuple hq;have hlen:=r'.length;exact len_tuple pl (by simp only [M9] <;> omega) ⟨.int ys.length,H,I.tok _,⟨s.toks+1,by rw [M9,hlen]⟩,q⟩
theorem r8:iu X (.builtin "len") (λxs H Q=>∃ z,xs=[.str z]/\z.length<=sizeLine/\Q (.int z.length) H):=by intro pins s σ H xs us Q I r h;obtain ⟨z,rfl,hz,q⟩:=h;obtain ⟨u,rfl,t,rfl⟩:=ie r;have hn:=kN;exact len_str (by omega) ⟨.int z.length,H,I.tok _,⟨_,rfl⟩,q⟩
theorem lq:iu X (.type "list") (λxs H Q=>∃ p ys,xs=[.ref p]/\(Qp X.K H p ys\/QH X.K H p ys)/\∀ l,H l=none->Q (.ref l) (upd H l (.lst ys))):=by
 intro pins s σ H xs us Q I r h;obtain ⟨p,ys,rfl,hq,q⟩:=h;obtain ⟨u,rfl,rx⟩:=ie r;cases rx
 have fin:∀ (its:List Value),Vals ys its->ys.length<=sizeLine->∀ (h':Heap) (c':Nat),(∀ b o',s.heap.get? b=some o'->h'.get? b=some o') ->
   h'.get? s.heap.objs.size=some { cls:=.type "list",dict:=none,data:=.seq its.toArray c',slots:=#[] }->EP X pins σ Q (.ref s.heap.objs.size) { s with heap:=h' }:=λits r' hz h' c' kp e =>
  ⟨.ref s.heap.objs.size,_,I.laid (t':=s.toks) kp (M0 _) (show QC X.prog X.w _ h' _ (.lst ys) from ⟨hz,its,c',r',e⟩),rfl,q _ (I.hok.fresh (M0 _))⟩
 rcases hq with hq | hq
 ·obtain ⟨its,r',pl,hz⟩:=I.list hq;have hlen:=r'.length;obtain ⟨o,ho,hc,n,hd⟩:=pl.isList;exact call_list_seq p (.inl rfl) ho hc hd (λh' c' kp e=>fin its r' hz h' c' kp e) (by simp only [M9] <;> omega)
 ·obtain ⟨its,r',pl,hz⟩:=I.tuple hq;have hlen:=r'.length;obtain ⟨o,ho,hc,n,hd⟩:=pl;exact call_list_seq p (.inr rfl) ho hc hd (λh' c' kp e=>fin its r' hz h' c' kp e) (by simp only [M9] <;> omega)
theorem fu:iu X (.type "tuple") (λxs H Q=>∃ p ys,xs=[.ref p]/\((Qp X.K H p ys/\∀ l,H l=none->Q (.ref l) (upd H l (.tup ys)))\/(QH X.K H p ys/\Q (.ref p) H))):=by
 intro pins s σ H xs us Q I r h;obtain ⟨p,ys,rfl,h⟩:=h;obtain ⟨u,rfl,rx⟩:=ie r;cases rx;rcases h with ⟨hq,q⟩ | ⟨hq,q⟩
 ·obtain ⟨its,r',pl,hz⟩:=I.list hq;have hlen:=r'.length;refine call_tuple_list pl.isList (λh' kp=>?_) (by simp only [M9] <;> omega);have I1:Inv X pins σ H { s with heap:=h' }:=I.kept (t':=s.toks) kp
  have I2:Inv X pins σ (upd H h'.objs.size (.tup ys)) { s with heap:=h'.push { cls:=.type "tuple",data:=.seq its.toArray } } :=
   I1.laid (t':=s.toks) (λb o e=>MU _ e) (M0 _) (show QC X.prog X.w _ _ _ (.tup ys) from ⟨hz,its,r',PX _ _⟩)
  exact ⟨.ref h'.objs.size,_,I2,rfl,q _ (I1.hok.fresh (M0 _))⟩
 ·obtain ⟨its,r',pl,hz⟩:=I.tuple hq;exact call_tuple_same pl ⟨.ref p,H,I,rfl,q⟩
noncomputable def YM (K:W.Frag) (T:String) (x:V) (H:Hp):Prop:=match x with
 | .str _=>T="str"
 | .int _=>T="int"
 | .ref p=>(T="list"/\∃ xs,Qp K H p xs)\/(T="tuple"/\∃ o,K.lookup p=some o/\o.cls=.type "tuple"/\o.dict=none) \/
   (T="dict"/\((∃ kvs,H p=some (.dK kvs))\/∃ kvs,H p=some (.dT kvs)))\/(T="set"/\∃ S n,H p=some (.set S n))
 | _=>False
theorem Cs {T:String} (I:Inv X pins σ H s) (r:RelV x v) (ty:YM X.K T x H) :
  s.TypeIs v T/\∀ a,v=.ref a->∃ ob,s.heap.get? a=some ob/\ob.dict=none:=by
 cases x with
 | str z =>obtain ⟨t,rfl⟩:=r;cases (show T="str" from ty);exact ⟨typeIs_str s z t,λ_ e=>nomatch e⟩
 | int i =>obtain ⟨t,rfl⟩:=r;cases (show T="int" from ty);exact ⟨typeIs_int s i t,λ_ e=>nomatch e⟩
 | ref p =>
  cases r;rcases ty with ⟨rfl,xs,hq⟩ | ⟨rfl,o,hk,hc,hd⟩ | ⟨rfl,hk⟩ | ⟨rfl,S,n,hk⟩
  ·obtain ⟨its,_,pl,_⟩:=I.list hq;refine ⟨pl.isList.typeIs,λa e=>?_⟩;cases e;obtain ⟨o,n,e,c,hd,_⟩:=pl;exact ⟨o,e,hd⟩
  ·refine ⟨⟨o,I.TU p o hk,hc⟩,λa e=>?_⟩;cases e;exact ⟨o,I.TU _ o hk,hd⟩
  ·have z:∃ o,s.heap.get? p=some o/\o.ExactDict:=by
    rcases hk with ⟨kvs,hk⟩ | ⟨kvs,hk⟩
    ·obtain ⟨_,_,_,_,o,_,_,e,ex,_⟩:=I.hok p _ hk;exact ⟨o,e,ex⟩
    ·obtain ⟨_,_,_,_,o,_,_,e,ex,_⟩:=I.hok p _ hk;exact ⟨o,e,ex⟩
   obtain ⟨o,e,ex⟩:=z;refine ⟨⟨o,e,ex.1⟩,λa e2=>?_⟩;cases e2;exact ⟨o,e,ex.2.1⟩
  ·obtain ⟨o,_,_,_,e,ex,_⟩:=I.hok p _ hk;refine ⟨⟨o,e,ex.1⟩,λa e2=>?_⟩;cases e2;exact ⟨o,e,ex.2.1⟩
 | _=>exact False.elim ty
noncomputable def He (K:W.Frag) (T:String) (r:V->List V->Hp->VK->Prop) (to:TE):TE:=λσ H Q=>to σ H λx H1=>YM K T x H1/\r x [] H1 Q
noncomputable def Yj (K:W.Frag) (T:String) (r:V->List V->Hp->VK->Prop) (to:TE) (t:TA):TE:=λσ H Q=>to σ H λx H1=>YM K T x H1/\t σ H1 λxs H2=>r x xs H2 Q
variable {o e:Expr} {es:List Expr} {to:TE} {t:TA} {name:Str} {apos cpos:Pos} {T id:String} {r:V->List V->Hp->VK->Prop}
theorem wO (pa:PlainAttrs T) (slot:Slot T name id) (hty:typeOf (.builtin id)=pure (.type "method_descriptor")) (hm:Z0 X id r) (ho:PE X o to)
  (hbase:attributeBase o name X.env (eval o X.env)=eval o X.env:=by rfl) (hline:(apos.endLine == cpos.line)=true:=by rfl):PE X (.Call (.Attribute o name apos) [] [] cpos) (He X.K T r to):=by
 intro pins s σ H Q I h;refine wpAny_Call_method0_late hbase hline (Qt (ho pins s σ H _ I h) λv s1 ⟨x,H1,I1,r1,ty,q1⟩=>?_);obtain ⟨h1,h2⟩:=Cs I1 r1 ty;exact ⟨T,id,pa,slot,hty,h1,h2,Ph rfl (PySem.evalArgs_none (hm pins s1 σ H1 x [] v [] Q I1 r1 .nil q1))⟩
theorem ic (pa:PlainAttrs T) (slot:Slot T name id) (hty:typeOf (.builtin id)=pure (.type "method_descriptor")) (hm:Z0 X id r) (ho:PE X o to) (ha:PA X (e::es) t)
  (hbase:attributeBase o name X.env (eval o X.env)=eval o X.env:=by rfl)
  (hfew:((backTo cpos (starEach (e::es) X.env)).all (λx=>!x.1) && (backToKw cpos (keywordEach [] X.env)).all (λx=>x.1.isSome)
   && decide ((e::es).length+([]:List Keyword).length+(if ([]:List Keyword).isEmpty then 0 else 1) < 30))=true:=by rfl)
  (hline:(apos.endLine == cpos.line)=true:=by rfl) (hs:starEach (e::es) X.env=(false,eval e X.env)::starEach es X.env:=by rfl) (hplain:(backTo cpos (starEach es X.env)).any (·.1)=false:=by rfl) :
  PE X (.Call (.Attribute o name apos) (e::es) [] cpos) (Yj X.K T r to t):=by
 intro pins s σ H Q I h;refine wpAny_Call_method_late hbase hfew hline rfl (Qt (ho pins s σ H _ I h) λv s1 ⟨x,H1,I1,r1,ty,q1⟩=>?_);obtain ⟨h1,h2⟩:=Cs I1 r1 ty;refine ⟨T,id,pa,slot,hty,h1,h2,?_⟩;have hA:=ha cpos pins s1 σ H1 _ I1 q1;rw [hs] at hA ⊢;refine Ph (by show (false || (backTo cpos (starEach es X.env)).any (·.1))=false;rw [hplain] <;> rfl) (Calls.evalArgs_plain ?_);exact Qt hA λus s2 ⟨vs,H2,I2,r2,q2⟩=>hm pins s2 σ H2 x vs v us Q I2 r1 r2 q2
end
noncomputable def Z1 (X:Cx) (id:String) (r:V->List V->Hp->VK->Prop):Prop :=
 ∀ (pins:List (Addr × Obj)) (s:Shared) (σ:St) (H:Hp) (x:V) (xs:List V) (v:Value) (us:List Value) (Q:VK),Inv X pins σ H s->RelV x v->Vals xs us->r x xs H Q ->
  wpAny (model X.prog X.w) X.A (call (.builtin id) (v::us)) (EP X pins σ Q) X.xe s
theorem Vals.one:∀ {x:V} {us:List Value},Vals [x] us->∃ u,us=[u]/\RelV x u
 | _,_,.cons r .nil=>⟨_,rfl,r⟩
theorem Vals.zero:∀ {us:List Value},Vals [] us->us=[]
 | _,.nil=>rfl
theorem Vals.dropLast {xs:List V} {us:List Value} (h:Vals xs us):Vals xs.dropLast us.dropLast:=by
 induction h with
 | nil=>exact .nil
 | cons r t ih =>
  cases t with
  | nil=>exact .nil
  | cons q t'=>exact .cons r ih
theorem vY {α:Type} (l:List α):l.eraseIdx (l.length - 1)=l.dropLast:=by
 induction l with
 | nil=>rfl
 | cons a r ih =>
  cases r with
  | nil=>rfl
  | cons b r =>
   have e:(a::b::r).length - 1=((b::r).length - 1)+1:=by have h1:(a::b::r).length=r.length+2:=rfl;have h2:(b::r).length=r.length+1:=rfl;omega
   rw [e,List.eraseIdx_cons_succ,ih]
   all_goals rfl
section
variable {X:Cx} {pins:List (Addr × Obj)} {σ:St} {H:Hp} {s:Shared} {l b:Addr} {xs ys zs:List V}
variable {its:List Value} {n t':Nat}
theorem Inv.Yk {its':List Value} {f:Array Value->Array Value} (I:Inv X pins σ H s) (hH:H l=some (.lst xs))
  (e:s.heap.get? l=some { cls:=.type "list",data:=.seq its.toArray n }) (hf:f its.toArray=its'.toArray) (hv:Vals ys its') (hz:ys.length<=sizeLine) :
  Inv X pins σ (upd H l (.lst ys)) { s with heap:=s.heap.update l (Obj.mapSeq f),toks:=t' }:=by
 have q:=PySem.IsL.update e f;rw [hf] at q;refine I.write (x:=l) (e:=l) (by rw [hH];exact trivial) (.inl rfl) (λb' u hb hu=>(Heap.get?_update_other s.heap (Obj.mapSeq f) (Nz hb)).trans hu) ⟨_,q⟩ ?_;exact ⟨hz,its',_,hv,q⟩
theorem Inv.lnew (I:Inv X pins σ H s) (hv:Vals ys its) (hz:ys.length<=sizeLine) :
  Inv X pins σ (upd H s.heap.objs.size (.lst ys)) { s with heap:=s.heap.push { cls:=.type "list",data:=.seq its.toArray },toks:=t' } :=
 I.laid (λ_ _ q=>MU _ q) (M0 _) ⟨hz,its,0,hv,Nr _ rfl⟩
theorem Inv.fresh (I:Inv X pins σ H s):H s.heap.objs.size=none:=I.hok.fresh (M0 _)
theorem Inv.WW (I:Inv X pins σ H s) (hH:H l=some (.lst xs)):xs.length<=sizeLine/\∃ (its:List Value) (n:Nat),Vals xs its/\xs.length=its.length/\s.heap.get? l=some { cls:=.type "list",data:=.seq its.toArray n }:=by obtain ⟨z,its,n,r,e⟩:=I.hok l _ hH;exact ⟨z,its,n,r,r.length,e⟩
theorem Bv (h:n<=sizeLine):Builtin.List.listTooLong n=false:=by unfold Builtin.List.listTooLong;exact MX (by omega)
end
section
variable {X:Cx}
noncomputable def lQ:V->List V->Hp->VK->Prop:=λx vs H Q=>∃ l xs y,x=.ref l/\vs=[y]/\H l=some (.lst xs)/\xs.length < sizeLine/\Q .Qj (upd H l (.lst (xs++[y])))
theorem eJ:Z1 X "list.append" lQ:=by intro pins s σ H x vs v us Q I rx rv h;obtain ⟨l,xs,y,rfl,rfl,hH,hz,q⟩:=h;cases rx;obtain ⟨u,rfl,ru⟩:=rv.one;obtain ⟨z,its,n,r,hl,e⟩:=I.WW hH;refine Px NT ⟨_,e,rfl⟩ F.entry_list_append (F.args_list_append_2 _ _) (PySem.list_append l its.toArray n u (by rw [M9];omega)) ⟨e,?_⟩;refine ⟨.Qj,_,I.Yk (its':=its++[u]) hH e (by simp) (r.append (.cons ru .nil)) ?_,rfl,q⟩;rw [MQ,List.length_singleton];omega
noncomputable def yy:V->List V->Hp->VK->Prop:=λx vs H Q=>∃ l b xs zs,x=.ref l/\vs=[.ref b]/\H l=some (.lst xs)/\H b=some (.lst zs)/\xs.length+zs.length<=sizeLine/\Q .Qj (upd H l (.lst (xs++zs)))
theorem j4:Z1 X "list.extend" yy:=by
 intro pins s σ H x vs v us Q I rx rv h;obtain ⟨l,b,xs,zs,rfl,rfl,hH,hB,hz,q⟩:=h;cases rx;obtain ⟨u,rfl,ru⟩:=rv.one;cases ru;obtain ⟨z,its,n,r,hl,e⟩:=I.WW hH;obtain ⟨z2,its2,n2,r2,hl2,e2⟩:=I.WW hB;have hsz:its.toArray.size+its2.toArray.size<=sizeLine:=by rw [M9,M9];omega
 have Zg:¬ (!its.toArray.isEmpty && Builtin.List.listTooLong (its.toArray.size+its2.toArray.size))=true:=by rw [Bv hsz,NL];exact MY
 refine Px OT ⟨_,e,rfl⟩ F.entry_list_extend (F.args_list_extend_2 _ _)
  (AutoSeq1.list_extend_list_list_0 l its.toArray n b its2.toArray n2 Zg (by rw [M9];omega) (by omega)) ⟨e,e2,?_⟩
 refine ⟨.Qj,_,I.Yk (its':=its++its2) hH e (by simp) (r.append r2) ?_,rfl,q⟩;rw [MQ];omega
noncomputable def DJ:V->List V->Hp->VK->Prop:=λx vs H Q=>∃ l xs y,x=.ref l/\vs=[]/\H l=some (.lst xs)/\xs[xs.length - 1]?=some y/\Q y (upd H l (.lst xs.dropLast))
theorem wA:Z1 X "list.pop" DJ:=by
 intro pins s σ H x vs v us Q I rx rv h;obtain ⟨l,xs,y,rfl,rfl,hH,hy,q⟩:=h;cases rx;have hus:=rv.zero;subst hus;obtain ⟨z,its,n,r,hl,e⟩:=I.WW hH;obtain ⟨u,hu,ru⟩:=r.get hy
 have hy':its.toArray[its.toArray.size - 1]?=some u:=by show its.toArray[its.length - 1]?=some u;rw [<- Array.getElem?_toList,<- hl];exact hu
 refine Px Py ⟨_,e,rfl⟩ F.entry_list_pop (F.args_list_pop_1 _) (MeetsSeq.list_pop_last l its.toArray n u hy' (by rw [M9];omega)) ⟨e,?_⟩;refine ⟨y,_,I.Yk (its':=its.dropLast) hH e ?_ r.dropLast ?_,ru,q⟩
 ·show its.toArray.eraseIdxIfInBounds (its.toArray.size - 1)=its.dropLast.toArray;rw [M9,List.eraseIdxIfInBounds_toArray,vY]
 ·rw [List.length_dropLast];omega
end
section
variable {prog:Program} {w:World} {A:Around} {E:Value->Shared->Prop} {s:Shared}
end
section
variable {X:Cx}
end
section
variable {κ:Type} [DecidableEq κ]
noncomputable def kU (kvs:List (κ × V)) (k:κ):Option V:=(kvs.find? λkv=>decide (kv.1=k)).map (·.2)
noncomputable def ve (kvs:List (κ × V)) (k:κ) (v:V):List (κ × V) :=
 if (kvs.any λkv=>decide (kv.1=k))=true then kvs.map (λkv=>if kv.1=k then (kv.1,v) else kv) else kvs++[(k,v)]
theorem vJ {p:κ × V} {r:List (κ × V)} {k:κ} (e:p.1=k):kU (p::r) k=some p.2:=by simp [kU,OU,e]
theorem vI {p:κ × V} {r:List (κ × V)} {k:κ} (e:¬ p.1=k):kU (p::r) k=kU r k:=by simp [kU,OU,e]
theorem uK (kvs:List (κ × V)) (k:κ) (v:V):(ve kvs k v).length<=kvs.length+1:=by
 unfold ve;split
 ·rw [tB];omega
 ·rw [MQ,Nd,List.length_nil];omega
theorem KV.val {kvs:List (κ × V)} {vs:List (κ × Value)} (r:KV kvs vs) (k:κ):Ul (kU kvs k) (valueAt vs k):=by
 unfold KV at r
 induction r with
 | nil=>exact True.intro
 | @cons p q ps qs h t ih =>
  obtain ⟨h1,h2⟩:=h;by_cases e:p.1=k
  ·have e':q.1=k:=h1.symm.trans e;have b:valueAt (q::qs) k=some q.2:=by simp [valueAt,OU,e']
   rw [vJ e,b];exact h2
  ·have e':¬ q.1=k:=λz=>e (h1.trans z);have b:valueAt (q::qs) k=valueAt qs k:=by simp [valueAt,OU,e']
   rw [vI e,b];exact ih
theorem KV.any {kvs:List (κ × V)} {vs:List (κ × Value)} (r:KV kvs vs) (k:κ):(kvs.any λkv=>decide (kv.1=k))=vs.any λkv=>decide (kv.1=k):=by
 unfold KV at r
 induction r with
 | nil=>rfl
 | cons h t ih=>rw [Oi,Oi,ih,h.1]
variable {y:V} {u:Value}
theorem KV.repl {kvs:List (κ × V)} {vs:List (κ × Value)} (r:KV kvs vs) (k:κ) (ry:RelV y u) :
  KV (kvs.map λkv=>if kv.1=k then (kv.1,y) else kv) (vs.map λkv=>if kv.1=k then (kv.1,u) else kv):=by
 unfold KV at r ⊢
 induction r with
 | nil=>exact .nil
 | @cons p q ps qs h t ih =>
  rw [Nb,Nb];refine .cons ?_ ih;obtain ⟨h1,h2⟩:=h;by_cases e:p.1=k
  ·rw [MW e,MW (h1.symm.trans e)];exact ⟨h1,ry⟩
  ·rw [MR e,MR (λz=>e (h1.trans z))];exact ⟨h1,h2⟩
theorem KV.put {kvs:List (κ × V)} {vs:List (κ × Value)} (r:KV kvs vs) (k:κ) (ry:RelV y u):KV (ve kvs k y) (stored vs k u):=by
 unfold ve stored;rw [r.any k];by_cases e:(vs.any λkv=>decide (kv.1=k))=true
 ·rw [MW e,MW e];exact r.repl k ry
 ·rw [MR e,MR e];exact Paired.snoc r ⟨rfl,ry⟩
end
variable {P:Program} {w:World}
theorem Bf {k:Key} {u:Value} (r:RelV (kV k) u):(ft P w).is k u=true:=by
 cases k with
 | inl i=>obtain ⟨t,e⟩:=(show ∃ t,u=Value.int i t from r);subst e;exact uN P w i t
 | inr x=>obtain ⟨t,e⟩:=(show ∃ t,u=Value.str x t from r);subst e;exact uO P w x t
theorem rf:∀ {ks:List Key} {us:List Value},Vals (ks.map kV) us->ItemsAre (ft P w) ks us
 | [],_,r=>by rw [Qc] at r;cases r;exact .nil
 | k::ks,_,r=>by
  rw [Nb] at r
  cases r with
  | cons h t=>exact .cons (Bf h) (rf t)
noncomputable abbrev KT (H:Hp):List (List Key × V)->List (List Key × Addr × Value)->Prop:=Paired λp q=>p.1=q.1/\H q.2.1=some (.tup (p.1.map kV))/\RelV p.2 q.2.2
variable {H:Hp}
theorem KT.val {kvs:List (List Key × V)} {xs:List (List Key × Addr × Value)} (r:KT H kvs xs) (k:List Key):Ul (kU kvs k) ((atKey xs k).map (·.2)):=by
 induction r with
 | nil=>exact True.intro
 | @cons p q ps qs h t ih =>
  obtain ⟨h1,_,h2⟩:=h;by_cases e:p.1=k
  ·have e':q.1=k:=h1.symm.trans e;have b:atKey (q::qs) k=some q.2:=by simp [atKey,OU,e']
   rw [vJ e,b];exact h2
  ·have e':¬ q.1=k:=λz=>e (h1.trans z);have b:atKey (q::qs) k=atKey qs k:=by simp [atKey,OU,e']
   rw [vI e,b];exact ih
section
variable {P:Program} {w:World} {H:Hp} {h:Heap} {a:Addr}
theorem EA {u:HO} (ok:Um P w H h) (e:Rd H a u):QC P w H h a u:=e.ok ok
variable {kvs:List (Key × V)}
theorem AR (ok:Um P w H h) (e:Rd H a (.dK kvs)):kvs.length<=sizeLine/\(a == sysModules)=false/\∃ vs,KV kvs vs/\h.DictOf (ft P w) a vs :=
 show QC P w H h a (.dK kvs) from EA ok e
theorem GC (ok:Um P w H h) (e:H a=some (.dK kvs)):kvs.length<=sizeLine/\(a == sysModules)=false/\∃ vs,KV kvs vs/\h.DictOf (ft P w) a vs:=AR ok (.inl e)
theorem Bg {ks:List Key} (ok:Um P w H h) (e:H a=some (.tup (ks.map kV))):(tupleKind (ft P w)).is h ks a:=by
 obtain ⟨_,its,r,o,h1,h2,n,h3⟩:=(show QC P w H h a (.tup (ks.map kV)) from ok a _ e)
 exact ⟨o,its.toArray,n,h1,h2,h3,by simpa using rf r⟩
theorem El {kvs:List (List Key × V)} (ok:Um P w H h) (e:Rd H a (.dT kvs)):kvs.length<=sizeLine/\(a == sysModules)=false /\
  ∃ xs,KT H kvs xs/\h.DictOfH (tupleKind (ft P w)) a xs:=by
 obtain ⟨z,y,xs,r,o,es,ep,h1,h2,h3,h4,h5⟩:=(show QC P w H h a (.dT kvs) from EA ok e)
 refine ⟨z,y,xs,r,o,es,ep,h1,h2,h3,h4,λx hx=>?_,h5⟩
 have all:∀ {l:List (List Key × V)} {m:List (List Key × Addr × Value)},KT H l m->∀ x ∈ m,(tupleKind (ft P w)).is h x.1 x.2.1:=by
  intro l m q
  induction q with
  | nil=>intro x hx;exact nomatch hx
  | @cons p q ps qs hq t ih =>
   intro x hx;rcases Na.mp hx with e | hx
   ·subst e;exact Bg ok (by rw [<- hq.1];exact hq.2.1)
   ·exact ih x hx
 exact all r x hx
end
noncomputable def VS (H:Hp) (a:Addr) (y:V) (r:Option V):Prop :=
 (∃ kvs k,Rd H a (.dK kvs)/\y=kV k/\r=kU kvs k)\/∃ kvs k b,Rd H a (.dT kvs)/\y=.ref b/\H b=some (.tup (k.map kV))/\r=kU kvs k
variable {a:Addr}
theorem VS.k {kvs:List (Key × V)} {k:Key} (e:H a=some (.dK kvs)):VS H a (kV k) (kU kvs k):=.inl ⟨kvs,k,.inl e,rfl,rfl⟩
section
variable {X:Cx} {pins:List (Addr × Obj)} {σ:St} {H:Hp} {s:Shared} {a:Addr} {y v:V} {u r:Value} {o:Option V} {A:Around} {E:Value->Shared->Prop}
theorem Inv.big (I:Inv X pins σ H s):sysModules < s.heap.objs.size:=by have h:mainGlobals < s.heap.objs.size:=(I.mod.glob.keeps I.bk).lt;exact Qd (by decide) h
theorem y3 {Q:Value->Shared->Prop} (hu:A.units+1 < cLine) (I:Inv X pins σ H s) (g:VS H a y (some v)) (ry:RelV y u) (h:∀ w' s',Inv X pins σ H s'->RelV v w'->Q w' s') :
  wpAny (model X.prog X.w) A (getItem (.ref a) u) Q E s:=by
 rcases g with ⟨kvs,k,e,ey,l⟩ | ⟨kvs,k,b,e,ey,eb,l⟩
 ·subst ey;obtain ⟨z,hd,vs,rel,dd⟩:=AR I.hok e;obtain ⟨w',hw,rw'⟩:=Ul.some_of (v:=v) (o:=valueAt vs k) (by rw [l];exact rel.val k);exact wpAny_getItem_of (Bf ry) dd.mapOf hw (h w' _ (I.tok _) rw')
 ·subst ey;cases (show u=Value.ref b from ry);obtain ⟨z,hd,xs,rel,dd⟩:=El I.hok e;obtain ⟨w',hw,rw'⟩:=Ul.some_of (v:=v) (o:=(atKey xs k).map (·.2)) (by rw [l];exact rel.val k);obtain ⟨p,hp,hp2⟩:=Nm.mp hw;refine wpAny_getItem_heap (tupleKind_room_in1 hu) (Bg I.hok eb) dd hp ?_;rw [hp2];exact h w' _ (I.tok _) rw'
variable {h':Heap}
theorem CP {t':Nat} {ob:HO} (I:Inv X pins σ H s) (mu:Y5 (H a)) (hs:Heap.SameBut a s.heap h') (he:∃ q,h'.get? a=some q) (new:QC X.prog X.w (upd H a ob) h' a ob) :
  Inv X pins σ (upd H a ob) { s with heap:=h',toks:=t' } :=
 I.write (x:=a) (e:=a) mu (.inl rfl) (λb q hb z=>(hs.2 b hb).trans z) he new
theorem Fe {P:Program} {w:World} {H':Hp} {kvs:List (Key × V)} {vs:List (Key × Value)} (z:kvs.length<=sizeLine) (hd:(a == sysModules)=false) (rel:KV kvs vs) (dd:h'.DictOf (ft P w) a vs) :
  QC P w H' h' a (.dK kvs):=⟨z,hd,vs,rel,dd⟩
end
section
variable {X:Cx} {pins:List (Addr × Obj)} {σ:St} {H:Hp} {s:Shared} {a:Addr} {kvs:List (Key × V)} {k:Key} {u:Value} {A:Around} {E:Value->Shared->Prop}
end
noncomputable def Gu (i:Expr):Prop:=∀ ov iv,subscripted i false ov iv=operate [ov,iv] (getItem ov iv)
variable {s:Shared} {pos:Pos}
theorem Ea {prog:Program} {A:Around} {E:Value->Shared->Prop} {env:Env} {value slice:Expr} {T id:String} {Q:Value->Shared->Prop}
  (hl:typeLookup (.type T) "__getitem__"=pure (some (.builtin id))) (hs:Gu slice)
  (h:wpAny (model prog w) A (eval value env) (λo s₁=>wpAny (model prog w) A (eval slice env) (λi s₂=>s₂.TypeIs o T/\wpAny (model prog w) A (getItem o i) Q E s₂) E s₁) E s) :
  wpAny (model prog w) A (eval (.Subscript value slice pos) env) Q E s:=by
 refine Subscript_ (O2 h (λo s₁ h₁=>O2 h₁ (λi s₂ h₂=>?_) λ_ _ x=>x) λ_ _ x=>x);obtain ⟨hT,h₂⟩:=h₂;unfold subscriptTail;refine MV ?_;rw [getitemInPython_of_ne hT.not_modules];refine MV (wpAny_specialOf hT hl ?_)
 have fin:wpAny (model prog w) A (subscripted slice false o i) (λr s₃=>wpAny (model prog w) A (letTemporaryGo value o r >>= λ_=>pure r) Q E s₃) E s₂:=by rw [hs o i];exact wpAny_operating (O2 h₂ (λr s₃ h₃=>MV (wpAny_letTemporaryGo (Nc h₃))) λ_ _ x=>x)
 first
  | exact Nc (MV fin)
  | exact MV (Nc (MV fin))
  | exact MV fin
variable {X:Cx}
theorem uy {pins:List (Addr × Obj)} {σ:St} {y:V} {o:Option V} (I:Inv X pins σ H s) (g:VS H a y o):s.TypeIs (.ref a) "dict":=by
 rcases g with ⟨kvs,k,e,_,_⟩ | ⟨kvs,k,b,e,_,_,_⟩
 ·obtain ⟨_,_,vs,_,dd⟩:=AR I.hok e;exact dd.typeIs
 ·obtain ⟨_,_,xs,_,dd⟩:=El I.hok e;exact dd.typeIs
noncomputable def EJ (td ty:TE):TE:=λσ H Q=>td σ H λx H1=>ty σ H1 λy H2=>∃ a v,x=.ref a/\VS H2 a y (some v)/\Q v H2
section
variable {X:Cx} {o i e value:Expr} {pos pos' tpos:Pos} {td ty tv:TE}
theorem nV (hu:X.A.units+1 < cLine) (ho:PE X o td) (hi:PE X i ty) (hs:Gu i):PE X (.Subscript o i pos) (EJ td ty):=by intro pins s σ H Q I h;refine Ea F.slot_dict_getitem.lookup hs (Qt (ho pins s σ H _ I h) λu s1 ⟨x,H1,I1,rx,q1⟩=>Qt (hi pins s1 σ H1 _ I1 q1) λiv s2 ⟨y,H2,I2,ry,a,v,ex,g,q2⟩=>?_);subst ex;obtain rfl:u=Value.ref a:=rx;exact ⟨uy I2 g,y3 hu I2 g ry λw' s3 I3 rw'=>⟨v,H2,I3,rw',q2⟩⟩
end
theorem AQ (h:Heap) (hb:sysModules < h.objs.size):QC P w H (h.push { cls:=.type "dict",data:=.dict #[] }) h.objs.size (.dK []) :=
 ⟨NW _,OO.mpr (Nz (ND hb)),[],.nil,Heap.DictOf.new h⟩
section
variable {X:Cx} {pos:Pos}
end
noncomputable def xo:List (TE × TE)->St->Hp->(List (V × V)->Hp->Prop)->Prop
 | [],_,H,Q=>Q [] H
 | (tk,tv)::r,σ,H,Q=>tk σ H λx H1=>tv σ H1 λy H2=>xo r σ H2 λps H3=>Q ((x,y)::ps) H3
noncomputable abbrev VV:List (V × V)->List (Value × Value)->Prop:=Paired λp q=>RelV p.1 q.1/\RelV p.2 q.2
noncomputable def Z2 (X:Cx) (pos:Pos) (keys:List (Option Expr)) (values:List Expr) (XR:List (TE × TE)):Prop :=
 ∀ (pins:List (Addr × Obj)) (s:Shared) (σ:St) (H:Hp) (Q:List (V × V)->Hp->Prop),Inv X pins σ H s->xo XR σ H Q ->
  wpAny (model X.prog X.w) X.A (evalPairs (pairTrees keys values X.env pos)) (λvs s'=>∃ ps H',Inv X pins σ H' s'/\VV ps vs/\Q ps H') X.xe s
theorem DF:Z2 X pos [] [] []:=λpins s σ H Q I h=>pairTrees_nil_walk ⟨[],H,I,.nil,h⟩
variable {XR:List (TE × TE)}
theorem pH {k v:Expr} {ks:List (Option Expr)} {vs:List Expr} {tk tv:TE} (hk:PE X k tk) (hv:PE X v tv) (hr:Z2 X pos ks vs XR) :
  Z2 X pos (some k::ks) (v::vs) ((tk,tv)::XR):=λpins s σ H Q I h =>
 pairTrees_cons_walk (Qt (hk pins s σ H _ I h) λu s1 ⟨x,H1,I1,rx,q1⟩=>Qt (hv pins s1 σ H1 _ I1 q1) λw2 s2 ⟨y,H2,I2,ry,q2⟩ =>
  Qt (hr pins s2 σ H2 _ I2 q2) λws s3 ⟨ps,H3,I3,rel,q3⟩=>⟨(x,y)::ps,H3,I3,.cons ⟨rx,ry⟩ rel,q3⟩)
noncomputable def mC (kvs more:List (Key × V)):List (Key × V):=more.foldl (λacc kv=>ve acc kv.1 kv.2) kvs
theorem KV.merge:∀ {more:List (Key × V)} {rs:List (Key × Value)} {kvs:List (Key × V)} {vs:List (Key × Value)},KV more rs->KV kvs vs->KV (mC kvs more) (merged vs rs):=by
 intro more rs kvs vs r;unfold KV at r
 induction r generalizing kvs vs with
 | nil=>intro q;exact q
 | @cons p q ps qs h t ih =>
  intro r0
  have e:KV (ve kvs p.1 p.2) (stored vs q.1 q.2):=by have:=r0.put p.1 h.2;rw [<- h.1];exact this
  exact ih e
theorem kr:∀ (more kvs:List (Key × V)),(mC kvs more).length<=kvs.length+more.length
 | [],kvs=>by show kvs.length<=kvs.length+0;omega
 | p::r,kvs=>by have h1:=kr r (ve kvs p.1 p.2);have h2:=uK kvs p.1 p.2;show (mC (ve kvs p.1 p.2) r).length<=_;rw [Nd];omega
theorem oE {P:Program} {w:World}:∀ {kvs:List (Key × V)} {ws:List (Value × Value)},VV (kvs.map λkv=>(kV kv.1,kv.2)) ws->∃ rs,Carries (ft P w) ws rs/\KV kvs rs
 | [],_,r=>by rw [Qc] at r;cases r;exact ⟨[],True.intro,.nil⟩
 | p::kvs,_,r=>by
  rw [Nb] at r
  cases r with
  | @cons a b as bs h t =>obtain ⟨rs,c,q⟩:=oE (P:=P) (w:=w) t;obtain ⟨b1,b2⟩:=b;exact ⟨(p.1,b2)::rs,⟨Bf h.1,rfl,c⟩,.cons ⟨rfl,h.2⟩ q⟩
noncomputable def Hf (XR:List (TE × TE)):TE:=λσ H Q=>∀ p,H p=none->xo XR σ (upd H p (.dK [])) λps H2=>H2 p=some (.dK [])/\∃ kvs:List (Key × V),ps=kvs.map (λkv=>(kV kv.1,kv.2))/\kvs.length<=15/\Q (.ref p) (upd H2 p (.dK (mC [] kvs)))
theorem Dw {keys:List (Option Expr)} {values:List Expr} (h:Z2 X pos keys values XR) (hall:keys.all (·.isSome)=true) (hl:keys.length=values.length) (h0:keys≠[])
  (h15:keys.length<=15):PE X (.Dict keys values pos) (Hf XR):=by
 intro pins s σ H Q I q;have hn:=I.hok.fresh (M0 s.heap.objs.size);have I1:=I.laid (a:=s.heap.objs.size) (o:=.dK []) (h':=s.heap.push { cls:=.type "dict",data:=.dict #[] }) (t':=s.toks) (λ_ _ q=>MU _ q) (M0 _) (AQ s.heap I.big);refine wpAny_Dict_walk (knd:=ft X.prog X.w) hall hl h0 h15 (Qt (h pins _ σ _ _ I1 (q _ hn)) λws s2 ⟨ps,H2,I2,rel,e,kvs,ep,lk,q2⟩=>?_);subst ep;obtain ⟨rs,c,rk⟩:=oE (P:=X.prog) (w:=X.w) rel;obtain ⟨z,hd,vs0,r0,dd⟩:=GC I2.hok e;cases r0;refine ⟨rs,c,dd,λh' dd' hs=>⟨.ref s.heap.objs.size,_,?_,rfl,q2⟩⟩
 have hz:(mC [] kvs).length<=sizeLine:=by have h1:=kr kvs [];rw [List.length_nil] at h1;rw [OW];omega
 have he:∃ q,h'.get? s.heap.objs.size=some q:=let ⟨q,_,_,hq,_⟩:=dd';⟨q,hq⟩;exact CP I2 (by rw [e];exact True.intro) hs he (Fe hz hd (rk.merge .nil) dd')
structure M2 (X:Cx) (o:Expr) (m:Str) (apos:Pos) (e f:Expr) (cpos:Pos):Prop where
 base:attributeBase o m X.env (eval o X.env)=eval o X.env
 few:((backTo cpos (starEach [e,f] X.env)).all (λx=>!x.1) && (backToKw cpos (keywordEach [] X.env)).all (λx=>x.1.isSome)
  && decide (([e,f]:List Expr).length+([]:List Keyword).length+(if ([]:List Keyword).isEmpty then 0 else 1) < 30))=true
 line:(apos.endLine == cpos.line)=true
 trees:backTo cpos (starEach [e,f] X.env)=[(false,eval e X.env),(false,eval f X.env)]
section
variable {X:Cx} {pins:List (Addr × Obj)} {σ:St} {H:Hp} {s:Shared} {a:Addr} {y d:V} {u r:Value} {o:Option V} {A:Around} {E:Value->Shared->Prop}
end
section
variable {X:Cx} {o e f:Expr} {apos cpos:Pos} {td ty tx:TE}
end
section
variable {X:Cx} {pins:List (Addr × Obj)} {σ:St} {H:Hp} {s:Shared} {a:Addr} {kvs:List (Key × V)} {A:Around} {E:Value->Shared->Prop}
end
section
variable {X:Cx} {pins:List (Addr × Obj)} {σ:St} {H:Hp} {s:Shared} {a:Addr} {y:V} {u:Value} {A:Around} {E:Value->Shared->Prop}
end
end L2
namespace Att
open PySem PySem.W PySem.Calls PyProof.Rows
variable {P:Params} {h:Heap}
theorem nG:∀ (ns:List Int) (vs:List Value),WellAll P h vs (ns.map WData.int)->IntsAre vs ns:=by
 intro ns
 induction ns with
 | nil =>intro vs w;rw [Qc] at w;cases w;exact .nil
 | cons n ns ih =>
  intro vs w;rw [Nb] at w
  cases w with
  | cons a b =>cases a;exact .cons _ _ (ih _ b)
variable {l:OpenLaw} {n:Nat}
theorem zX (hn:l.most=some n) {args:List WData} {vals:List Value}
  (hpre:l.row.toRowW.claim.pre args=true) (hwl:WellAll P h vals args) :
  ∃ a vs ns,vals=[Value.ref a]/\args=[WData.list (ns.map WData.int)]/\h.get? a=some { cls:=.type "list",data:=.seq vs.toArray }/\IntsAre vs ns/\ns.length<=n:=by
 have hsh:WShape.hasAll [] args [.list .int]=true:=(pre_splitW hpre).1;have hc:l.pre.holds [] { args:=args }=true:=(pre_splitW hpre).2;obtain ⟨d,r,rfl,h1,h2⟩:=hasAllW_cons hsh;obtain rfl:=hasAllW_nil h2;obtain ⟨xs,rfl,h3⟩:=hasW_list h1;obtain ⟨ns,rfl⟩:=items_int h3
 have hlen:ns.length<=n:=by
  unfold OpenLaw.pre at hc
  have h4:(WTm.not (.lt (.lit (.int (n:Int))) (.len (.arg 0)))).holds [] { args:=[.list (ns.map .int)] }=true:=by have h4:=(holds_andW hc).1;rw [hn] at h4;exact h4
  have h5:=condW_of h4 (w_not (w_lt w_lit (w_len_list (w_arg rfl))));rw [tB] at h5;refine Nat.le_of_not_lt λq=>?_;have q':(n:Int) < ((ns.length:Nat):Int):=by omega
  first
   | (rw [M5 q'] at h5;exact absurd h5 (by decide))
   | (simp at h5;omega)
 cases hwl with
 | cons w1 w2 =>
  cases w2
  cases w1 with
  | list ho hall=>exact ⟨_,_,ns,rfl,rfl,ho,nG ns _ hall,hlen⟩
theorem zO (l:OpenLaw) (args:List WData):l.row.toRowW.claim.post args (.bool true) args=true :=
 postW_of (r:=l.row.toRowW) (X:=(true == true))
  (show WShape.has [] (.bool true) .bool=true by first | rfl | decide | simp [WShape.has,WShape.arms,WShape.armsAll])
  (show (WTm.eq .res (.lit (.bool true))).value [] { args:=args,res:=some (.bool true),after:=args }=some (.bool (true == true)) from w_eq_bool (w_res rfl) w_lit) rfl
theorem VT {q:Program} {loose:List Str} {XP:(Str->Option Value)->Heap->Prop} {YP:World->Heap->Prop} {d:DefRec}
  (hn:l.most=some n) (hdf:d.params.defaults=[])
  (call:∀ (w:World) (s₀ s₁:Shared) (mg mb:Str->Option Value) (fa:Addr) (o:Obj) (pm cd doc:Value) (a:Addr) (vs:List Value) (ns:List Int),
   Ground q loose [] XP w s₀ mg mb s₁.heap->YP w s₁.heap ->
   s₁.heap.get? fa=some o->o.data=.func (docDef d.name d.params d.body d.scope pm cd doc)->s₁.heap.CodeRec cd d.name->mg d.name=some (.ref fa) ->
   s₁.heap.get? a=some { cls:=.type "list",data:=.seq vs.toArray }->IntsAre vs ns->ns.length<=n->s₁.gens=#[] ->
   codeAny (model l.prog w) callerA (.call (.ref fa) ⟨[.ref a],[]⟩) (λr s'=>r=.ok (.ret (.bool true))/\OldK s₁.heap s'.heap/\s'.os=s₁.os/\AllBare s'.gens) s₁) :
  WalkO q loose XP YP l.row.toRowW d [] (λf vs=>PySem.call f vs):=by
 intro w s₀ s₁ mg mb G Y fa o pm cd doc dV kV ho hd hcd hD hmg hg args vals as hpre hlay hrd hwl hlo;obtain rfl:dV=.none:=Dflts.none hD hdf;obtain rfl:kV=.none:=Dflts.noKw hD;obtain ⟨a,vs,ns,rfl,rfl,hobj,hints,hlen⟩:=zX hn hpre hwl;refine enter_call (O0 (call w s₀ s₁ mg mb fa o pm cd doc a vs ns G Y ho (fd_plain hd) hcd hmg hobj hints hlen hg) λr s' hq=>?_);obtain ⟨rfl,h2,h3,h4⟩:=hq;exact ⟨.inl ⟨.bool true,.bool true,[],rfl,λ_=>rfl,.bool true,zO l _,λ_=>⟨List.Pairwise.nil,λ_ hm=>(nomatch hm)⟩⟩,h2,h3,h4⟩
section
variable {prog:Program} {w:World} {A:Around} {E:Value->Shared->Prop} {s:Shared} {K:Frag}
end
end Att
namespace L2
open PySem PySem.Spec PyProof.Rows
theorem rT:∀ {vs:List Value} {ns:List Int},IntsAre vs ns->Vals (ns.map V.int) vs
 | _,_,.nil=>.nil
 | _,_,.cons n t h=>.cons ⟨t,rfl⟩ (rT h)
noncomputable def CD (H:Hp):Prop:=∀ b,H b=none\/∃ o xs,H b=some (.WQ o (.lst xs))
variable {P:Program} {w:World} {K:W.Frag} {mg:Str->Option Value} {CX:WI} {a:Addr} {fd:FuncData} {x:Str} {sp:Sp} {ns:List Int}
theorem Bh {mb:Str->Option Value} {k:Nat} {fa:Addr} {s₁:Shared} {vs:List Value}
  (KX:K.In s₁.heap) (hns:s₁.heap.Ns mainGlobals mg) (hb:s₁.heap.Ns builtinsNs mb) (hbb:∀ x:Str,x≠"__name__"->mb x=bootBuiltins x) (hlim:s₁.heap.NoLimit) (hg:s₁.gens=#[])
  (ha:s₁.heap.get? a=some { cls:=.type "list",data:=.seq vs.toArray }) (hi:IntsAre vs ns) (hl:ns.length<=sizeLine) (hr:QM k callerA)
  (F:∀ base:Heap,K.In base->base.Ns mainGlobals mg->QE P w K mg base CX k fa fd [x] sp) (hbind:∀ (s:Shared) (u:Value),BindsTo s fd ⟨[u],[]⟩ [(x,u)])
  (Xj:∀ H:Hp,CD H->Qp K H a (ns.map V.int)->sp [.ref a] H (λv _=>v=.bl true) λ_ _ _=>False)
  (hCX:∀ H e s',CX [] H s₁ (λ_ _ _=>False) e s'->False) :
  codeAny (model P w) callerA (.call (.ref fa) ⟨[.ref a],[]⟩) (λr s'=>r=.ok (.ret (.bool true))/\OldK s₁.heap s'.heap/\s'.os=s₁.os/\AllBare s'.gens) s₁:=by
 have rv:=rT hi;have lenV:=hi.length
 have core:∀ H:Hp,CD H->Qp K H a (ns.map V.int)->Um P w H s₁.heap->(∀ b,H b≠none->b=a)->(H a≠none->K.lookup a=none) ->
   codeAny (model P w) callerA (.call (.ref fa) ⟨[.ref a],[]⟩) (λr s'=>r=.ok (.ret (.bool true))/\OldK s₁.heap s'.heap/\s'.os=s₁.os/\AllBare s'.gens) s₁:=by
  intro H hO hS hok hA hK;have Wo:∀ {b:Addr} {o:Obj},s₁.heap.get? b=some o->H b=none->(sD s₁.heap H).get? b=some o:=λe n=>Ba e n
  have Ze:∀ {b:Addr} {o:Obj} {es:Array DictEntry} {ep:Nat},s₁.heap.get? b=some o->o.data=.dict es ep->H b=none:=λ{b o es ep} e d=>by
   cases q:H b with
   | none=>rfl
   | some u =>have e':b=a:=hA b (by rw [q];simp);subst e';rw [ha] at e;cases e;have d':Data.seq vs.toArray _=Data.dict es ep:=d;cases d'
  have Z3:∀ {b:Addr} {m:Str->Option Value},s₁.heap.Ns b m->(sD s₁.heap H).Ns b m:=λ{b m} ⟨o,es,ep,e,d,r⟩=>⟨o,es,ep,Wo e (Ze e d),d,r⟩
  have hKb:K.In (sD s₁.heap H):=λb o e=>Wo (KX b o e) (by
   cases q:H b with
   | none=>rfl
   | some u =>have e':b=a:=hA b (by rw [q];simp);subst e';rw [hK (by rw [q];simp)] at e;cases e)
  have hM:Mod K mg (sD s₁.heap H):=⟨hKb,Z3 hns,⟨mb,Z3 hb,hbb⟩,let ⟨mc,h1,h2⟩:=hlim;⟨mc,Z3 h1,h2⟩⟩
  have e0:V6 P w K mg (sD s₁.heap H) callerA [] s₁ H:=⟨rfl,hM,λb o e=>Dp e,Pw (zl _ _),trivial,λb hb=>absurd (show b ∈ ([]:List Addr) from hb) (by simp),hok,.of_eq hg⟩
  refine O0 ((F _ hKb (Z3 hns)).run callerA [] s₁ H ⟨[.ref a],[]⟩ [.ref a] [.ref a] _ _ hr e0 (hbind s₁ (.ref a)) (.cons rfl .nil) (Xj H hO hS)) λr s' h=>?_
  cases r with
  | error e=>exact (hCX H e s' h).elim
  | ok fl =>
   cases fl with
   | next=>exact False.elim h
   | brk=>exact False.elim h
   | cont=>exact False.elim h
   | ret u =>
    obtain ⟨v,H',os,bare,un,Xz,r',q⟩:=h;have q':v=.bl true:=q;subst q';obtain rfl:u=Value.bool true:=r';refine ⟨rfl,OldK.of_keep λb o e=>?_,os,bare⟩
    cases q:H b with
    | none=>exact un.keep b o e q (by intro z;exact absurd (show b ∈ ([]:List Addr) from z) (by simp)) (by simp)
    | some u =>
     rcases hO b with z | ⟨ob,xs,z⟩
     ·rw [q] at z;cases z
     ·have z2:=un.VJ b ob _ z;obtain ⟨e1,_⟩:=hok b _ z;obtain ⟨e2,_⟩:=Xz b _ z2;rw [e] at e1;cases e1;exact e2
 cases hk:K.lookup a with
 | some o =>have e:=KX a o hk;rw [ha] at e;cases e;refine core (λ_=>none) (λ_=>.inl rfl) (.inr ⟨_,vs.toArray,_,hk,rfl,rfl,rfl,by rw [M9,lenV];exact hl,by simpa using rv⟩) (λb u z=>by have z':(none:Option HO)=some u:=z;cases z') (λb z=>absurd rfl z) λz=>absurd rfl z
 | none =>
  refine core (λb=>if b=a then some (.WQ { cls:=.type "list",data:=.seq vs.toArray } (.lst (ns.map V.int))) else none) (λb=>?_) (.inl (.inr ⟨{ cls:=.type "list",data:=.seq vs.toArray },MW rfl⟩)) (λb u z=>?_) (λb z=>?_) λ_=>hk
  ·by_cases hb:b=a
   ·exact .inr ⟨_,_,MW hb⟩
   ·exact .inl (MR hb)
  ·by_cases hb:b=a
   ·have z':=(MW hb).symm.trans z;cases z';subst hb;exact ⟨ha,by rw [tB];exact hl,vs,_,rv,ha⟩
   ·have z':=(MR hb).symm.trans z;cases z'
  ·by_cases hb:b=a
   ·exact hb
   ·exact absurd (MR hb) z
variable {n:Nat}
theorem XA {l:W.OpenLaw} {k:Nat} {q:Program} {loose:List Str} {XP:(Str->Option Value)->Heap->Prop} {YP:World->Heap->Prop} {d:DefRec} {K:Params->W.Frag} {CX:World->WI} {sp:World->Sp}
  (hn:l.most=some n) (hn2:n<=sizeLine) (hdf:d.params.defaults=[]) (hr:QM k callerA)
  (hY:∀ (w:World) (h:Heap),YP w h->(K w.params).In h)
  (F:∀ (w:World) (mg:Str->Option Value) (fa:Addr) (h:Heap),(K w.params).In h->h.Ns mainGlobals mg->mg d.name=some (.ref fa) ->
   ∃ fd:FuncData,(∀ (s:Shared) (u:Value),BindsTo s fd ⟨[u],[]⟩ [(x,u)]) /\
    ∀ base:Heap,(K w.params).In base->base.Ns mainGlobals mg->QE l.prog w (K w.params) mg base (CX w) k fa fd [x] (sp w))
  (Xj:∀ (w:World) (H:Hp) (a:Addr) (ns:List Int),ns.length<=n->CD H->Qp (K w.params) H a (ns.map V.int)->sp w [.ref a] H (λv _=>v=.bl true) λ_ _ _=>False)
  (hCX:∀ (w:World) (H:Hp) (s:Shared) (e:Value) (s':Shared),CX w [] H s (λ_ _ _=>False) e s'->False) :
  W.WalkO q loose XP YP l.row.toRowW d [] (λf vs=>PySem.call f vs):=by
 refine Att.VT hn hdf λw s₀ s₁ mg mb fa o pm cd doc a vs ns G Y ho hd hcd hmg hobj hints hlen hg=>?_;have KX:=hY w _ Y;obtain ⟨fd,hb,hF⟩:=F w mg fa _ KX G.T.g hmg;exact Bh KX G.T.g G.T.b G.T.builtins G.T.nolimit hg hobj hints (Nv hlen hn2) hr hF hb (λH hO hS=>Xj w H a ns hlen hO hS) λH e s'=>hCX w H s₁ e s'
noncomputable def cW (s:Stmt):Arguments:=match s with
 | .FunctionDef _ a _ _ _ _ _ _ _ _=>a
 | _=>{ posonlyargs:=[],args:=[],vararg:=none,kwonlyargs:=[],kw_defaults:=[],kwarg:=none,defaults:=[] }
noncomputable def cM (s:Stmt):List Stmt:=match s with
 | .FunctionDef _ _ b _ _ _ _ _ _ _=>b
 | _=>[]
noncomputable def aJ (s:Stmt):Scope:=match s with
 | .FunctionDef _ _ _ _ _ _ sc _ _ _=>sc
 | _=>{ kind:=.function,names:=[],isGenerator:=false,isCoroutine:=false }
noncomputable abbrev Ur:WI:=λ_ _ _ _ _ _=>False
noncomputable abbrev E0:XK:=λ_ _ _=>False
variable {X:Cx}
theorem gn:i6 Ur X E0:=λ_ _ _ _ _ _ _ h=>h.elim
structure Wq (K:W.Frag) (x qual:Str) (st:Stmt) (f:Addr) (fd:FuncData):Prop where
 ex:∃ (oc:Value) (od:Option Addr) (kV doc pm:Value) (an:Option Addr) (cdv ct:Value) (osl:Array (Option Value)),
  fd=W.fnOf x qual (cW st) (cM st) (aJ st) .none kV doc pm an cdv ct/\K.lookup f=some ⟨oc,od,.func fd,osl⟩/\W.codeIn K cdv qual=true
 kp:W.keepIn K (.ref f)=true
section
variable {P:Program} {w:World} {K:W.Frag} {mg:Str->Option Value} {base:Heap}
variable {x qual:Str} {st:Stmt} {f:Addr} {fd:FuncData} {ps:List Str}
theorem Wq.ok {N:List Str} {k:Nat} {sp:Sp} (F:Wq K x qual st f fd) (S:Qi N ps (aJ st)) (len:∀ vs H Q E,sp vs H Q E->vs.length=ps.length)
  (hbody:∀ (cdv:Value) (A:Around) (outer:List Env) (s:Shared) (H:Hp) (vs:List V) (Q:VK) (E:XK),QM k (A.deeper (envOfC qual (aJ st) s.heap.objs.size f cdv))->sp vs H Q E ->
   ∃ t,V4 (vX Ur P w K mg base N qual (aJ st) f cdv A outer s H E).YI (cM st) t/\t { nx:=λ_ H'=>Q .Qj H',rt:=Q } (start N vs) H):QE P w K mg base Ur (k+1) f fd ps sp:=by
 obtain ⟨oc,od,kV,doc,pm,an,cdv,ct,osl,rfl,lk,hcd⟩:=F.ex;refine Em lk hcd S len λA outer s H vs Q E hr Xj=>?_;obtain ⟨t,h,q⟩:=hbody cdv A outer s H vs Q E hr Xj;exact ⟨t,h.YI,q⟩
theorem Wq.binds (F:Wq K x qual st f fd)
  (h:∀ (kV doc pm:Value) (an:Option Addr) (cdv ct:Value) (us:List Value),us.length=ps.length->bindArgs (W.fnOf x qual (cW st) (cM st) (aJ st) .none kV doc pm an cdv ct) ⟨us,[]⟩=pure (ps.zip us)):Binds K fd ps []:=by
 obtain ⟨oc,od,kV,doc,pm,an,cdv,ct,osl,rfl,lk,hcd⟩:=F.ex;exact .all (h kV doc pm an cdv ct)
theorem je {oc:Value} {od an:Option Addr} {osl:Array (Option Value)} {kV doc pm cdv ct:Value} (l:K.lookup f=some ⟨oc,od,.func (W.fnOf x qual (cW st) (cM st) (aJ st) .none kV doc pm an cdv ct),osl⟩)
  (c:W.codeIn K cdv qual=true) (k:W.keepIn K (.ref f)=true):Wq K x qual st f (W.fnOf x qual (cW st) (cM st) (aJ st) .none kV doc pm an cdv ct):=⟨⟨oc,od,kV,doc,pm,an,cdv,ct,osl,rfl,l,c⟩,k⟩
end
variable {A:Around}
theorem yb {k:Nat} (hr:QM k A):A.units+1 < cLine:=P1 (Nat.add_le_add_left (by decide:1<=64) _) hr.units
theorem dH (h:n<=1000):n < sizeLine:=P1 h (by decide)
section
variable {X:Cx}
theorem pv (i:Nat) {x:Str} {pos:Pos} (hN:X.N[i]?=some x:=by rfl) (hv:Y7 X.env.scope x:=by first | exact Or.inl rfl | exact Or.inr (Or.inl rfl) | exact Or.inr (Or.inr rfl)) (hd:(x == ("__debug__":Str))=false:=by decide)
  (hcd:(x == ("__classdict__":Str))=false:=by decide):PE X (.Name x pos) (fB i):=FM hN hv hd hcd
end
theorem mw {A B:Prop} (h:B):if false=true then A else B:=by rw [MR MY];exact h
theorem mx {A B:Prop} (h:A):if true=true then A else B:=by rw [MW rfl];exact h
theorem Bc {c A B:Prop} [Decidable c] (h1:c->A) (h2:¬ c->B):if c then A else B:=by
 by_cases h:c
 ·rw [MW h];exact h1 h
 ·rw [MR h];exact h2 h
noncomputable def Qh (H H':Hp):Prop:=∀ b o,H b=some o->H' b=some o
theorem Qh.refl (H:Hp):Qh H H:=λ_ _ h=>h
variable {H H1:Hp}
theorem Qh.trans {H2:Hp} (a:Qh H H1) (b:Qh H1 H2):Qh H H2:=λc o h=>b c o (a c o h)
variable {H':Hp} {l:Addr}
theorem Qh.free (e:Qh H H') (h:H' l=Option.none):H l=Option.none:=by
 cases q:H l with
 | none=>rfl
 | some o =>rw [e l o q] at h;cases h
variable {xs:List V}
theorem Qh.seq (e:Qh H H') (h:Qp K H a xs):Qp K H' a xs:=by
 rcases h with (h | ⟨o,h⟩) | h
 ·exact .inl (.inl (e _ _ h))
 ·exact .inl (.inr ⟨o,e _ _ h⟩)
 ·exact .inr h
section
variable {κ:Type} [DecidableEq κ]
end
noncomputable def rk (env:Env) (x:Str) (k:NameKind):NameKind :=
 if (k == NameKind.free && env.scope.kind == .function && env.kindOf x == some .cell)=true then .cell else k
theorem tP (sc:Scope) (env:Env) (x:Str):(relabel sc env).names.lookup x=(sc.names.lookup x).map (rk env x):=by
 have all:∀ l:List (Str × NameKind),(l.map λ(n,k)=>if (k == NameKind.free && env.scope.kind == .function && env.kindOf n == some .cell) then (n,NameKind.cell) else (n,k)).lookup x=(l.lookup x).map (rk env x):=by
  intro l
  induction l with
  | nil=>rfl
  | cons p r ih =>
   obtain ⟨n,k⟩:=p;rw [Nb]
   cases hx:x == n with
   | true =>
    have e:x=n:=by simpa using hx
    subst e;by_cases c:(k == NameKind.free && env.scope.kind == .function && env.kindOf x == some .cell)=true
    ·simp [Ol,rk,c]
    ·simp [Ol,rk,c]
   | false =>
    have e1:((n,k)::r).lookup x=r.lookup x:=by rw [Ol,hx]
    rw [e1,<- ih];by_cases c:(k == NameKind.free && env.scope.kind == .function && env.kindOf n == some .cell)=true
    ·show List.lookup x ((if (k == NameKind.free && env.scope.kind == .function && env.kindOf n == some .cell)=true then (n,NameKind.cell) else (n,k))::_)=_;rw [MW c,Ol,hx]
    ·show List.lookup x ((if (k == NameKind.free && env.scope.kind == .function && env.kindOf n == some .cell)=true then (n,NameKind.cell) else (n,k))::_)=_;rw [MR c,Ol,hx]
 exact all sc.names
variable {env:Env}
theorem DY:rk env x .free=.cell\/rk env x .free=.free:=by
 unfold rk;split
 ·exact .inl rfl
 ·exact .inr rfl
theorem F9 {k:NameKind} (h:k≠.free):rk env x k=k:=by
 unfold rk;rw [MR];intro c
 have:(k == NameKind.free)=true:=by
  cases q:(k == NameKind.free) with
  | true=>rfl
  | false=>rw [q] at c;simp at c
 exact h (by simpa using this)
noncomputable def GO:Option NameKind->Bool
 | some .free=>true
 | _=>false
noncomputable def GN:Option NameKind->Bool
 | some .free=>true
 | some .cell=>true
 | _=>false
noncomputable def GP:Option NameKind->Bool
 | some .local=>true
 | _=>false
variable {o:Option NameKind}
theorem Dd (h:GO o=true):o=some .free:=by
 cases o with
 | none=>cases h
 | some k=>cases k <;> first | rfl | cases h
theorem Dc (h:GN o=true):o=some .cell\/o=some .free:=by
 cases o with
 | none=>cases h
 | some k=>cases k <;> first | exact .inl rfl | exact .inr rfl | cases h
theorem De (h:GP o=true):o=some .local:=by
 cases o with
 | none=>cases h
 | some k=>cases k <;> first | rfl | cases h
noncomputable def dW (N:List Str) (ok:Str->Option NameKind) (names:List (Str × NameKind)) (own:List Str) (fr:List Nat) (N':List Str):Bool :=
 decide (N'=own++fr.map λj=>N.getD j "") && (fr.all λj=>decide (j < N.length) && GO (names.lookup (N.getD j ""))) &&
  names.all λp=>match p.2 with
   | .free=>GN (ok p.1)
   | .cell=>false
   | .local=>GP (names.lookup p.1)
   | _=>true
structure Blk (N:List Str) (ok:Str->Option NameKind) (names:List (Str × NameKind)) (own:List Str) (fr:List Nat) (N':List Str):Prop where
 eN:N'=own++fr.map λj=>N.getD j ""
 fr:∀ j ∈ fr,j < N.length/\names.lookup (N.getD j "")=some .free
 free:∀ p ∈ names,p.2=.free->ok p.1=some .cell\/ok p.1=some .free
 cell:∀ p ∈ names,p.2≠.cell
 loc:∀ p ∈ names,p.2=.local->names.lookup p.1=some .local
theorem AB {N:List Str} {ok:Str->Option NameKind} {names:List (Str × NameKind)} {own:List Str} {fr:List Nat} {N':List Str} (h:dW N ok names own fr N'=true):Blk N ok names own fr N':=by
 unfold dW at h;rw [M4,M4] at h;obtain ⟨⟨h1,h2⟩,h3⟩:=h;have h3':=N6.mp h3;refine ⟨M1 h1,λj hj=>?_,λp hp e=>?_,λp hp e=>?_,λp hp e=>?_⟩
 ·have q:=N6.mp h2 j hj;rw [M4] at q;exact ⟨M1 q.1,Dd q.2⟩
 ·have q:=h3' p hp;rw [e] at q;exact Dc q
 ·have q:=h3' p hp;rw [e] at q;cases q
 ·have q:=h3' p hp;rw [e] at q;exact De q
noncomputable def XC (own:List Str) (fr:List Nat) (σ:St):St:=own.map (λ_=>none)++fr.map λj=>(σ[j]?).getD none
theorem GB (sc:Scope) (env:Env) (h:∀ p ∈ sc.names,p.2=.free->∃ c,env.cells.lookup p.1=some c) :
  ∃ cl,closureFor sc env=pure cl/\(∀ x c,cl.lookup x=some c->env.cells.lookup x=some c)/\∀ p ∈ sc.names,p.2=.free->cl.lookup p.1=env.cells.lookup p.1:=by
 unfold closureFor
 have all:∀ (l:List (Str × NameKind)) (acc:List (Str × Addr)),(∀ p ∈ l,p.2=.free->∃ c,env.cells.lookup p.1=some c)->(∀ x c,acc.lookup x=some c->env.cells.lookup x=some c) ->
   ∃ cl,(forIn l acc λ(p:Str × NameKind) (r:List (Str × Addr))=>(match p with
    | (name,kind)=>if (kind == NameKind.free)=true then (do let a <- cellOf env name;pure (ForInStep.yield ((name,a)::r))) else pure (ForInStep.yield r):Sem (ForInStep (List (Str × Addr)))))=pure cl /\
    (∀ x c,cl.lookup x=some c->env.cells.lookup x=some c)/\(∀ p ∈ l,p.2=.free->cl.lookup p.1=env.cells.lookup p.1)/\∀ x,acc.lookup x=env.cells.lookup x->cl.lookup x=env.cells.lookup x:=by
  intro l
  induction l with
  | nil=>intro acc _ ha;exact ⟨acc,rfl,ha,λp hp=>(by simp at hp),λx e=>e⟩
  | cons p r ih =>
   intro acc hl ha;obtain ⟨n,k⟩:=p;rw [Pz];by_cases hk:k=.free
   ·subst hk;obtain ⟨c,hc⟩:=hl (n,.free) NB rfl;have hce:cellOf env n=pure c:=by unfold cellOf;rw [hc]
    obtain ⟨cl,e1,e2,e3,e4⟩:=ih ((n,c)::acc) (λp hp=>hl p (Nj _ hp)) (λx c' e=>by
     rw [Ol] at e
     cases hx:x == n with
     | true =>
      rw [hx] at e;have:x=n:=by simpa using hx
      subst this;cases e;exact hc
     | false=>rw [hx] at e;exact ha x c' e)
    refine ⟨cl,?_,e2,λp hp e=>?_,λx e=>e4 x ?_⟩
    ·simp only [beq_self_eq_true,O6,hce];exact e1
    ·rcases Na.mp hp with rfl | hp
     ·exact e4 n (by rw [Ol];simp [hc])
     ·exact e3 p hp e
    ·rw [Ol]
     cases hx:x == n with
     | true =>
      have:x=n:=by simpa using hx
      subst this;simp [hc]
     | false=>exact e
   ·have hb:(k == NameKind.free)=false:=by simpa using hk
    obtain ⟨cl,e1,e2,e3,e4⟩:=ih acc (λp hp=>hl p (Nj _ hp)) ha;refine ⟨cl,?_,e2,λp hp e=>?_,e4⟩
    ·simp only [hb,P4,Qa];exact e1
    ·rcases Na.mp hp with rfl | hp
     ·exact absurd e hk
     ·exact e3 p hp e
 obtain ⟨cl,e1,e2,e3,_⟩:=all sc.names [] h (λx c e=>by simp at e);refine ⟨cl,?_,e2,e3⟩;have WJ:=Nq (λt:Sem (List (Str × Addr))=>t >>= λcs=>pure cs) e1
 first
  | exact WJ
  | (simp only [pure_bind] at WJ;exact WJ)
  | (refine Eq.trans ?_ WJ;rfl)
  | (dsimp only at WJ ⊢;exact WJ)
noncomputable def Cx.VD (X:Cx) (sc:Scope) (cl:List (Str × Addr)) (C:Addr) (N:List Str) (s:Shared) (H:Hp) (fp:List Addr):Cx where
 prog:=X.prog
 w:=X.w
 K:=X.K
 mg:=X.mg
 base:=X.base
 A:=X.A
 N:=N
 s₀:=s
 H₀:=H
 env:=compEnvC sc cl C X.env
 outer:=X.stack
 stack:=X.stack
 ex:=fp
 fn:=λ_=>false
 calm:=X.calm
 pn:=[]
 xe:=λ_ _=>False
section
variable {X:Cx} {pins:List (Addr × Obj)} {σ:St} {H:Hp} {s:Shared} {sc:Scope} {cl:List (Str × Addr)} {own:List Str} {fr:List Nat} {N':List Str} {fp:List Addr}
variable {C:Addr}
theorem yS (I:Inv X pins σ H s) (B:Blk X.N X.env.kindOf sc.names own fr N') (hk:sc.kind=.function)
  (sub:∀ x c,cl.lookup x=some c->X.env.cells.lookup x=some c) (has:∀ p ∈ sc.names,p.2=.free->cl.lookup p.1=X.env.cells.lookup p.1)
  (f2:∀ b ∈ fp,ql X pins H b) (fo:∀ b ∈ fp,b < s.heap.objs.size) {h1:Heap} {tk:Nat} {D:Addr} {n:Nat} (eD:D=s.heap.objs.size) (eC:s.heap.objs.size < C)
  (hns:h1.Ns C (λ_=>none)) (old:∀ b o,s.heap.get? b=some o->h1.get? b=some o) (hD:h1.get? D=some { cls:=.type "list",data:=.seq ([]:List Value).toArray n }) :
  Inv (X.VD sc cl C N' s H fp) [] (XC own fr σ) (upd H D (.lst [])) { s with heap:=h1,toks:=tk }:=by
 have Yl:∀ x c,cl.lookup x=some c->c < s.heap.objs.size:=λx c e=>by obtain ⟨v,q⟩:=I.cell x c (sub x c e);exact q.lt
 have hDn:H D=none:=I.hok.fresh (Pw eD.symm);have kind:∀ x,(X.VD sc cl C N' s H fp).env.kindOf x=(sc.names.lookup x).map (rk X.env x):=λx=>tP sc X.env x
 refine ⟨⟨I.ok.mod,hk,I.ok.glob,I.ok.blt,Og eC,λx y c e1 e2=>I.ok.inj x y c (sub x c e1) (sub y c e2),λx hx=>?_,(λx c e=>nomatch (show false=true from e)),I.ok.hd,I.ok.frames,.inl rfl,λb hb=>⟨?_,λx c e=>?_⟩,I.bs,Nv I.ok.Xs I.sz,λb o e hb=>?_,λb hb=>?_,I.stack,I.Wi⟩,
  rfl,I.bare,Un.laid old (Pw eD.symm) hDn,⟨_,hns,λi x v e1 e2 e3=>?_⟩,λx c e=>?_,?_,λx c e=>?_,λp hp=>?_,I.hok.laid old (Pw eD.symm) ⟨NW _,[],n,.nil,hD⟩,?_⟩
 ·have hx':(sc.names.lookup x).map (rk X.env x)=some .cell\/(sc.names.lookup x).map (rk X.env x)=some .free:=by
   rw [<- kind x];exact hx
  cases q:sc.names.lookup x with
  | none=>rw [q] at hx';simp at hx'
  | some k =>
   have hm:=Of q;by_cases hf:k=.free
   ·subst hf;show ∃ c,cl.lookup x=some c;rw [has _ hm rfl];have z:=B.free _ hm rfl;exact I.ok.has x z
   ·rw [q] at hx';simp only [OV,F9 hf] at hx';rcases hx' with z | z
    ·exact absurd (NK z) (B.cell _ hm)
    ·exact absurd (NK z) hf
 ·exact ND (Qd (fo b hb) eC)
 ·exact (f2 b hb).2.2.2.2.1 x c (sub x c e)
 ·rcases (f2 b hb).2.2.2.1 with z | z
  ·exact I.ok.WR b o e z
  ·exact absurd (Nk (Ni e) (Nv I.ok.Xs z)) (Oh _)
 ·intro z;rcases Na.mp (I.VL b z) with e | e
  ·exact (f2 b hb).2.1 e
  ·exact (f2 b hb).2.2.1 e
 ·
  have WJ:N'[i]?=some x:=e1
  have hi:¬ i < own.length:=λz=>by unfold XC at e2;rw [Oq (by simpa using z),MZ,MT z] at e2;cases e2
  unfold XC at e2;rw [NQ (by simpa using hi),tB,MZ] at e2;rw [B.eN,NQ (by simpa using hi),MZ] at WJ
  cases q:fr[i - own.length]? with
  | none=>rw [q] at e2;cases e2
  | some j =>
   rw [q] at e2 WJ;simp only [OV,Option.some.injEq] at e2 WJ;obtain ⟨hj,hfr⟩:=B.fr j (Nn q)
   have ej:X.N[j]?=some x:=by rw [<- WJ,Nt,MT hj];rfl
   have eσ:σ[j]?=some (some v):=by
    cases z:σ[j]? with
    | none=>rw [z] at e2;cases e2
    | some o=>rw [z] at e2;simp only [Option.getD_some] at e2;rw [e2]
   rw [WJ] at hfr;have hm:=Of hfr;have hok:=B.free _ hm rfl;obtain ⟨m0,hn0,Vx⟩:=I.loc
   have hv:Y7 X.env.scope x:=by
    rcases hok with z | z
    ·exact .inr (.inl z)
    ·exact .inr (.inr z)
   obtain ⟨u,r,l⟩:=Vx j x v ej eσ hv;refine ⟨u,r,?_⟩;rcases l with ⟨z,_⟩ | ⟨_,c,hc,o,ho,hd⟩
   ·have Xz:X.env.kindOf x=some .cell\/X.env.kindOf x=some .free:=hok;rw [z] at Xz;rcases Xz with y | y <;> cases y
   ·refine .inr ⟨?_,c,?_,o,old c o ho,hd⟩
    ·rw [kind x,hfr];rcases DY (env:=X.env) (x:=x) with y | y
     ·exact .inl (by rw [OV,y])
     ·exact .inr (by rw [OV,y])
    ·show cl.lookup x=some c;have z:=has _ hm rfl;exact z.trans hc
 ·obtain ⟨v,o,ho,hd⟩:=I.cell x c (sub x c e);exact ⟨v,o,old c o ho,hd⟩
 ·show upd H D _ C=none;rw [aR (by rw [eD];exact Ox eC)];exact I.hok.fresh (Og eC)
 ·show upd H D _ c=none;rw [aR (by rw [eD];exact ND (Yl x c e))];exact I.TX x c (sub x c e)
 ·exact absurd (show p ∈ ([]:List (Addr × Obj)) from hp) (by simp)
 ·show (XC own fr σ).length=N'.length;rw [B.eN];simp [XC]
theorem xG {σ':St} {H':Hp} {s':Shared} (I:Inv X pins σ H s) (f2:∀ b ∈ fp,ql X pins H b) (J:Inv (X.VD sc cl C N' s H fp) [] σ' H' s'):Inv X pins σ H' s' :=
 I.Za (ch:=fp) J.os J.base J.hok J.bare λb hb=>⟨(f2 b hb).2.2.2.1,(f2 b hb).2.1,(f2 b hb).2.2.2.2.1,(f2 b hb).2.2.2.2.2⟩
theorem Inv.young {s0:Shared} {H0:Hp} {σ0:St} {h':Heap} (I0:Inv X pins σ0 H0 s0) (I:Inv X pins σ H s) (hC:s0.heap.objs.size<=C) (hn:H C=none) (hs:Heap.SameBut C s.heap h'):Inv X pins σ H { s with heap:=h' } :=
 I.turned (t':=s.toks) (λb o hb e=>(hs.2 b hb).trans e) hn (Ox (Nk I0.lt hC)) (.inr (Nv I0.sz hC))
  (λx c e z=>by
   obtain ⟨v,q⟩:=I0.cell x c e;exact absurd (Nk q.lt (by rw [z];exact hC)) (Oh _))
  (λp hp z=>absurd (Nk (Ni (I0.pin p hp).1) (by rw [z];exact hC)) (Oh _))
end
noncomputable def Aj (X:Cx) (ifs:List Expr) (t:TT):Prop :=
 ∀ (pins:List (Addr × Obj)) (s:Shared) (σ:St) (H:Hp) (Q:Bool->Hp->Prop),Inv X pins σ H s->t σ H Q ->
  wpAny (model X.prog X.w) X.A (forIn ifs true λc r=>if r=true then do let ok <- isTrue c X.env (eval c X.env);pure (ForInStep.yield ok) else pure (ForInStep.yield r)) (TP X pins σ Q) X.xe s
noncomputable def hU:TT:=λ_ H Q=>Q true H
theorem cQ:Aj X [] hU:=λpins s σ H Q I h=>wpAny_tests_nil ⟨H,I,h⟩
theorem BN {c:Expr} {t:TT} (h:PT X c t):Aj X [c] t:=λpins s σ H Q I hw=>wpAny_tests_one (h pins s σ H Q I hw)
section
variable {prog:Program} {w:World} {A:Around} {R:Result->Shared->Prop} {s:Shared}
theorem sf {elt target iter:Expr} {ifs:List Expr} {scope:Scope} {pos:Pos} {it acc:Value} {env:Env} (J:Nat->Shared->Prop)
  (turn:∀ n s,J n s->wpAny (model prog w) A (pyNext it) (λr s₁=>match r with
   | none=>R (.ok .next) s₁
   | some v=>wpAny (model prog w) A (letOwnedTupleGo target it v) (λ_ s₂=>wpAny (model prog w) A (assign target env v) (λ_ s₃ =>
     wpAny (model prog w) A (forIn ifs true λc r=>if r=true then do let ok <- isTrue c env (eval c env);pure (ForInStep.yield ok) else pure (ForInStep.yield r)) (λok s₄ =>
      if ok=true then wpAny (model prog w) A (eval elt env) (λx s₅=>wpAny (model prog w) A (call (.builtin "list.append") [acc,x]) (λ_ s₆=>∃ m,m < n/\J m s₆) (λ_ _=>False) s₅) (λ_ _=>False) s₄
      else ∃ m,m < n/\J m s₄) (λ_ _=>False) s₃) (λ_ _=>False) s₂) (λ_ _=>False) s₁) (λ_ _=>False) s)
  (n:Nat) (h:J n s):codeAny (model prog w) A (.compLoop (.ListComp elt [⟨target,iter,ifs,0⟩] scope pos) 0 it acc env) R s:=by
 refine codeAny_loop rfl J (λn s hJ=>?_) n h;show wpAny (model prog w) A ((compTurn (.ListComp elt [⟨target,iter,ifs,0⟩] scope pos) 0 it acc env).onRaise λx=>do noteFrame x env;theTreesLotGoes x) _ _ s;refine wpAny_noted (wpAny_noRaise ?_);rw [compTurn_list];refine MV (O4 (MV (Qt (turn n s hJ) λr s₁ h₁=>?_)))
 cases r with
 | none=>exact Nc h₁
 | some v =>
  refine MV (Qt h₁ λ_ s₂ h₂=>MV (Qt h₂ λ_ s₃ h₃=>MV (Qt h₃ λok s₄ h₄=>?_)))
  cases ok with
  | false=>exact Nc ⟨rfl,h₄⟩
  | true=>exact MV (MV (Qt h₄ λx s₅ h₅=>MV (Qt h₅ λ_ s₆ h₆=>Nc (Nc ⟨rfl,h₆⟩))))
end
noncomputable def iM (wi:TI) (mk:St->St) (g:TG) (tt:TT) (te:TE):TE:=λσ H Q=>wi σ H λJ H1=>∀ D,H1 D=none->∃ W:Nat->Nat->St->Hp->Prop,(∃ m,W 0 m (mk σ) (upd H1 D (.lst [])))/\∀ i m σ' H',W i m σ' H' ->
 (J.stop i H'/\Q (.ref D) H') \/
 (J.go i H'/\∃ Nx:St->Hp->Prop,(∀ σ'' Q0,Nx σ'' Q0->∃ m',m' < m/\W (i+1) m' σ'' Q0)/\∀ x Q0,J.VC i H' x Q0->g x σ' Q0 λσ2 H2=>tt σ2 H2 λb H3 =>
  if b=true then te σ2 H3 λv H4=>∃ ys,H4 D=some (.lst ys)/\ys.length < sizeLine/\Nx σ2 (upd H4 D (.lst (ys++[v]))) else Nx σ2 H3)
section
variable {X:Cx} {elt iter tg:Expr} {ifs:List Expr} {sc:Scope} {pos:Pos} {wi:TI} {own:List Str} {fr:List Nat} {N':List Str} {g:TG} {tt:TT} {te:TE}
theorem uw {pins:List (Addr × Obj)} {σ:St} {H:Hp} {s:Shared} {cl:List (Str × Addr)} {fp:List Addr} {it:Addr} {J:It} {tn:Nat->Heap->Prop} {E:Value->Shared->Prop} {Q:VK} {RR:Value->Addr->Result->Shared->Prop}
  (I:Inv X pins σ H s) (B:Blk X.N X.env.kindOf sc.names own fr N') (hk:sc.kind=.function) (hc:X.calm=true)
  (sub:∀ x c,cl.lookup x=some c->X.env.cells.lookup x=some c) (has:∀ p ∈ sc.names,p.2=.free->cl.lookup p.1=X.env.cells.lookup p.1)
  (T:oo X.prog X.w X.K tg J fp it tn) (st:tn 0 s.heap) (f2:∀ b ∈ fp,ql X pins H b)
  (hg:∀ cl C s H fp,PG (X.VD sc cl C N' s H fp) tg g) (ht:∀ cl C s H fp,Aj (X.VD sc cl C N' s H fp) ifs tt) (he:∀ cl C s H fp,PE (X.VD sc cl C N' s H fp) elt te)
  (hw:∀ D,H D=none->∃ W:Nat->Nat->St->Hp->Prop,(∃ m,W 0 m (XC own fr σ) (upd H D (.lst [])))/\∀ i m σ' H',W i m σ' H' ->
   (J.stop i H'/\Q (.ref D) H') \/
   (J.go i H'/\∃ Nx:St->Hp->Prop,(∀ σ'' Q0,Nx σ'' Q0->∃ m',m' < m/\W (i+1) m' σ'' Q0)/\∀ x Q0,J.VC i H' x Q0->g x σ' Q0 λσ2 H2=>tt σ2 H2 λb H3 =>
    if b=true then te σ2 H3 λv H4=>∃ ys,H4 D=some (.lst ys)/\ys.length < sizeLine/\Nx σ2 (upd H4 D (.lst (ys++[v]))) else Nx σ2 H3))
  (hRR:∀ D C σ' H' s',D=s.heap.objs.size->s.heap.objs.size<=C->Inv (X.VD sc cl C N' s H fp) [] σ' H' s'->Q (.ref D) H'->RR (.ref D) C (.ok .next) s') :
  wpAny (model X.prog X.w) X.A (newList []) (λacc s₃=>wpAny (model X.prog X.w) X.A (newFunctionEnv sc X.env.globals cl [] X.env.qual none .none (some X.env)) (λcenv s₄ =>
   codeAny (model X.prog X.w) X.A (.compStart (.ListComp elt [⟨tg,iter,ifs,0⟩] sc pos) 0 (.ref it) acc { cenv with scope:=relabel sc X.env }) (RR acc cenv.locals) s₄) E s₃) E s:=by
 have fo:∀ b ∈ fp,b < s.heap.objs.size:=λb hb=>by obtain ⟨o,e,_⟩:=T.obj _ _ st b hb;exact Ni e
 refine OI (wpAny_newFunctionEnv B.cell (by intro y hy;simp at hy) (λh₁ hns₁ hsb₁=>?_) hk);dsimp only at hns₁ hsb₁ ⊢;generalize hH2:s.heap.push { cls:=.type "list",dict:=none,data:=.seq ([]:List Value).toArray }=G at hns₁ hsb₁ ⊢;have hG:G.objs.size=s.heap.objs.size+1:=by rw [<- hH2,NY]
 have hlt:s.heap.objs.size < G.objs.size:=by rw [hG];exact Pp _
 have old:∀ b o,s.heap.get? b=some o->h₁.get? b=some o:=λb o e =>
  hsb₁.extBut b o (ND (Qd (Ni e) hlt)) (MU _ (hH2 ▸ MU _ e))
 have hacc:h₁.get? s.heap.objs.size=some { cls:=.type "list",data:=.seq ([]:List Value).toArray } :=
  hsb₁.extBut _ _ (ND hlt) (MU _ (hH2 ▸ Nr _ rfl))
 obtain ⟨W,⟨m0,w0⟩,turn⟩:=hw s.heap.objs.size (I.hok.fresh (M0 _));have st₁:tn 0 h₁:=T.keep _ _ _ st λb _ o e=>old b o e
 have hns':h₁.Ns G.objs.size (λ_=>none):=by
  have e:(λx=>([]:List (Str × Value)).reverse.lookup x)=(λ_:Str=>(none:Option Value)):=by funext x;rfl
  first
   | exact hns₁
   | (rw [e] at hns₁;exact hns₁)
 have loop:∀ s₃:Shared,s₃={ s with heap:=h₁,toks:=s.toks+([]:List (Str × Value)).length } ->
   codeAny (model X.prog X.w) X.A (.compLoop (.ListComp elt [⟨tg,iter,ifs,0⟩] sc pos) 0 (.ref it) (.ref s.heap.objs.size) (compEnvC sc cl G.objs.size X.env)) (RR (.ref s.heap.objs.size) G.objs.size) s₃:=by
  rintro s₃ rfl;have I0:=yS (tk:=s.toks+([]:List (Str × Value)).length) I B hk sub has f2 fo rfl hlt hns' old hacc
  have t8:∀ {VA:List (Addr × Obj)} {H':Hp},VA=[]->(∀ b ∈ fp,H' b=none)->∀ b ∈ fp,ql (X.VD sc cl G.objs.size N' s H fp) VA H' b:=λep hn b hb=>by
   subst ep;refine ⟨hn b hb,ND (Qd (fo b hb) hlt),λz=>?_,.inl hb,λx c e=>(f2 b hb).2.2.2.2.1 x c (sub x c e),λp hp=>absurd (show p ∈ ([]:List (Addr × Obj)) from hp) (by simp)⟩;rcases Na.mp (I.VL b z) with e | e
   ·exact (f2 b hb).2.1 e
   ·exact (f2 b hb).2.2.1 e
  have fr0:∀ b ∈ fp,upd H s.heap.objs.size (.lst []) b=none:=λb hb=>by rw [aR (ND (fo b hb))];exact (f2 b hb).1
  refine sf (λn s'=>∃ i σ' H',Inv (X.VD sc cl G.objs.size N' s H fp) [] σ' H' s'/\tn i s'.heap/\(∀ b ∈ fp,H' b=none)/\W i n σ' H') ?_ m0 ⟨0,_,_,I0,st₁,fr0,w0⟩;rintro n s3 ⟨i,σ3,H3,I3,st3,Zb,w3⟩;rcases turn i n σ3 H3 w3 with ⟨stop,qn⟩ | ⟨go,Nx,hN,step⟩
  ·refine Qt (T.done (X.VD sc cl G.objs.size N' s H fp) rfl rfl rfl hc i [] s3 σ3 H3 _ I3 (t8 rfl Zb) st3 stop) λr s4 ⟨hr,I4⟩=>?_;subst hr;exact hRR _ _ _ _ _ rfl (Og hlt) I4 qn
  ·refine Qt (T.item (X.VD sc cl G.objs.size N' s H fp) rfl rfl rfl hc i [] s3 σ3 H3 _ I3 (t8 rfl Zb) st3 go) λr s4 ⟨u,hr,h4⟩=>?_;subst hr;refine Qt h4 λ_ s5 ⟨x,H5,I5,r5,y5,Ye,fr5⟩=>?_;have I5':=I5.pinned (t8 rfl fr5) (T.obj _ _ Ye);refine Qt (hg cl G.objs.size s H fp _ s5 σ3 H5 x u _ I5' r5 (step x H5 y5)) λ_ s6 ⟨σ6,H6,I6,q6⟩=>?_;refine Qt (ht cl G.objs.size s H fp _ s6 σ6 H6 _ I6 q6) λok s7 ⟨H7,I7,q7⟩=>?_
   have again:∀ {s8:Shared} {H8:Hp},Inv (X.VD sc cl G.objs.size N' s H fp) ([]++pG fp s5.heap) σ6 H8 s8->Nx σ6 H8 ->
     ∃ m,m < n/\∃ i σ' H',Inv (X.VD sc cl G.objs.size N' s H fp) [] σ' H' s8/\tn i s8.heap/\(∀ b ∈ fp,H' b=none)/\W i m σ' H':=λ{s8 H8} I8 n8=>by
    obtain ⟨m',hm,w8⟩:=hN σ6 H8 n8;refine ⟨m',hm,i+1,σ6,H8,I8.Uo,T.keep _ _ _ Ye λb hb o e=>(I8.pin (b,o) (NG _ (NG _ (jf hb e)))).1,λb hb=>?_,w8⟩;obtain ⟨o,e,d⟩:=T.obj _ _ Ye b hb;exact (I8.pin (b,o) (NG _ (NG _ (jf hb e)))).2.1
   cases ok with
   | false =>rw [MR MY] at q7 ⊢;exact again I7 q7
   | true =>rw [MW rfl] at q7 ⊢;refine Qt (he cl G.objs.size s H fp _ s7 σ6 H7 _ I7 q7) λy s8 ⟨v,H8,I8,rv,ys,hD8,hz,nx⟩=>?_;refine Qt (eJ (X:=X.VD sc cl G.objs.size N' s H fp) _ s8 σ6 H8 (.ref s.heap.objs.size) [v] (.ref s.heap.objs.size) [y] (λ_ H9=>Nx σ6 H9) I8 rfl (.cons rv .nil) ⟨_,ys,v,rfl,rfl,hD8,hz,nx⟩) λ_ s9 ⟨_,H9,I9,_,n9⟩=>?_;exact again I9 n9
 exact codeAny_compStart_list (loop _ rfl) (T.self _ 0 _ _ _ st₁ (loop _ rfl))
theorem e8 (hi:PI X tg iter wi) (hk:sc.kind=.function) (hb:dW X.N X.env.kindOf sc.names own fr N'=true) (hc:X.calm=true)
  (hg:∀ cl C s H fp,PG (X.VD sc cl C N' s H fp) tg g) (ht:∀ cl C s H fp,Aj (X.VD sc cl C N' s H fp) ifs tt) (he:∀ cl C s H fp,PE (X.VD sc cl C N' s H fp) elt te)
  (hs:∀ x,foldedSetIterable iter X.env x=pure x:=by intro _;rfl):PE X (.ListComp elt [⟨tg,iter,ifs,0⟩] sc pos) (iM wi (XC own fr) g tt te):=by
 intro pins s σ H Q I h;have B:=AB hb;obtain ⟨cl,hcl,sub,has⟩:=GB sc X.env λp hp e=>I.ok.has p.1 (B.free p hp e);rw [eval_ListComp];refine wpAny_comprehension_free (use:=none) rfl hs hcl hk B.loc (Qt (hi pins s σ H _ I h) λv s1 h1=>Qt h1 λitv s2 h2=>?_);obtain ⟨it,fp,tn,J,H2,e,I2,T,st2,f2,body⟩:=h2;subst e;refine uw (RR:=λacc C=>compPost (model X.prog X.w) X.A X.xe none (EP X pins σ Q) acc C) I2 B hk hc sub has T st2 f2 hg ht he body ?_;intro D C σ' H' s' eD hC J' q;obtain ⟨m,hn,_⟩:=J'.loc;refine ⟨m,hn,λh' hs'=>⟨.ref D,H',?_,rfl,q⟩⟩;exact Inv.young I2 (xG I2 f2 J') hC J'.free hs'
theorem gP {i:Nat} {y:Str} {py spos:Pos} (hi:PI X tg iter wi) (hk:sc.kind=.function) (hb:dW X.N X.env.kindOf sc.names own fr N'=true) (hc:X.calm=true)
  (hg:∀ cl C s H fp,PG (X.VD sc cl C N' s H fp) tg g) (ht:∀ cl C s H fp,Aj (X.VD sc cl C N' s H fp) ifs tt) (he:∀ cl C s H fp,PE (X.VD sc cl C N' s H fp) elt te)
  (hN:X.N.Nodup) (hy:X.N[i]?=some y) (hx:X.env.scope.names.lookup y=some .local)
  (hsw:swapsWith (.ListComp elt [⟨tg,iter,ifs,0⟩] sc pos) (some (.Name y py)) spos.line X.env=pure true)
  (hs:∀ x,foldedSetIterable iter X.env x=pure x:=by intro _;rfl):PS X (.Assign [.Name y py] (.ListComp elt [⟨tg,iter,ifs,0⟩] sc pos) spos) (pZ (iM wi (XC own fr) g tt te) (d6 i)):=by
 intro pins s σ H D I h;have B:=AB hb;obtain ⟨cl,hcl,sub,has⟩:=GB sc X.env λp hp e=>I.ok.has p.1 (B.free p hp e);rw [exec_Assign_Name_used _ _ _ _ hsw];refine MV (O4 (MV ?_));show wpAny _ _ (do let _ <- comprehension (.ListComp elt [⟨tg,iter,ifs,0⟩] sc pos) sc X.env _ (newList []) false (eval iter X.env) (some (assign (.Name y py) X.env))) _ _ s
 refine MV (O2 (wpAny_comprehension_free (use:=some (assign (.Name y py) X.env)) (Q:=λ_ s'=>SP X pins D .next s') rfl hs hcl hk B.loc
  (Qt (hi pins s σ H _ I h) λv s1 h1=>Qt h1 λitv s2 h2=>?_)) (λ_ s' hq=>Nc (Nc hq)) λ_ _ e=>e)
 obtain ⟨it,fp,tn,J,H2,e,I2,T,st2,f2,body⟩:=h2;subst e;refine uw (Q:=λv H'=>D.nx (σ.set i (some v)) H') (RR:=λacc C=>compPost (model X.prog X.w) X.A X.xe (some (assign (.Name y py) X.env)) (λ_ s'=>SP X pins D .next s') acc C) I2 B hk hc sub has T st2 f2 hg ht he body ?_;intro D' C σ' H' s' eD hC J' q;have I3:=xG I2 f2 J';show wpAny _ _ (assign (.Name y py) X.env (.ref D')) _ _ s';refine wpAny_assign_Name (rP I3 hN hy (.inl hx) (v:=.ref D') rfl (λs4 I4 ⟨a,hsb,ha⟩=>?_) (.inr hx));obtain ⟨m,hn,_⟩:=J'.loc
 have hCa:C≠a:=by
  rcases ha with e | e
  ·rw [e];exact Ox (Nk I2.lt hC)
  ·obtain ⟨v,z⟩:=I2.cell _ _ e;exact Ox (Nk z.lt hC)
 refine ⟨m,hn.sameBut hsb hCa,λh' hs'=>⟨_,H',?_,q⟩⟩;exact Inv.young I2 I4 hC J'.free hs'
end
inductive D where
 | Qj | bl (b:Bool) | int (i:Int) | str (x:Str) | tup (ds:List D)
 | lst
mutual
noncomputable def Dat (K:W.Frag) (H:Hp):D->V->Prop
 | .Qj,v=>v=.Qj
 | .bl b,v=>v=.bl b
 | .int i,v=>v=.int i
 | .str x,v=>v=.str x
 | .tup ds,v=>∃ a vs,v=.ref a/\QH K H a vs/\Qf K H ds vs
 | .lst,v=>∃ a vs,v=.ref a/\Qp K H a vs
noncomputable def Qf (K:W.Frag) (H:Hp):List D->List V->Prop
 | [],vs=>vs=[]
 | d::ds,vs=>∃ v r,vs=v::r/\Dat K H d v/\Qf K H ds r
end
section
variable {K:W.Frag} {H H':Hp}
variable {a:Addr} {vs:List V} {ds:List D}
theorem Dat.tupI (h:QH K H a vs) (r:Qf K H ds vs):Dat K H (.tup ds) (.ref a):=by unfold Dat;exact ⟨a,vs,rfl,h,r⟩
theorem Qf.nil:Qf K H [] []:=by unfold Qf;rfl
variable {d:D} {v:V}
theorem Qf.cons (h:Dat K H d v) (r:Qf K H ds vs):Qf K H (d::ds) (v::vs):=by unfold Qf;exact ⟨v,vs,rfl,h,r⟩
theorem Dat.Qm (i:Int):Dat K H (.int i) (.int i):=by unfold Dat;rfl
theorem Dat.RK (x:Str):Dat K H (.str x) (.str x):=by unfold Dat;rfl
theorem Dat.To (b:Bool):Dat K H (.bl b) (.bl b):=by unfold Dat;rfl
theorem Dat.VM:Dat K H .Qj .Qj:=by unfold Dat;rfl
theorem Dat.Zh (h:Qp K H a vs):Dat K H .lst (.ref a):=by unfold Dat;exact ⟨a,vs,rfl,h⟩
theorem Dat.Qw (h:Dat K H (.tup ds) v):∃ a vs,v=.ref a/\QH K H a vs/\Qf K H ds vs:=by unfold Dat at h;exact h
theorem Dat.Qk {i:Int} (h:Dat K H (.int i) v):v=.int i:=by unfold Dat at h;exact h
theorem Dat.Qy {x:Str} (h:Dat K H (.str x) v):v=.str x:=by unfold Dat at h;exact h
theorem Dat.Tp {b:Bool} (h:Dat K H (.bl b) v):v=.bl b:=by unfold Dat at h;exact h
theorem Dat.SA (h:Dat K H .Qj v):v=.Qj:=by unfold Dat at h;exact h
theorem Dat.V8 (h:Dat K H .lst v):∃ a vs,v=.ref a/\Qp K H a vs:=by unfold Dat at h;exact h
theorem Qf.Us (h:Qf K H [] vs):vs=[]:=by unfold Qf at h;exact h
theorem Qf.QN (h:Qf K H (d::ds) vs):∃ v r,vs=v::r/\Dat K H d v/\Qf K H ds r:=by unfold Qf at h;exact h
structure gW (K:W.Frag) (H H':Hp):Prop where
 tup:∀ a xs,QH K H a xs->QH K H' a xs
 lst:∀ a xs,Qp K H a xs->∃ ys,Qp K H' a ys
mutual
theorem Dat.mono (g:gW K H H'):∀ (d:D) {v:V},Dat K H d v->Dat K H' d v
 | .Qj,v,h=>by unfold Dat at h ⊢;exact h
 | .bl b,v,h=>by unfold Dat at h ⊢;exact h
 | .int i,v,h=>by unfold Dat at h ⊢;exact h
 | .str x,v,h=>by unfold Dat at h ⊢;exact h
 | .tup ds,v,h=>by obtain ⟨a,vs,e,q,r⟩:=h.Qw;subst e;exact Dat.tupI (g.tup _ _ q) (Qf.mono g ds r)
 | .lst,v,h=>by obtain ⟨a,vs,e,q⟩:=h.V8;subst e;obtain ⟨ys,q'⟩:=g.lst _ _ q;exact Dat.Zh q'
theorem Qf.mono (g:gW K H H'):∀ (ds:List D) {vs:List V},Qf K H ds vs->Qf K H' ds vs
 | [],vs,h=>by unfold Qf at h ⊢;exact h
 | d::ds,vs,h=>by obtain ⟨v,r,e,h1,h2⟩:=h.QN;subst e;exact Qf.cons (Dat.mono g d h1) (Qf.mono g ds h2)
end
theorem Qf.length:∀ {ds:List D} {vs:List V},Qf K H ds vs->ds.length=vs.length
 | [],vs,h=>by rw [h.Us];rfl
 | d::ds,vs,h=>by obtain ⟨v,r,e,h1,h2⟩:=h.QN;subst e;rw [Nd,Nd,Qf.length h2]
theorem Qf.get:∀ {ds:List D} {vs:List V} {i:Nat} {d:D},Qf K H ds vs->ds[i]?=some d->∃ v,vs[i]?=some v/\Dat K H d v
 | [],_,i,d,_,e=>by simp at e
 | d0::ds,vs,0,d,h,e=>by obtain ⟨v,r,e1,h1,h2⟩:=h.QN;subst e1;simp at e;subst e;exact ⟨v,rfl,h1⟩
 | d0::ds,vs,i+1,d,h,e=>by obtain ⟨v,r,e1,h1,h2⟩:=h.QN;subst e1;obtain ⟨u,q1,q2⟩:=Qf.get (i:=i) (d:=d) h2 (by simpa using e);exact ⟨u,by simpa using q1,q2⟩
theorem Qf.T9:∀ {ds:List D} {vs:List V} {i:Nat} {v:V},Qf K H ds vs->vs[i]?=some v->∃ d,ds[i]?=some d/\Dat K H d v
 | [],vs,i,v,h,e=>by rw [h.Us] at e;simp at e
 | d0::ds,vs,0,v,h,e=>by obtain ⟨u,r,e1,h1,h2⟩:=h.QN;subst e1;simp at e;subst e;exact ⟨d0,rfl,h1⟩
 | d0::ds,vs,i+1,v,h,e=>by obtain ⟨u,r,e1,h1,h2⟩:=h.QN;subst e1;obtain ⟨d,q1,q2⟩:=Qf.T9 (i:=i) (v:=v) h2 (by simpa using e);exact ⟨d,by simpa using q1,q2⟩
theorem Qf.append:∀ {ds es:List D} {vs us:List V},Qf K H ds vs->Qf K H es us->Qf K H (ds++es) (vs++us)
 | [],es,vs,us,h,h'=>by rw [h.Us];exact h'
 | d::ds,es,vs,us,h,h'=>by obtain ⟨v,r,e,h1,h2⟩:=h.QN;subst e;exact Qf.cons h1 (Qf.append h2 h')
end
mutual
noncomputable def Qs:D->D->Bool
 | .Qj,.Qj=>true
 | .bl a,.bl b=>a == b
 | .int a,.int b=>a == b
 | .bl a,.int b=>(if a then 1 else 0) == b
 | .int a,.bl b=>a == (if b then 1 else 0)
 | .str a,.str b=>a == b
 | .tup a,.tup b=>QG a b
 | _,_=>false
noncomputable def QG:List D->List D->Bool
 | [],[]=>true
 | a::r,b::q=>Qs a b && QG r q
 | _,_=>false
end
mutual
noncomputable def fD:D->Nat
 | .tup ds=>Ql ds+1
 | _=>0
noncomputable def Ql:List D->Nat
 | []=>0
 | d::ds=>max (fD d) (Ql ds)
end
mutual
noncomputable def Rr:D->Bool
 | .tup ds=>QB ds
 | .lst=>false
 | _=>true
noncomputable def QB:List D->Bool
 | []=>true
 | d::ds=>Rr d && QB ds
end
noncomputable def XD (a b:List D) (j:Nat):Bool:=match a[j]?,b[j]? with
 | some x,some y=>Qs x y
 | _,_=>false
theorem oq (n:Nat) (e:Nat->Bool):(List.range (n+1)).all e=(e 0 && (List.range n).all λj=>e (j+1)):=by rw [List.range_succ_eq_map,List.all_cons,List.all_map];rfl
theorem jd:∀ a b:List D,((List.range (min a.length b.length)).all (XD a b) && a.length == b.length)=QG a b
 | [],[]=>by unfold QG;rfl
 | [],y::b=>by unfold QG;simp
 | x::a,[]=>by unfold QG;simp
 | x::a,y::b=>by
  have ih:=jd a b;unfold QG;rw [<- ih,Nd,Nd,Nat.succ_min_succ,oq];have e0:XD (x::a) (y::b) 0=Qs x y:=rfl
  have e1:(λj=>XD (x::a) (y::b) (j+1))=XD a b:=by
   funext j
   simp [XD]
  rw [e0,e1,Bool.and_assoc];congr 2;simp
theorem uz {a b:List D} (h:a.length=b.length):(List.range a.length).all (XD a b)=QG a b:=by have q:=jd a b;rw [<- h,Nat.min_self] at q;rw [<- q];simp
mutual
theorem iz:∀ d:D,Rr d=true->Qs d d=true
 | .Qj,_=>by unfold Qs;rfl
 | .bl b,_=>by unfold Qs;simp
 | .int i,_=>by unfold Qs;simp
 | .str x,_=>by unfold Qs;simp
 | .tup ds,h=>by unfold Qs;unfold Rr at h;exact VE ds h
 | .lst,h=>by unfold Rr at h;cases h
theorem VE:∀ ds:List D,QB ds=true->QG ds ds=true
 | [],_=>by unfold QG;rfl
 | d::ds,h=>by unfold QB at h;rw [M4] at h;unfold QG;rw [iz d h.1,VE ds h.2];rfl
end
section
variable {X:Cx} {pins:List (Addr × Obj)} {σ:St} {H:Hp} {s:Shared}
mutual
theorem nR (I:Inv X pins σ H s):∀ (d e:D) {v:V},Rr d=true->Dat X.K H d v->Dat X.K H e v->Rr e=true->d=e
 | .Qj,e,v,hn,h,h',hn'=>by
  have z:=h.SA;subst z
  cases e with
  | Qj=>rfl
  | bl b=>exact nomatch h'.Tp
  | int i=>exact nomatch h'.Qk
  | str x=>exact nomatch h'.Qy
  | tup ds=>obtain ⟨_,_,q,_⟩:=h'.Qw;exact nomatch q
  | lst=>obtain ⟨_,_,q,_⟩:=h'.V8;exact nomatch q
 | .bl b,e,v,hn,h,h',hn'=>by
  have z:=h.Tp;subst z
  cases e with
  | Qj=>exact nomatch h'.SA
  | bl c=>have q:=h'.Tp;injection q with q;rw [q]
  | int i=>exact nomatch h'.Qk
  | str x=>exact nomatch h'.Qy
  | tup ds=>obtain ⟨_,_,q,_⟩:=h'.Qw;exact nomatch q
  | lst=>obtain ⟨_,_,q,_⟩:=h'.V8;exact nomatch q
 | .int i,e,v,hn,h,h',hn'=>by
  have z:=h.Qk;subst z
  cases e with
  | Qj=>exact nomatch h'.SA
  | bl c=>exact nomatch h'.Tp
  | int j=>have q:=h'.Qk;injection q with q;rw [q]
  | str x=>exact nomatch h'.Qy
  | tup ds=>obtain ⟨_,_,q,_⟩:=h'.Qw;exact nomatch q
  | lst=>obtain ⟨_,_,q,_⟩:=h'.V8;exact nomatch q
 | .str x,e,v,hn,h,h',hn'=>by
  have z:=h.Qy;subst z
  cases e with
  | Qj=>exact nomatch h'.SA
  | bl c=>exact nomatch h'.Tp
  | int j=>exact nomatch h'.Qk
  | str y=>have q:=h'.Qy;injection q with q;rw [q]
  | tup ds=>obtain ⟨_,_,q,_⟩:=h'.Qw;exact nomatch q
  | lst=>obtain ⟨_,_,q,_⟩:=h'.V8;exact nomatch q
 | .tup ds,e,v,hn,h,h',hn'=>by
  obtain ⟨a,vs,z,q,r⟩:=h.Qw;subst z
  cases e with
  | Qj=>exact nomatch h'.SA
  | bl c=>exact nomatch h'.Tp
  | int j=>exact nomatch h'.Qk
  | str y=>exact nomatch h'.Qy
  | tup es =>obtain ⟨a',vs',z,q',r'⟩:=h'.Qw;cases z;have ev:=I.VB q q';subst ev;unfold Rr at hn hn';rw [VU I ds es hn r r' hn']
  | lst=>unfold Rr at hn';cases hn'
 | .lst,e,v,hn,h,h',hn'=>by unfold Rr at hn;cases hn
theorem VU (I:Inv X pins σ H s):∀ (ds es:List D) {vs:List V},QB ds=true->Qf X.K H ds vs->Qf X.K H es vs->QB es=true->ds=es
 | [],es,vs,_,h,h',_=>by
  have z:=h.Us;subst z
  cases es with
  | nil=>rfl
  | cons e es=>obtain ⟨_,_,q,_⟩:=h'.QN;exact nomatch q
 | d::ds,es,vs,hn,h,h',hn'=>by
  obtain ⟨v,r,z,h1,h2⟩:=h.QN;subst z
  cases es with
  | nil=>exact nomatch h'.Us
  | cons e es =>obtain ⟨v',r',z,Wr,h2'⟩:=h'.QN;injection z with z1 z2;subst z1 z2;unfold QB at hn hn';rw [M4] at hn hn';rw [nR I d e hn.1 h1 Wr hn'.1,VU I ds es hn.2 h2 h2' hn'.2]
end
end
theorem mr (A:Around):A.in1.units=A.units+1:=rfl
section
variable {X:Cx} {pins:List (Addr × Obj)} {σ:St} {H:Hp} {s:Shared}
theorem jc:∀ {ds:List D} {j:Nat} {d:D},ds[j]?=some d->fD d<=Ql ds
 | [],_,_,e=>by simp at e
 | d0::ds,0,d,e=>by simp at e;subst e;unfold Ql;exact PB _ _
 | d0::ds,j+1,d,e=>by have q:=jc (ds:=ds) (j:=j) (d:=d) (by simpa using e);unfold Ql;exact Nv q (Nat.le_max_right _ _)
theorem gy:∀ {ds:List D} {j:Nat} {d:D},QB ds=true->ds[j]?=some d->Rr d=true
 | [],_,_,_,e=>by simp at e
 | d0::ds,0,d,h,e=>by simp at e;subst e;unfold QB at h;rw [M4] at h;exact h.1
 | d0::ds,j+1,d,h,e=>by unfold QB at h;rw [M4] at h;exact gy (ds:=ds) (j:=j) (d:=d) h.2 (by simpa using e)
variable {A:Around} {ds es:List D} {xs ys:List V}
theorem oK {us ws:List Value} (n:Nat)
  (all:∀ (d e:D) (x y:V) (u w:Value),fD d<=n->Rr d=true->Rr e=true->Dat X.K H d x->Dat X.K H e y->RelV x u->RelV y w->SeqAt.EqAt A s u w (Qs d e))
  (hn:Ql ds<=n) (h1:QB ds=true) (h2:QB es=true) (r1:Qf X.K H ds xs) (r2:Qf X.K H es ys) (v1:Vals xs us) (v2:Vals ys ws) :
  ∀ j (k1:j < us.toArray.size) (k2:j < ws.toArray.size),SeqAt.EqAt A s us.toArray[j] ws.toArray[j] (XD ds es j):=by
 intro j k1 k2;have l1:j < xs.length:=by rw [v1.length];simpa using k1
 have l2:j < ys.length:=by rw [v2.length];simpa using k2
 obtain ⟨u,eu,ru⟩:=v1.get (i:=j) (x:=xs[j]) (MT l1);obtain ⟨w,ew,rw'⟩:=v2.get (i:=j) (x:=ys[j]) (MT l2);obtain ⟨d,ed,qd⟩:=r1.T9 (i:=j) (v:=xs[j]) (MT l1);obtain ⟨e,ee,qe⟩:=r2.T9 (i:=j) (v:=ys[j]) (MT l2)
 have z1:us.toArray[j]=u:=by
  have:us[j]?=some u:=eu;have k1':j < us.length:=by simpa using k1
  rw [MT k1'] at this;simpa using NK this
 have z2:ws.toArray[j]=w:=by
  have:ws[j]?=some w:=ew;have k2':j < ws.length:=by simpa using k2
  rw [MT k2'] at this;simpa using NK this
 have z3:XD ds es j=Qs d e:=by unfold XD;rw [ed,ee]
 rw [z1,z2,z3];exact all d e _ _ u w (Nv (jc ed) hn) (gy h1 ed) (gy h2 ee) qd qe ru rw'
theorem vi {a b:Addr} (I:Inv X pins σ H s) (hu:A.units < cLine) (n:Nat)
  (all:∀ (d e:D) (x y:V) (u w:Value),fD d<=n->Rr d=true->Rr e=true->Dat X.K H d x->Dat X.K H e y->RelV x u->RelV y w->SeqAt.EqAt A.in1 s u w (Qs d e))
  (hn:Ql ds<=n) (h1:QB ds=true) (h2:QB es=true) (r1:Qf X.K H ds xs) (r2:Qf X.K H es ys) (q1:QH X.K H a xs) (q2:QH X.K H b ys) :
  SeqAt.RcAt A s (.ref a) (.ref b) (QG ds es)/\SeqAt.RcNeAt A s (.ref a) (.ref b) (!QG ds es):=by
 obtain ⟨us,v1,t1,_⟩:=I.tuple q1;obtain ⟨ws,v2,t2,_⟩:=I.tuple q2;have hi:=oK (X:=X) (H:=H) (s:=s) n all hn h1 h2 r1 r2 v1 v2;have p:=SeqAt.RcAt.tuples (show s.heap.IsTuple a us.toArray from t1) (show s.heap.IsTuple b ws.toArray from t2) hu hi;have p':=SeqAt.RcNeAt.tuples (show s.heap.IsTuple a us.toArray from t1) (show s.heap.IsTuple b ws.toArray from t2) hu hi;have e1:us.toArray.size=ds.length:=by rw [M9,<- v1.length,r1.length]
 have e2:ws.toArray.size=es.length:=by rw [M9,<- v2.length,r2.length]
 rw [e1,e2,jd] at p p';exact ⟨p,p'⟩
theorem sv (I:Inv X pins σ H s):∀ (n:Nat) (A:Around) (d e:D) (x y:V) (u w:Value),A.units+n+1 < cLine->fD d<=n->Rr d=true->Rr e=true->Dat X.K H d x->Dat X.K H e y->RelV x u->RelV y w->SeqAt.EqAt A s u w (Qs d e):=by
 intro n
 induction n with
 | zero =>
  intro A d e x y u w hu hn h1 h2 q1 q2 r1 r2
  exact base I A d e x y u w (by omega) h1 h2 q1 q2 r1 r2 λds es a b xs ys ed ee=>by subst ed;unfold fD at hn;omega
 | succ n ih =>intro A d e x y u w hu hn h1 h2 q1 q2 r1 r2;refine base I A d e x y u w (by omega) h1 h2 q1 q2 r1 r2 λds es a b xs ys ed ee t1 t2 s1 s2 hne=>?_;subst ed ee;unfold fD at hn;unfold Rr at h1 h2;have p:=(vi (A:=A) (ds:=ds) (es:=es) I (by omega) n (λd e x y u w k1 k2 k3 k4 k5 k6 k7=>ih A.in1 d e x y u w (by rw [mr];omega) k1 k2 k3 k4 k5 k6 k7) (by omega) h1 h2 t1 t2 s1 s2).1;unfold Qs;exact .of_refs hne p
where
 base (I:Inv X pins σ H s) (A:Around) (d e:D) (x y:V) (u w:Value) (hu:A.units < cLine) (h1:Rr d=true) (h2:Rr e=true) (q1:Dat X.K H d x) (q2:Dat X.K H e y) (r1:RelV x u) (r2:RelV y w)
   (tt:∀ (ds es:List D) (a b:Addr) (xs ys:List V),d=.tup ds->e=.tup es->Qf X.K H ds xs->Qf X.K H es ys->QH X.K H a xs->QH X.K H b ys->a≠b->SeqAt.EqAt A s (.ref a) (.ref b) (Qs (.tup ds) (.tup es))) :
   SeqAt.EqAt A s u w (Qs d e):=by
  cases d with
  | lst=>unfold Rr at h1;cases h1
  | Qj =>
   have z:=q1.SA;subst z;cases r1
   cases e with
   | lst=>unfold Rr at h2;cases h2
   | Qj=>have z:=q2.SA;subst z;cases r2;unfold Qs;exact SeqAt.EqAt.same _
   | bl b=>have z:=q2.Tp;subst z;cases r2;unfold Qs;exact SeqAt.EqAt.none_bool b
   | int i=>have z:=q2.Qk;subst z;obtain ⟨t,rfl⟩:=r2;unfold Qs;exact SeqAt.EqAt.none_int i t
   | str i=>have z:=q2.Qy;subst z;obtain ⟨t,rfl⟩:=r2;unfold Qs;exact SeqAt.EqAt.none_str i t
   | tup es=>obtain ⟨b,ys,z,s2,t2⟩:=q2.Qw;subst z;cases r2;obtain ⟨ws,v2,p2,_⟩:=I.tuple s2;unfold Qs;exact SeqAt.EqAt.none_tuple (show s.heap.IsTuple b ws.toArray from p2) hu
  | bl c =>
   have z:=q1.Tp;subst z;cases r1
   cases e with
   | lst=>unfold Rr at h2;cases h2
   | Qj=>have z:=q2.SA;subst z;cases r2;unfold Qs;exact SeqAt.EqAt.bool_none c
   | bl b=>have z:=q2.Tp;subst z;cases r2;unfold Qs;exact SeqAt.EqAt.bool_bool c b
   | int i=>have z:=q2.Qk;subst z;obtain ⟨t,rfl⟩:=r2;unfold Qs;exact SeqAt.EqAt.bool_int c i t
   | str i=>have z:=q2.Qy;subst z;obtain ⟨t,rfl⟩:=r2;unfold Qs;exact SeqAt.EqAt.bool_str c i t
   | tup es=>obtain ⟨b,ys,z,s2,t2⟩:=q2.Qw;subst z;cases r2;obtain ⟨ws,v2,p2,_⟩:=I.tuple s2;unfold Qs;exact SeqAt.EqAt.bool_tuple c (show s.heap.IsTuple b ws.toArray from p2) hu
  | int c =>
   have z:=q1.Qk;subst z;obtain ⟨tc,rfl⟩:=r1
   cases e with
   | lst=>unfold Rr at h2;cases h2
   | Qj=>have z:=q2.SA;subst z;cases r2;unfold Qs;exact SeqAt.EqAt.int_none c tc
   | bl b=>have z:=q2.Tp;subst z;cases r2;unfold Qs;exact SeqAt.EqAt.int_bool c tc b
   | int i=>have z:=q2.Qk;subst z;obtain ⟨t,rfl⟩:=r2;unfold Qs;exact SeqAt.EqAt.int_int c tc i t
   | str i=>have z:=q2.Qy;subst z;obtain ⟨t,rfl⟩:=r2;unfold Qs;exact PR c tc i t
   | tup es=>obtain ⟨b,ys,z,s2,t2⟩:=q2.Qw;subst z;cases r2;obtain ⟨ws,v2,p2,_⟩:=I.tuple s2;unfold Qs;exact SeqAt.EqAt.int_tuple c tc (show s.heap.IsTuple b ws.toArray from p2) hu
  | str c =>
   have z:=q1.Qy;subst z;obtain ⟨tc,rfl⟩:=r1
   cases e with
   | lst=>unfold Rr at h2;cases h2
   | Qj=>have z:=q2.SA;subst z;cases r2;unfold Qs;exact SeqAt.EqAt.str_none c tc
   | bl b=>have z:=q2.Tp;subst z;cases r2;unfold Qs;exact SeqAt.EqAt.str_bool c tc b
   | int i=>have z:=q2.Qk;subst z;obtain ⟨t,rfl⟩:=r2;unfold Qs;exact PU c tc i t
   | str i=>have z:=q2.Qy;subst z;obtain ⟨t,rfl⟩:=r2;unfold Qs;exact SeqAt.EqAt.str_str c tc i t
   | tup es=>obtain ⟨b,ys,z,s2,t2⟩:=q2.Qw;subst z;cases r2;obtain ⟨ws,v2,p2,_⟩:=I.tuple s2;unfold Qs;exact SeqAt.EqAt.str_tuple c tc (show s.heap.IsTuple b ws.toArray from p2) hu
  | tup ds =>
   have q1':=q1
   obtain ⟨a,xs,z,s1,t1⟩:=q1.Qw;subst z;cases r1;obtain ⟨us,v1,p1,_⟩:=I.tuple s1
   have p1':s.heap.IsTuple a us.toArray:=p1
   cases e with
   | lst=>unfold Rr at h2;cases h2
   | Qj=>have z:=q2.SA;subst z;cases r2;unfold Qs;exact SeqAt.EqAt.tuple_none p1' hu
   | bl b=>have z:=q2.Tp;subst z;cases r2;unfold Qs;exact SeqAt.EqAt.tuple_bool b p1' hu
   | int i=>have z:=q2.Qk;subst z;obtain ⟨t,rfl⟩:=r2;unfold Qs;exact SeqAt.EqAt.tuple_int i t p1' hu
   | str i=>have z:=q2.Qy;subst z;obtain ⟨t,rfl⟩:=r2;unfold Qs;exact SeqAt.EqAt.tuple_str i t p1' hu
   | tup es =>
    have q2':=q2
    obtain ⟨b,ys,z,s2,t2⟩:=q2.Qw;subst z;cases r2
    by_cases hab:a=b
    ·subst hab
     have ee:=nR I (.tup ds) (.tup es) h1 q1' q2' h2
     rw [<- ee,iz _ h1]
     exact SeqAt.EqAt.same _
    ·exact tt ds es a b xs ys rfl rfl t1 t2 s1 s2 hab
theorem G0 (I:Inv X pins σ H s) (n:Nat) (A:Around) (d e:D) (x y:V) (u w:Value) (hu:A.units+n+2 < cLine) (hn:fD d<=n+1) (h1:Rr d=true) (h2:Rr e=true) (q1:Dat X.K H d x) (q2:Dat X.K H e y) (r1:RelV x u) (r2:RelV y w) :
  SeqAt.RcAt A s u w (Qs d e)/\SeqAt.RcNeAt A s u w (!Qs d e):=by
 have Vt:A.units < cLine:=by omega
 cases d with
 | lst=>unfold Rr at h1;cases h1
 | Qj =>
  have z:=q1.SA;subst z;cases r1
  cases e with
  | lst=>unfold Rr at h2;cases h2
  | Qj=>have z:=q2.SA;subst z;cases r2;unfold Qs;exact ⟨SeqAt.RcAt.none_none,SeqAt.RcNeAt.none_none⟩
  | bl b=>have z:=q2.Tp;subst z;cases r2;unfold Qs;exact ⟨SeqAt.RcAt.none_bool b,SeqAt.RcNeAt.none_bool b⟩
  | int i=>have z:=q2.Qk;subst z;obtain ⟨t,rfl⟩:=r2;unfold Qs;exact ⟨SeqAt.RcAt.none_int i t,SeqAt.RcNeAt.none_int i t⟩
  | str i=>have z:=q2.Qy;subst z;obtain ⟨t,rfl⟩:=r2;unfold Qs;exact ⟨SeqAt.RcAt.none_str i t,SeqAt.RcNeAt.none_str i t⟩
  | tup es=>obtain ⟨b,ys,z,s2,t2⟩:=q2.Qw;subst z;cases r2;obtain ⟨ws,v2,p2,_⟩:=I.tuple s2;unfold Qs;exact ⟨SeqAt.RcAt.none_tuple (show s.heap.IsTuple b ws.toArray from p2) Vt,SeqAt.RcNeAt.none_tuple (show s.heap.IsTuple b ws.toArray from p2) Vt⟩
 | bl c =>
  have z:=q1.Tp;subst z;cases r1
  cases e with
  | lst=>unfold Rr at h2;cases h2
  | Qj=>have z:=q2.SA;subst z;cases r2;unfold Qs;exact ⟨SeqAt.RcAt.bool_none c,SeqAt.RcNeAt.bool_none c⟩
  | bl b=>have z:=q2.Tp;subst z;cases r2;unfold Qs;exact ⟨SeqAt.RcAt.bool_bool c b,SeqAt.RcNeAt.bool_bool c b⟩
  | int i=>have z:=q2.Qk;subst z;obtain ⟨t,rfl⟩:=r2;unfold Qs;exact ⟨SeqAt.RcAt.bool_int c i t,SeqAt.RcNeAt.bool_int c i t⟩
  | str i=>have z:=q2.Qy;subst z;obtain ⟨t,rfl⟩:=r2;unfold Qs;exact ⟨SeqAt.RcAt.bool_str c i t,SeqAt.RcNeAt.bool_str c i t⟩
  | tup es=>obtain ⟨b,ys,z,s2,t2⟩:=q2.Qw;subst z;cases r2;obtain ⟨ws,v2,p2,_⟩:=I.tuple s2;unfold Qs;exact ⟨SeqAt.RcAt.bool_tuple c (show s.heap.IsTuple b ws.toArray from p2) Vt,SeqAt.RcNeAt.bool_tuple c (show s.heap.IsTuple b ws.toArray from p2) Vt⟩
 | int c =>
  have z:=q1.Qk;subst z;obtain ⟨tc,rfl⟩:=r1
  cases e with
  | lst=>unfold Rr at h2;cases h2
  | Qj=>have z:=q2.SA;subst z;cases r2;unfold Qs;exact ⟨SeqAt.RcAt.int_none c tc,SeqAt.RcNeAt.int_none c tc⟩
  | bl b=>have z:=q2.Tp;subst z;cases r2;unfold Qs;exact ⟨SeqAt.RcAt.int_bool c tc b,SeqAt.RcNeAt.int_bool c tc b⟩
  | int i=>have z:=q2.Qk;subst z;obtain ⟨t,rfl⟩:=r2;unfold Qs;exact ⟨SeqAt.RcAt.int_int c tc i t,SeqAt.RcNeAt.int_int c tc i t⟩
  | str i=>have z:=q2.Qy;subst z;obtain ⟨t,rfl⟩:=r2;unfold Qs;exact ⟨SeqAt.RcAt.int_str c tc i t,SeqAt.RcNeAt.int_str c tc i t⟩
  | tup es=>obtain ⟨b,ys,z,s2,t2⟩:=q2.Qw;subst z;cases r2;obtain ⟨ws,v2,p2,_⟩:=I.tuple s2;unfold Qs;exact ⟨SeqAt.RcAt.int_tuple c tc (show s.heap.IsTuple b ws.toArray from p2) Vt,SeqAt.RcNeAt.int_tuple c tc (show s.heap.IsTuple b ws.toArray from p2) Vt⟩
 | str c =>
  have z:=q1.Qy;subst z;obtain ⟨tc,rfl⟩:=r1
  cases e with
  | lst=>unfold Rr at h2;cases h2
  | Qj=>have z:=q2.SA;subst z;cases r2;unfold Qs;exact ⟨SeqAt.RcAt.str_none c tc,SeqAt.RcNeAt.str_none c tc⟩
  | bl b=>have z:=q2.Tp;subst z;cases r2;unfold Qs;exact ⟨SeqAt.RcAt.str_bool c tc b,SeqAt.RcNeAt.str_bool c tc b⟩
  | int i=>have z:=q2.Qk;subst z;obtain ⟨t,rfl⟩:=r2;unfold Qs;exact ⟨SeqAt.RcAt.str_int c tc i t,SeqAt.RcNeAt.str_int c tc i t⟩
  | str i=>have z:=q2.Qy;subst z;obtain ⟨t,rfl⟩:=r2;unfold Qs;exact ⟨SeqAt.RcAt.str_str c tc i t,SeqAt.RcNeAt.str_str c tc i t⟩
  | tup es=>obtain ⟨b,ys,z,s2,t2⟩:=q2.Qw;subst z;cases r2;obtain ⟨ws,v2,p2,_⟩:=I.tuple s2;unfold Qs;exact ⟨SeqAt.RcAt.str_tuple c tc (show s.heap.IsTuple b ws.toArray from p2) Vt,SeqAt.RcNeAt.str_tuple c tc (show s.heap.IsTuple b ws.toArray from p2) Vt⟩
 | tup ds =>
  obtain ⟨a,xs,z,s1,t1⟩:=q1.Qw;subst z;cases r1;obtain ⟨us,v1,p1,_⟩:=I.tuple s1;have p1':s.heap.IsTuple a us.toArray:=p1
  cases e with
  | lst=>unfold Rr at h2;cases h2
  | Qj=>have z:=q2.SA;subst z;cases r2;unfold Qs;exact ⟨SeqAt.RcAt.tuple_none p1' Vt,SeqAt.RcNeAt.tuple_none p1' Vt⟩
  | bl b=>have z:=q2.Tp;subst z;cases r2;unfold Qs;exact ⟨SeqAt.RcAt.tuple_bool b p1' Vt,SeqAt.RcNeAt.tuple_bool b p1' Vt⟩
  | int i=>have z:=q2.Qk;subst z;obtain ⟨t,rfl⟩:=r2;unfold Qs;exact ⟨SeqAt.RcAt.tuple_int i t p1' Vt,SeqAt.RcNeAt.tuple_int i t p1' Vt⟩
  | str i=>have z:=q2.Qy;subst z;obtain ⟨t,rfl⟩:=r2;unfold Qs;exact ⟨SeqAt.RcAt.tuple_str i t p1' Vt,SeqAt.RcNeAt.tuple_str i t p1' Vt⟩
  | tup es =>obtain ⟨b,ys,z,s2,t2⟩:=q2.Qw;subst z;cases r2;unfold fD at hn;unfold Rr at h1 h2;unfold Qs;exact vi (A:=A) (ds:=ds) (es:=es) I Vt n (λd e x y u w k1 k2 k3 k4 k5 k6 k7=>sv I n A.in1 d e x y u w (by rw [mr];omega) k1 k2 k3 k4 k5 k6 k7) (by omega) h1 h2 t1 t2 s1 s2
theorem G7 (I:Inv X pins σ H s) (n:Nat) (A:Around) (ds es:List D) (a b:Addr) (xs ys:List V) (hu:A.units+n+2 < cLine) (hn:Ql ds<=n) (h1:QB ds=true) (h2:QB es=true) (q1:Qp X.K H a xs) (q2:Qp X.K H b ys) (r1:Qf X.K H ds xs) (r2:Qf X.K H es ys) :
  SeqAt.RcAt A s (.ref a) (.ref b) (QG ds es)/\SeqAt.RcNeAt A s (.ref a) (.ref b) (!QG ds es):=by
 have Vt:A.units < cLine:=by omega
 obtain ⟨us,v1,p1,_⟩:=I.list q1;obtain ⟨ws,v2,p2,_⟩:=I.list q2;have e1:us.toArray.size=ds.length:=by rw [M9,<- v1.length,r1.length]
 have e2:ws.toArray.size=es.length:=by rw [M9,<- v2.length,r2.length]
 have hi:=oK (X:=X) (H:=H) (s:=s) (A:=A.in1) n (λd e x y u w k1 k2 k3 k4 k5 k6 k7=>sv I n A.in1 d e x y u w (by rw [mr];omega) k1 k2 k3 k4 k5 k6 k7) hn h1 h2 r1 r2 v1 v2;by_cases hl:ds.length=es.length
 ·have hsz:us.toArray.size=ws.toArray.size:=by rw [e1,e2,hl]
  have p:=SeqAt.RcAt.lists p1.isList p2.isList hsz Vt hi;have p':=SeqAt.RcNeAt.lists p1.isList p2.isList hsz Vt hi;rw [e1,uz hl] at p p';exact ⟨p,p'⟩
 ·have hsz:(us.toArray.size != ws.toArray.size)=true:=by rw [e1,e2];simpa using hl
  have z:QG ds es=false:=by
   rw [<- jd];have:(ds.length == es.length)=false:=by simpa using hl
   rw [this,NL]
  rw [z];exact ⟨SeqAt.RcAt.lists_lengths p1.isList p2.isList hsz Vt,SeqAt.RcNeAt.lists_lengths p1.isList p2.isList hsz Vt⟩
end
section
variable {X:Cx} {k:Nat}
noncomputable def DI (K:W.Frag) (neg:Bool):R2:=λx y H Q=>∃ d e,Dat K H d x/\Dat K H e y/\Rr d=true/\Rr e=true/\fD d<=20/\Q (.bl (if neg then !Qs d e else Qs d e)) H
theorem BA (hr:QM k X.A):So X (compareOp .Eq) (DI X.K false):=by
 intro pins s σ H x y v u Q I rx ry h;obtain ⟨d,e,q1,q2,h1,h2,hn,q⟩:=h;have hu:X.A.units+19+2 < cLine:=by have:=hr.un;omega
 exact (G0 I 19 X.A d e x y v u hu (by omega) h1 h2 q1 q2 rx ry).1 _ _ _ _ ⟨.bl _,H,I,rfl,q⟩
theorem BD (hr:QM k X.A):So X (compareOp .NotEq) (DI X.K true):=by
 intro pins s σ H x y v u Q I rx ry h;obtain ⟨d,e,q1,q2,h1,h2,hn,q⟩:=h;have hu:X.A.units+19+2 < cLine:=by have:=hr.un;omega
 exact (G0 I 19 X.A d e x y v u hu (by omega) h1 h2 q1 q2 rx ry).2 _ _ _ _ ⟨.bl _,H,I,rfl,q⟩
noncomputable def FX (K:W.Frag) (neg:Bool):R2:=λx y H Q=>∃ a b xs ys ds es,x=.ref a/\y=.ref b/\Qp K H a xs/\Qp K H b ys/\Qf K H ds xs/\Qf K H es ys/\QB ds=true/\QB es=true/\Ql ds<=20/\Q (.bl (if neg then !QG ds es else QG ds es)) H
theorem BB (hr:QM k X.A):So X (compareOp .Eq) (FX X.K false):=by
 intro pins s σ H x y v u Q I rx ry h;obtain ⟨a,b,xs,ys,ds,es,ex,ey,q1,q2,r1,r2,h1,h2,hn,q⟩:=h;subst ex ey;cases rx;cases ry;have hu:X.A.units+20+2 < cLine:=by have:=hr.un;omega
 exact (G7 I 20 X.A ds es a b xs ys hu hn h1 h2 q1 q2 r1 r2).1 _ _ _ _ ⟨.bl _,H,I,rfl,q⟩
theorem FH (hr:QM k X.A):So X (compareOp .NotEq) (FX X.K true):=by
 intro pins s σ H x y v u Q I rx ry h;obtain ⟨a,b,xs,ys,ds,es,ex,ey,q1,q2,r1,r2,h1,h2,hn,q⟩:=h;subst ex ey;cases rx;cases ry;have hu:X.A.units+20+2 < cLine:=by have:=hr.un;omega
 exact (G7 I 20 X.A ds es a b xs ys hu hn h1 h2 q1 q2 r1 r2).2 _ _ _ _ ⟨.bl _,H,I,rfl,q⟩
noncomputable def XS:D->String
 | .Qj=>"NoneType"
 | .bl _=>"bool"
 | .int _=>"int"
 | .str _=>"str"
 | .tup _=>"tuple"
 | .lst=>"list"
noncomputable def nI (d:D) (T:String):Bool:=XS d == T || (XS d == "bool" && T == "int")
theorem fC {T:String} (hk:∀ d:D,W.kitOne X.K (.type (XS d)) (.type T)=some (nI d T)) :
  iu X (.builtin "isinstance") (λxs H Q=>∃ x d,xs=[x,.ty T]/\Dat X.K H d x/\Q (.bl (nI d T)) H):=by
 intro pins s σ H xs us Q I r h;obtain ⟨x,d,e,q,h⟩:=h;subst e;obtain ⟨u,c,e,ru,rc⟩:=Hn r;subst e;cases (show c=Value.type T from rc);have fin:∀ tk,EP X pins σ Q (.bool (nI d T)) { s with toks:=tk }:=λtk=>⟨.bl _,H,I.tok tk,rfl,h⟩
 have kd:=hk d
 cases d with
 | Qj=>have z:=q.SA;subst z;cases ru;exact P5 W.kitx_none I.TU True.intro kd (λz=>nomatch z) fin
 | bl b=>have z:=q.Tp;subst z;cases ru;exact P5 W.kitx_bool I.TU True.intro kd (λz=>nomatch z) fin
 | int i=>have z:=q.Qk;subst z;obtain ⟨t,rfl⟩:=ru;exact P5 W.kitx_int I.TU True.intro kd (λz=>nomatch z) fin
 | str y=>have z:=q.Qy;subst z;obtain ⟨t,rfl⟩:=ru;exact P5 W.kitx_str I.TU True.intro kd (λz=>nomatch z) fin
 | tup ds =>obtain ⟨a,vs,z,sq,_⟩:=q.Qw;subst z;cases ru;obtain ⟨its,_,⟨o,e1,e2,_⟩,_⟩:=I.tuple sq;exact P5 W.kitx_tuple I.TU ⟨o,e1,e2⟩ kd (λz=>nomatch z) fin
 | lst =>obtain ⟨a,vs,z,sq⟩:=q.V8;subst z;cases ru;obtain ⟨its,_,⟨o,_,e1,e2,_⟩,_⟩:=I.list sq;exact P5 W.kitx_list I.TU ⟨o,e1,e2⟩ kd (λz=>nomatch z) fin
end
noncomputable def jB (K:W.Frag) (a:Addr) (T:List (Str × KTD.Dat)):Prop:=∀ h:Heap,K.In h->KTD.TextTab h a T
section
variable {X:Cx}
theorem lK:So X (compareOp .In) (λx y H Q=>∃ k a T,x=.str k/\y=.ref a/\jB X.K a T/\Q (.bl (KTD.inKeys k T)) H):=by intro pins s σ H x y v u Q I rx ry h;obtain ⟨k,a,T,ex,ey,t,q⟩:=h;subst ex ey;obtain ⟨tk,rfl⟩:=rx;cases ry;exact KTD.in_text (h₀:=s.heap) ⟨t _ I.TU,λ_ _ e=>e⟩ ⟨.bl _,H,I.tok _,rfl,q⟩
noncomputable def BS (K:W.Frag):R2:=λx y H Q=>∃ a k T i,x=.ref a/\y=.str k/\jB K a T/\(T.all λp=>KTD.plain p.2)=true/\KTD.datumAt k T=some (.flat (.int i))/\Q (.int i) H
theorem Bd:Zf X (BS X.K):=by
 intro value slice pins s σ H x y v u Q I rx ry h hs;obtain ⟨a,k,T,i,ex,ey,t,hp,hd,q⟩:=h;subst ex ey;obtain ⟨tk,rfl⟩:=ry;cases rx;have hm:KTD.inKeys k T=true:=by rw [<- KTD.isSome_datumAt,hd];rfl
 refine KTD.item_textA (h₀:=s.heap) ⟨t _ I.TU,λ_ _ e=>e⟩ hp hm ?_ hs
 exact each T hd λv hv=>by obtain ⟨t',rfl⟩:=PyProof.V.Flat.int_inv hv;exact ⟨.int i,H,I.tok _,⟨t',rfl⟩,q⟩
where
 each {h:Heap} {k:Str} {P:Value->Prop} {i:Int}:∀ (T:List (Str × KTD.Dat)),KTD.datumAt k T=some (.flat (.int i))->(∀ v,PyProof.V.Flat v (.int i)->P v)->KTD.EachL h k P T
  | [],hd,_=>by simp [KTD.datumAt] at hd
  | (x,d)::T,hd,hP=>by
   have hd':(if decide (k=x)=true then some d else KTD.datumAt k T)=some (.flat (.int i)):=hd
   by_cases hx:k=x
   ·rw [MW (M5 hx)] at hd'
    cases hd'
    refine KTD.eachL_hit hx ?_
    exact opened hP
   ·rw [MR (by simp [hx])] at hd'
    exact KTD.eachL_miss hx (each T hd' hP)
 opened {h:Heap} {P:Value->Prop} {i:Int} (hP:∀ v,PyProof.V.Flat v (.int i)->P v):KTD.Opened h P (.flat (.int i)):=by
  first
   | exact KTD.opened_int λt=>hP _ (PyProof.V.Flat.int i t)
   | exact λt=>hP _ (PyProof.V.Flat.int i t)
end
section
variable {K:W.Frag} {H H' H2:Hp}
variable {a:Addr} {xs:List V}
theorem Qh.VW (e:Qh H H') (h:QH K H a xs):QH K H' a xs:=by
 rcases h with (h | ⟨o,h⟩) | h
 ·exact .inl (.inl (e _ _ h))
 ·exact .inl (.inr ⟨o,e _ _ h⟩)
 ·exact .inr h
theorem Qh.grow (e:Qh H H'):gW K H H':=⟨λ_ _ h=>e.VW h,λ_ xs h=>⟨xs,e.seq h⟩⟩
theorem Qh.dat {d:D} {v:V} (e:Qh H H') (h:Dat K H d v):Dat K H' d v:=Dat.mono e.grow d h
theorem Qh.Qu {ds:List D} {vs:List V} (e:Qh H H') (h:Qf K H ds vs):Qf K H' ds vs:=Qf.mono e.grow ds h
theorem aV {p:Addr} (h:H p=none) (o:HO):Qh H (upd H p o):=λb u q=>by rw [aR (aQ q h)];exact q
noncomputable def QY (t:Addr) (H H':Hp):Prop:=∀ b o,b≠t->H b=some o->H' b=some o
variable {t:Addr}
theorem Qh.but (e:Qh H H'):QY t H H':=λb o _ h=>e b o h
theorem QY.trans (a:QY t H H') (b:QY t H' H2):QY t H H2:=λc o n h=>b c o n (a c o n h)
theorem QY.upd {o:HO} (a:QY t H H'):QY t H (upd H' t o):=λb u n h=>by rw [aR n];exact a b u n h
variable {zs:List V}
theorem QY.VW (e:QY t H H') (ht:H t=some (.lst zs)) (h:QH K H a xs):QH K H' a xs:=by
 rcases h with (h | ⟨o,h⟩) | h
 ·exact .inl (.inl (e _ _ (λz=>by rw [z,ht] at h;cases h) h))
 ·exact .inl (.inr ⟨o,e _ _ (λz=>by rw [z,ht] at h;cases h) h⟩)
 ·exact .inr h
theorem QY.UI (e:QY t H H') (n:a≠t) (h:Qp K H a xs):Qp K H' a xs:=by
 rcases h with (h | ⟨o,h⟩) | h
 ·exact .inl (.inl (e _ _ n h))
 ·exact .inl (.inr ⟨o,e _ _ n h⟩)
 ·exact .inr h
theorem QY.grow {zs':List V} (e:QY t H H') (ht:H t=some (.lst zs)) (ht':H' t=some (.lst zs')):gW K H H' :=
 ⟨λ_ _ h=>e.VW ht h,λa xs h=>by
  by_cases n:a=t
  ·subst n;exact ⟨zs',Qp.of ht'⟩
  ·exact ⟨xs,e.UI n h⟩⟩
end
section
variable {K:W.Frag}
theorem A8 (d:D):W.kitOne K (.type (XS d)) (.type "int")=some (nI d "int"):=by cases d <;> rfl
theorem C8 (d:D):W.kitOne K (.type (XS d)) (.type "bool")=some (nI d "bool"):=by cases d <;> rfl
theorem A9 (d:D):W.kitOne K (.type (XS d)) (.type "str")=some (nI d "str"):=by cases d <;> rfl
theorem lD (d:D):W.kitOne K (.type (XS d)) (.type "tuple")=some (nI d "tuple"):=by cases d <;> rfl
theorem ya (d:D):W.kitOne K (.type (XS d)) (.type "list")=some (nI d "list"):=by cases d <;> rfl
end
noncomputable def QF (K:W.Frag) (R:List D->D->Prop):Sp:=λvs H Q _=>∃ ds d,Qf K H ds vs/\R ds d/\∀ v H',Qh H H'->Dat K H' d v->Q v H'
noncomputable def lZ (K:W.Frag) (R:List D->List D->Prop):Sp:=λvs H Q _=>∃ ds es,Qf K H ds vs/\R ds es/\∀ r us H',Qh H H'->H' r=some (.lst us)->H r=none->Qf K H' es us->Q (.ref r) H'
variable {vs:List V}
theorem ia {a:D} (h:Qf K H [a] vs):∃ u,vs=[u]/\Dat K H a u:=by obtain ⟨u,r,e,h1,h⟩:=h.QN;have z:=h.Us;subst z e;exact ⟨u,rfl,h1⟩
theorem gb {a b:D} (h:Qf K H [a,b] vs):∃ u v,vs=[u,v]/\Dat K H a u/\Dat K H b v:=by obtain ⟨u,r,e,h1,h⟩:=h.QN;obtain ⟨v,q,h2⟩:=ia h;subst q e;exact ⟨u,v,rfl,h1,h2⟩
theorem oI {a b c:D} (h:Qf K H [a,b,c] vs):∃ u v w,vs=[u,v,w]/\Dat K H a u/\Dat K H b v/\Dat K H c w:=by obtain ⟨u,r,e,h1,h⟩:=h.QN;obtain ⟨v,w,q,h2⟩:=gb h;subst q e;exact ⟨u,v,w,rfl,h1,h2⟩
variable {σ:St} {j:Nat}
theorem lY {z:Option V} {x:Option V}:(σ.set j z).set j x=σ.set j x:=by rw [List.set_set]
variable {J:It} {item:Nat->V} {te:TE} {σ0:St} {Q:VK}
theorem oG (Ok:Hp->Prop)
  (go:∀ i H',Ok H'->i < n->J.go i H'/\∀ x Q0,J.VC i H' x Q0->Q0=H'/\x=item i) (stop:∀ H',Ok H'->J.stop n H') (h0:σ0.set j none=σ0)
  (D:Addr) (Pn:Nat->Hp->Prop) (p0:Pn 0 (upd H1 D (.lst []))) (ok:∀ i H',i<=n->Pn i H'->Ok H')
  (turn:∀ i H',i < n->Pn i H'->te (σ0.set j (some (item i))) H' λv H4=>∃ ys,H4 D=some (.lst ys)/\ys.length < sizeLine/\(∃ z,σ0.set j (some (item i))=σ0.set j z)/\Pn (i+1) (upd H4 D (.lst (ys++[v]))))
  (fin:∀ H',Pn n H'->Q (.ref D) H') :
  ∃ W:Nat->Nat->St->Hp->Prop,(∃ m,W 0 m σ0 (upd H1 D (.lst [])))/\∀ i m σ' H',W i m σ' H' ->
   (J.stop i H'/\Q (.ref D) H') \/
   (J.go i H'/\∃ Nx:St->Hp->Prop,(∀ σ'' Q0,Nx σ'' Q0->∃ m',m' < m/\W (i+1) m' σ'' Q0)/\∀ x Q0,J.VC i H' x Q0->d6 j x σ' Q0 λσ2 H2=>hU σ2 H2 λb H3 =>
    if b=true then te σ2 H3 λv H4=>∃ ys,H4 D=some (.lst ys)/\ys.length < sizeLine/\Nx σ2 (upd H4 D (.lst (ys++[v]))) else Nx σ2 H3):=by
 refine ⟨λi m σ' H'=>m=n - i/\i<=n/\(∃ z,σ'=σ0.set j z)/\Pn i H',⟨n,by omega,NW _,⟨none,h0.symm⟩,p0⟩,?_⟩;rintro i m σ' H' ⟨rfl,hi,⟨z,rfl⟩,p⟩;have o:=ok i H' hi p;by_cases hlt:i < n
 ·obtain ⟨g,y⟩:=go i H' o hlt;refine .inr ⟨g,λσ'' Q0=>(∃ z,σ''=σ0.set j z)/\Pn (i+1) Q0,λσ'' Q0 q=>⟨n - (i+1),by omega,rfl,hlt,q.1,q.2⟩,λx Q0 yx=>?_⟩;obtain ⟨e1,e2⟩:=y x Q0 yx;subst e1 e2;simp only [d6,hU,O6,lY];exact turn i _ hlt p
 ·have e:i=n:=by omega
  subst e;exact .inl ⟨stop H' o,fin H' p⟩
theorem Fo (i:Nat) (H':Hp) (h:QH K H' a xs) (hi:i < xs.length):(Yd K a).go i H'/\∀ x Q0,(Yd K a).VC i H' x Q0->Q0=H'/\x=xs.getD i .Qj:=by refine ⟨⟨xs,xs[i],h,MT hi⟩,λx Q0 y=>⟨y.1,?_⟩⟩;have q:=y.2 xs h;rw [Nt,q];rfl
theorem sC (i:Nat) (H':Hp) (h:Qp K H' a xs) (hi:i < xs.length):(XN K a).go i H'/\∀ x Q0,(XN K a).VC i H' x Q0->Q0=H'/\x=xs.getD i .Qj:=by refine ⟨⟨xs,xs[i],h,MT hi⟩,λx Q0 y=>⟨y.1,?_⟩⟩;have q:=y.2 xs h;rw [Nt,q];rfl
theorem Fm (i:Nat) (H':Hp) (hi:i < n):(XO 0 n).go i H'/\∀ x Q0,(XO 0 n).VC i H' x Q0->Q0=H'/\x=.int i:=by refine ⟨hi,λx Q0 y=>⟨y.1,?_⟩⟩;have q:=y.2;rw [q];simp
section
variable {X:Cx}
noncomputable def GT (K:W.Frag):V->V->Hp->VK->Prop:=λo i H Q=>∃ p xs k v,o=.ref p/\i=.int k/\0<=k/\Qp K H p xs/\xs[k.toNat]?=some v/\Q v H
theorem A5:Gv X (GT X.K):=by intro pins s σ H o i ov iv Q I r1 r2 h;obtain ⟨p,xs,k,v,eo,ei,h0,hq,he,q⟩:=h;subst eo ei;cases r1;obtain ⟨t,rfl⟩:=r2;obtain ⟨its,r,pl,hz⟩:=I.list hq;obtain ⟨w,ew,rw'⟩:=r.get he;have hl:=r.length;have hlt:k.toNat < xs.length:=(Nu.mp he).1;have hn:=kN;exact wpAny_getItem_list pl.isList h0 (by omega) (by simpa using ew) ⟨v,H,I,rw',q⟩
theorem Du:So X (binaryOp .Mult) (rI IntMulOk λi j=>.int (i * j)):=Zc λ_ _ _ _ _ _ _ hc q=>mul_int q hc
end
theorem yd (h:j < n):Wn n (j:Int)=some j:=by unfold Wn;rw [MW (by omega),MW (by omega)];simp
theorem at0 {α:Type} {x:α} {r:List α}:WB (x::r) 0=some x:=i7 (j:=0) rfl
theorem Z4 {α:Type} {x y:α} {r:List α}:WB (x::y::r) 1=some y:=i7 (j:=1) rfl
theorem at2 {α:Type} {x y z:α} {r:List α}:WB (x::y::z::r) 2=some z:=i7 (j:=2) rfl
theorem ix0:Wn (n+1) 0=some 0:=yd (j:=0) (by omega)
theorem ix1:Wn (n+2) 1=some 1:=yd (j:=1) (by omega)
theorem gm:∀ ns:List Int,Qf K H (ns.map D.int) (ns.map V.int)
 | []=>Qf.nil
 | n::ns=>Qf.cons (Dat.Qm n) (gm ns)
theorem mE:∀ ns:List Int,QB (ns.map D.int)=true
 | []=>by unfold QB;rfl
 | n::ns=>by show QB (D.int n::ns.map D.int)=true;unfold QB;rw [mE ns];unfold Rr;rfl
theorem m8:∀ ns:List Int,Ql (ns.map D.int)=0
 | []=>by unfold Ql;rfl
 | n::ns=>by show Ql (D.int n::ns.map D.int)=0;unfold Ql;rw [m8 ns];unfold fD;rfl
theorem oM (ns:List Int):QG (ns.map D.int) []=ns.isEmpty:=by
 cases ns with
 | nil=>unfold QG;rfl
 | cons n ns=>show QG (D.int n::ns.map D.int) []=false;unfold QG;rfl
theorem d8 (h:n<=1000):n<=sizeLine:=Og (dH h)
noncomputable def WK (K:W.Frag) (H:Hp) (a:Addr) (ns:List Int):Prop:=(∃ o,H a=some (.WQ o (.lst (ns.map V.int)))) \/
 ∃ (o:Obj) (its:Array Value) (n:Nat),K.lookup a=some o/\o.cls=.type "list"/\o.dict=none/\o.data=.seq its n/\its.size<=sizeLine/\Vals (ns.map V.int) its.toList
theorem WK.UI (h:WK K H a ns):Qp K H a (ns.map V.int):=by
 rcases h with ⟨o,h⟩ | h
 ·exact .inl (.inr ⟨o,h⟩)
 ·exact .inr h
theorem WK.but {t:Addr} {zs:List V} (h:WK K H a ns) (e:QY t H H') (ht:H t=some (.lst zs)):WK K H' a ns:=by
 rcases h with ⟨o,h⟩ | h
 ·exact .inl ⟨o,e _ _ (λz=>by rw [z,ht] at h;cases h) h⟩
 ·exact .inr h
theorem WK.same (h:WK K H a ns) (e:Qh H H'):WK K H' a ns:=by
 rcases h with ⟨o,h⟩ | h
 ·exact .inl ⟨o,e _ _ h⟩
 ·exact .inr h
theorem Gd (hO:CD H) (h:Qp K H a (ns.map V.int)):WK K H a ns:=by
 rcases h with (h | ⟨o,h⟩) | h
 ·rcases hO a with z | ⟨o,xs,z⟩
  ·rw [h] at z;cases z
  ·rw [h] at z;cases z
 ·exact .inl ⟨o,h⟩
 ·exact .inr h
noncomputable def xj (K:W.Frag):Sp:=λvs H Q _=>∃ (a t:Addr) (ns:List Int) (m p q:Int) (rest:List V),vs=[.ref a,.ref t,.int m]/\WK K H a ns/\H t=some (.lst (.int p::.int q::rest))/\0<=p/\0 < m/\m<=1000000 /\
 ∀ (r:Int) (H':Hp) (p' q':Int),QY t H H'->H' t=some (.lst (.int p'::.int q'::rest))->0<=p'->0<=r->r < m->Q (.int r) H'
noncomputable def RE (K:W.Frag) (t:TE) (σ:St) (H:Hp) (d:D):Prop:=∀ H1,Qh H H1->∀ Q:VK,(∀ v H',Qh H1 H'->Dat K H' d v->Q v H')->t σ H1 Q
noncomputable def RT (t:TT) (σ:St) (H:Hp) (b:Bool):Prop:=∀ H1,Qh H H1->∀ Q:Bool->Hp->Prop,(∀ H',Qh H1 H'->Q b H')->t σ H1 Q
noncomputable def RA (K:W.Frag) (t:TA) (σ:St) (H:Hp) (ds:List D):Prop:=∀ H1,Qh H H1->∀ Q:List V->Hp->Prop,(∀ vs H',Qh H1 H'->Qf K H' ds vs->Q vs H')->t σ H1 Q
section
variable {K:W.Frag} {σ:St} {H H':Hp} {d d':D} {ds:List D} {t u ta tb:TE} {tt uu:TT} {tA:TA} {i j:Int} {b c:Bool}
theorem RE.mono (h:RE K t σ H d) (e:Qh H H'):RE K t σ H' d:=λH1 s Q q=>h H1 (e.trans s) Q q
theorem RA.mono (h:RA K tA σ H ds) (e:Qh H H'):RA K tA σ H' ds:=λH1 s Q q=>h H1 (e.trans s) Q q
theorem RE.as (h:RE K t σ H d) (e:d=d'):RE K t σ H d':=e ▸ h
theorem RT.as (h:RT tt σ H b) (e:b=c):RT tt σ H c:=e ▸ h
theorem RE.use {Q:VK} (h:RE K t σ H d) (q:∀ v H',Qh H H'->Dat K H' d v->Q v H'):t σ H Q:=h H (Qh.refl H) Q q
theorem RT.use {Q:Bool->Hp->Prop} (h:RT tt σ H b) (q:∀ H',Qh H H'->Q b H'):tt σ H Q:=h H (Qh.refl H) Q q
theorem RA.use {Q:List V->Hp->Prop} (h:RA K tA σ H ds) (q:∀ vs H',Qh H H'->Qf K H' ds vs->Q vs H'):tA σ H Q:=h H (Qh.refl H) Q q
theorem aG:RE K (tC (.int i)) σ H (.int i):=λH1 _ Q q=>q _ _ (Qh.refl _) (Dat.Qm i)
variable {x:Str}
theorem aZ:RE K (tC (.str x)) σ H (.str x):=λH1 _ Q q=>q _ _ (Qh.refl _) (Dat.RK x)
theorem fM:RE K (tC (.bl b)) σ H (.bl b):=λH1 _ Q q=>q _ _ (Qh.refl _) (Dat.To b)
theorem B4:RE K (tC .Qj) σ H .Qj:=λH1 _ Q q=>q _ _ (Qh.refl _) Dat.VM
theorem aA {k:Nat} {v:V} (h:Dat K H d v) (e:σ[k]?=some (some v):=by rfl):RE K (fB k) σ H d:=λH1 s Q q=>⟨v,e,q _ _ (Qh.refl _) (s.dat h)⟩
theorem aP:RA K eI σ H []:=λH1 _ Q q=>q _ _ (Qh.refl _) Qf.nil
theorem aD (h:RE K t σ H d) (r:RA K tA σ H ds):RA K (cC t tA) σ H (d::ds):=λH1 s Q q =>
 h H1 s _ λv H2 s2 q2=>r H2 (s.trans s2) _ λvs H3 s3 q3=>q _ _ (s2.trans s3) (Qf.cons (s3.dat q2) q3)
theorem bY (h:RA K tA σ H ds) (hl:ds.length<=1000:=by simp):RE K (Cn tA) σ H (.tup ds):=λH1 s Q q =>
 h H1 s _ λvs H2 s2 q2=>⟨by rw [<- q2.length];exact d8 hl,λp hp=>q _ _ (s2.trans (aV hp _)) (Dat.tupI (QH.of aI) ((aV hp _).Qu q2))⟩
theorem EB {g:Int->Int} (h:RE K t σ H (.int i)):RE K (tUn (rU λi=>.int (g i)) t) σ H (.int (g i)):=λH1 s Q q =>
 h H1 s _ λv H2 s2 q2=>⟨i,q2.Qk,q _ _ s2 (Dat.Qm _)⟩
variable {g:Int->Int->V}
theorem wX (h1:RE K ta σ H (.int i)) (h2:RE K tb σ H (.int j)) (hd:∀ H,Dat K H d (g i j)):RE K (S5 (Wl g) ta tb) σ H d:=λH1 s Q q =>
 h1 H1 s _ λv H2 s2 q2=>h2 H2 (s.trans s2) _ λw H3 s3 q3=>⟨i,j,q2.Qk,q3.Qk,q _ _ (s2.trans s3) (hd _)⟩
theorem wY {C:Int->Int->Prop} (h1:RE K ta σ H (.int i)) (h2:RE K tb σ H (.int j)) (hc:C i j) (hd:∀ H,Dat K H d (g i j)):RE K (S5 (rI C g) ta tb) σ H d:=λH1 s Q q =>
 h1 H1 s _ λv H2 s2 q2=>h2 H2 (s.trans s2) _ λw H3 s3 q3=>⟨i,j,q2.Qk,q3.Qk,hc,q _ _ (s2.trans s3) (hd _)⟩
theorem dO (h1:RE K ta σ H (.int i)) (h2:RE K tb σ H (.int j)):RE K (S5 (Wl λi j=>.int (i+j)) ta tb) σ H (.int (i+j)):=wX h1 h2 λ_=>Dat.Qm _
theorem kS (h1:RE K ta σ H (.int i)) (h2:RE K tb σ H (.int j)):RE K (S5 (Wl λi j=>.int (i - j)) ta tb) σ H (.int (i - j)):=wX h1 h2 λ_=>Dat.Qm _
variable {p:Int->Int->Bool}
theorem d9 (h1:RE K ta σ H (.int i)) (h2:RE K tb σ H (.int j)):RE K (S5 (Wl λi j=>.bl (p i j)) ta tb) σ H (.bl (p i j)):=wX h1 h2 λ_=>Dat.To _
theorem iR (h1:RE K ta σ H (.int i)) (h2:RE K tb σ H (.int j)):RE K (S5 rEq ta tb) σ H (.bl (decide (i=j))):=λH1 s Q q =>
 h1 H1 s _ λv H2 s2 q2=>h2 H2 (s.trans s2) _ λw H3 s3 q3=>by
  rw [q2.Qk,q3.Qk];refine ⟨rfl,?_⟩;have e:decide (V.int i=V.int j)=decide (i=j):=by by_cases z:i=j <;> simp [z]
  rw [e];exact q _ _ (s2.trans s3) (Dat.To _)
theorem jl (h1:RE K ta σ H (.int i)) (h2:RE K tb σ H (.int j)):RE K (S5 ZY ta tb) σ H (.bl (!decide (i=j))):=λH1 s Q q =>
 h1 H1 s _ λv H2 s2 q2=>h2 H2 (s.trans s2) _ λw H3 s3 q3=>by
  rw [q2.Qk,q3.Qk];refine ⟨rfl,?_⟩;have e:decide (V.int i=V.int j)=decide (i=j):=by by_cases z:i=j <;> simp [z]
  rw [e];exact q _ _ (s2.trans s3) (Dat.To _)
theorem bI {y:Str} (h1:RE K ta σ H (.str x)) (h2:RE K tb σ H (.str y)):RE K (S5 rEq ta tb) σ H (.bl (decide (x=y))):=λH1 s Q q =>
 h1 H1 s _ λv H2 s2 q2=>h2 H2 (s.trans s2) _ λw H3 s3 q3=>by
  rw [q2.Qy,q3.Qy];refine ⟨rfl,?_⟩;have e:decide (V.str x=V.str y)=decide (x=y):=by by_cases z:x=y <;> simp [z]
  rw [e];exact q _ _ (s2.trans s3) (Dat.To _)
theorem a6 {k:Nat} (h1:RE K ta σ H (.tup ds)) (h2:RE K tb σ H (.int k)) (e:ds[k]?=some d):RE K (S5 (vh K) ta tb) σ H d:=λH1 s Q q =>
 h1 H1 s _ λv H2 s2 q2=>h2 H2 (s.trans s2) _ λw H3 s3 q3=>by obtain ⟨a,vs,ev,hq,hd⟩:=(s3.dat q2).Qw;obtain ⟨x,ex,hx⟩:=hd.get e;exact ⟨a,vs,k,x,ev,q3.Qk,hq,i7 ex,q _ _ (s2.trans s3) hx⟩
theorem eU (h:RE K t σ H (.tup ds)):RE K (Vd (λxs H Q=>∃ p ys,xs=[.ref p]/\(Qp K H p ys\/QH K H p ys)/\Q (.int ys.length) H) (cC t eI)) σ H (.int ds.length):=λH1 s Q q =>
 h H1 s _ λv H2 s2 q2=>by obtain ⟨a,vs,ev,hq,hd⟩:=q2.Qw;subst ev;refine ⟨a,vs,rfl,.inr hq,?_⟩;rw [<- hd.length];exact q _ _ s2 (Dat.Qm _)
theorem cX {T:String} (h:RE K t σ H d):RE K (Vd (λxs H Q=>∃ x d,xs=[x,.ty T]/\Dat K H d x/\Q (.bl (nI d T)) H) (cC t (cC (tC (.ty T)) eI))) σ H (.bl (nI d T)):=λH1 s Q q =>
 h H1 s _ λv H2 s2 q2=>⟨v,d,rfl,q2,q _ _ s2 (Dat.To _)⟩
theorem bF {R:List D->D->Prop} {E:XK} (h:RA K tA σ H ds) (e:R ds d):RE K (jV (QF K R) [] E tA) σ H d:=λH1 s Q q =>
 h H1 s _ λvs H2 s2 q2=>⟨ds,d,by rw [Np];exact q2,e,λv H3 s3 q3=>q _ _ (s2.trans s3) q3⟩
variable {a:Addr} {T:List (Str × KTD.Dat)}
theorem g8 {k:Str} (h:RE K t σ H (.str k)) (ht:jB K a T):RE K (S5 (λx y H Q=>∃ k a T,x=.str k/\y=.ref a/\jB K a T/\Q (.bl (KTD.inKeys k T)) H) t (tC (.ref a))) σ H (.bl (KTD.inKeys k T)):=λH1 s Q q =>
 h H1 s _ λv H2 s2 q2=>⟨k,a,T,q2.Qy,rfl,ht,q _ _ s2 (Dat.To _)⟩
theorem vj {k:Str} (h:RE K t σ H (.str k)) (ht:jB K a T) (hp:(T.all λp=>KTD.plain p.2)=true) (e:KTD.datumAt k T=some (.flat (.int i))):RE K (S5 (BS K) (tC (.ref a)) t) σ H (.int i):=λH1 s Q q =>
 h H1 s _ λv H2 s2 q2=>⟨a,k,T,i,rfl,q2.Qy,ht,hp,e,q _ _ s2 (Dat.Qm _)⟩
theorem Ha {n:Nat}:HT.Rw (n+1) 0 (some 1)=1:=by have:=HT.Vb (n+1) 0 1;simpa using this
theorem Hu (v:V) (r:List V):qu (v::r) (some 1) none=r:=by unfold qu;rw [Nd,Ha,HT.WV];simp
theorem j8 (h:RE K t σ H (.tup (d'::ds))):RE K (ZZ (FZ K) t (rR (tC (.int 1))) yM) σ H (.tup ds):=λH1 s Q q =>
 h H1 s _ λv H2 s2 q2=>by
  obtain ⟨a,vs,ev,hq,hd⟩:=q2.Qw;obtain ⟨w,r,er,h1,h2⟩:=hd.QN;subst ev er;refine ⟨1,rfl,a,w::r,rfl,hq,λz=>?_,λp hp=>?_⟩
  ·rw [Nd,Ha] at z;exact absurd z.1 (by decide)
  ·rw [Hu];exact q _ _ (s2.trans (aV hp _)) (Dat.tupI (QH.of aI) ((aV hp _).Qu h2))
theorem eF (h1:RE K ta σ H (.bl b)) (h2:b=true->RE K tb σ H (.bl c)):RE K (Cj ta tb) σ H (.bl (b && c)):=λH1 s Q q =>
 h1 H1 s _ λv H2 s2 q2=>⟨b,q2.Tp,by
  cases b with
  | true=>rw [MW rfl];exact h2 rfl H2 (s.trans s2) _ λw H3 s3 q3=>q _ _ (s2.trans s3) q3
  | false=>rw [MR MY];exact q _ _ s2 (Dat.To _)⟩
theorem vn (h1:RE K ta σ H (.bl b)) (h2:b=false->RE K tb σ H (.bl c)):RE K (Hi ta tb) σ H (.bl (b || c)):=λH1 s Q q =>
 h1 H1 s _ λv H2 s2 q2=>⟨b,q2.Tp,by
  cases b with
  | true=>rw [MW rfl];exact q _ _ s2 (Dat.To _)
  | false=>rw [MR MY];exact h2 rfl H2 (s.trans s2) _ λw H3 s3 q3=>q _ _ (s2.trans s3) q3⟩
theorem B5 (h:RE K t σ H (.bl b)):RE K (EK t) σ H (.bl (!b)):=λH1 s Q q =>
 h H1 s _ λv H2 s2 q2=>⟨b,q2.Tp,q _ _ s2 (Dat.To _)⟩
theorem jO {r:Int->Int->Bool} {k:Int} {tc:TE} (h1:RE K ta σ H (.int i)) (h2:RE K tb σ H (.int j)) (h3:p i j=true->RE K tc σ H (.int k)) :
  RE K (t9 (Wl λi j=>.bl (p i j)) (Wl λi j=>.bl (r i j)) ta tb tc) σ H (.bl (p i j && r j k)):=λH1 s Q q =>
 h1 H1 s _ λv H2 s2 q2=>h2 H2 (s.trans s2) _ λw H3 s3 q3=>by
  refine ⟨i,j,q2.Qk,q3.Qk,p i j,rfl,?_⟩
  cases hp:p i j with
  | true =>simp only [O6,O5];exact h3 hp H3 (s.trans (s2.trans s3)) _ λz H4 s4 q4=>⟨j,k,q3.Qk,q4.Qk,q _ _ (s2.trans (s3.trans s4)) (by rw [hp];exact Dat.To _)⟩
  | false =>simp only [P4,Qa,OL];exact q _ _ (s2.trans s3) (by rw [hp];exact Dat.To _)
theorem kx (h:RT tt σ H b) (h1:b=true->RE K ta σ H d) (h2:b=false->RE K tb σ H d):RE K (tIf tt ta tb) σ H d:=λH1 s Q q =>
 h H1 s _ λH2 s2=>by
  cases b with
  | true=>rw [MW rfl];exact h1 rfl H2 (s.trans s2) _ λw H3 s3 q3=>q _ _ (s2.trans s3) q3
  | false=>rw [MR MY];exact h2 rfl H2 (s.trans s2) _ λw H3 s3 q3=>q _ _ (s2.trans s3) q3
theorem aK (h:RE K t σ H (.bl b)):RT (Cm t) σ H b:=λH1 s Q q=>h H1 s _ λv H2 s2 q2=>⟨b,q2.Tp,q _ s2⟩
theorem bL (h:RE K t σ H (.bl b)):RT (λσ H Q=>t σ H λx H'=>∃ k,vR K x H' k/\Q k H') σ H b:=λH1 s Q q=>h H1 s _ λv H2 s2 q2=>by rw [q2.Tp];exact ⟨b,rfl,q _ s2⟩
theorem bS (h:RT tt σ H b):RT (Gk tt) σ H (!b):=λH1 s Q q=>h H1 s _ λH2 s2=>q _ s2
theorem eR (h:RT tt σ H b) (h2:b=false->RT uu σ H c):RT (tOr tt uu) σ H (b || c):=λH1 s Q q=>h H1 s _ λH2 s2=>by
 cases b with
 | true=>rw [MW rfl];exact q _ s2
 | false=>rw [MR MY];exact h2 rfl H2 (s.trans s2) _ λH3 s3=>q _ (s2.trans s3)
variable {En:i5}
theorem bB (h:RE K t σ H d) (q:∀ v H',Qh H H'->Dat K H' d v->En.rt v H'):Gm t En σ H:=h.use q
theorem B8 {k:Nat} (h:RE K t σ H d) (q:∀ v H',Qh H H'->Dat K H' d v->En.nx (σ.set k (some v)) H'):pZ t (d6 k) En σ H:=h.use q
theorem g9 {ts us:TS} (h:RT tt σ H b) (h1:b=true->∀ H',Qh H H'->ts En σ H') (h2:b=false->∀ H',Qh H H'->us En σ H'):Eb tt ts us En σ H:=h.use λH' s=>by
 cases b with
 | true=>rw [MW rfl];exact h1 rfl H' s
 | false=>rw [MR MY];exact h2 rfl H' s
end
theorem bV:bootBuiltins "len"=some (.builtin "len"):=by decide +kernel
theorem cO:bootBuiltins "isinstance"=some (.builtin "isinstance"):=by decide +kernel
theorem kJ:bootBuiltins "all"=some (.builtin "all"):=by decide +kernel
theorem E5:bootBuiltins "any"=some (.builtin "any"):=by decide +kernel
theorem AF:bootBuiltins "sum"=some (.builtin "sum"):=by decide +kernel
theorem E6:bootBuiltins "min"=some (.builtin "min"):=by decide +kernel
theorem AC:bootBuiltins "int"=some (.type "int"):=by decide +kernel
theorem CN:bootBuiltins "bool"=some (.type "bool"):=by decide +kernel
theorem AE:bootBuiltins "str"=some (.type "str"):=by decide +kernel
theorem f9:bootBuiltins "tuple"=some (.type "tuple"):=by decide +kernel
theorem lj:bootBuiltins "list"=some (.type "list"):=by decide +kernel
theorem AD:bootBuiltins "range"=some (.type "range"):=by decide +kernel
theorem E7:bootBuiltins "set"=some (.type "set"):=by decide +kernel
theorem E8:bootBuiltins "zip"=some (.type "zip"):=by decide +kernel
theorem m4:bootBuiltins "reversed"=some (.type "reversed"):=by decide +kernel
variable {tA:TA} {ds:List D}
theorem wZ (h:RA K tA σ H ds) (q:∀ p vs H1,Qh H H1->H1 p=none->Qf K H1 ds vs->Q (.ref p) (upd H1 p (.lst vs))) (hl:ds.length<=1000:=by simp):vE tA σ H Q :=
 h.use λvs H1 s1 q1=>⟨by rw [<- q1.length];exact d8 hl,λp hp=>q p vs H1 s1 hp q1⟩
theorem iW {K:PySem.W.Frag} (go:∀ i H',Qh H1 H'->i < n->J.go i H'/\∀ x Q0,J.VC i H' x Q0->Q0=H'/\x=item i) (stop:∀ H',Qh H1 H'->J.stop n H')
  (h0:σ0.set j none=σ0) (es:List D) (hn:es.length=n) (hb:n<=1000) (turn:∀ i d,es[i]?=some d->RE K te (σ0.set j (some (item i))) H1 d)
  (fin:∀ l ys H',H1 l=none->Qh H1 H'->H' l=some (.lst ys)->Qf K H' es ys->Q (.ref l) H') (l:Addr) (hl:H1 l=none) :
  ∃ W:Nat->Nat->St->Hp->Prop,(∃ m,W 0 m σ0 (upd H1 l (.lst [])))/\∀ i m σ' H',W i m σ' H' ->
   (J.stop i H'/\Q (.ref l) H') \/
   (J.go i H'/\∃ Nx:St->Hp->Prop,(∀ σ'' Q0,Nx σ'' Q0->∃ m',m' < m/\W (i+1) m' σ'' Q0)/\∀ x Q0,J.VC i H' x Q0->d6 j x σ' Q0 λσ2 H2=>hU σ2 H2 λb H3 =>
    if b=true then te σ2 H3 λv H4=>∃ ys,H4 l=some (.lst ys)/\ys.length < sizeLine/\Nx σ2 (upd H4 l (.lst (ys++[v]))) else Nx σ2 H3):=by
 refine oG (λH'=>Qh H1 H') go stop h0 l (λi H'=>Qh H1 H'/\∃ ys,H' l=some (.lst ys)/\Qf K H' (es.take i) ys) ?_ ?_ ?_ ?_
 ·exact ⟨aV hl _,[],aI,by rw [Ow];exact Qf.nil⟩
 ·intro i H' _ p;exact p.1
 ·intro i H' hi ⟨s1,ys,hy,hd⟩;have hi':i < es.length:=by omega
  refine ((turn i es[i] (MT hi')).mono s1).use λv H4 s4 q4=>?_;have VX:=s4 _ _ hy;have lys:ys.length=i:=by rw [<- hd.length,NI];omega
  refine ⟨ys,VX,dH (by omega),⟨_,rfl⟩,λb o hb=>?_,ys++[v],aI,?_⟩
  ·rw [aR (aQ hb hl)];exact s4 _ _ (s1 _ _ hb)
  ·have g:gW K H4 (upd H4 l (.lst (ys++[v]))):=QY.grow (t:=l) (QY.upd (Qh.refl H4).but) VX aI;rw [NR,MT hi'];exact Qf.append (Qf.mono g _ (s4.Qu hd)) (Qf.cons (Dat.mono g _ q4) Qf.nil)
 ·intro H' ⟨s1,ys,hy,hd⟩;rw [OX (by omega)] at hd;exact fin l ys H' hl s1 hy hd
variable {tt:TT} {En:i5} {ts us:TS}
theorem aO {K:W.Frag} {b:Bool} (h:RT tt σ H b) (h1:b=true->∀ H',Qh H H'->ts { En with nx:=us En } σ H') (h2:b=false->∀ H',Qh H H'->us En σ H'):l8 (Eb tt ts yL) us En σ H :=
 g9 h h1 h2
variable {d:D}
theorem dR {t:TE} {k:Nat} (h:RE K t σ H d) (q:∀ v H',Qh H H'->Dat K H' d v->us En (σ.set k (some v)) H'):l8 (pZ t (d6 k)) us En σ H:=h.use q
theorem fw {k:Nat} (h:te σ H λx H1=>us En (σ.set k (some x)) H1):l8 (pZ te (d6 k)) us En σ H:=h
theorem gC (h:te σ H λ_ H1=>us En σ H1):l8 (vD te) us En σ H:=h
variable {v:V}
theorem B9 (h:Q v H):tC v σ H Q:=h
theorem jr (h:te σ H En.rt):Gm te En σ H:=h
theorem eA (h:ts { En with nx:=us En } σ H):l8 ts us En σ H:=h
variable {mk:St->St}
theorem mO {tl:TE} {cs:List D} (h:RE K tl σ H (.tup cs)) (hc:cs.length<=1000) (es:List D) (hl:es.length=cs.length) (h0:(mk σ).set j none=mk σ)
  (turn:∀ H1 (i:Nat) c v d,Qh H H1->cs[i]?=some c->es[i]?=some d->Dat K H1 c v->RE K te ((mk σ).set j (some v)) H1 d)
  (fin:∀ l ys H',H l=none->Qh H H'->H' l=some (.lst ys)->Qf K H' es ys->Q (.ref l) H'):iM (C9 K tl) mk (d6 j) hU te σ H Q:=by
 refine h.use λv4 H4 s4 q4=>?_;obtain ⟨a,vs,e,hq,hd⟩:=q4.Qw;subst e;have l4:=hd.length;refine ⟨a,rfl,⟨vs,hq⟩,?_⟩;refine iW (K:=K) (Q:=Q) (n:=vs.length) (item:=λi=>vs.getD i .Qj) (λi H' s hi=>Fo i H' (s.VW hq) hi) (λH' s=>⟨vs,s.VW hq,M0 _⟩) h0 es (by omega) (by omega) (λi d hi=>?_) (λl ys H5 WL s5=>fin l ys H5 (s4.free WL) (s4.trans s5));have hi':i < es.length:=(Nu.mp hi).1;have hic:i < cs.length:=by omega
 obtain ⟨vz,ez,hz⟩:=hd.get (MT hic);have q:=turn H4 i cs[i] vz d s4 (MT hic) hi hz;rw [Nt,ez];exact q
theorem iJ {Q:St->Hp->Prop} (h:Q (σ.set j (some v)) H):d6 j v σ H Q:=h
theorem yE (M:St->Hp->Prop) (hr:∀ σ' H',M σ' H'->us En σ' H') (h:(∀ σ' H',M σ' H'->us En σ' H')->ts { En with nx:=us En } σ H):l8 ts us En σ H:=h hr
theorem gx {base:Heap} {k:Nat} {f:Addr} {ps:List Str} (no:∀ vs H Q E,¬ sp vs H Q E):QE P w K mg base CX k f fd ps sp :=
 ⟨λvs H Q E h=>absurd h (no vs H Q E),λA outer s H args us vs Q E _ _ _ _ h=>absurd h (no vs H Q E)⟩
theorem pK (n:Nat) (h:∀ R:List V->Hp->Prop,R [.int n] H->tA σ H R) (hc:n<=1000) (h0:(mk σ).set j none=mk σ) (Pn:Addr->Nat->Hp->Prop)
  (p0:∀ l,H l=none->Pn l 0 (upd H l (.lst [])))
  (turn:∀ l i G,H l=none->i < n->Pn l i G->te ((mk σ).set j (some (.int i))) G λv H4=>∃ ys,H4 l=some (.lst ys)/\ys.length < sizeLine/\(∃ z,(mk σ).set j (some (.int i))=(mk σ).set j z)/\Pn l (i+1) (upd H4 l (.lst (ys++[v]))))
  (fin:∀ l G,H l=none->Pn l n G->Q (.ref l) G):iM (Eo tA) mk (d6 j) hU te σ H Q:=by
 refine h _ ⟨n,rfl,by omega,by omega,λl hl=>?_⟩;rw [Pg];exact oG (λ_=>True) (item:=λi=>.int i) (λi H' _ hi=>Fm i H' hi) (λH' _=>M0 _) h0 l (Pn l) (p0 l hl) (λ_ _ _ _=>trivial) (λi G hi p=>turn l i G hl hi p) (λG p=>fin l G hl p)
theorem iD {ta:TE} {r:List V->Hp->VK->Prop} (h:ta σ H λx H1=>r [x] H1 Q):Vd r (cC ta eI) σ H Q:=h
theorem iL {i:Nat} {e:D} (h:RE K te σ H (.tup [d,e])) (q:∀ v w H',Qh H H'->Dat K H' d v->Dat K H' e w->us En ((σ.set i (some v)).set j (some w)) H') :
  l8 (pZ te (zj K 2 (jG (d6 i) (jG (d6 j) AZ)))) us En σ H :=
 h.use λx H1 s1 q1=>by obtain ⟨a,vs,e1,hq,hd⟩:=q1.Qw;obtain ⟨v,w,e2,hv,hw⟩:=gb hd;subst e1 e2;exact ⟨a,_,rfl,hq,rfl,v,_,rfl,w,_,rfl,rfl,q v w H1 s1 hv hw⟩
noncomputable def Ep:Expr->Bool
 | .Starred ..=>false
 | _=>true
variable {e:Expr} {es:List Expr}
theorem zZ (h:Ep e=true):starEach (e::es) env=(false,eval e env)::starEach es env:=by cases e <;> first | rfl | cases h
variable {t:TA}
theorem aF (ha:PE X e te) (hr:PA X es t) (h:Ep e=true:=by rfl):PA X (e::es) (cC te t):=cZ ha hr (zZ h)
theorem qg {bs:List Bool} {us:List Value}:Vals (bs.map V.bl) us->us=bs.map Value.bool:=by
 intro h
 induction bs generalizing us with
 | nil=>cases h;rfl
 | cons b bs ih =>
  cases h with
  | cons r t=>cases r;rw [ih t];rfl
theorem BZ (bs:List Bool) (d:Bool):(List.range bs.length).map (λi=>(bs[i]?).getD d)=bs:=by
 apply List.ext_getElem
 ·simp
 ·intro i h1 h2;simp at h1;simp [h1]
section
variable {X:Cx}
theorem iy (hc:X.calm=true):iu X (.builtin "all") (λxs H Q=>∃ (l:Addr) (bs:List Bool),xs=[.ref l]/\Qp X.K H l (bs.map V.bl)/\Q (.bl (bs.all id)) H):=by
 intro pins s σ H xs us Q I r h;obtain ⟨l,bs,rfl,hq,q⟩:=h;obtain ⟨u,rfl,ru⟩:=ie r;cases ru;obtain ⟨its,rv,p,hz⟩:=I.list hq;have ei:=qg rv;have hl:=p.isList;have hlt:l < s.heap.objs.size:=by obtain ⟨_,e,_⟩:=hl;exact Ni e
 refine call_all_walk (Pf hl ?_)
 refine ⟨s.heap.objs.size,[s.heap.objs.size,l],[s.heap.objs.size],its.toArray.size,_,_,λi=>(bs[i]?).getD true,rfl,Walks.list (A:=X.A.in1) (I.ok.hd hc) _ l (ND hlt) its.toArray,
  ⟨⟨_,Nr _ rfl,rfl,rfl⟩,hl.push _⟩,λi v s' Q' E' hP hQ=>?_,λh' tk hk=>?_⟩
 ·subst ei;have WX:(bs.map Value.bool)[i]?=some v:=by simpa using hP
  rw [MZ] at WX
  cases hb:bs[i]? with
  | none=>rw [hb] at WX;cases WX
  | some b =>rw [hb] at WX;cases WX;simp only [hb,Option.getD_some] at hQ;exact N3 hQ
 ·have e:((List.range its.toArray.size).all λi=>(bs[i]?).getD true)=bs.all id:=by
   subst ei;rw [M9,tB]
   conv=>rhs;rw [<- BZ bs true]
   rw [List.all_map];rfl
  rw [e];exact ⟨.bl _,H,I.kept (t':=tk) λb x e=>hk b x (λhm=>by rw [Nf.mp hm] at e;exact Oh _ (Ni e)) (MU _ e),rfl,q⟩
theorem AJ (hc:X.calm=true):iu X (.builtin "any") (λxs H Q=>∃ (l:Addr) (bs:List Bool),xs=[.ref l]/\Qp X.K H l (bs.map V.bl)/\Q (.bl (bs.any id)) H):=by
 intro pins s σ H xs us Q I r h;obtain ⟨l,bs,rfl,hq,q⟩:=h;obtain ⟨u,rfl,ru⟩:=ie r;cases ru;obtain ⟨its,rv,p,hz⟩:=I.list hq;have ei:=qg rv;have hl:=p.isList;have hlt:l < s.heap.objs.size:=by obtain ⟨_,e,_⟩:=hl;exact Ni e
 refine call_any_walk (Pf hl ?_)
 refine ⟨s.heap.objs.size,[s.heap.objs.size,l],[s.heap.objs.size],its.toArray.size,_,_,λi=>(bs[i]?).getD false,rfl,Walks.list (A:=X.A.in1) (I.ok.hd hc) _ l (ND hlt) its.toArray,
  ⟨⟨_,Nr _ rfl,rfl,rfl⟩,hl.push _⟩,λi v s' Q' E' hP hQ=>?_,λh' tk hk=>?_⟩
 ·subst ei;have WX:(bs.map Value.bool)[i]?=some v:=by simpa using hP
  rw [MZ] at WX
  cases hb:bs[i]? with
  | none=>rw [hb] at WX;cases WX
  | some b =>rw [hb] at WX;cases WX;simp only [hb,Option.getD_some] at hQ;exact N3 hQ
 ·have e:((List.range its.toArray.size).any λi=>(bs[i]?).getD false)=bs.any id:=by
   subst ei;rw [M9,tB]
   conv=>rhs;rw [<- BZ bs false]
   rw [List.any_map];rfl
  rw [e];exact ⟨.bl _,H,I.kept (t':=tk) λb x e=>hk b x (λhm=>by rw [Nf.mp hm] at e;exact Oh _ (Ni e)) (MU _ e),rfl,q⟩
end
structure Ym (K:W.Frag) (x qual:Str) (st:Stmt) (f:Addr) (fd:FuncData) (T:Addr) (ds:List Value):Prop where
 ex:∃ (oc:Value) (od:Option Addr) (kV doc pm:Value) (an:Option Addr) (cdv ct:Value) (osl:Array (Option Value)),
  fd=W.fnOf x qual (cW st) (cM st) (aJ st) (.ref T) kV doc pm an cdv ct/\K.lookup f=some ⟨oc,od,.func fd,osl⟩/\W.codeIn K cdv qual=true
 kp:W.keepIn K (.ref f)=true
 df:∃ (o:Obj) (n:Nat),K.lookup T=some o/\o.data=.seq ds.toArray n
section
variable {P:Program} {w:World} {K:W.Frag} {mg:Str->Option Value} {base:Heap}
theorem Ym.ok {x qual:Str} {st:Stmt} {f T:Addr} {fd:FuncData} {ds:List Value} {N ps:List Str} {k:Nat} {sp:Sp} (F:Ym K x qual st f fd T ds) (S:Qi N ps (aJ st)) (len:∀ vs H Q E,sp vs H Q E->vs.length=ps.length)
  (hbody:∀ (cdv:Value) (A:Around) (outer:List Env) (s:Shared) (H:Hp) (vs:List V) (Q:VK) (E:XK),QM k (A.deeper (envOfC qual (aJ st) s.heap.objs.size f cdv))->sp vs H Q E ->
   ∃ t,V4 (vX Ur P w K mg base N qual (aJ st) f cdv A outer s H E).YI (cM st) t/\t { nx:=λ_ H'=>Q .Qj H',rt:=Q } (start N vs) H):QE P w K mg base Ur (k+1) f fd ps sp:=by
 obtain ⟨oc,od,kV,doc,pm,an,cdv,ct,osl,rfl,lk,hcd⟩:=F.ex;refine Em lk hcd S len λA outer s H vs Q E hr Xj=>?_;obtain ⟨t,h,q⟩:=hbody cdv A outer s H vs Q E hr Xj;exact ⟨t,h.YI,q⟩
end
section
variable {K:W.Frag} {σ:St} {H H':Hp} {d d':D} {ds:List D} {t u ta tb:TE} {tt uu:TT} {tA:TA} {i j:Int} {b c:Bool}
theorem iS (h1:RE K ta σ H (.int i)) (h2:RE K tb σ H (.int j)) (hj:0 < j):RE K (S5 (rI (λ_ j=>0 < j) λi j=>.int (i % j)) ta tb) σ H (.int (i % j)):=wY h1 h2 hj λ_=>Dat.Qm _
theorem wV (h1:RE K ta σ H (.int i)) (h2:RE K tb σ H (.int j)) (hc:WU i j):RE K (S5 (rI WU λi j=>.int (i * j)) ta tb) σ H (.int (i * j)):=wY h1 h2 hc λ_=>Dat.Qm _
theorem tM (h1:RE K ta σ H (.int i)) (h2:RE K tb σ H (.int j)) (hc:CC i j):RE K (S5 (rI CC λi j=>.int (i / j)) ta tb) σ H (.int (i / j)):=wY h1 h2 hc λ_=>Dat.Qm _
theorem xN:∀ {bs:List Bool} {vs:List V},Qf K H (bs.map D.bl) vs->vs=bs.map V.bl
 | [],vs,h=>by rw [Qf.Us h];rfl
 | b::bs,vs,h=>by obtain ⟨v,r,e,h1,h2⟩:=h.QN;rw [e,h1.Tp,xN h2];rfl
theorem wU {te tl:TE} {mk:St->St} {jj:Nat} {cs:List D} (h:RE K tl σ H (.tup cs)) (hc:cs.length<=1000) (bs:List Bool) (hl:bs.length=cs.length) (h0:(mk σ).set jj none=mk σ)
  (turn:∀ H1 (i:Nat) c v b,Qh H H1->cs[i]?=some c->bs[i]?=some b->Dat K H1 c v->RE K te ((mk σ).set jj (some v)) H1 (.bl b)) :
  RE K (Vd (λxs H Q=>∃ (l:Addr) (bs:List Bool),xs=[.ref l]/\Qp K H l (bs.map V.bl)/\Q (.bl (bs.all id)) H) (cC (iM (C9 K tl) mk (d6 jj) hU te) eI)) σ H (.bl (bs.all id)):=λH1 s Q q =>
 iD (mO (K:=K) (h.mono s) hc (bs.map D.bl) (by rw [tB,hl]) h0 (λH2 i c v d s2 hc2 hd2 hv=>by
  rw [MZ] at hd2
  cases hb:bs[i]? with
  | none=>rw [hb] at hd2;cases hd2
  | some b=>rw [hb] at hd2;cases hd2;exact turn H2 i c v b (s.trans s2) hc2 hb hv) (λl ys H' hl' s' hy hd=>by
  have e:=xN hd;subst e;exact ⟨l,bs,rfl,Qp.of hy,q _ _ s' (Dat.To _)⟩))
theorem xP:∀ {xs:List Str} {vs:List V},Qf K H (xs.map D.str) vs->vs=xs.map V.str
 | [],vs,h=>by rw [Qf.Us h];rfl
 | x::xs,vs,h=>by obtain ⟨v,r,e,h1,h2⟩:=h.QN;rw [e,h1.Qy,xP h2];rfl
theorem CT (x y:Str):Xk (.str x) (.str y)=decide (x=y):=by unfold Xk;by_cases h:x=y <;> simp [h]
theorem sE (x:Str):∀ ys:List Str,XQ (.str x) (ys.map V.str)=decide (x ∈ ys)
 | []=>by simp [XQ]
 | y::ys=>by
  have ih:=sE x ys;unfold XQ at ih ⊢;rw [Nb,Oi,ih,CT];by_cases h:y=x
  ·subst h;simp
  ·have h':¬ x=y:=λz=>h z.symm;simp [h,h']
theorem qX (ys:List Str):(ys.map V.str).all ko=true:=by rw [N6];intro v hv;obtain ⟨y,_,rfl⟩:=N4.mp hv;rfl
variable {x:Str} {ys:List Str}
theorem pL (h1:RE K ta σ H (.str x)) (h2:RE K tb σ H (.tup (ys.map D.str))):RE K (S5 (YL K false) ta tb) σ H (.bl (decide (x ∈ ys))):=λH1 s Q q =>
 h1 H1 s _ λv H2 s2 q2=>h2 H2 (s.trans s2) _ λw H3 s3 q3=>by obtain ⟨a,vs,ev,hq,hd⟩:=q3.Qw;have e:=xP hd;subst e;rw [q2.Qy];refine ⟨a,_,ev,.inr hq,rfl,qX ys,?_⟩;rw [sE];exact q _ _ (s2.trans s3) (Dat.To _)
theorem zU (h1:RE K ta σ H (.str x)) (h2:RE K tb σ H (.tup (ys.map D.str))):RE K (S5 (YL K true) ta tb) σ H (.bl (!decide (x ∈ ys))):=λH1 s Q q =>
 h1 H1 s _ λv H2 s2 q2=>h2 H2 (s.trans s2) _ λw H3 s3 q3=>by obtain ⟨a,vs,ev,hq,hd⟩:=q3.Qw;have e:=xP hd;subst e;rw [q2.Qy];refine ⟨a,_,ev,.inr hq,rfl,qX ys,?_⟩;rw [sE];exact q _ _ (s2.trans s3) (Dat.To _)
theorem wW {y:Str} (h1:RE K ta σ H (.str x)) (h2:RE K tb σ H (.str y)):RE K (S5 ZY ta tb) σ H (.bl (!decide (x=y))):=λH1 s Q q =>
 h1 H1 s _ λv H2 s2 q2=>h2 H2 (s.trans s2) _ λw H3 s3 q3=>by
  rw [q2.Qy,q3.Qy];refine ⟨rfl,?_⟩;have e:decide (V.str x=V.str y)=decide (x=y):=by by_cases z:x=y <;> simp [z]
  rw [e];exact q _ _ (s2.trans s3) (Dat.To _)
end
section
variable {X:Cx}
theorem yv {body:List Stmt} {t:TS} {h:ExceptHandler} {hs:List ExceptHandler} {pos:Pos} (hb:V4 X body t) (hx:X.xe=(λ_ _=>False):=by rfl):PS X (.Try body (h::hs) [] [] pos) t:=by
 intro pins s σ H D I q;have w:=hb pins s σ H D I q;rw [hx] at w;refine wpAny_Try_except (O2 w (λf s1 hf=>?_) λe s1 z=>z.elim)
 cases f with
 | next =>obtain ⟨σ',H',I',q'⟩:=hf;exact aM pins s1 σ' H' D I' q'
 | ret u=>exact hf
 | brk=>exact hf
 | cont=>exact hf
theorem BC:So X (compareOp .LtE) (λx y H Q=>∃ i j:Str,x=.str i/\y=.str j/\Q (.bl (!decide (j.cps.toList < i.cps.toList))) H):=by intro pins s σ H x y v u Q I rx ry h;obtain ⟨i,j,rfl,rfl,q⟩:=h;obtain ⟨t,rfl⟩:=rx;obtain ⟨t',rfl⟩:=ry;refine PySem.P.le_str ?_;exact ⟨.bl _,H,I,rfl,q⟩
noncomputable def Its (x:Str):It:=⟨λi _=>i < x.cps.size,λi H v H'=>H'=H/\∃ c,x.cps[i]?=some c/\v=.str ⟨#[c]⟩,λi _=>i=x.cps.size⟩
theorem rS {P:Program} {w:World} {K:PySem.W.Frag} {tg:Expr} {it:Addr} {n:String} {x:Str} {t:Tok} (hn:["enumerate","zip","dict_itemiterator","dict_reverseitemiterator","odict_iterator","itertools.zip_longest","itertools.pairwise"].contains n=false)
  (W:∀ A:Around,A.handled=none->Walks P w A it [it] [it] x.cps.size (SignAt x) (λi h=>h.IsStrIter it n x t i))
  (self:∀ (A:Around) (i:Nat) (s:Shared) (Q:Value->Shared->Prop) (E:Value->Shared->Prop),s.heap.IsStrIter it n x t i->Q (.ref it) s->wpAny (model P w) A (pyIter (.ref it)) Q E s) :
  oo P w K tg (Its x) [it] it (λi h=>h.IsStrIter it n x t i) where
 mem:=by simp
 obj:=λi h st b hb=>by
  have e:b=it:=by simpa using hb
  subst e;obtain ⟨o,e,c,d⟩:=st;exact ⟨o,e,λv z=>by rw [d] at z;cases z⟩
 keep:=λi h h' st k=>by obtain ⟨o,e,r⟩:=st;exact ⟨o,k it (by simp) o e,r⟩
 item:=by intro X hP hw hK hc i pins s σ H E I hf st hg;subst hP hw hK;obtain ⟨f0,f1,f2,f3,f4,f5⟩:=hf it (by simp);refine (W X.A (I.ok.hd hc)).item i s _ _ hg st λv h' tk hv st' kk=>?_;obtain ⟨c,u,hx,rfl⟩:=hv;have I1:Inv X pins σ H { s with heap:=h',toks:=tk }:=I.turned (λb o hb e=>kk b o (by simpa using hb) e) f0 f1 f3 f4 f5;obtain ⟨o,e,cc,d⟩:=id st';exact ⟨_,rfl,qZ (s:={ s with heap:=h',toks:=tk }) e cc d hn ⟨.str ⟨#[c]⟩,H,I1,⟨u,rfl⟩,⟨rfl,c,hx,rfl⟩,st',λb hb=>(hf b hb).1⟩⟩
 done:=by intro X hP hw hK hc i pins s σ H E I hf st hg;subst hP hw hK;obtain ⟨f0,f1,f2,f3,f4,f5⟩:=hf it (by simp);have hg':i=x.cps.size:=hg;subst hg';exact (W X.A (I.ok.hd hc)).done s _ _ st λh' tk eb=>⟨rfl,I.turned (λb o hb e=>eb b o (by simpa using hb) e) f0 f1 f3 f4 f5⟩
 self:=self
variable {tg:Expr}
noncomputable def GJ (tl:TE):TI:=λσ H R=>tl σ H λv H1=>∃ x,v=.str x/\R (Its x) H1
theorem FS {l:Expr} {tl:TE} (hl:PE X l tl):PI X tg l (GJ tl):=by
 intro pins s σ H R I h;refine Qt (hl pins s σ H _ I h) λv s1 ⟨xv,H1,I1,r1,q1⟩=>?_;obtain ⟨x,e,q⟩:=q1;subst e;obtain ⟨t,rfl⟩:=r1
 have fin:∀ (o:Obj) (n:String),oo X.prog X.w X.K tg (Its x) [s1.heap.objs.size] s1.heap.objs.size (λi h=>h.IsStrIter s1.heap.objs.size n x t i)->(s1.heap.push o).IsStrIter s1.heap.objs.size n x t 0->PIE X pins σ tg R (.ref s1.heap.objs.size) { s1 with heap:=s1.heap.push o }:=by
  intro o n T st;refine ⟨s1.heap.objs.size,[s1.heap.objs.size],_,_,H1,rfl,I1.kept (t':=s1.toks) λb o e=>MU _ e,T,st,λb hb=>?_,q⟩;have e:b=s1.heap.objs.size:=by simpa using hb
  subst e;exact I1.VR (M0 _) (I1.hok.fresh (M0 _))
 cases ha:x.cps.all (· < 128)
 ·exact wpAny_pyIter_wide ha (fin _ "str_iterator" (rS (by decide) (λA hA=>Walks.strWide hA _ x t) λA i s Q E st q=>wpAny_pyIter_striter_wide st q) ⟨_,Nr _ rfl,rfl,rfl⟩)
 ·exact wpAny_pyIter_ascii ha (fin _ "str_ascii_iterator" (rS (by decide) (λA hA=>Walks.strAscii hA _ x t) λA i s Q E st q=>wpAny_pyIter_striter_ascii st q) ⟨_,Nr _ rfl,rfl,rfl⟩)
theorem uY:So X (compareOp .NotIn) (λx y H Q=>∃ k a T,x=.str k/\y=.ref a/\jB X.K a T/\Q (.bl (!KTD.inKeys k T)) H):=by intro pins s σ H x y v u Q I rx ry h;obtain ⟨k,a,T,ex,ey,t,q⟩:=h;subst ex ey;obtain ⟨tk,rfl⟩:=rx;cases ry;exact KTD.notin_text (h₀:=s.heap) ⟨t _ I.TU,λ_ _ e=>e⟩ ⟨.bl _,H,I.tok _,rfl,q⟩
noncomputable def yz (K:W.Frag):R2:=λx y H Q=>∃ a k T z,x=.ref a/\y=.str k/\jB K a T/\(T.all λp=>KTD.plain p.2)=true/\KTD.datumAt k T=some (.flat (.str z))/\Q (.str z) H
theorem Dg:Zf X (yz X.K):=by
 intro value slice pins s σ H x y v u Q I rx ry h hs;obtain ⟨a,k,T,z,ex,ey,t,hp,hd,q⟩:=h;subst ex ey;obtain ⟨tk,rfl⟩:=ry;cases rx;have hm:KTD.inKeys k T=true:=by rw [<- KTD.isSome_datumAt,hd];rfl
 refine KTD.item_textA (h₀:=s.heap) ⟨t _ I.TU,λ_ _ e=>e⟩ hp hm ?_ hs;exact each T hd λt'=>⟨.str z,H,I.tok _,⟨t',rfl⟩,q⟩
where
 each {h:Heap} {k:Str} {P:Value->Prop} {z:Str}:∀ (T:List (Str × KTD.Dat)),KTD.datumAt k T=some (.flat (.str z))->(∀ t,P (.str z t))->KTD.EachL h k P T
  | [],hd,_=>by simp [KTD.datumAt] at hd
  | (x,d)::T,hd,hP=>by
   have hd':(if decide (k=x)=true then some d else KTD.datumAt k T)=some (.flat (.str z)):=hd
   by_cases hx:k=x
   ·rw [MW (M5 hx)] at hd'
    cases hd'
    exact KTD.eachL_hit hx (KTD.opened_str hP)
   ·rw [MR (by simp [hx])] at hd'
    exact KTD.eachL_miss hx (each T hd' hP)
noncomputable def yN (K:W.Frag) (td ty tx:TE):TE:=λσ H Q=>td σ H λx H1=>∃ a T,x=.ref a/\jB K a T/\ty σ H1 λy H2=>tx σ H2 λz H3=>∃ k i,y=.str k/\z=.int i/\(∀ p ∈ T,∃ j,p.2=.flat (.int j)) /\
 Q (.int (match KTD.datumAt k T with | some (.flat (.int j))=>j | _=>i)) H3
theorem rq {o e f:Expr} {apos cpos:Pos} {td ty tx:TE} (ho:PE X o td) (he:PE X e ty) (hf:PE X f tx) (m:M2 X o "get" apos e f cpos):PE X (.Call (.Attribute o "get" apos) [e,f] [] cpos) (yN X.K td ty tx):=by
 intro pins s σ H Q I h;refine wpAny_Call_method m.base m.few m.line F.plainAttrs_dict F.slot_dict_get F.type_dict_get (Qt (ho pins s σ H _ I h) λu s1 ⟨x,H1,I1,rx,a,T,ex,tk,q1⟩=>?_);subst ex;obtain rfl:u=Value.ref a:=rx;have t1:=tk _ I1.TU;obtain ⟨lo,ob,es,ep,hob,hex,hdat,hrows⟩:=id t1;refine ⟨⟨ob,hob,hex.1⟩,λb eb=>?_,?_⟩
 ·cases eb;exact ⟨ob,hob,hex.2.1⟩
 rw [m.trees]
 refine Ph rfl (Calls.evalArgs_plain (PZ (Qt (he pins s1 σ H1 _ I1 q1) λiv s2 ⟨y,H2,I2,ry,q2⟩ =>
  PZ (Qt (hf pins s2 σ H2 _ I2 q2) λfv s3 ⟨z,H3,I3,rz,k,i,ey,ez,hT,q3⟩=>Calls.spliced_nil ?_))))
 subst ey ez;obtain ⟨tok1,rfl⟩:=ry;obtain ⟨tok2,rfl⟩:=rz;refine KTD.get2_text (h₀:=s3.heap) ⟨tk _ I3.TU,λ_ _ e=>e⟩ ?_
 have fin:∀ (D:List (Str × KTD.Dat)),(∀ p ∈ D,∃ j,p.2=.flat (.int j))->Q (.int (match KTD.datumAt k D with | some (.flat (.int j))=>j | _=>i)) H3 ->
   KTD.Each s3.heap k (λv=>EP X pins σ Q v { s3 with toks:=s3.toks+1 }) (EP X pins σ Q (.int i tok2) { s3 with toks:=s3.toks+1 }) D:=by
  intro D
  induction D with
  | nil=>intro _ q;exact KTD.each_nil ⟨.int i,H3,I3.tok _,⟨_,rfl⟩,q⟩
  | cons p D ih =>
   intro hD q;obtain ⟨x,d⟩:=p;obtain ⟨j,ej⟩:=hD (x,d) NB;have ej':d=.flat (.int j):=ej;subst ej';have ed:KTD.datumAt k ((x,KTD.Dat.flat (.int j))::D)=if decide (k=x)=true then some (.flat (.int j)) else KTD.datumAt k D:=rfl;rw [ed] at q;by_cases hx:k=x
   ·rw [MW (M5 hx)] at q;exact KTD.each_hit hx (KTD.opened_int λt=>⟨.int j,H3,I3.tok _,⟨t,rfl⟩,q⟩)
   ·rw [MR (by simp [hx])] at q;exact KTD.each_miss hx (ih (λp hp=>hD p (Nj _ hp)) q)
 exact fin T hT q3
end
structure Ai (P:Program) (w:World) (K:W.Frag) (a:Addr) (ks:List Str):Prop where
 lk:∃ o,K.lookup a=some o
 tb:∀ h:Heap,K.In h->∃ D,StrTab P w h a D/\D.map (·.1)=ks.map PyData.str
noncomputable def Itk (ks:List Str):It:=⟨λi _=>i < ks.length,λi H v H'=>H'=H/\∃ k,ks[i]?=some k/\v=.str k,λi _=>i=ks.length⟩
variable {kvs:List (Str × Value)}
theorem y8 {D:List (PyData × PyData)} {ks:List Str} (h:PyProof.V.FlatPairs PyData.str kvs D) (e:D.map (·.1)=ks.map PyData.str):kvs.map (·.1)=ks:=by
 induction h generalizing ks with
 | nil =>
  cases ks with
  | nil=>rfl
  | cons k ks=>simp at e
 | cons _ _ ih =>
  cases ks with
  | nil=>simp at e
  | cons k ks =>simp only [Nb,List.cons.injEq] at e;obtain ⟨e1,e2⟩:=e;injection e1 with e1;rw [Nb,ih e2,<- e1]
variable {it:Addr}
theorem Cq {tg:Expr} {d:Addr} {ep:Nat} (hD:∀ h:Heap,K.In h->h.DictAt (strKind P w) d kvs ep) :
  oo P w K tg (Itk (kvs.map (·.1))) [it] it (λi h=>h.IsKeyIter it d i kvs.length ep) where
 mem:=by simp
 obj:=λi h st b hb=>by
  have e:b=it:=by simpa using hb
  subst e;obtain ⟨o,e,c,d⟩:=st;exact ⟨o,e,λv z=>by rw [d] at z;cases z⟩
 keep:=λi h h' st k=>by obtain ⟨o,e,r⟩:=st;exact ⟨o,k it (by simp) o e,r⟩
 item:=by
  intro X hP hw hK hc i pins s σ H E I hf st hg;subst hP hw hK;obtain ⟨f0,f1,f2,f3,f4,f5⟩:=hf it (by simp);have hi:i < kvs.length:=by have z:i < (kvs.map (·.1)).length:=hg;simpa using z
  refine wpAny_pyNext_dict_item st (hD _ I.TU) (MT hi) λkey h' hk st' sb=>?_;obtain ⟨t,rfl⟩:=Value.isStrOf_shape hk;have I1:Inv X pins σ H { s with heap:=h' }:=I.turned (t':=s.toks) (λb o hb e=>(sb.2 b hb).trans e) f0 f1 f3 f4 f5;refine ⟨_,rfl,PyProof.Rows.letGo_keyiter (s':={ s with heap:=h' }) st' ⟨.str (kvs[i]).1,H,I1,⟨t,rfl⟩,⟨rfl,(kvs[i]).1,?_,rfl⟩,st',λb hb=>(hf b hb).1⟩⟩;rw [MZ,MT hi];rfl
 done:=by
  intro X hP hw hK hc i pins s σ H E I hf st hg;subst hP hw hK;obtain ⟨f0,f1,f2,f3,f4,f5⟩:=hf it (by simp);have hi:i=kvs.length:=by have z:i=(kvs.map (·.1)).length:=hg;simpa using z
  exact wpAny_pyNext_dict_end (I.ok.hd hc) st (hD _ I.TU) (by simp [hi]) λh' eb=>⟨rfl,I.turned (t':=s.toks) (λb o hb e=>eb b o hb e) f0 f1 f3 f4 f5⟩
 self:=λA i s Q E st q=>wpAny_pyIter_keyiter st q
section
variable {X:Cx} {tg:Expr}
noncomputable def GK (P:Program) (w:World) (K:W.Frag) (tl:TE):TI:=λσ H R=>tl σ H λv H1=>∃ a ks,v=.ref a/\Ai P w K a ks/\R (Itk ks) H1
theorem FT {l:Expr} {tl:TE} (hl:PE X l tl):PI X tg l (GK X.prog X.w X.K tl):=by
 intro pins s σ H R I h;refine Qt (hl pins s σ H _ I h) λv s1 ⟨xv,H1,I1,r1,q1⟩=>?_;obtain ⟨a,ks,e,hK,q⟩:=q1;subst e;cases r1;obtain ⟨D,T,hD⟩:=hK.tb _ I1.TU;obtain ⟨o,ho⟩:=hK.lk;obtain ⟨lo,kvs,hdo,hf⟩:=T;obtain ⟨ep,hat⟩:=hdo.dictAt;have ek:=y8 hf hD;subst ek
 have hall:∀ h:Heap,X.K.In h->h.DictAt (strKind X.prog X.w) a kvs ep:=λh x=>by obtain ⟨o',es,e1,r⟩:=hat;have z:=I1.TU _ _ ho;rw [e1] at z;cases z;exact ⟨_,es,x _ _ ho,r⟩
 refine wpAny_pyIter_dict lo hat ?_;refine ⟨s1.heap.objs.size,[s1.heap.objs.size],_,_,H1,rfl,I1.kept (t':=s1.toks) λb o e=>MU _ e,Cq hall,⟨_,Nr _ rfl,rfl,rfl⟩,λb hb=>?_,q⟩;have e:b=s1.heap.objs.size:=by simpa using hb
 subst e;exact I1.VR (M0 _) (I1.hok.fresh (M0 _))
end
noncomputable def RC (K:W.Frag) (t:TE) (σ:St) (H:Hp) (es:List D):Prop:=∀ H1,Qh H H1->∀ Q:VK,(∀ l ys H',H1 l=none->Qh H1 H'->H' l=some (.lst ys)->Qf K H' es ys->Q (.ref l) H')->t σ H1 Q
section
variable {K:W.Frag} {σ:St} {H H':Hp} {d d':D} {ds es:List D} {t u ta tb te tl:TE} {tt uu:TT} {tA:TA} {i j:Int} {b c:Bool} {mk:St->St} {jj:Nat}
theorem RC.mono (h:RC K t σ H es) (e:Qh H H'):RC K t σ H' es:=λH1 s Q q=>h H1 (e.trans s) Q q
theorem RC.as (h:RC K t σ H es) (e:es=ds):RC K t σ H ds:=e ▸ h
theorem RC.use {Q:VK} (h:RC K t σ H es) (q:∀ l ys H',H l=none->Qh H H'->H' l=some (.lst ys)->Qf K H' es ys->Q (.ref l) H'):t σ H Q:=h H (Qh.refl H) Q q
theorem jk (h:RA K tA σ H es) (hl:es.length<=1000:=by simp):RC K (vE tA) σ H es:=λH1 s Q q =>
 wZ (h.mono s) (λp vs H2 s2 hp hd=>q p vs _ (s2.free hp) (s2.trans (aV hp _)) aI ((aV hp _).Qu hd)) hl
variable {cs:List D}
theorem pJ (h:RE K tl σ H (.tup cs)) (hc:cs.length<=1000) (es:List D) (hl:es.length=cs.length) (h0:(mk σ).set jj none=mk σ)
  (turn:∀ H1 (i:Nat) c v d,Qh H H1->cs[i]?=some c->es[i]?=some d->Dat K H1 c v->RE K te ((mk σ).set jj (some v)) H1 d):RC K (iM (C9 K tl) mk (d6 jj) hU te) σ H es:=λH1 s Q q =>
 mO (K:=K) (h.mono s) hc es hl h0 (λH2 i c v d s2=>turn H2 i c v d (s.trans s2)) (λl ys H2 hl s2 hy hd=>q l ys H2 hl s2 hy hd)
variable {x:Str}
theorem F2 (h:RE K tl σ H (.str x)) (hc:x.cps.size<=1000) (es:List D) (hl:es.length=x.cps.size) (h0:(mk σ).set jj none=mk σ)
  (turn:∀ H1 (i:Nat) c d,Qh H H1->x.cps[i]?=some c->es[i]?=some d->RE K te ((mk σ).set jj (some (.str ⟨#[c]⟩))) H1 d):RC K (iM (GJ tl) mk (d6 jj) hU te) σ H es:=λH1 s Q q=>by
 refine (h.mono s).use λv4 H4 s4 q4=>?_;have e:=q4.Qy;subst e;refine ⟨x,rfl,?_⟩;refine iW (K:=K) (Q:=Q) (n:=x.cps.size) (item:=λi=>.str ⟨#[x.cps.getD i 0]⟩) (λi H' s hi=>⟨hi,λv Q0 y=>⟨y.1,?_⟩⟩) (λH' s=>rfl) h0 es hl hc (λi d hi=>?_) (λl ys H5 WL s5=>q l ys H5 (s4.free WL) (s4.trans s5))
 ·obtain ⟨_,c,hc,e⟩:=y;rw [e,Array.getD_eq_getD_getElem?,hc];rfl
 ·have hi':i < es.length:=(Nu.mp hi).1
  have hc:x.cps[i]?=some (x.cps.getD i 0):=by rw [Array.getD_eq_getD_getElem?,Array.getElem?_eq_getElem (by omega)];rfl
  exact turn H4 i _ d (s.trans s4) hc hi
variable {a:Addr}
theorem F4 {P:Program} {w:World} {ks:List Str} (hK:Ai P w K a ks) (hc:ks.length<=1000) (es:List D) (hl:es.length=ks.length) (h0:(mk σ).set jj none=mk σ)
  (turn:∀ H1 (i:Nat) k d,Qh H H1->ks[i]?=some k->es[i]?=some d->RE K te ((mk σ).set jj (some (.str k))) H1 d):RC K (iM (GK P w K (tC (.ref a))) mk (d6 jj) hU te) σ H es:=λH1 s Q q=>by
 refine ⟨a,ks,rfl,hK,?_⟩;refine iW (K:=K) (Q:=Q) (n:=ks.length) (item:=λi=>.str (ks.getD i "")) (λi H' s hi=>⟨hi,λv Q0 y=>⟨y.1,?_⟩⟩) (λH' s=>rfl) h0 es hl hc (λi d hi=>?_) q
 ·obtain ⟨_,k,hk,e⟩:=y;rw [e,Nt,hk];rfl
 ·have hi':i < es.length:=(Nu.mp hi).1
  have hk:ks[i]?=some (ks.getD i ""):=by rw [Nt,MT (by omega)];rfl
  exact turn H1 i _ d s hk hi
theorem DN (h:RC K tl σ H cs) (hc:cs.length<=1000) (es:List D) (hl:es.length=cs.length) (h0:(mk σ).set jj none=mk σ)
  (turn:∀ H1 (i:Nat) c v d,Qh H H1->cs[i]?=some c->es[i]?=some d->Dat K H1 c v->RE K te ((mk σ).set jj (some v)) H1 d):RC K (iM (ra K tl) mk (d6 jj) hU te) σ H es:=λH1 s Q q=>by
 refine (h.mono s).use λl4 V2 H4 V9 s4 VX WY=>?_;have ll:=WY.length;refine ⟨l4,rfl,⟨V2,Qp.of VX⟩,?_⟩;refine iW (K:=K) (Q:=Q) (n:=V2.length) (item:=λi=>V2.getD i .Qj) (λi H' s hi=>sC i H' (Qp.of (s _ _ VX)) hi) (λH' s=>⟨V2,Qp.of (s _ _ VX),M0 _⟩) h0 es (by omega) (by omega) (λi d hi=>?_) (λl ys H5 WL s5=>q l ys H5 (s4.free WL) (s4.trans s5));have hi':i < es.length:=(Nu.mp hi).1;have hic:i < cs.length:=by omega
 obtain ⟨vz,ez,hz⟩:=WY.get (MT hic);have q:=turn H4 i cs[i] vz d (s.trans s4) (MT hic) hi hz;rw [Nt,ez];exact q
theorem lR {R:List D->List D->Prop} {E:XK} (h:RA K tA σ H ds) (e:R ds es):RC K (jV (lZ K R) [] E tA) σ H es:=λH1 s Q q =>
 h H1 s _ λvs H2 s2 q2=>⟨ds,es,by rw [Np];exact q2,e,λr us H3 s3 hr hr0 hd=>q r us H3 (s2.free hr0) (s2.trans s3) hr hd⟩
theorem j7 {bs:List Bool} (h:RC K t σ H (bs.map D.bl)):RE K (Vd (λxs H Q=>∃ (l:Addr) (bs:List Bool),xs=[.ref l]/\Qp K H l (bs.map V.bl)/\Q (.bl (bs.all id)) H) (cC t eI)) σ H (.bl (bs.all id)):=λH1 s Q q =>
 iD ((h.mono s).use λl ys H' _ s' hy hd=>⟨l,bs,rfl,by rw [<- xN hd];exact Qp.of hy,q _ _ s' (Dat.To _)⟩)
theorem DQ {bs:List Bool} (h:RC K t σ H (bs.map D.bl)):RE K (Vd (λxs H Q=>∃ (l:Addr) (bs:List Bool),xs=[.ref l]/\Qp K H l (bs.map V.bl)/\Q (.bl (bs.any id)) H) (cC t eI)) σ H (.bl (bs.any id)):=λH1 s Q q =>
 iD ((h.mono s).use λl ys H' _ s' hy hd=>⟨l,bs,rfl,by rw [<- xN hd];exact Qp.of hy,q _ _ s' (Dat.To _)⟩)
theorem rE (h:RC K t σ H es):RE K (Vd (λxs H Q=>∃ p ys,xs=[.ref p]/\((Qp K H p ys/\∀ l,H l=none->Q (.ref l) (upd H l (.tup ys)))\/(QH K H p ys/\Q (.ref p) H))) (cC t eI)) σ H (.tup es):=λH1 s Q q =>
 iD ((h.mono s).use λl ys H' _ s' hy hd=>⟨l,ys,rfl,.inl ⟨Qp.of hy,λp hp=>q _ _ (s'.trans (aV hp _)) (Dat.tupI (QH.of aI) ((aV hp _).Qu hd))⟩⟩)
theorem zV (h:RE K t σ H (.tup es)):RE K (Vd (λxs H Q=>∃ p ys,xs=[.ref p]/\((Qp K H p ys/\∀ l,H l=none->Q (.ref l) (upd H l (.tup ys)))\/(QH K H p ys/\Q (.ref p) H))) (cC t eI)) σ H (.tup es):=λH1 s Q q =>
 iD ((h.mono s).use λv H' s' hd=>by
  obtain ⟨a,vs,e,hq,hds⟩:=hd.Qw;subst e;exact ⟨a,vs,rfl,.inr ⟨hq,q _ _ s' (Dat.tupI hq hds)⟩⟩)
theorem DU (h:RC K t σ H es):RE K (Vd (λxs H Q=>∃ p ys,xs=[.ref p]/\(Qp K H p ys\/QH K H p ys)/\Q (.int ys.length) H) (cC t eI)) σ H (.int es.length):=λH1 s Q q =>
 iD ((h.mono s).use λl ys H' _ s' hy hd=>⟨l,ys,rfl,.inl (Qp.of hy),by rw [<- hd.length];exact q _ _ s' (Dat.Qm _)⟩)
theorem DV (h:RE K t σ H (.str x)) (hx:x.length<=sizeLine):RE K (Vd (λxs H Q=>∃ z:Str,xs=[.str z]/\z.length<=sizeLine/\Q (.int z.length) H) (cC t eI)) σ H (.int x.length):=λH1 s Q q =>
 iD ((h.mono s).use λv H' s' hd=>by
  rw [hd.Qy];exact ⟨x,rfl,hx,q _ _ s' (Dat.Qm _)⟩)
theorem fQ {us:TS} {En:i5} {k:Nat} (h:RC K t σ H es) (q:∀ l ys H',H l=none->Qh H H'->H' l=some (.lst ys)->Qf K H' es ys->us En (σ.set k (some (.ref l))) H'):l8 (pZ t (d6 k)) us En σ H:=h.use q
variable {z:Str}
theorem zQ {tc:TE} {y:Str} {p q':Str->Str->Bool} (h1:RE K ta σ H (.str x)) (h2:RE K tb σ H (.str y)) (h3:p x y=true->RE K tc σ H (.str z)) :
  RE K (t9 (λu v H Q=>∃ i j:Str,u=.str i/\v=.str j/\Q (.bl (p i j)) H) (λu v H Q=>∃ i j:Str,u=.str i/\v=.str j/\Q (.bl (q' i j)) H) ta tb tc) σ H (.bl (p x y && q' y z)):=λH1 s Q q =>
 h1 H1 s _ λv H2 s2 q2=>h2 H2 (s.trans s2) _ λw H3 s3 q3=>by
  refine ⟨x,y,q2.Qy,q3.Qy,p x y,rfl,?_⟩
  cases hp:p x y with
  | true =>simp only [O6,O5];exact h3 hp H3 (s.trans (s2.trans s3)) _ λz' H4 s4 q4=>⟨y,z,q3.Qy,q4.Qy,q _ _ (s2.trans (s3.trans s4)) (by rw [hp];exact Dat.To _)⟩
  | false =>simp only [P4,Qa,OL];exact q _ _ (s2.trans s3) (by rw [hp];exact Dat.To _)
variable {T:List (Str × KTD.Dat)}
theorem vk {k:Str} (h:RE K t σ H (.str k)) (ht:jB K a T):RE K (S5 (λx y H Q=>∃ k a T,x=.str k/\y=.ref a/\jB K a T/\Q (.bl (!KTD.inKeys k T)) H) t (tC (.ref a))) σ H (.bl (!KTD.inKeys k T)):=λH1 s Q q =>
 h H1 s _ λv H2 s2 q2=>⟨k,a,T,q2.Qy,rfl,ht,q _ _ s2 (Dat.To _)⟩
theorem zR {k:Str} (h:RE K t σ H (.str k)) (ht:jB K a T) (hp:(T.all λp=>KTD.plain p.2)=true) (e:KTD.datumAt k T=some (.flat (.str z))):RE K (S5 (yz K) (tC (.ref a)) t) σ H (.str z):=λH1 s Q q =>
 h H1 s _ λv H2 s2 q2=>⟨a,k,T,z,rfl,q2.Qy,ht,hp,e,q _ _ s2 (Dat.RK _)⟩
noncomputable def kl (k:Str) (T:List (Str × KTD.Dat)) (i:Int):Int:=match KTD.datumAt k T with | some (.flat (.int j))=>j | _=>i
theorem rD {k:Str} (ht:jB K a T) (h1:RE K ta σ H (.str k)) (h2:RE K tb σ H (.int i)) (hT:∀ p ∈ T,∃ j,p.2=.flat (.int j)):RE K (yN K (tC (.ref a)) ta tb) σ H (.int (kl k T i)):=λH1 s Q q =>
 ⟨a,T,rfl,ht,h1 H1 s _ λv H2 s2 q2=>h2 H2 (s.trans s2) _ λw H3 s3 q3=>⟨k,i,(s3.dat q2).Qy,q3.Qk,hT,q _ _ (s2.trans s3) (Dat.Qm _)⟩⟩
variable {lo hi:Nat}
theorem xK {vs:List V}:qu vs (some (lo:Int)) (some (hi:Int))=(vs.drop lo).take (hi - lo):=by
 unfold qu;rw [HT.Vb,HT.Vb];apply List.ext_getElem?;intro i;simp only [List.getElem?_take,List.getElem?_drop];by_cases h1:i < hi - lo
 ·rw [MW h1];by_cases h2:i < min hi vs.length - min lo vs.length
  ·rw [MW h2];congr 1;omega
  ·rw [MR h2,OD (by omega)]
 ·rw [MR h1,MR (by omega)]
theorem Qf.WZ:∀ {n:Nat} {ds:List D} {vs:List V},Qf K H ds vs->Qf K H (ds.drop n) (vs.drop n)
 | 0,_,_,h=>h
 | n+1,[],_,h=>by rw [h.Us];exact Qf.nil
 | n+1,d::ds,_,h=>by obtain ⟨v,r,e,h1,h2⟩:=h.QN;subst e;exact Qf.WZ (n:=n) h2
theorem Qf.W0:∀ {n:Nat} {ds:List D} {vs:List V},Qf K H ds vs->Qf K H (ds.take n) (vs.take n)
 | 0,_,_,h=>by rw [Ow,Ow];exact Qf.nil
 | n+1,[],_,h=>by rw [h.Us];exact Qf.nil
 | n+1,d::ds,_,h=>by obtain ⟨v,r,e,h1,h2⟩:=h.QN;subst e;exact Qf.cons h1 (Qf.W0 (n:=n) h2)
theorem F5 (h:RE K t σ H (.tup ds)) (h1:RE K ta σ H (.int lo)) (h2:RE K tb σ H (.int hi)) (hl:1<=lo) (hd:0 < ds.length):RE K (ZZ (FZ K) t (rR ta) (rR tb)) σ H (.tup ((ds.drop lo).take (hi - lo))):=λH1 s Q q =>
 h H1 s _ λv H2 s2 q2=>h1 H2 (s.trans s2) _ λv3 H3 s3 q3=>⟨lo,q3.Qk,h2 H3 (s.trans (s2.trans s3)) _ λv4 H4 s4 q4=>⟨hi,q4.Qk,by
  obtain ⟨a,vs,ev,hq,hds⟩:=((s3.trans s4).dat q2).Qw;have ll:=hds.length;refine ⟨a,vs,ev,hq,λz=>?_,λp hp=>?_⟩
  ·rw [HT.Vb] at z;omega
  ·rw [xK];exact q _ _ (s2.trans (s3.trans (s4.trans (aV hp _)))) (Dat.tupI (QH.of aI) ((aV hp _).Qu (Qf.W0 (Qf.WZ hds))))⟩⟩
end
mutual
noncomputable def gk (K:W.Frag):D->Value->Bool
 | .Qj,u=>(match u with | .none=>true | _=>false)
 | .bl b,u=>(match u with | .bool c=>b == c | _=>false)
 | .int i,u=>(match u with | .int j _=>i == j | _=>false)
 | .str x,u=>(match u with | .str y _=>x == y | _=>false)
 | .tup ds,u=>(match u with | .ref a=>(match K.lookup a with | some ⟨.type "tuple",_,.seq its _,_⟩=>decide (its.size<=1000) && UK K ds its.toList | _=>false) | _=>false)
 | .lst,_=>false
noncomputable def UK (K:W.Frag):List D->List Value->Bool
 | [],us=>us.isEmpty
 | d::ds,us=>(match us with | u::r=>gk K d u && UK K ds r | []=>false)
end
mutual
variable {K:W.Frag}
theorem m7 (H:Hp):∀ (d:D) (u:Value),gk K d u=true->∃ v,RelV v u/\Dat K H d v
 | .Qj,u,h=>by unfold gk at h;cases u <;> first | (exact ⟨.Qj,rfl,Dat.VM⟩) | cases h
 | .bl b,u,h=>by
  unfold gk at h;cases u <;> first | cases h | skip
  rename_i c;have e:b=c:=by simpa using h
  subst e;exact ⟨.bl b,rfl,Dat.To _⟩
 | .int i,u,h=>by
  unfold gk at h;cases u <;> first | cases h | skip
  rename_i j t;have e:i=j:=by simpa using h
  subst e;exact ⟨.int i,⟨t,rfl⟩,Dat.Qm _⟩
 | .str x,u,h=>by
  unfold gk at h;cases u <;> first | cases h | skip
  rename_i y t;have e:x=y:=by simpa using h
  subst e;exact ⟨.str x,⟨t,rfl⟩,Dat.RK _⟩
 | .tup ds,u,h=>by
  unfold gk at h;cases u <;> first | cases h | skip
  rename_i a;dsimp only at h;split at h
  ·rename_i od its n sl e;rw [M4] at h;obtain ⟨vs,r,hd⟩:=S6 H ds its.toList h.2;refine ⟨.ref a,rfl,Dat.tupI (.inr ⟨_,its,n,e,rfl,rfl,?_,r⟩) hd⟩;exact Nv (M1 h.1) (by decide)
  ·cases h
 | .lst,u,h=>by unfold gk at h;cases h
theorem S6 (H:Hp):∀ (ds:List D) (us:List Value),UK K ds us=true->∃ vs,Vals vs us/\Qf K H ds vs
 | [],us,h=>by
  unfold UK at h
  cases us with
  | nil=>exact ⟨[],.nil,Qf.nil⟩
  | cons u r=>cases h
 | d::ds,us,h=>by
  unfold UK at h
  cases us with
  | nil=>cases h
  | cons u r =>dsimp only at h;rw [M4] at h;obtain ⟨v,r1,h1⟩:=m7 H d u h.1;obtain ⟨vs,r2,h2⟩:=S6 H ds r h.2;exact ⟨v::vs,.cons r1 r2,Qf.cons h1 h2⟩
end
theorem Hv (h:gk K (.tup ds) (.ref a)=true) (H:Hp):Dat K H (.tup ds) (.ref a):=by obtain ⟨v,r,hd⟩:=m7 H _ _ h;obtain ⟨b,vs,e,_⟩:=id hd.Qw;subst e;have z:Value.ref a=.ref b:=r;cases z;exact hd
theorem jP (h:gk K (.tup ds) (.ref a)=true):RE K (tC (.ref a)) σ H (.tup ds):=λH1 _ Q q=>q _ _ (Qh.refl _) (Hv h H1)
section
variable {X:Cx}
theorem AK:iu X (.type "range") (λxs H Q=>∃ n:Nat,xs=[.int n]/\∀ p,H p=none->Q (.ref p) (upd H p (.WO 0 n))):=by intro pins s σ H xs us Q I r h;obtain ⟨n,rfl,q⟩:=h;obtain ⟨u,rfl,ru⟩:=ie r;obtain ⟨t,rfl⟩:=ru;refine call_range_1 ⟨.ref s.heap.objs.size,_,I.laid (λb o e=>MU _ e) (M0 _) (show QC X.prog X.w _ _ _ (.WO 0 n) from ⟨_,_,_,Nr _ rfl⟩),rfl,q _ (I.hok.fresh (M0 _))⟩
theorem Cw {n:Nat} {acc:Array Value} (h:ItemsOf (λi v=>∃ t,v=.int ((0:Int)+(i:Nat) * 1) t) acc n):Vals ((List.range n).map λi:Nat=>V.int i) acc.toList:=by
 obtain ⟨hs,hi⟩:=h
 have all:∀ (l:List Value) (k:Nat),(∀ (j:Nat) (v:Value),l[j]?=some v->∃ t,v=Value.int ((0:Int)+((k+j:Nat):Int) * 1) t)->Vals ((List.range' k l.length).map λi:Nat=>V.int i) l:=by
  intro l
  induction l with
  | nil=>intro k _;exact .nil
  | cons u l ih =>
   intro k hj;rw [Nd,List.range'_succ,Nb];refine .cons ?_ (ih (k+1) λj v e=>?_)
   ·obtain ⟨t,e⟩:=hj 0 u rfl;refine ⟨t,?_⟩;rw [e];congr 1;simp
   ·obtain ⟨t,e'⟩:=hj (j+1) v (by simpa using e);refine ⟨t,?_⟩;rw [e'];congr 1;have:k+(j+1)=k+1+j:=by omega
    rw [this]
 have q:=all acc.toList 0 λj v e=>by rw [Nat.zero_add];exact hi j v (by simpa using e)
 rw [List.range_eq_range'];rw [Ov,hs] at q;exact q
theorem qt (hc:X.calm=true):iu X (.type "list") (λxs H Q=>∃ (p:Addr) (n:Nat),xs=[.ref p]/\H p=some (.WO 0 n)/\n<=1000/\∀ l,H l=none->Q (.ref l) (upd H l (.lst ((List.range n).map λi:Nat=>V.int i)))):=by
 intro pins s σ H xs us Q I r h;obtain ⟨p,n,rfl,hp,hn,q⟩:=h;obtain ⟨u,rfl,rx⟩:=ie r;cases rx;obtain ⟨t,u,v,e⟩:=(show QC X.prog X.w H s.heap p (.WO 0 n) from I.hok p _ hp)
 refine call_list_range (n:=n) (I.ok.hd hc) (show IsRange s.heap p 0 n 1 t u v from e) (small_one (by omega) (by omega) (by omega) (by omega)) ?_ (by omega) λh' tk acc' c' kp e' hacc=>?_
 ·rw [rangeSize_one];split <;> omega
 ·have hv:=Cw hacc;have hl:=hv.length;refine ⟨.ref s.heap.objs.size,_,I.laid kp (M0 _) (show QC X.prog X.w _ h' _ (.lst _) from ⟨?_,acc'.toList,c',hv,by simpa using e'⟩),rfl,q _ (I.hok.fresh (M0 _))⟩;simp only [tB,List.length_range];exact Nv hn (by decide)
noncomputable def Gs (K:W.Frag) (a:Addr) (xs:List V):Prop:=∃ (its:Array Value) (n:Nat),K.lookup a=some ⟨.type "list",none,.seq its n,#[]⟩/\its.size<=1000/\Vals xs its.toList
noncomputable def Tq (K:W.Frag) (H:Hp) (a:Addr) (xs:List V):Prop:=H a=some (.lst xs)\/Gs K a xs
variable {H:Hp} {a:Addr} {xs:List V}
theorem Tq.UI {K:W.Frag} (h:Tq K H a xs):Qp K H a xs:=by
 rcases h with h | ⟨its,n,e,hz,r⟩
 ·exact Qp.of h
 ·exact .inr ⟨_,its,n,e,rfl,rfl,rfl,Nv hz (by decide),r⟩
theorem Tq.at {pins:List (Addr × Obj)} {σ:St} {s:Shared} (I:Inv X pins σ H s) (h:Tq X.K H a xs):∃ (its:List Value) (n:Nat),Vals xs its/\s.heap.get? a=some { cls:=.type "list",data:=.seq its.toArray n }:=by
 rcases h with h | ⟨its,n,e,hz,r⟩
 ·obtain ⟨z,its,n,r,hl,e⟩:=I.WW h;exact ⟨its,n,r,e⟩
 ·exact ⟨its.toList,n,r,by simpa using I.TU _ _ e⟩
noncomputable def Ex (K:W.Frag):R2:=λx y H Q=>∃ l b xs zs,x=.ref l/\y=.ref b/\Tq K H l xs/\Tq K H b zs/\xs.length+zs.length<=1000/\∀ p,H p=none->Q (.ref p) (upd H p (.lst (xs++zs)))
theorem j5:So X (binaryOp .Add) (Ex X.K):=by
 intro pins s σ H x y v u Q I rx ry h;obtain ⟨l,b,xs,zs,rfl,rfl,hH,hB,hz,q⟩:=h;cases rx;cases ry;obtain ⟨its,n,r,e⟩:=hH.at I;obtain ⟨its2,n2,r2,e2⟩:=hB.at I;have l1:=r.length;have l2:=r2.length;have hz':xs.length+zs.length<=sizeLine:=Nv hz (by decide);refine PySem.P.add_list e e2 ?_ (by rw [M9,M9];omega);have ea:its.toArray++its2.toArray=(its++its2).toArray:=by simp
 rw [ea];exact ⟨.ref _,_,I.lnew (t':=s.toks) (r.append r2) (by rw [MQ];omega),rfl,q _ I.fresh⟩
end
section
variable {K:W.Frag} {σ:St} {H:Hp} {t:TE} {n:Nat}
noncomputable def o8 (K:W.Frag) (ds:List D) (a:Addr):Bool:=match K.lookup a with
 | some ⟨.type "list",none,.seq its _,sl⟩=>decide (its.size<=1000) && (sl.isEmpty && UK K ds its.toList)
 | _=>false
theorem sO {K:W.Frag} {ds:List D} {a:Addr} (h:o8 K ds a=true) (H:Hp):∃ vs,Gs K a vs/\Qf K H ds vs:=by
 unfold o8 at h;split at h
 ·rename_i its n sl e;rw [M4,M4] at h;obtain ⟨vs,r,hd⟩:=S6 H ds its.toList h.2.2;have es:sl=#[]:=by simpa using h.2.1
  subst es;exact ⟨vs,⟨its,n,e,M1 h.1,r⟩,hd⟩
 ·cases h
theorem tL (h:RE K t σ H (.int n)) (hn:n<=1000):RC K (Vd (λxs H Q=>∃ (p:Addr) (n:Nat),xs=[.ref p]/\H p=some (.WO 0 n)/\n<=1000/\∀ l,H l=none->Q (.ref l) (upd H l (.lst ((List.range n).map λi:Nat=>V.int i))))
  (cC (Vd (λxs H Q=>∃ n:Nat,xs=[.int n]/\∀ p,H p=none->Q (.ref p) (upd H p (.WO 0 n))) (cC t eI)) eI)) σ H ((List.range n).map λi:Nat=>D.int i):=λH1 s Q q =>
 iD (iD ((h.mono s).use λv H2 s2 q2=>by
  rw [q2.Qk];refine ⟨n,rfl,λp hp=>⟨p,n,rfl,aI,hn,λl hl=>?_⟩⟩;have s3:=s2.trans ((aV hp (.WO 0 n)).trans (aV hl (.lst ((List.range n).map λi:Nat=>V.int i))));refine q l _ _ ((s2.trans (aV hp _)).free hl) s3 aI ?_
  have z:∀ m:List Nat,Qf K (upd (upd H2 p (.WO 0 n)) l (.lst ((List.range n).map λi:Nat=>V.int i))) (m.map λi:Nat=>D.int i) (m.map λi:Nat=>V.int i):=by
   intro m
   induction m with
   | nil=>exact Qf.nil
   | cons a m ih=>exact Qf.cons (Dat.Qm _) ih
  exact z _))
end
structure Vy (l0 l1 l2:Addr) (H:Hp) (a b c:List V):Prop where
 h0:H l0=some (.lst a)
 h1:H l1=some (.lst b)
 h2:H l2=some (.lst c)
 XE:l0≠l1
 YN:l0≠l2
 YO:l1≠l2
noncomputable def Ua (l0 l1 l2:Addr) (H H':Hp):Prop:=∀ b o,b≠l0->b≠l1->b≠l2->H b=some o->H' b=some o
section
variable {K:W.Frag} {l0 l1 l2:Addr} {H H' H2:Hp} {a b c a' b' c':List V} {v:V}
theorem Qh.Sz (e:Qh H H'):Ua l0 l1 l2 H H':=λb o _ _ _ h=>e b o h
theorem Ua.trans (x:Ua l0 l1 l2 H H') (y:Ua l0 l1 l2 H' H2):Ua l0 l1 l2 H H2:=λb o n0 n1 n2 h=>y b o n0 n1 n2 (x b o n0 n1 n2 h)
theorem Vy.same (t:Vy l0 l1 l2 H a b c) (e:Qh H H'):Vy l0 l1 l2 H' a b c:=⟨e _ _ t.h0,e _ _ t.h1,e _ _ t.h2,t.XE,t.YN,t.YO⟩
theorem Ua.grow (e:Ua l0 l1 l2 H H') (t:Vy l0 l1 l2 H a b c) (t':Vy l0 l1 l2 H' a' b' c'):gW K H H':=by
 have key:∀ (x:Addr) (o:HO),H x=some o->(∀ xs,o≠.lst xs)->H' x=some o:=λx o h ho =>
  e x o (λz=>by rw [z,t.h0] at h;cases h;exact ho _ rfl) (λz=>by rw [z,t.h1] at h;cases h;exact ho _ rfl) (λz=>by rw [z,t.h2] at h;cases h;exact ho _ rfl) h
 refine ⟨λx xs h=>?_,λx xs h=>?_⟩
 ·rcases h with (h | ⟨o,h⟩) | h
  ·exact .inl (.inl (key _ _ h (λ_ z=>by cases z)))
  ·exact .inl (.inr ⟨o,key _ _ h (λ_ z=>by cases z)⟩)
  ·exact .inr h
 ·by_cases z0:x=l0
  ·rw [z0];exact ⟨_,Qp.of t'.h0⟩
  by_cases z1:x=l1
  ·rw [z1];exact ⟨_,Qp.of t'.h1⟩
  by_cases z2:x=l2
  ·rw [z2];exact ⟨_,Qp.of t'.h2⟩
  refine ⟨xs,?_⟩;rcases h with (h | ⟨o,h⟩) | h
  ·exact .inl (.inl (e _ _ z0 z1 z2 h))
  ·exact .inl (.inr ⟨o,e _ _ z0 z1 z2 h⟩)
  ·exact .inr h
theorem Vy.p0 (t:Vy l0 l1 l2 H a b c):Vy l0 l1 l2 (upd H l0 (.lst (a++[v]))) (a++[v]) (b++[]) (c++[])/\Ua l0 l1 l2 H (upd H l0 (.lst (a++[v]))):=by rw [Np,Np];exact ⟨⟨aI,by rw [aR (Nz t.XE)];exact t.h1,by rw [aR (Nz t.YN)];exact t.h2,t.XE,t.YN,t.YO⟩,λx o n0 _ _ h=>by rw [aR n0];exact h⟩
theorem Vy.p1 (t:Vy l0 l1 l2 H a b c):Vy l0 l1 l2 (upd H l1 (.lst (b++[v]))) (a++[]) (b++[v]) (c++[])/\Ua l0 l1 l2 H (upd H l1 (.lst (b++[v]))):=by rw [Np,Np];exact ⟨⟨by rw [aR t.XE];exact t.h0,aI,by rw [aR (Nz t.YO)];exact t.h2,t.XE,t.YN,t.YO⟩,λx o _ n1 _ h=>by rw [aR n1];exact h⟩
theorem Vy.p2 (t:Vy l0 l1 l2 H a b c):Vy l0 l1 l2 (upd H l2 (.lst (c++[v]))) (a++[]) (b++[]) (c++[v])/\Ua l0 l1 l2 H (upd H l2 (.lst (c++[v]))):=by rw [Np,Np];exact ⟨⟨by rw [aR t.YN];exact t.h0,by rw [aR t.YO];exact t.h1,aI,t.XE,t.YN,t.YO⟩,λx o _ _ n2 h=>by rw [aR n2];exact h⟩
theorem Vy.nil (t:Vy l0 l1 l2 H a b c):Vy l0 l1 l2 H (a++[]) (b++[]) (c++[]):=by rw [Np,Np,Np];exact t
variable {σ:St} {j:Nat} {l:Addr}
theorem yD {te:TE} {us:TS} {En:i5} {G:Hp} {xs:List V} {d:D} (h:RE K te σ G d) (hl:G l=some (.lst xs)) (hx:xs.length<=900)
  (q:∀ y G',QY l G G'->G' l=some (.lst (xs++[y]))->Dat K G' d y->us En σ G') (hv:σ[j]?=some (some (.ref l)):=by rfl):l8 (vD (Yj K "list" lQ (fB j) (cC te eI))) us En σ G:=by
 refine ⟨_,hv,.inl ⟨rfl,_,Qp.of hl⟩,h.use λy H1 s1 q1=>?_⟩;have hl1:=s1 _ _ hl;refine ⟨l,xs,y,rfl,rfl,hl1,dH (by omega),?_⟩;have b:QY l H1 (upd H1 l (.lst (xs++[y]))):=QY.upd (Qh.refl _).but;exact q y _ (s1.but.trans b) aI (Dat.mono (b.grow hl1 aI) _ q1)
theorem mP {f:Addr} {x:Str} {kvs:List (Key × V)} {ys:List V} {es:List D} (hf:H f=some (.dK kvs)) (hk:kU kvs (Sum.inr x)=some (.ref l)) (hl:H l=some (.lst ys)) (hd:Qf K H es ys) (hv:σ[j]?=some (some (.ref f)):=by rfl) :
  RE K (Vd (λxs H Q=>∃ p ys,xs=[.ref p]/\((Qp K H p ys/\∀ l,H l=none->Q (.ref l) (upd H l (.tup ys)))\/(QH K H p ys/\Q (.ref p) H))) (cC (EJ (fB j) (tC (.str x))) eI)) σ H (.tup es):=λH1 s Q q =>
 ⟨_,hv,f,.ref l,rfl,by have g:=VS.k (k:=Sum.inr x) (s _ _ hf);rw [hk] at g;exact g,l,ys,rfl,.inl ⟨Qp.of (s _ _ hl),λp hp=>q _ _ (aV hp _) (Dat.tupI (QH.of aI) ((aV hp _).Qu (s.Qu hd)))⟩⟩
end
theorem sI:∀ {ns:List Int} {us:List Value},Vals (ns.map V.int) us->IntsAre us ns
 | [],us,h=>by cases h;exact .nil
 | n::ns,us,h=>by
  cases h with
  | cons r t =>obtain ⟨tk,rfl⟩:=r;exact .cons n tk (sI t)
section
variable {X:Cx}
theorem um (hc:X.calm=true):iu X (.builtin "sum") (λxs H Q=>∃ (l:Addr) (ns:List Int),xs=[.ref l]/\Qp X.K H l (ns.map V.int)/\Q (.int ns.sum) H):=by
 intro pins s σ H xs us Q I r h;obtain ⟨l,ns,rfl,hq,q⟩:=h;obtain ⟨u,rfl,ru⟩:=ie r;cases ru;obtain ⟨its,rv,p,hz⟩:=I.list hq;have hi:=sI rv;obtain ⟨zs,hzs⟩:=hi.allInts.items;refine sum_intListG (I.ok.hd hc) (show s.heap.IsList l (intItems zs) from hzs ▸ p.isList) λh' tk t' hk=>?_
 have a1:zs.toList.map (·.1)=ns:=by have z:=hi.numsOf;rw [show its=(intItems zs).toList by rw [<- hzs]] at z;rw [<- z,nums_intItems]
 have a2:preSum (numAt zs) zs.size=ns.sum:=by rw [preSum_eq,<- a1,OX (by simp)]
 rw [a2];exact ⟨.int ns.sum,H,I.kept (t':=tk) hk,⟨t',rfl⟩,q⟩
noncomputable def XT (K:W.Frag) (a:Addr) (xs:List V):It:=⟨λi H=>i < xs.length/\Qp K H a xs,λi H x H'=>H'=H/\xs[xs.length - 1 - i]?=some x,λi _=>i=xs.length⟩
theorem Cp {P:Program} {w:World} {K:W.Frag} {tg:Expr} (a it:Addr) (xs:List V):oo P w K tg (XT K a xs) [it] it (λi h=>h.IsRevIter it a ((xs.length:Int) - 1 - (i:Int))) where
 mem:=by simp
 obj:=λi h st b hb=>by
  have e:b=it:=by simpa using hb
  subst e;obtain ⟨o,e,c,d⟩:=st;exact ⟨o,e,λv z=>by rw [d] at z;cases z⟩
 keep:=λi h h' st k=>by obtain ⟨o,e,r⟩:=st;exact ⟨o,k it (by simp) o e,r⟩
 item:=by
  intro X hP hw hK hc i pins s σ H E I hf st hg;subst hP hw hK;obtain ⟨hi,hq⟩:=hg;obtain ⟨its,rv,p,hz⟩:=I.list hq;obtain ⟨f0,f1,f2,f3,f4,f5⟩:=hf it (by simp);have lr:=rv.length;have hx:xs[xs.length - 1 - i]?=some (xs[xs.length - 1 - i]'(by omega)):=MT (by omega);obtain ⟨u,hu,ru⟩:=rv.get hx;have e1:(xs.length:Int) - 1 - (i:Int)=((xs.length - 1 - i:Nat):Int):=by omega
  have st1:s.heap.IsRevIter it a ((xs.length - 1 - i:Nat):Int):=by rw [<- e1];exact st
  refine wpAny_pyNext_rev_item st1 p.isList (x:=u) (by simpa using hu) λh' st' sb=>?_;have e2:((xs.length - 1 - i:Nat):Int) - 1=(xs.length:Int) - 1 - ((i+1:Nat):Int):=by omega
  rw [e2] at st';have I1:Inv X pins σ H { s with heap:=h' }:=I.turned (t':=s.toks) (λb o hb e=>(sb.2 b hb).trans e) f0 f1 f3 f4 f5;obtain ⟨o,e,c,d⟩:=id st';exact ⟨u,rfl,qZ (s:={ s with heap:=h' }) e c d (by decide) ⟨_,H,I1,ru,⟨rfl,hx⟩,st',λb hb=>(hf b hb).1⟩⟩
 done:=by
  intro X hP hw hK hc i pins s σ H E I hf st hg;subst hP hw hK;obtain ⟨f0,f1,f2,f3,f4,f5⟩:=hf it (by simp);have hg':i=xs.length:=hg;subst hg';have e1:(xs.length:Int) - 1 - (xs.length:Int)=-1:=by omega
  rw [e1] at st;exact wpAny_pyNext_rev_end (I.ok.hd hc) st λh' eb=>⟨rfl,I.turned (t':=s.toks) (λb o hb e=>eb b o hb e) f0 f1 f3 f4 f5⟩
 self:=λA i s Q E st q=>wpAny_pyIter_revIter st q
variable {tg:Expr}
noncomputable def GH (K:W.Frag) (ta:TA):TI:=λσ H R=>ta σ H λvs H1=>∃ a xs,vs=[.ref a]/\Qp K H1 a xs/\R (XT K a xs) H1
theorem FR {a:Expr} {ta:TA} {p pos:Pos} (hg:Gl X "reversed") (hm:X.mg "reversed"=none) (ha:PA X [a] ta) (hs:starEach [a] X.env=[(false,eval a X.env)]:=by rfl):PI X tg (.Call (.Name "reversed" p) [a] [] pos) (GH X.K ta):=by
 intro pins s σ H R I h;refine Call_ (kM I hg hm m4 (Oe (Qt (ha pos pins s σ H _ I h) λus s1 ⟨vs,H1,I1,r1,q1⟩=>?_) hs rfl));obtain ⟨l,xs,e,hq,q⟩:=q1;subst e;obtain ⟨u,rfl,ru⟩:=ie r1;cases ru;obtain ⟨its,rv,pl,hz⟩:=I1.list hq;have lr:=rv.length;refine call_reversed_list pl.isList ?_;have st:(s1.heap.push (revObj l ((its.toArray.size:Int) - 1))).IsRevIter s1.heap.objs.size l ((xs.length:Int) - 1 - ((0:Nat):Int)):=⟨_,Nr _ rfl,rfl,by simp [revObj,lr]⟩
 refine wpAny_pyIter_revIter (s:={ s1 with heap:=s1.heap.push (revObj l ((its.toArray.size:Int) - 1)) }) st ?_;refine ⟨s1.heap.objs.size,[s1.heap.objs.size],_,_,H1,rfl,I1.kept (t':=s1.toks) λb o e=>MU _ e,Cp l _ xs,st,λb hb=>?_,q⟩;have e:b=s1.heap.objs.size:=by simpa using hb
 subst e;exact I1.VR (M0 _) (I1.hok.fresh (M0 _))
end
noncomputable def met (f:Nat->Str) (i:Nat):List Str:=((List.range i).map f).foldl step_dedup []
theorem jL (f:Nat->Str) (i:Nat):met f (i+1)=step_dedup (met f i) (f i):=by unfold met;rw [List.range_succ,Nl,List.foldl_append];rfl
theorem sr (l:List Str) (x:Str):(step_dedup l x).length=if l.any (· == x) then l.length else l.length+1:=by unfold step_dedup;split <;> simp
theorem xT (l:List Str) (x y:Str):(step_dedup l x).any (· == y)=(l.any (· == y) || decide (y=x)):=by
 unfold step_dedup;split
 ·rename_i h;by_cases e:y=x
  ·subst e;rw [h];rfl
  ·rw [MX e,Bool.or_false]
 ·rw [List.any_append];congr 1;by_cases e:y=x
  ·subst e;simp
  ·have e':¬ x=y:=λz=>e z.symm;simp [e,e']
theorem sP (f:Nat->Str):∀ i,(met f i).length<=i
 | 0=>by simp [met]
 | i+1=>by rw [jL,sr];have:=sP f i;split <;> omega
theorem Cu {R:Result->Shared->Prop} {fp wr:List Addr} {G:Array GenState->Array GenState->Prop} {Pv:Nat->Value->Prop} {St:Nat->Shared->Prop}
  (W:WalksS P w A.in1 it fp wr G n Pv St) (sa:Addr) (nsa:sa ∉ fp) (f:Nat->Str) (hf:∀ i v,Pv i v->∃ t,v=.str (f i) t) (few:n+1 < scanBound) :
  ∀ (m i:Nat) (s:Shared),n - i=m->i<=n->St i s->s.heap.SetOf (strKind P w) sa (λy=>(met f i).any (· == y)) (met f i).length ->
   (∀ s',Moved (sa::wr) G s s'->s'.heap.SetOf (strKind P w) sa (λy=>(met f n).any (· == y)) (met f n).length->R (.ok (.ret .none)) s')->codeAny (model P w) A (.builtin "set.update.loop" ⟨[.ref sa,.ref it],[]⟩) R s:=by
 have nw:sa ∉ wr:=λz=>nsa (W.sub _ z);have more:∀ b ∈ wr,b ∈ sa::wr:=λb z=>Nj _ z;intro m
 induction m with
 | zero =>
  intro i s e1 e2 st so fin;obtain rfl:i=n:=by omega
  refine codeAny_builtin O9 ?_;rw [Around.under_plainId OA _];show wpAny _ A.in1 (pyNext (.ref it) >>= _) _ _ s;refine MV (W.done s _ _ st λs2 mv=>?_);show wpAny _ A.in1 (ret Value.none) _ _ s2;obtain ⟨o,es,ep,tb,g,rest⟩:=so;exact Nc (fin s2 (mv.mono more) ⟨o,es,ep,tb,mv.heap sa _ nw g,rest⟩)
 | succ m ih =>
  intro i s e1 e2 st so fin;have lt:i < n:=by omega
  refine codeAny_builtin O9 ?_;rw [Around.under_plainId OA _];show wpAny _ A.in1 (pyNext (.ref it) >>= _) _ _ s;refine MV (W.item i s _ _ lt st λv s2 pv st2 mv=>?_);obtain ⟨tk,rfl⟩:=hf i v pv;have so2:s2.heap.SetOf (strKind P w) sa (λy=>(met f i).any (· == y)) (met f i).length:=let ⟨o,es,ep,tb,g,rest⟩:=so;⟨o,es,ep,tb,mv.heap sa _ nw g,rest⟩;show wpAny _ A.in1 (holding [Value.str (f i) tk] (setAdd sa (.str (f i) tk)) >>= _) _ _ s2;refine MV (OQ ?_);unfold setAdd;refine OQ (MV ((strKind P w).pyHash (k:=f i) (strKind_is P w _ _) ?_));have rm:(met f i).length+1 < scanBound:=by have:=sP f i;omega
  refine wpAny_setAddHashed_of (knd:=strKind P w) (s:={ s2 with toks:=s2.toks+1 }) (strKind_is P w _ _) rfl so2 rm λh' sb so3=>?_;have so4:h'.SetOf (strKind P w) sa (λy=>(met f (i+1)).any (· == y)) (met f (i+1)).length:=SetOf_congr so3 (λy=>by rw [jL,xT]) (by rw [jL,sr]);refine Nc ⟨plainId_quiet OA _,ih (i+1) _ (by omega) lt (W.frame _ s2 _ _ st2 (Nat.le_succ _) λb z o g=>?_) so4 λs3 mv3 so5=>?_⟩
  ·rw [sb.2 b (λq:b=sa=>nsa (by rw [<- q];exact z))];exact g
  ·refine fin s3 (Moved.trans W.gtrans ((mv.mono more).then_heap (Nat.le_succ _) λb o z g=>?_) mv3) so5;rw [sb.2 b (λq:b=sa=>z (by rw [q];exact NB))];exact g
noncomputable abbrev tW (led:Bool):Obj:={ cls:=.type "set",dict:=none,data:=.set #[] 0 (.fresh 0 0 led) }
theorem yW {E:Value->Shared->Prop} {s:Shared} {items:Array Value} {f:Nat->Str} {Q:Value->Shared->Prop} (hh:A.handled=none) (hl:s.heap.IsList l items)
  (hi:∀ (i:Nat) (v:Value),items[i]?=some v->∃ t,v=.str (f i) t) (few:items.size+1 < scanBound)
  (fin:∀ (h':Heap) (tk:Nat),h'.SetOf (strKind P w) s.heap.objs.size (λy=>(met f items.size).any (· == y)) (met f items.size).length->(∀ b o,b < s.heap.objs.size->s.heap.get? b=some o->h'.get? b=some o)->Q (.ref s.heap.objs.size) { s with heap:=h',toks:=tk }) :
  wpAny (model P w) A (call (.type "set") [.ref l]) Q E s:=by
 obtain ⟨c,tl,mro⟩:=ON.mro;have made:=ON.made;have sub:=ON.sub;refine wpAny_call (codeAny_of_tree ?_);show wpAny _ _ (callAny (.type "set") _) _ _ _;refine Nc ⟨Code.quiet_builtin _ (by decide +kernel),codeAny_builtin F.entry_type_call ?_⟩;rw [Around.under_plain (weight_type_call_type "set" [.ref l] []) rfl];have k1:=ON.notType;have k2:=ON.canCreate;have k3:=F.typeCall_set_1 (.ref l)
 repeat (any_goals (first | assumption | wp_step))
 refine O0 (code_set_new_1 (.ref l) (E:=E) (Q₁:=λobj s1=>∃ led:Bool,obj=.ref s.heap.objs.size/\s1={ s with heap:=s.heap.push (tW led) }) λled=>⟨led,rfl,rfl⟩) λr s1 hr=>?_
 cases r with
 | error e=>exact hr
 | ok fl =>
  cases fl with
  | ret obj =>
   obtain ⟨led,rfl,rfl⟩:=hr;have g0:(s.heap.push (tW led)).get? s.heap.objs.size=some (tW led):=Nr _ rfl;have ty:Shared.TypeIs { s with heap:=s.heap.push (tW led) } (.ref s.heap.objs.size) "set":=⟨_,g0,rfl⟩
   have k4:=ON.init.lookup;have k5:=ON.init.bind (.ref s.heap.objs.size)
   repeat (any_goals (first | assumption | wp_step))
   refine O0 (codeAny_call_builtin (R:=wants (λr s2=>r=.none/\∃ h' tk,s2={ s with heap:=h',toks:=tk }/\h'.SetOf (strKind P w) s.heap.objs.size (λy=>(met f items.size).any (· == y)) (met f items.size).length /\
     (∀ b o,b < s.heap.objs.size->s.heap.get? b=some o->h'.get? b=some o)) E) ON.init.plain F.entry_set_init (check_set_init_1 ty ?_)) λr2 s2 hr2=>?_
   ·obtain ⟨ol,g1,g2,nl,g3⟩:=hl;obtain ⟨oc,od,ob,os⟩:=ol;simp only at g2 g3;subst g2;subst g3;have g4:(s.heap.push (tW led)).get? l=some { cls:=.type "list",dict:=od,data:=.seq items nl,slots:=os }:=MU _ g1;have m1:=F.sub_list_set;have m2:=F.sub_list_frozenset;have m3:(Value.type "list" == Value.type "dict")=false:=by decide
    have il:(s.heap.push (tW led)).IsList l items:=⟨_,g4,rfl,nl,rfl⟩
    unfold Builtin.«set.__init__» noKeywords Builtin.Frozenset.updateFrom;generalize hPI:pyIter=PI
    wp_walk
    subst hPI;refine Pf il (MV (wpAny_runValue ?_));have ll:l < s.heap.objs.size:=Ni g1;have h3:A.in1.in1.in1.handled=none:=by simp [hh]
    have n1:l≠(s.heap.push (tW led)).objs.size:=by rw [NY];exact ND (Nat.lt_succ_of_lt ll)
    have n2:s.heap.objs.size ∉ [(s.heap.push (tW led)).objs.size,l]:=by rw [NY];simp only [Na,Nf,Ny,NX,not_or];exact ⟨ND (Pp _),Ox ll⟩
    refine Cu ((Walks.list h3 _ l n1 items).toS) s.heap.objs.size n2 f hi few (items.size - 0) 0 _ (by omega) (NW _) ⟨⟨_,Nr _ rfl,rfl,rfl⟩,(il.push _)⟩ ?so ?fi
    case so=>exact SetOf_congr ((setObjOf_fresh (knd:=strKind P w) led).setOf (MU _ g0) (by unfold scanBound;omega)) (λ_=>rfl) rfl
    case fi =>
     intro s' mv so;obtain ⟨h',g',d',tk',os'⟩:=s';obtain rfl:g'=s.gens:=mv.gens;obtain rfl:d'=s.drawn:=mv.drawn;obtain rfl:os'=s.os:=mv.os;show wpAny _ _ _ _ _ _;refine Nc ?_;show wpAny _ _ (ret Value.none) _ _ _;refine Nc ⟨rfl,h',tk',rfl,so,λb o z g=>?_⟩;have z1:b≠s.heap.objs.size:=ND z;have z2:b≠(s.heap.push (tW led)).objs.size:=by rw [NY];exact ND (Nat.lt_succ_of_lt z)
     exact mv.heap b o (by simp only [Na,Nf,Ny,NX,not_or];exact ⟨z1,z2⟩) (MU _ (MU _ g))
   ·cases r2 with
    | error e=>exact hr2
    | ok fl2 =>
     cases fl2 with
     | ret r =>
      obtain ⟨rfl,h',tk,rfl,so,kp⟩:=hr2
      repeat (any_goals (first | assumption | wp_step))
      exact fin _ _ so kp
     | _=>exact hr2.elim
  | _=>exact hr.elim
noncomputable def xh (a:Addr) (n:Nat) (h:Heap):Prop:=∃ o es ep t,h.get? a=some o/\o.ExactSet/\o.data=.set es ep t/\t.fits es.size=true/\es.size=n
section
variable {X:Cx}
theorem yJ:∀ {zs:List Str} {us:List Value} (i:Nat) (v:Value),Vals (zs.map V.str) us->us[i]?=some v->∃ t,v=.str (zs.getD i "") t
 | [],us,i,v,h,e=>by cases h;simp at e
 | z::zs,us,i,v,h,e=>by
  cases h with
  | cons r t =>
   obtain ⟨tk,rfl⟩:=r
   cases i with
   | zero =>
    have e':Value.str z tk=v:=by simpa using e
    exact ⟨tk,e'.symm⟩
   | succ i =>obtain ⟨t',e'⟩:=yJ (zs:=zs) i v t (by simpa using e);exact ⟨t',by simpa using e'⟩
noncomputable def sj (zs:List Str):Nat:=(met (λi=>zs.getD i "") zs.length).length
theorem yX (hc:X.calm=true):iu X (.type "set") (λxs H Q=>∃ (l:Addr) (zs:List Str),xs=[.ref l]/\Qp X.K H l (zs.map V.str)/\zs.length<=100/\∀ p,H p=none->Q (.ref p) (upd H p (.ext (xh p (sj zs))))):=by
 intro pins s σ H xs us Q I r h;obtain ⟨l,zs,rfl,hq,hz,q⟩:=h;obtain ⟨u,rfl,ru⟩:=ie r;cases ru;obtain ⟨its,rv,p,_⟩:=I.list hq;have lr:=rv.length;rw [tB] at lr;refine yW (f:=λi=>zs.getD i "") (I.ok.hd hc) p.isList (λi v e=>yJ i v rv (by simpa using e)) (by unfold scanBound;simp;omega) λh' tk so kp=>?_
 have so':xh s.heap.objs.size (sj zs) h':=by obtain ⟨o,es,ep,t,a1,a2,a3,_,_,_,a4,a5⟩:=so;refine ⟨o,es,ep,t,a1,a2,a3,a4,?_⟩;rw [a5];unfold sj;rw [lr];simp
 refine ⟨.ref s.heap.objs.size,_,I.laid (t':=tk) (λb o e=>kp b o (Ni e) e) (M0 _) (show QC X.prog X.w _ h' _ (.ext (xh s.heap.objs.size (sj zs))) from ⟨so',?_,λh1 h2 z k=>?_⟩),rfl,q _ (I.hok.fresh (M0 _))⟩
 ·obtain ⟨o,_,_,_,a1,_⟩:=so';exact ⟨o,a1⟩
 ·obtain ⟨o,es,ep,t,a1,rest⟩:=z;exact ⟨o,es,ep,t,k _ a1,rest⟩
theorem uk:iu X (.builtin "len") (λxs H Q=>∃ (p:Addr) (n:Nat),xs=[.ref p]/\H p=some (.ext (xh p n))/\n<=1000/\Q (.int n) H):=by
 intro pins s σ H xs us Q I r h;obtain ⟨p,n,rfl,hp,hn,q⟩:=h;obtain ⟨u,rfl,ru⟩:=ie r;cases ru;obtain ⟨⟨o,es,ep,t,a1,a2,a3,a4,a5⟩,_⟩:=(show QC X.prog X.w H s.heap p (.ext (xh p n)) from I.hok p _ hp)
 subst a5;exact call_len_set a1 a2 a3 a4 (by omega) ⟨.int (es.size:Nat),H,I.tok _,⟨_,rfl⟩,q⟩
end
theorem Qh.Tq (e:Qh H H') (h:Tq K H a xs):Tq K H' a xs:=h.elim (λz=>.inl (e _ _ z)) .inr
noncomputable def LD (K:W.Frag) (H:Hp) (ds:List D) (v:V):Prop:=∃ a vs,v=.ref a/\Tq K H a vs/\Qf K H ds vs
theorem Qh.ld (e:Qh H H') (h:LD K H ds v):LD K H' ds v:=by obtain ⟨a,vs,e1,h1,h2⟩:=h;exact ⟨a,vs,e1,e.Tq h1,e.Qu h2⟩
theorem LD.lst (h:LD K H ds v):Dat K H .lst v:=by obtain ⟨a,vs,rfl,h1,_⟩:=h;exact Dat.Zh h1.UI
theorem LD.of (h:H a=some (.lst vs)) (hd:Qf K H ds vs):LD K H ds (.ref a):=⟨a,vs,rfl,.inl h,hd⟩
inductive Ar where
 | d (x:D)
 | l (ds:List D)
noncomputable def WC (K:W.Frag) (H:Hp):Ar->V->Prop
 | .d x,v=>Dat K H x v
 | .l ds,v=>LD K H ds v
inductive Ws (K:W.Frag) (H:Hp):List Ar->List V->Prop
 | nil:Ws K H [] []
 | cons {a v as vs}:WC K H a v->Ws K H as vs->Ws K H (a::as) (v::vs)
theorem Qh.ari {a:Ar} (e:Qh H H') (h:WC K H a v):WC K H' a v:=by
 cases a with
 | d x=>exact e.dat h
 | l ds=>exact e.ld h
theorem Ws.length {as:List Ar} (h:Ws K H as vs):as.length=vs.length:=by
 induction h with
 | nil=>rfl
 | cons _ _ ih=>simp [ih]
theorem yQ {a:Ar} (h:Ws K H [a] vs):∃ u,vs=[u]/\WC K H a u:=by
 cases h with
 | cons h1 h2=>cases h2;exact ⟨_,rfl,h1⟩
variable {b:Ar}
theorem uh {a:Ar} (h:Ws K H [a,b] vs):∃ u v,vs=[u,v]/\WC K H a u/\WC K H b v:=by
 cases h with
 | cons h1 h2=>obtain ⟨v,rfl,q⟩:=yQ h2;exact ⟨_,v,rfl,h1,q⟩
variable {c:Ar}
theorem Gx {a:Ar} (h:Ws K H [a,b,c] vs):∃ u v w,vs=[u,v,w]/\WC K H a u/\WC K H b v/\WC K H c w:=by
 cases h with
 | cons h1 h2=>obtain ⟨v,w,rfl,q,q'⟩:=uh h2;exact ⟨_,v,w,rfl,h1,q,q'⟩
theorem CH {a d:Ar} (h:Ws K H [a,b,c,d] vs):∃ u v w x,vs=[u,v,w,x]/\WC K H a u/\WC K H b v/\WC K H c w/\WC K H d x:=by
 cases h with
 | cons h1 h2=>obtain ⟨v,w,x,rfl,q,q',q''⟩:=Gx h2;exact ⟨_,v,w,x,rfl,h1,q,q',q''⟩
noncomputable def UJ (K:W.Frag) (R:List Ar->D->Prop):Sp:=λvs H Q _=>∃ as d,Ws K H as vs/\R as d/\∀ v H',Qh H H'->Dat K H' d v->Q v H'
noncomputable def jT (K:W.Frag) (R:List Ar->List D->Prop):Sp:=λvs H Q _=>∃ as es,Ws K H as vs/\R as es/\∀ r us H',Qh H H'->H' r=some (.lst us)->H r=none->Qf K H' es us->Q (.ref r) H'
noncomputable def RL (K:W.Frag) (t:TE) (σ:St) (H:Hp) (ds:List D):Prop:=∀ H1,Qh H H1->∀ Q:VK,(∀ v H',Qh H1 H'->LD K H' ds v->Q v H')->t σ H1 Q
noncomputable def RB (K:W.Frag) (t:TA) (σ:St) (H:Hp) (as:List Ar):Prop:=∀ H1,Qh H H1->∀ Q:List V->Hp->Prop,(∀ vs H',Qh H1 H'->Ws K H' as vs->Q vs H')->t σ H1 Q
section
variable {K:W.Frag} {σ:St} {H H':Hp} {d d':D} {ds es:List D} {t u ta tb te tl:TE} {tt uu:TT} {tA:TA} {i j:Int} {b c:Bool} {mk:St->St} {jj:Nat} {ar:List Ar}
theorem RL.mono (h:RL K t σ H es) (e:Qh H H'):RL K t σ H' es:=λH1 s Q q=>h H1 (e.trans s) Q q
theorem RL.use {Q:VK} (h:RL K t σ H es) (q:∀ v H',Qh H H'->LD K H' es v->Q v H'):t σ H Q:=h H (Qh.refl H) Q q
theorem RB.use {Q:List V->Hp->Prop} (h:RB K tA σ H ar) (q:∀ vs H',Qh H H'->Ws K H' ar vs->Q vs H'):tA σ H Q:=h H (Qh.refl H) Q q
theorem cK:RB K eI σ H []:=λH1 _ Q q=>q _ _ (Qh.refl _) .nil
theorem fO (h:RE K t σ H d) (r:RB K tA σ H ar):RB K (cC t tA) σ H (.d d::ar):=λH1 s Q q =>
 h H1 s _ λv H2 s2 q2=>r H2 (s.trans s2) _ λvs H3 s3 q3=>q _ _ (s2.trans s3) (.cons (s3.ari (a:=.d d) q2) q3)
theorem eY (h:RL K t σ H ds) (r:RB K tA σ H ar):RB K (cC t tA) σ H (.l ds::ar):=λH1 s Q q =>
 h H1 s _ λv H2 s2 q2=>r H2 (s.trans s2) _ λvs H3 s3 q3=>q _ _ (s2.trans s3) (.cons (s3.ari (a:=.l ds) q2) q3)
variable {v:V}
theorem bA {k:Nat} (h:LD K H ds v) (e:σ[k]?=some (some v):=by rfl):RL K (fB k) σ H ds:=λH1 s Q q=>⟨v,e,q _ _ (Qh.refl _) (s.ld h)⟩
theorem ky (h:RC K t σ H es):RL K t σ H es:=λH1 s Q q=>h H1 s _ λl ys H' _ s' hy hd=>q _ _ s' (LD.of hy hd)
theorem Ga {a:Addr} (h:o8 K ds a=true):RL K (tC (.ref a)) σ H ds:=λH1 _ Q q=>by obtain ⟨vs,h1,h2⟩:=sO h H1;exact q _ _ (Qh.refl _) ⟨a,vs,rfl,.inr h1,h2⟩
variable {E:XK}
theorem cU {R:List Ar->D->Prop} (h:RB K tA σ H ar) (e:R ar d):RE K (jV (UJ K R) [] E tA) σ H d:=λH1 s Q q =>
 h H1 s _ λvs H2 s2 q2=>⟨ar,d,by rw [Np];exact q2,e,λv H3 s3 q3=>q _ _ (s2.trans s3) q3⟩
theorem fK {R:List Ar->List D->Prop} (h:RB K tA σ H ar) (e:R ar es):RC K (jV (jT K R) [] E tA) σ H es:=λH1 s Q q =>
 h H1 s _ λvs H2 s2 q2=>⟨ar,es,by rw [Np];exact q2,e,λr us H3 s3 hr hr0 hd=>q r us H3 (s2.free hr0) (s2.trans s3) hr hd⟩
theorem gB {k:Nat} (h1:RL K ta σ H ds) (h2:RE K tb σ H (.int k)) (e:ds[k]?=some d):RE K (S5 (BR K) ta tb) σ H d:=λH1 s Q q =>
 h1 H1 s _ λv H2 s2 q2=>h2 H2 (s.trans s2) _ λw H3 s3 q3=>by obtain ⟨a,vs,ev,hq,hd⟩:=s3.ld q2;obtain ⟨x,ex,hx⟩:=hd.get e;exact ⟨a,vs,k,x,ev,q3.Qk,hq.UI,i7 ex,q _ _ (s2.trans s3) hx⟩
theorem Qf.XU {b:D}:∀ {as:List D} {vs:List V},Qf K H (as++[b]) vs->∃ us v,vs=us++[v]/\Qf K H as us/\Dat K H b v
 | [],vs,h=>by obtain ⟨v,rfl,q⟩:=ia h;exact ⟨[],v,rfl,Qf.nil,q⟩
 | a::as,vs,h=>by obtain ⟨v,r,rfl,h1,h2⟩:=h.QN;obtain ⟨us,w,rfl,q1,q2⟩:=Qf.XU (as:=as) h2;exact ⟨v::us,w,rfl,Qf.cons h1 q1,q2⟩
theorem rC (h1:RL K ta σ H (ds++[d])) (h2:RE K tb σ H (.int (-1))):RE K (S5 (BR K) ta tb) σ H d:=λH1 s Q q =>
 h1 H1 s _ λv H2 s2 q2=>h2 H2 (s.trans s2) _ λw H3 s3 q3=>by obtain ⟨a,vs,ev,hq,hd⟩:=s3.ld q2;obtain ⟨us,x,rfl,hu,hx⟩:=hd.XU;exact ⟨a,_,-1,x,ev,q3.Qk,hq.UI,AA us x,q _ _ (s2.trans s3) hx⟩
theorem fP (h:RL K t σ H es):RE K (Vd (λxs H Q=>∃ p ys,xs=[.ref p]/\(Qp K H p ys\/QH K H p ys)/\Q (.int ys.length) H) (cC t eI)) σ H (.int es.length):=λH1 s Q q =>
 iD ((h.mono s).use λv H' s' hd=>by
  obtain ⟨l,ys,rfl,hy,hd⟩:=hd;exact ⟨l,ys,rfl,.inl hy.UI,by rw [<- hd.length];exact q _ _ s' (Dat.Qm _)⟩)
theorem oH:∀ {ns:List Int} {vs:List V},Qf K H (ns.map D.int) vs->vs=ns.map V.int
 | [],vs,h=>by rw [Qf.Us h];rfl
 | n::ns,vs,h=>by obtain ⟨v,r,e,h1,h2⟩:=h.QN;rw [e,h1.Qk,oH h2];rfl
theorem yC {ns:List Int} (h:RL K t σ H (ns.map D.int)):RE K (Vd (λxs H Q=>∃ (l:Addr) (ns:List Int),xs=[.ref l]/\Qp K H l (ns.map V.int)/\Q (.int ns.sum) H) (cC t eI)) σ H (.int ns.sum):=λH1 s Q q =>
 iD ((h.mono s).use λv H' s' hd=>by
  obtain ⟨l,ys,rfl,hy,hd⟩:=hd;exact ⟨l,ns,rfl,by rw [<- oH hd];exact hy.UI,q _ _ s' (Dat.Qm _)⟩)
noncomputable def YQ:D->Bool
 | .Qj=>true
 | _=>false
theorem yc (h:Dat K H d v):decide (v=.Qj)=YQ d:=by
 cases d with
 | Qj=>rw [h.SA];rfl
 | bl b=>rw [h.Tp];rfl
 | int i=>rw [h.Qk];rfl
 | str x=>rw [h.Qy];rfl
 | tup ds=>obtain ⟨a,vs,e,_⟩:=h.Qw;rw [e];rfl
 | lst=>obtain ⟨a,vs,e,_⟩:=h.V8;rw [e];rfl
theorem tO (h:RE K ta σ H d):RE K (S5 (λx y H Q=>y=.Qj/\Q (.bl (decide (x=.Qj))) H) ta (tC .Qj)) σ H (.bl (YQ d)):=λH1 s Q q =>
 h H1 s _ λv H2 s2 q2=>⟨rfl,by rw [yc q2];exact q _ _ s2 (Dat.To _)⟩
theorem yB (h:RE K ta σ H d):RE K (S5 (λx y H Q=>y=.Qj/\Q (.bl (!decide (x=.Qj))) H) ta (tC .Qj)) σ H (.bl (!YQ d)):=λH1 s Q q =>
 h H1 s _ λv H2 s2 q2=>⟨rfl,by rw [yc q2];exact q _ _ s2 (Dat.To _)⟩
theorem iE {cs:List D} (h:RL K tl σ H cs) (hc:cs.length<=1000) (es:List D) (hl:es.length=cs.length) (h0:(mk σ).set jj none=mk σ)
  (turn:∀ H1 (i:Nat) c v d,Qh H H1->cs[i]?=some c->es[i]?=some d->Dat K H1 c v->RE K te ((mk σ).set jj (some v)) H1 d):RC K (iM (ra K tl) mk (d6 jj) hU te) σ H es:=λH1 s Q q=>by
 refine (h.mono s).use λv4 H4 s4 q4=>?_;obtain ⟨l4,V2,rfl,VX,WY⟩:=q4;have ll:=WY.length;refine ⟨l4,rfl,⟨V2,VX.UI⟩,?_⟩;refine iW (K:=K) (Q:=Q) (n:=V2.length) (item:=λi=>V2.getD i .Qj) (λi H' s hi=>sC i H' (s.seq VX.UI) hi) (λH' s=>⟨V2,s.seq VX.UI,M0 _⟩) h0 es (by omega) (by omega) (λi d hi=>?_) (λl ys H5 WL s5=>q l ys H5 (s4.free WL) (s4.trans s5));have hi':i < es.length:=(Nu.mp hi).1;have hic:i < cs.length:=by omega
 obtain ⟨vz,ez,hz⟩:=WY.get (MT hic);have q:=turn H4 i cs[i] vz d (s.trans s4) (MT hic) hi hz;rw [Nt,ez];exact q
theorem pI (h:RL K t σ H es):RC K (Vd (λxs H Q=>∃ p ys,xs=[.ref p]/\(Qp K H p ys\/QH K H p ys)/\∀ l,H l=none->Q (.ref l) (upd H l (.lst ys))) (cC t eI)) σ H es:=λH1 s Q q =>
 iD ((h.mono s).use λv H' s' hd=>by
  obtain ⟨p,ys,rfl,hy,hd⟩:=hd;exact ⟨p,ys,rfl,.inl hy.UI,λl hl=>q l ys _ (s'.free hl) (s'.trans (aV hl _)) aI ((aV hl _).Qu hd)⟩)
theorem j6 (h1:RL K ta σ H ds) (h2:RL K tb σ H es) (hl:ds.length+es.length<=1000):RC K (S5 (Ex K) ta tb) σ H (ds++es):=λH1 s Q q =>
 h1 H1 s _ λv H2 s2 q2=>h2 H2 (s.trans s2) _ λw H3 s3 q3=>by obtain ⟨a,xs,rfl,ha,da⟩:=s3.ld q2;obtain ⟨b,ys,rfl,hb,db⟩:=q3;have l1:=da.length;have l2:=db.length;exact ⟨a,b,xs,ys,rfl,rfl,ha,hb,by omega,λp hp=>q p _ _ ((s2.trans s3).free hp) (s2.trans (s3.trans (aV hp _))) aI ((aV hp _).Qu (Qf.append da db))⟩
end
section
variable {K:W.Frag} {σ:St} {H H':Hp} {d d':D} {ds es:List D} {t u ta tb te tl:TE}
theorem zS {zs:List Str} (h:RC K t σ H (zs.map D.str)) (hz:zs.length<=100):RE K (Vd (λxs H Q=>∃ (p:Addr) (n:Nat),xs=[.ref p]/\H p=some (.ext (xh p n))/\n<=1000/\Q (.int n) H)
  (cC (Vd (λxs H Q=>∃ (l:Addr) (zs:List Str),xs=[.ref l]/\Qp K H l (zs.map V.str)/\zs.length<=100/\∀ p,H p=none->Q (.ref p) (upd H p (.ext (xh p (sj zs))))) (cC t eI)) eI)) σ H (.int (sj zs)):=λH1 s Q q =>
 iD (iD ((h.mono s).use λl ys H2 _ s2 hy hd=>by
  refine ⟨l,zs,rfl,by rw [<- xP hd];exact Qp.of hy,hz,λp hp=>⟨p,sj zs,rfl,aI,?_,q _ _ (s2.trans (aV hp _)) (Dat.Qm _)⟩⟩;have:=sP (λi=>zs.getD i "") zs.length;unfold sj;omega))
theorem xU (zs:List Str):∀ i,i<=zs.length->((∀ y,(met (λi=>zs.getD i "") i).any (· == y)=decide (y ∈ zs.take i))/\((met (λi=>zs.getD i "") i).length=i↔(zs.take i).Nodup))
 | 0,_=>⟨λy=>by simp [met],by simp [met]⟩
 | i+1,h=>by
  obtain ⟨i1,i2⟩:=xU zs i (by omega);have hle:=sP (λi=>zs.getD i "") i;have hi:i < zs.length:=h;have et:zs.take (i+1)=zs.take i++[zs[i]]:=by rw [NR,MT hi];rfl
  have eg:zs.getD i ""=zs[i]:=by rw [Nt,MT hi];rfl
  refine ⟨λy=>?_,?_⟩
  ·rw [jL,xT,i1,et];simp only [eg,Nh,Nf];by_cases h1:y ∈ zs.take i <;> by_cases h2:y=zs[i] <;> simp [h1,h2]
  ·rw [jL,sr,i1,et];simp only [eg];rw [List.nodup_append];by_cases hm:zs[i] ∈ zs.take i
   ·rw [MW (M5 hm)];constructor
    ·intro z;omega
    ·rintro ⟨_,_,z⟩;exact absurd rfl (z _ hm _ (Nf.mpr rfl))
   ·rw [MR (by simpa using hm)];constructor
    ·intro z;refine ⟨i2.mp (by omega),by simp,?_⟩;rintro a ha b hb rfl;rw [Nf.mp hb] at ha;exact hm ha
    ·rintro ⟨z,_⟩;have:=i2.mpr z;omega
theorem CQ (zs:List Str):sj zs=zs.length↔zs.Nodup:=by have h:=(xU zs zs.length (M0 _)).2;rw [N7] at h;exact h
end
noncomputable def nY (K:W.Frag):V->List V->Hp->VK->Prop:=λx vs H Q=>∃ l xs y ds d j,x=.ref l/\vs=[y]/\Tq K H l xs/\Qf K H ds xs/\Dat K H d y/\QB ds=true/\Rr d=true/\Ql ds<=20/\xs.length<=1000 /\
 (∃ e,ds[j]?=some e/\Qs e d=true)/\(∀ (m:Nat) e,m < j->ds[m]?=some e->Qs e d=false)/\Q (.int (j:Nat)) H
section
variable {X:Cx}
theorem zy {k:Nat} (hr:QM k X.A):Z1 X "list.index" (nY X.K):=by
 intro pins s σ H x vs v us Q I rx rv h;obtain ⟨l,xs,y,ds,d,j,rfl,rfl,hH,hds,hd,n1,n2,dp,hx,⟨e0,Z5,hit⟩,hno,q⟩:=h;cases rx;obtain ⟨u,rfl,ru⟩:=ie rv;obtain ⟨its,n,r,e⟩:=hH.at I;have hl:=r.length;have ll:=hds.length
 have item:∀ (m:Nat) (w:Value),its[m]?=some w->∃ g,ds[m]?=some g/\∃ xv,RelV xv w/\Dat X.K H g xv:=λm w hw=>by have hm:m < its.length:=(Nu.mp hw).1;obtain ⟨g,hg,dg⟩:=hds.T9 (i:=m) (v:=xs[m]'(by omega)) (MT (by omega));obtain ⟨w',WD,rr⟩:=r.get (i:=m) (x:=xs[m]'(by omega)) (MT (by omega));rw [hw] at WD;cases WD;exact ⟨g,hg,_,rr,dg⟩
 have Wa:∀ {x1 x2:V} {w:Value},RelV x1 w->RelV x2 w->x1=x2:=λ{x1 x2 w} h1 h2=>RelV.inj h1 h2
 classical
 let eq:Value->Bool:=λw=>if hw:∃ m:Nat,its[m]?=some w then (match ds[Classical.choose hw]? with | some g=>Qs g d | none=>false) else false
 have WE:∀ (m:Nat) (w:Value) (g:D),its[m]?=some w->ds[m]?=some g->eq w=Qs g d:=λm w g hw hg=>by
  have WD:∃ m:Nat,its[m]?=some w:=⟨m,hw⟩
  show (if hw:∃ m:Nat,its[m]?=some w then _ else false)=_;rw [dif_pos WD];have hc:=Classical.choose_spec WD;obtain ⟨g',hg',xv',r1,d1⟩:=item _ w hc;obtain ⟨g2,Zi,xv,r2,d2⟩:=item m w hw;rw [hg] at Zi;cases Zi;rw [hg'];have ex:=Wa r1 r2;subst ex;have:=nR I g' g (gy n1 hg') d1 d2 (gy n1 hg);rw [this]
 have hj:j < ds.length:=(Nu.mp Z5).1
 have hu:X.A.in1.units+20+1 < cLine:=by have:=hr.un;show X.A.units+1+20+1 < cLine;omega
 refine Px F.slot_list_index ⟨_,e,rfl⟩ F.entry_list_index (F.args_list_index_2 _ _) (SeqAt.list_indexAt l its.toArray n none #[] u eq j (by simp;omega) (by omega) ?_ ?_) ⟨e,?_,?_⟩
 ·have hw:its[j]?=some (its[j]'(by omega)):=MT (by omega);have:=WE j _ e0 hw Z5;simpa [this] using hit
 ·intro m hm hmj;have hm':m < its.length:=by simpa using hm
  have hw:its[m]?=some (its[m]'hm'):=MT hm';obtain ⟨g,hg,_⟩:=item m _ hw;have:=WE m _ g hw hg;simpa [this] using hno m g hmj hg
 ·intro w hw;obtain ⟨m,hm,rfl⟩:=Array.getElem_of_mem hw;have hm':m < its.length:=by simpa using hm
  have XW:its[m]?=some (its[m]'hm'):=MT hm';obtain ⟨g,hg,xv,r1,d1⟩:=item m _ XW;have z1:its.toArray[m]=its[m]'hm':=by simp
  rw [z1,WE m _ g XW hg];exact sv I 20 X.A.in1 g d xv y _ u hu (Nv (jc hg) dp) (gy n1 hg) n2 d1 hd r1 ru
 ·exact ⟨.int (j:Nat),H,I.tok _,⟨_,rfl⟩,q⟩
theorem zz {k:Nat} (hr:QM k X.A):Z0 X "list.index" (nY X.K):=zy hr
end
section
variable {K:W.Frag} {σ:St} {H:Hp} {te:TE}
theorem B2 {k j:Nat} {v:V} {ds:List D} {d:D} (hv:LD K H ds v) (h:RE K te σ H d) (n1:QB ds=true) (n2:Rr d=true) (dp:Ql ds<=20) (hl:ds.length<=1000) (h1:∃ e,ds[j]?=some e/\Qs e d=true) (h2:∀ (m:Nat) e,m < j->ds[m]?=some e->Qs e d=false) (e:σ[k]?=some (some v):=by rfl) :
  RE K (Yj K "list" (nY K) (fB k) (cC te eI)) σ H (.int (j:Nat)):=λH1 s Q q=>by
 obtain ⟨a,vs,rfl,hq,hd⟩:=s.ld hv;have ll:=hd.length;refine ⟨_,e,.inl ⟨rfl,_,hq.UI⟩,h H1 s _ λy H2 s2 q2=>?_⟩;exact ⟨a,vs,y,ds,d,j,rfl,rfl,s2.Tq hq,s2.Qu hd,q2,n1,n2,dp,by omega,h1,h2,q _ _ s2 (Dat.Qm _)⟩
end
theorem C1 {K:PySem.W.Frag} {g:TG} {tb:TS} {D:i5} (Pv:Nat->St->Hp->Prop) (h0:Pv 0 σ H) (hl:∀ i σ H,i<=xs.length->Pv i σ H->Qp K H a xs)
  (hs:∀ i x σ H,i < xs.length->xs[xs.length - 1 - i]?=some x->Pv i σ H->g x σ H λσ2 H2=>tb { D with nx:=Pv (i+1),ct:=Pv (i+1),bk:=D.nx } σ2 H2) (hd:∀ σ H,Pv xs.length σ H->D.nx σ H) :
  ∃ W:Nat->Nat->St->Hp->Prop,(∃ m,W 0 m σ H)/\∀ i m σ H,W i m σ H ->
   ((XT K a xs).stop i H/\D.nx σ H)\/((XT K a xs).go i H/\∃ N:St->Hp->Prop,(∀ σ' H',N σ' H'->∃ m',m' < m/\W (i+1) m' σ' H')/\∀ x H',(XT K a xs).VC i H x H'->g x σ H' λσ2 H2=>tb { D with nx:=N,ct:=N,bk:=D.nx } σ2 H2):=by
 refine ⟨λi m σ H=>m=xs.length - i/\i<=xs.length/\Pv i σ H,⟨xs.length,by simp,NW _,h0⟩,?_⟩;rintro i m σ H ⟨rfl,hi,p⟩;have q:=hl i σ H hi p;by_cases hlt:i < xs.length
 ·refine .inr ⟨⟨hlt,q⟩,Pv (i+1),λσ' H' p'=>⟨xs.length - (i+1),by omega,rfl,hlt,p'⟩,λx H' y=>?_⟩;obtain ⟨e,y⟩:=y;subst e;exact hs i x σ _ hlt y p
 ·have e:i=xs.length:=by omega
  subst e;exact .inl ⟨rfl,hd σ H p⟩
theorem uv (Ok:Hp->Prop)
  (go:∀ i H',Ok H'->i < n->J.go i H'/\∀ x Q0,J.VC i H' x Q0->Q0=H'/\x=item i) (stop:∀ H',Ok H'->J.stop n H') (h0:σ0.set j none=σ0)
  (D:Addr) (Pn:Nat->Hp->Prop) (p0:Pn 0 (upd H1 D (.lst []))) (ok:∀ i H',i<=n->Pn i H'->Ok H')
  (turn:∀ i H',i < n->Pn i H'->tt (σ0.set j (some (item i))) H' λb H3=>if b=true then te (σ0.set j (some (item i))) H3 λv H4=>∃ ys,H4 D=some (.lst ys)/\ys.length < sizeLine/\(∃ z,σ0.set j (some (item i))=σ0.set j z)/\Pn (i+1) (upd H4 D (.lst (ys++[v]))) else (∃ z,σ0.set j (some (item i))=σ0.set j z)/\Pn (i+1) H3)
  (fin:∀ H',Pn n H'->Q (.ref D) H') :
  ∃ W:Nat->Nat->St->Hp->Prop,(∃ m,W 0 m σ0 (upd H1 D (.lst [])))/\∀ i m σ' H',W i m σ' H' ->
   (J.stop i H'/\Q (.ref D) H') \/
   (J.go i H'/\∃ Nx:St->Hp->Prop,(∀ σ'' Q0,Nx σ'' Q0->∃ m',m' < m/\W (i+1) m' σ'' Q0)/\∀ x Q0,J.VC i H' x Q0->d6 j x σ' Q0 λσ2 H2=>tt σ2 H2 λb H3 =>
    if b=true then te σ2 H3 λv H4=>∃ ys,H4 D=some (.lst ys)/\ys.length < sizeLine/\Nx σ2 (upd H4 D (.lst (ys++[v]))) else Nx σ2 H3):=by
 refine ⟨λi m σ' H'=>m=n - i/\i<=n/\(∃ z,σ'=σ0.set j z)/\Pn i H',⟨n,by omega,NW _,⟨none,h0.symm⟩,p0⟩,?_⟩;rintro i m σ' H' ⟨rfl,hi,⟨z,rfl⟩,p⟩;have o:=ok i H' hi p;by_cases hlt:i < n
 ·obtain ⟨g,y⟩:=go i H' o hlt;refine .inr ⟨g,λσ'' Q0=>(∃ z,σ''=σ0.set j z)/\Pn (i+1) Q0,λσ'' Q0 q=>⟨n - (i+1),by omega,rfl,hlt,q.1,q.2⟩,λx Q0 yx=>?_⟩;obtain ⟨e1,e2⟩:=y x Q0 yx;subst e1 e2;simp only [d6,lY];exact turn i _ hlt p
 ·have e:i=n:=by omega
  subst e;exact .inl ⟨stop H' o,fin H' p⟩
theorem FK {o:Expr} {to:TE} {name:Str} {apos cpos:Pos} {T id:String} {r:V->List V->Hp->VK->Prop} (K:W.Frag) (hK:X.K=K) (pa:PlainAttrs T) (slot:Slot T name id) (hty:typeOf (.builtin id)=pure (.type "method_descriptor")) (hm:Z0 X id r) (ho:PE X o to) (ha:PA X (e::es) t)
  (hbase:attributeBase o name X.env (eval o X.env)=eval o X.env:=by rfl)
  (hfew:((backTo cpos (starEach (e::es) X.env)).all (λx=>!x.1) && (backToKw cpos (keywordEach [] X.env)).all (λx=>x.1.isSome)
   && decide ((e::es).length+([]:List Keyword).length+(if ([]:List Keyword).isEmpty then 0 else 1) < 30))=true:=by rfl)
  (hline:(apos.endLine == cpos.line)=true:=by rfl) (hs:starEach (e::es) X.env=(false,eval e X.env)::starEach es X.env:=by rfl) (hplain:(backTo cpos (starEach es X.env)).any (·.1)=false:=by rfl) :
  PE X (.Call (.Attribute o name apos) (e::es) [] cpos) (Yj K T r to t):=by
 subst hK;exact ic pa slot hty hm ho ha hbase hfew hline hs hplain
theorem dF (a b:D) (r q:List D):QG (a::r) (b::q)=(Qs a b && QG r q):=by rw [QG]
theorem eO:QG [] []=true:=by rw [QG]
theorem eZ (b:D) (q:List D):QG [] (b::q)=false:=by unfold QG;rfl
theorem eK (a:D) (r:List D):QG (a::r) []=false:=by unfold QG;rfl
theorem fZ (a b:List D):Qs (.tup a) (.tup b)=QG a b:=by rw [Qs]
theorem fY (a b:Str):Qs (.str a) (.str b)=decide (a=b):=by unfold Qs;by_cases h:a=b <;> simp [h]
theorem fX (a b:Int):Qs (.int a) (.int b)=decide (a=b):=by unfold Qs;by_cases h:a=b <;> simp [h]
section
variable {P:Program} {w:World} {H H':Hp} {h h1 h2:Heap} {a b T:Addr} {o:HO} {fs:List Addr}
end
section
variable {X:Cx} {pins:List (Addr × Obj)} {σ:St} {H:Hp} {s s':Shared} {E:XK} {e:Value}
end
section
variable {X:Cx} {CX:WI} {k:Nat} {f C:Addr} {fd:FuncData} {ps:List Str} {sp:Sp} {Up:List V} {ds:List Value} {E:St->XK} {x m:Str} {p pos apos:Pos} {e o:Expr} {es:List Expr} {ta:TE} {t:TA}
end
section
variable {X:Cx} {pins VA:List (Addr × Obj)} {σ:St} {H:Hp} {s:Shared} {xe:Value->Shared->Prop} {e:Value}
end
end L2
namespace L2
open PySem PySem.Spec PySem.Calls PyProof.Rows PySem.W PySem.Builtin PySem.Builtin.ObjectAttr PySem.Builtin.Getset_descriptor
section
variable {prog:Program} {w:World} {A:Around} {E:Value->Shared->Prop} {s:Shared} {K:Frag} {x D:Addr} {ox:Obj} {od:Option Obj} {name:Str}
end
section
variable {X:Cx} {pins:List (Addr × Obj)} {σ:St} {H H':Hp} {s s2:Shared} {a:Addr} {o:HO}
end
end L2
namespace L2
open PySem PySem.Spec PySem.Calls PyProof.Rows
section
variable {P:Program} {w:World} {K:W.Frag} {mg:Str->Option Value} {base:Heap}
end
section
variable {X:Cx} {k:Nat} {f:Addr} {fd:FuncData} {ps:List Str} {sp:Sp} {Up:List V} {ds:List Value} {E:XK} {x:Str} {p pos:Pos} {e:Expr} {es:List Expr} {t:TA}
end
section
variable {X:Cx}
end
section
variable {P:Program} {w:World} {K:W.Frag} {mg:Str->Option Value} {base:Heap}
end
section
variable {X:Cx} {CX:WI} {k:Nat} {f C:Addr} {fd:FuncData} {ps ks:List Str} {sp:Sp} {E:St->XK} {x m:Str} {p pos apos kpos:Pos} {e o:Expr} {es:List Expr} {kws:List Keyword} {te ta:TE} {t tk:TA} {nm:Option Str} {g:List Value->List Value->List Value} {gV:List V->List V->List V}
end
section
variable {K:W.Frag} {σ:St} {H:Hp} {tA tK:TA} {ds es fs:List D} {d e:D} {Up:List V} {R:List D->D->Prop} {B:List D->Addr->Prop} {E:XK} {Q:VK} {C:Addr} {gV:List V->List V->List V} {ta tb:TE}
theorem yA (h1:RE K ta σ H d) (h2:RE K tb σ H e) (n1:Rr d=true) (n2:Rr e=true) (dp:fD d<=20):RE K (S5 (DI K true) ta tb) σ H (.bl (!Qs d e)):=λH1 s Q q =>
 h1 H1 s _ λv H2 s2 q2=>h2 H2 (s.trans s2) _ λw H3 s3 q3=>⟨d,e,s3.dat q2,q3,n1,n2,dp,q _ _ (s2.trans s3) (Dat.To _)⟩
theorem DS (h1:RE K ta σ H d) (h2:RE K tb σ H e) (n1:Rr d=true) (n2:Rr e=true) (dp:fD d<=20):RE K (S5 (DI K false) ta tb) σ H (.bl (Qs d e)):=λH1 s Q q =>
 h1 H1 s _ λv H2 s2 q2=>h2 H2 (s.trans s2) _ λw H3 s3 q3=>⟨d,e,s3.dat q2,q3,n1,n2,dp,q _ _ (s2.trans s3) (Dat.To _)⟩
end
section
variable {X:Cx}
theorem mD:fillsNumberSlot (.type "tuple") "mul"=pure false :=
 PySem.fillsNumberSlot_seq (id:="tuple.__mul__") (r:=some (.builtin "tuple.__rmul__")) F.slot_tuple_mul.lookup (by decide +kernel) F.slot_tuple_rmul.lookup (by decide +kernel)
theorem tQ:seqRepeat? (.type "tuple")=pure (some (.builtin "tuple.__mul__")):=by unfold seqRepeat?;rw [PySem.seqSlot_of (T:="tuple") (name:="__mul__") (id:="tuple.__mul__") F.slot_tuple_mul.lookup (by decide +kernel),PySem.seqSlot_of (T:="tuple") (name:="__rmul__") (id:="tuple.__rmul__") F.slot_tuple_rmul.lookup (by decide +kernel)];rfl
theorem oZ (a:Int) (t:Tok) (l:Addr) (items:Array Value) (n:Nat) (dd:Option Addr) (sl:Array (Option Value)) :
  Meets (Builtin.«int.__rmul__» ⟨[.int a t,.ref l],[]⟩) (λ_ R s=>s.heap.get? l=some { cls:=.type "tuple",dict:=dd,data:=.seq items n,slots:=sl }/\R (.ok (.ret Value.notImplemented)) s) :=
 .of_wp λ_ _ _ _ s q=>by
  obtain ⟨h0,g0,d0,t0,o0⟩:=s;obtain ⟨at_l,q⟩:=q
  wp_walk
  exact ⟨_,rfl,q⟩
end
end L2
namespace L2
open PySem PySem.Spec PySem.Calls PyProof.Rows PySem.W PySem.Builtin PySem.Builtin.ObjectAttr
section
variable {prog:Program} {w:World} {A:Around} {E:Value->Shared->Prop} {K:Frag} {C fI:Addr} {us:List Value}
end
section
variable {h:Heap} {x b:Addr} {o:Obj} {vs:Array Value}
end
section
variable {prog:Program} {w:World} {A:Around} {E:Value->Shared->Prop} {s:Shared} {K:Frag} {x C:Addr} {ox:Obj} {name:Str} {v:Value} {vs:Array Value}
end
section
variable {X:Cx} {pins:List (Addr × Obj)} {σ:St} {H:Hp} {s s':Shared} {C fI e:Addr} {fd:FuncData} {k:Nat} {ps:List Str} {a0:Value}
end
end L2
namespace L2
open PySem PySem.Spec PySem.Calls PyProof.Rows
noncomputable abbrev fS (h:Heap) (it t:Addr) (i:Nat):Prop:=h.get? it=some { cls:=.type "tuple_iterator",dict:=none,data:=.fields #[.ref t,rawInt i],slots:=#[] }
section
variable {prog:Program} {w:World} {A:Around} {E:Value->Shared->Prop} {s:Shared} {it t:Addr} {i:Nat} {items:Array Value}
theorem p9 {x:Value} {Q:Value->Shared->Prop} (a1:fS s.heap it t i) (a2:s.heap.IsTuple t items) (hx:items[i]?=some x)
  (q:∀ h',fS h' it t (i+1)->Heap.SameBut it s.heap h'->Q x { s with heap:=h' }):wpAny (model prog w) A (Builtin.SmallTypes.nextOf (.ref it)) Q E s:=by
 have ty:s.TypeIs (.ref it) "tuple_iterator":=⟨_,a1,rfl⟩
 obtain ⟨⟨c2,d2,Yn,s2⟩,a2,hc,n,hd⟩:=a2;obtain rfl:c2=.type "tuple":=hc;obtain rfl:Yn=.seq items n:=hd;unfold Builtin.SmallTypes.nextOf;refine MV (N5 (name:=Str.ofString "__next__") ty OH (Oj OH ty F.entry_tuple_iterator_next ?_ (F.args_tuple_iterator_next_1 _)));obtain ⟨h0,g0,d0,t0,o0⟩:=s;unfold fS rawInt at a1
 wp_walk
 rw [Pg,hx];refine MV (Om a1 (by simp) λh' b1 b2=>Nc ⟨x,rfl,Nc (q h' ?_ b2)⟩);show h'.get? it=some _;have e:((i+1:Nat):Int)=(i:Int)+1:=by omega
 rw [e];exact b1
theorem xq {Q:Value->Shared->Prop} (hh:A.handled=none) (a1:fS s.heap it t i) (a2:s.heap.IsTuple t items) (hx:items[i]?=none)
  (q:∀ h' e,Heap.ExtBut it s.heap h'->(∃ o,h'.get? e=some o/\o.cls=.type "StopIteration")->E (.ref e) { s with heap:=h' }):wpAny (model prog w) A (Builtin.SmallTypes.nextOf (.ref it)) Q E s:=by
 have ty:s.TypeIs (.ref it) "tuple_iterator":=⟨_,a1,rfl⟩
 obtain ⟨⟨c2,d2,Yn,s2⟩,a2,hc,n,hd⟩:=a2;obtain rfl:c2=.type "tuple":=hc;obtain rfl:Yn=.seq items n:=hd;unfold Builtin.SmallTypes.nextOf;refine MV (N5 (name:=Str.ofString "__next__") ty OH (Oj OH ty F.entry_tuple_iterator_next ?_ (F.args_tuple_iterator_next_1 _)));obtain ⟨h0,g0,d0,t0,o0⟩:=s;unfold fS rawInt at a1
 wp_walk
 rw [Pg,hx];refine MV (wpAny_rule (MV (Om a1 (by simp) λh' b1 b2=>?_)));unfold Builtin.SmallTypes.stopIteration
 wp_walk
 exact wpAny_raiseNew_none hh (q _ _ ((b2.extBut.push _).push _) ⟨_,Nr _ rfl,rfl⟩)
end
noncomputable abbrev Ck (t:Addr):Obj:={ cls:=.type "tuple_iterator",data:=.fields #[.ref t,.int 0 0] }
variable {X:Cx} {s:Shared}
theorem Inv.Wt {pins:List (Addr × Obj)} {σ:St} {H:Hp} {h':Heap} {t':Nat} {its:List Addr} (I:Inv X pins σ H s) (k:∀ b o,b ∉ its->s.heap.get? b=some o->h'.get? b=some o)
  (ok:∀ b ∈ its,H b=none/\b≠X.env.locals/\(b ∈ X.ex\/X.s₀.heap.objs.size<=b)/\(∀ x c,X.env.cells.lookup x=some c->c≠b)/\∀ p ∈ X.pn++pins,p.1≠b):Inv X pins σ H { s with heap:=h',toks:=t' }:=by
 have out:∀ b u,H b=some u->b ∉ its:=λb u e z=>by rw [(ok b z).1] at e;cases e
 refine I.step (g':=s.gens) (d':=s.drawn) (ch:=its) (λb hb=>⟨(ok b hb).2.2.1,(ok b hb).2.1,(ok b hb).2.2.2⟩) (λb o _ _ hc e _=>k b o hc e) (λb o _ _ hc e _=>⟨o.slots,k b o hc e⟩) (λ_ _ _ _ n=>n)
  (λb o hc e=>⟨o,k b o hc e⟩) (λ_ _ e=>e) (λ_ _ _ e=>e) (λb ps e=>⟨#[],by rw [Array.append_empty];exact e⟩) (λm hm=>?_) (λb u e=>?_) I.bare
 ·obtain ⟨o,es,ep,ho,r⟩:=hm;exact ⟨o,es,ep,k _ o (λz=>(ok _ z).2.1 rfl) ho,r⟩
 ·refine (I.hok b u e).stay (λc v hc q=>k c v ?_ q) (λ_ q=>q) λ_ _ q=>q;rcases hc with z | z
  ·rw [z];exact out b u e
  ·exact out c _ z
section
variable {prog:Program} {w:World} {A:Around} {E:Value->Shared->Prop} {s:Shared} {z TI TO i1 i2 t1 t2:Addr} {k:Nat} {xs ys:Array Value}
variable {a b:Value}
theorem Ah {x y:Value} {Q:Value->Shared->Prop} (hz:IsZip s.heap z TI TO .none) (hI:IsPair s.heap TI (.ref i1) (.ref i2)) (hO:IsPair s.heap TO a b) (h1:fS s.heap i1 t1 k) (h2:fS s.heap i2 t2 k)
  (l1:s.heap.IsTuple t1 xs) (l2:s.heap.IsTuple t2 ys) (hx:xs[k]?=some x) (hy:ys[k]?=some y) (D:ZipApart z TI TO i1 i2 t1 t2)
  (q:∀ h',IsZip h' z TI TO (rawInt s.heap.objs.size)->IsPair h' TO x y->fS h' i1 t1 (k+1)->fS h' i2 t2 (k+1)->h'.get? s.heap.objs.size=some { cls:=.type "tuple",data:=.seq #[x,y] } ->
   (∀ b o,b≠z->b≠TO->b≠i1->b≠i2->s.heap.get? b=some o->h'.get? b=some o)->Q (.ref s.heap.objs.size) { s with heap:=h' }):wpAny (model prog w) A (Builtin.«zip.__next__» ⟨[.ref z],[]⟩) (λfin s'=>∃ v,fin=.done (.ret v)/\Q v s') E s:=by
 show wpAny _ _ (field (.ref z) 2 >>= _) _ _ _;refine MV (Ot hz rfl rfl ?_);show wpAny _ _ (field (.ref z) 3 >>= _) _ _ _;refine MV (Ot hz rfl rfl ?_);refine MV (Pe hI rfl ?_);refine MV (MV (Ot hz rfl rfl (Nc ?_)));refine MV (wpAny_rule ?_);refine MV (Ot hz rfl rfl ?_);refine MV (Om hz (by simp) λha za sa=>?_)
 replace za:IsZip ha z TI TO .ellipsis:=za
 rw [show (#[Value.ref i1,Value.ref i2]:Array Value).toList.zipIdx=[(.ref i1,0),(.ref i2,1)] from rfl,Pz];have h1a:fS ha i1 t1 k:=(sa.2 i1 D.i1z).trans h1;have h2a:fS ha i2 t2 k:=(sa.2 i2 D.i2z).trans h2;have l1a:ha.IsTuple t1 xs:=l1.extBut sa.extBut D.l1z;have l2a:ha.IsTuple t2 ys:=l2.extBut sa.extBut D.l2z;have hOa:IsPair ha TO a b:=(sa.2 TO D.TOz).trans hO;refine MV (MV (MV (wpAny_onRaise (MV (p9 (s:={ s with heap:=ha }) h1a l1a hx λhb h1b sb=>Nc ?_)))))
 replace sb:Heap.SameBut i1 ha hb:=sb
 have hOb:IsPair hb TO a b:=(sb.2 TO D.TOi1).trans hOa;refine MV (Pe (s:={ s with heap:=hb }) hOb rfl ?_);refine MV (wpAny_updateSeq_pair (s:={ s with heap:=hb }) hOb λhc hOc sc=>?_)
 replace sc:Heap.SameBut TO hb hc:=sc
 replace hOc:IsPair hc TO x b:=hOc
 refine MV (wpAny_letGo (Nc ?_));have h2c:fS hc i2 t2 k:=(sc.2 i2 (Nz D.TOi2)).trans ((sb.2 i2 (Nz D.i12)).trans h2a);have l2c:hc.IsTuple t2 ys:=(l2a.extBut sb.extBut D.l2i1).extBut sc.extBut D.l2TO;show wpAny _ _ (forIn [(Value.ref i2,1)] _ _) _ _ _;rw [Pz];refine MV (MV (wpAny_onRaise (MV (p9 (s:={ s with heap:=hc }) h2c l2c hy λhd h2d sd=>Nc ?_))))
 replace sd:Heap.SameBut i2 hc hd:=sd
 have hOd:IsPair hd TO x b:=(sd.2 TO D.TOi2).trans hOc;refine MV (Pe (s:={ s with heap:=hd }) hOd rfl ?_);refine MV (wpAny_updateSeq_pair (s:={ s with heap:=hd }) hOd λhe Z6 se=>?_)
 replace se:Heap.SameBut TO hd he:=se
 replace Z6:IsPair he TO x y:=Z6
 refine MV (wpAny_letGo (Nc ?_));show wpAny _ _ (forIn [] _ _) _ _ _;rw [List.forIn_nil];refine Nc ?_;show wpAny _ _ (seqItems? (.ref TO) >>= _) _ _ _;refine MV (Pe (s:={ s with heap:=he }) Z6 rfl ?_);refine MV (wpAny_newTuple ?_);have sze:he.objs.size=s.heap.objs.size:=by rw [se.1,sd.1,sc.1,sb.1,sa.1]
 have ze:IsZip he z TI TO .ellipsis:=(se.2 z (Nz D.TOz)).trans ((sd.2 z (Nz D.i2z)).trans ((sc.2 z (Nz D.TOz)).trans ((sb.2 z (Nz D.i1z)).trans za)));have zf:IsZip (he.push { cls:=.type "tuple",data:=.seq #[x,y] }) z TI TO .ellipsis:=MU _ ze;have tf:(he.push { cls:=.type "tuple",data:=.seq #[x,y] }).get? s.heap.objs.size=some { cls:=.type "tuple",data:=.seq #[x,y] }:=Oc sze.symm rfl;have of:IsPair (he.push { cls:=.type "tuple",data:=.seq #[x,y] }) TO x y:=MU _ Z6;have f1:fS (he.push { cls:=.type "tuple",data:=.seq #[x,y] }) i1 t1 (k+1):=MU _ ((se.2 i1 (Nz D.TOi1)).trans ((sd.2 i1 D.i12).trans ((sc.2 i1 (Nz D.TOi1)).trans h1b)));have f2:fS (he.push { cls:=.type "tuple",data:=.seq #[x,y] }) i2 t2 (k+1):=MU _ ((se.2 i2 (Nz D.TOi2)).trans h2d)
 have kf:∀ b o,b≠z->b≠TO->b≠i1->b≠i2->s.heap.get? b=some o->(he.push { cls:=.type "tuple",data:=.seq #[x,y] }).get? b=some o:=λb o n1 n2 n3 n4 e =>
  MU _ ((se.2 b n2).trans ((sd.2 b n4).trans ((sc.2 b n2).trans ((sb.2 b n3).trans ((sa.2 b n1).trans e)))))
 generalize he.push { cls:=.type "tuple",data:=.seq #[x,y] }=hf at zf tf of f1 f2 kf;have lz:z < s.heap.objs.size:=Ni hz;show wpAny _ _ (Builtin.SmallTypes.ownedTupleHandOut (.ref z) (.ref he.objs.size) >>= _) _ _ _;rw [sze];refine MV (MV (Om (s:={ s with heap:=hf }) zf (by simp) λhg zg sg=>Om (s:={ s with heap:=hg }) zg (by simp) λhh zh sh=>Nc ⟨_,rfl,?_⟩))
 replace sg:Heap.SameBut z hf hg:=sg
 replace sh:Heap.SameBut z hg hh:=sh
 have on:∀ b,b≠z->hh.get? b=hf.get? b:=λb n=>(sh.2 b n).trans (sg.2 b n);refine q hh zh ?_ ?_ ?_ ?_ λb o n1 n2 n3 n4 e=>(on b n1).trans (kf b o n1 n2 n3 n4 e)
 ·exact (on TO D.TOz).trans of
 ·exact (on i1 D.i1z).trans f1
 ·exact (on i2 D.i2z).trans f2
 ·exact (on _ (Ox lz)).trans tf
theorem Ag {Q:Fin->Shared->Prop} (hh:A.handled=none) (hz:IsZip s.heap z TI TO .none) (hI:IsPair s.heap TI (.ref i1) (.ref i2)) (hO:IsPair s.heap TO a b) (h1:fS s.heap i1 t1 k)
  (l1:s.heap.IsTuple t1 xs) (hx:xs[k]?=none) (D:ZipApart z TI TO i1 i2 t1 t2)
  (q:∀ h' e,(∀ b o,b≠z->b≠i1->s.heap.get? b=some o->h'.get? b=some o)->(∃ o,h'.get? e=some o/\o.cls=.type "StopIteration")->E (.ref e) { s with heap:=h' }):wpAny (model prog w) A (Builtin.«zip.__next__» ⟨[.ref z],[]⟩) Q E s:=by
 show wpAny _ _ (field (.ref z) 2 >>= _) _ _ _;refine MV (Ot hz rfl rfl ?_);show wpAny _ _ (field (.ref z) 3 >>= _) _ _ _;refine MV (Ot hz rfl rfl ?_);refine MV (Pe hI rfl ?_);refine MV (MV (Ot hz rfl rfl (Nc ?_)));refine MV (wpAny_rule ?_);refine MV (Ot hz rfl rfl ?_);refine MV (Om hz (by simp) λha za sa=>?_)
 replace za:IsZip ha z TI TO .ellipsis:=za
 rw [show (#[Value.ref i1,Value.ref i2]:Array Value).toList.zipIdx=[(.ref i1,0),(.ref i2,1)] from rfl,Pz];have h1a:fS ha i1 t1 k:=(sa.2 i1 D.i1z).trans h1;have l1a:ha.IsTuple t1 xs:=l1.extBut sa.extBut D.l1z;refine MV (MV (MV (wpAny_onRaise (MV (xq (s:={ s with heap:=ha }) hh h1a l1a hx λhb e sb he=>?_)))))
 replace sb:Heap.ExtBut i1 ha hb:=sb
 have zb:IsZip hb z TI TO .ellipsis:=sb z _ (Nz D.i1z) za;obtain ⟨oe,hoe,hce⟩:=he;have nez:e≠z:=λy=>by rw [y,zb] at hoe;cases hoe;simp at hce
 refine Om (s:={ s with heap:=hb }) zb (by simp) λhc zc sc=>q hc e (λb o n1 n2 hb'=>?_) ⟨oe,(sc.2 e nez).trans hoe,hce⟩;exact (sc.2 b n1).trans (sb b o n2 ((sa.2 b n1).trans hb'))
end
theorem CB (t1 t2:Addr) (xs ys:Array Value) :
  Meets (Builtin.«zip.__new__» ⟨[.type "zip",.ref t1,.ref t2],[]⟩) (λ_ R s=>s.heap.IsTuple t1 xs/\s.heap.IsTuple t2 ys /\
   ∀ h',IsZip h' (s.heap.objs.size+4) (s.heap.objs.size+2) (s.heap.objs.size+3) .none->IsPair h' (s.heap.objs.size+2) (.ref s.heap.objs.size) (.ref (s.heap.objs.size+1))->IsPair h' (s.heap.objs.size+3) .none .none ->
    fS h' s.heap.objs.size t1 0->fS h' (s.heap.objs.size+1) t2 0->(∀ b o,s.heap.get? b=some o->h'.get? b=some o)->R (.ok (.ret (.ref (s.heap.objs.size+4)))) { s with heap:=h' }) :=
 .of_wp λ_ _ _ _ s q=>by
  obtain ⟨h0,g0,d0,t0,o0⟩:=s;obtain ⟨a1,a2,q⟩:=q;have Zj:=sub_zip;have b1:Heap.IsTuple (Shared.heap ⟨h0,g0,d0,t0,o0⟩) t1 xs:=a1;have b2:Heap.IsTuple (Shared.heap ⟨h0.push (Ck t1),g0,d0,t0,o0⟩) t2 ys:=Heap.IsTuple.push a2 _
  wp_walk using PY b1,PY b2
  refine ⟨_,rfl,?_⟩;have n1:(h0.push (Ck t1)).objs.size=h0.objs.size+1:=NY _ _;simp only [NY];refine q _ ?_ ?_ ?_ ?_ ?_ λb o e=>?_
  ·exact Oc (by simp [NY]) rfl
  ·exact MU _ (MU _ (Oc (by simp [NY]) rfl))
  ·exact MU _ (Oc (by simp [NY]) rfl)
  ·exact MU _ (MU _ (MU _ (MU _ (Oc (by simp [NY]) rfl))))
  ·exact MU _ (MU _ (MU _ (Oc (by simp [NY]) rfl)))
  ·exact MU _ (MU _ (MU _ (MU _ (MU _ e))))
variable {w:World}
theorem yY {prog:Program} {A:Around} {E:Value->Shared->Prop} {t1 t2:Addr} {xs ys:Array Value} {Q:Value->Shared->Prop} (a1:s.heap.IsTuple t1 xs) (a2:s.heap.IsTuple t2 ys)
  (q:∀ h',IsZip h' (s.heap.objs.size+4) (s.heap.objs.size+2) (s.heap.objs.size+3) .none->IsPair h' (s.heap.objs.size+2) (.ref s.heap.objs.size) (.ref (s.heap.objs.size+1))->IsPair h' (s.heap.objs.size+3) .none .none ->
   fS h' s.heap.objs.size t1 0->fS h' (s.heap.objs.size+1) t2 0->(∀ b o,s.heap.get? b=some o->h'.get? b=some o)->Q (.ref (s.heap.objs.size+4)) { s with heap:=h' }):wpAny (model prog w) A (call (.type "zip") [.ref t1,.ref t2]) Q E s :=
 callType_new F.called_zip (by decide) (F.typeCall_zip_2 _ _) (F.newCall_zip_2 _ _) (λo=>F.args_object_init_3 o _ _) F.entry_zip_new (CB t1 t2 xs ys) ⟨a1,a2,λh' z1 z2 z3 z4 z5 kk=>⟨⟨_,z1,rfl⟩,q h' z1 z2 z3 z4 z5 kk⟩⟩
noncomputable def Zk (K:W.Frag) (a b:Addr) (xs ys:List V):It:=⟨λi H=>i < xs.length/\i < ys.length/\QH K H a xs/\QH K H b ys,λi H x H'=>∃ p u v,H p=none/\x=.ref p/\xs[i]?=some u/\ys[i]?=some v/\H'=upd H p (.tup [u,v]),λi H=>i=xs.length/\QH K H a xs⟩
variable {elts:List Expr} {ps:Pos}
theorem Cr {P:Program} {K:W.Frag} {c1} (a b z TI TO i1 i2:Addr) (xs ys:List V) (D:ZipApart z TI TO i1 i2 a b):oo P w K (.Tuple elts c1 ps) (Zk K a b xs ys) [z,TI,TO,i1,i2] z
  (λi h=>∃ c d,IsZip h z TI TO .none/\IsPair h TI (.ref i1) (.ref i2)/\IsPair h TO c d/\fS h i1 a i/\fS h i2 b i) where
 mem:=by simp
 obj:=λi h ⟨c,d,q1,q2,q3,q4,q5⟩ b hb=>by
  simp only [Na,Ny,NX] at hb;rcases hb with rfl | rfl | rfl | rfl | rfl
  ·exact ⟨_,q1,λv e=>by cases e⟩
  ·exact ⟨_,q2,λv e=>by cases e⟩
  ·exact ⟨_,q3,λv e=>by cases e⟩
  ·exact ⟨_,q4,λv e=>by cases e⟩
  ·exact ⟨_,q5,λv e=>by cases e⟩
 keep:=λi h h' ⟨c,d,q1,q2,q3,q4,q5⟩ k=>⟨c,d,k z (by simp) _ q1,k TI (by simp) _ q2,k TO (by simp) _ q3,k i1 (by simp) _ q4,k i2 (by simp) _ q5⟩
 item:=by
  intro X hP hw hK hc i pins s σ H E I hf st hg;subst hP hw hK;obtain ⟨c,d,q1,q2,q3,q4,q5⟩:=st;obtain ⟨hi,hj,ha,hb⟩:=hg;obtain ⟨us,ru,pu,_⟩:=I.tuple ha;obtain ⟨vs,rv,pv,_⟩:=I.tuple hb;have hx:xs[i]?=some xs[i]:=MT hi;have hy:ys[i]?=some ys[i]:=MT hj;obtain ⟨u,hu,r1⟩:=ru.get hx;obtain ⟨v,hv,r2⟩:=rv.get hy;have ty:s.TypeIs (.ref z) "zip":=⟨_,q1,rfl⟩
  unfold pyNext;refine MV (Pk (N5 (name:=Str.ofString "__next__") ty PC (Oj PC ty F.entry_zip_next ?_ (F.args_zip_next_1 _))));refine Ah (x:=u) (y:=v) q1 q2 q3 q4 q5 (show s.heap.IsTuple a us.toArray from pu) (show s.heap.IsTuple b vs.toArray from pv) (by simpa using hu) (by simpa using hv) D λh' w1 w2 w3 w4 w5 w6=>Nc ⟨_,rfl,?_⟩;refine wpAny_letOwnedTupleGo_zip (s:={ s with heap:=h' }) w1 λh2 e2 same=>?_
  replace same:Heap.SameBut z h' h2:=same
  have lz:z < s.heap.objs.size:=Ni q1;have lTI:TI < s.heap.objs.size:=Ni q2;have lTO:TO < s.heap.objs.size:=Ni q3;have l1:i1 < s.heap.objs.size:=Ni q4;have l2:i2 < s.heap.objs.size:=Ni q5
  have low:∀ b ∈ [z,TI,TO,i1,i2],b < s.heap.objs.size:=λb hb=>by simp only [Na,Ny,NX] at hb;rcases hb with rfl | rfl | rfl | rfl | rfl <;> assumption
  have tup2:h2.get? s.heap.objs.size=some { cls:=.type "tuple",data:=.seq #[u,v] }:=(same.2 _ (Ox lz)).trans w5
  have I1:Inv X pins σ (upd H s.heap.objs.size (.tup [xs[i],ys[i]])) { s with heap:=s.heap.push { cls:=.type "tuple",data:=.seq #[u,v] },toks:=s.toks } :=
   I.laid (o:=.tup [xs[i],ys[i]]) (λb ob q=>MU _ q) (M0 _) ⟨by rw [OW];simp,[u,v],.cons r1 (.cons r2 .nil),PX _ _⟩
  have frees:∀ b,b < s.heap.objs.size->upd H s.heap.objs.size (.tup [xs[i],ys[i]]) b=H b:=λb hb=>aR (ND hb)
  have I2:Inv X pins σ (upd H s.heap.objs.size (.tup [xs[i],ys[i]])) { s with heap:=h2,toks:=s.toks }:=by
   refine Inv.Wt (s:={ s with heap:=s.heap.push { cls:=.type "tuple",data:=.seq #[u,v] },toks:=s.toks }) (h':=h2) (its:=[z,TI,TO,i1,i2]) (t':=s.toks) I1 (λb o hb q=>?_) (λb hb=>?_)
   ·simp only [Na,Ny,NX,not_or] at hb;obtain ⟨n1,n2,n3,n4,n5⟩:=hb;by_cases YR:b=s.heap.objs.size
    ·subst YR;have q':(s.heap.push { cls:=.type "tuple",data:=.seq #[u,v] }).get? s.heap.objs.size=some o:=q;rw [Oc rfl rfl] at q';cases q';exact tup2
    ·have q':s.heap.get? b=some o:=(Heap.get?_push_ne _ _ _ YR).symm.trans q;exact (same.2 b n1).trans (w6 b o n1 n3 n4 n5 q')
   ·obtain ⟨f0,f1,f2,f3,f4,f5⟩:=hf b hb;exact ⟨by rw [frees b (low b hb)];exact f0,f1,f3,f4,f5⟩
  refine ⟨.ref s.heap.objs.size,_,I2,rfl,⟨_,_,_,I.hok.fresh (M0 _),rfl,hx,hy,rfl⟩,⟨u,v,e2,?_,?_,?_,?_⟩,λb hb=>?_⟩
  ·exact (same.2 TI D.TIz).trans (w6 TI _ D.TIz D.TITO D.TIi1 D.TIi2 q2)
  ·exact (same.2 TO D.TOz).trans w2
  ·exact (same.2 i1 D.i1z).trans w3
  ·exact (same.2 i2 D.i2z).trans w4
  ·rw [frees b (low b hb)];exact (hf b hb).1
 done:=by
  intro X hP hw hK hc i pins s σ H E I hf st hg;subst hP hw hK;obtain ⟨c,d,q1,q2,q3,q4,q5⟩:=st;obtain ⟨hi,ha⟩:=hg;obtain ⟨us,ru,pu,_⟩:=I.tuple ha;have lr:=ru.length;have ty:s.TypeIs (.ref z) "zip":=⟨_,q1,rfl⟩
  unfold pyNext;refine MV (Pk (N5 (name:=Str.ofString "__next__") ty PC (Oj PC ty F.entry_zip_next ?_ (F.args_zip_next_1 _))));refine Ag (I.ok.hd hc) q1 q2 q3 q4 (show s.heap.IsTuple a us.toArray from pu) (by simp;omega) D λh' e kk ⟨o,ho,hco⟩=>?_;refine MV (wpAny_isInstance (T:="StopIteration") (b:=true) ⟨o,ho,hco⟩ isSubtype_stop (Nc ⟨rfl,?_⟩));refine Inv.Wt (s:=s) (h':=h') (its:=[z,i1]) (t':=s.toks) I (λb o hb q=>kk b o (λy=>hb (by simp [y])) (λy=>hb (by simp [y])) q) (λb hb=>?_)
  obtain ⟨f0,f1,f2,f3,f4,f5⟩:=hf b (by
   simp only [Na,Ny,NX] at hb;rcases hb with rfl | rfl <;> simp)
  exact ⟨f0,f1,f3,f4,f5⟩
 self:=λA i s Q E ⟨_,_,q1,_⟩ q=>wpAny_pyIter_zip q1 q
noncomputable def GL (K:W.Frag) (ta:TA):TI:=λσ H R=>ta σ H λvs H1=>∃ a b xs ys,vs=[.ref a,.ref b]/\QH K H1 a xs/\QH K H1 b ys/\R (Zk K a b xs ys) H1
theorem BI {a b:Expr} {ta:TA} {p pos:Pos} {c1} (hg:Gl X "zip") (hm:X.mg "zip"=none) (ha:PA X [a,b] ta) (hs:starEach [a,b] X.env=(false,eval a X.env)::starEach [b] X.env:=by rfl) (hpl:(backTo pos (starEach [b] X.env)).any (·.1)=false:=by rfl) :
  PI X (.Tuple elts c1 ps) (.Call (.Name "zip" p) [a,b] [] pos) (GL X.K ta):=by
 intro pins s σ H R I h;refine Call_ (kM I hg hm E8 (Oe (Qt (ha pos pins s σ H _ I h) λus s1 ⟨vs,H1,I1,r1,q1⟩=>?_) hs hpl));obtain ⟨t1,t2,xs,ys,ev,hq1,hq2,q⟩:=q1;subst ev
 cases r1 with
 | cons e1 rt =>
  obtain ⟨u2,rfl,e2⟩:=ie rt;cases e1;cases e2;obtain ⟨us,ru,pu,_⟩:=I1.tuple hq1;obtain ⟨vs,rv,pv,_⟩:=I1.tuple hq2;have Z7:t1 < s1.heap.objs.size:=pu.lt;have Z8:t2 < s1.heap.objs.size:=pv.lt;refine yY pu pv λh' z1 z2 z3 z4 z5 kk=>?_;refine wpAny_pyIter_zip (s:={ s1 with heap:=h' }) z1 ?_;have ne:∀ {x y:Nat},x < y->x≠y:=λh=>ND h;have gt:∀ {x y:Nat},y < x->x≠y:=λh=>Ox h
  have ap:ZipApart (s1.heap.objs.size+4) (s1.heap.objs.size+2) (s1.heap.objs.size+3) s1.heap.objs.size (s1.heap.objs.size+1) t1 t2 :=
   ⟨ne (by omega),ne (by omega),ne (by omega),ne (by omega),ne (by omega),gt (by omega),gt (by omega),gt (by omega),gt (by omega),ne (by omega),ne (Nk Z7 (by omega)),ne (Nk Z7 (by omega)),ne Z7,ne (Nk Z7 (by omega)),
    ne (Nk Z8 (by omega)),ne (Nk Z8 (by omega)),ne Z8,ne (Nk Z8 (by omega))⟩
  refine ⟨s1.heap.objs.size+4,[s1.heap.objs.size+4,s1.heap.objs.size+2,s1.heap.objs.size+3,s1.heap.objs.size,s1.heap.objs.size+1],_,_,H1,rfl,I1.kept (t':=s1.toks) kk,Cr t1 t2 _ _ _ _ _ xs ys ap,⟨.none,.none,z1,z2,z3,z4,z5⟩,λb hb=>?_,q⟩
  have lb:s1.heap.objs.size<=b:=by
   simp only [Na,Ny,NX] at hb;rcases hb with rfl | rfl | rfl | rfl | rfl
   ·exact Pq _ _
   ·exact Pq _ _
   ·exact Pq _ _
   ·exact M0 _
   ·exact Pq _ _
  exact I1.VR lb (I1.hok.fresh lb)
section
variable {prog:Program} {w:World} {A:Around} {E:Value->Shared->Prop} {s:Shared} {z TI TO i1 i2 t1 t2:Addr} {k:Nat} {xs ys:Array Value}
end
theorem D6 (σ:St) {i j:Nat} (ne:i≠j) (a b c d:Option V):((((σ.set i a).set j b).set i c).set j d)=(σ.set i c).set j d:=by rw [List.set_comm _ _ (Nz ne),List.set_set,List.set_set]
section
variable {K:W.Frag} {σ:St} {H:Hp} {tA:TA} {ar:List Ar} {d:D} {R:List Ar->D->Prop} {B:List Ar->Addr->Prop} {E:XK} {Q:VK} {C:Addr}
end
end L2
namespace L2
open PySem PySem.Spec PyProof.Rows
section
variable {X:Cx}
noncomputable def GU (K:W.Frag):List V->Hp->VK->Prop:=λxs H Q=>∃ (l:Addr) (ns:List Int),xs=[.ref l]/\Qp K H l (ns.map V.int)/\0 < ns.length/\∀ M,M ∈ ns->(∀ a ∈ ns,M<=a)->Q (.int M) H
theorem yU (hc:X.calm=true):iu X (.builtin "min") (GU X.K):=by
 intro pins s σ H xs us Q I r h;obtain ⟨l,ns,rfl,hq,hn,q⟩:=h;obtain ⟨u,rfl,ru⟩:=ie r;cases ru;obtain ⟨its,rv,p,hz⟩:=I.list hq;have hi:=sI rv;obtain ⟨zs,hzs⟩:=hi.allInts.items
 have en:zs.toList.map (·.1)=ns:=by have z:=hi.numsOf;rw [show its=(intItems zs).toList by rw [<- hzs]] at z;rw [<- z,nums_intItems]
 have sz:zs.size=ns.length:=by rw [<- en];simp
 refine min_intList (I.ok.hd hc) (show s.heap.IsList l (intItems zs) from hzs ▸ p.isList) (by omega) λv h' tk hv hk=>?_;obtain ⟨t,rfl⟩:=intItems_at hv;have best:=argBest_lt (numAt zs) (zs.size - 1);refine ⟨.int _,H,I.kept (t':=tk) hk,⟨t,rfl⟩,q _ ?_ λa ha=>?_⟩
 ·rw [<- en,numAt_eq];exact getD_mem (by rw [tB,Ov];have:=best.1;omega)
 ·rw [<- en] at ha;obtain ⟨j,hj,ej⟩:=mem_getD ha;rw [tB,Ov] at hj;have le:=best.2 j (by omega);rw [<- ej,<- numAt_eq];exact le
end
noncomputable def Wu:Option Int->D
 | none=>.Qj
 | some i=>.int i
noncomputable def opV:Option Int->V
 | none=>.Qj
 | some i=>.int i
section
variable {K:W.Frag} {σ:St} {H H':Hp} {d d':D} {ds es:List D} {t u ta tb te tl:TE} {tA:TA} {mk:St->St} {jj:Nat}
theorem xO:∀ {os:List (Option Int)} {vs:List V},Qf K H (os.map Wu) vs->vs=os.map opV
 | [],vs,h=>by rw [Qf.Us h];rfl
 | none::os,vs,h=>by obtain ⟨v,r,e,h1,h2⟩:=h.QN;rw [e,Dat.SA h1,xO h2];rfl
 | some i::os,vs,h=>by obtain ⟨v,r,e,h1,h2⟩:=h.QN;rw [e,Dat.Qk h1,xO h2];rfl
theorem nT:∀ os:List (Option Int),XQ .Qj (os.map opV)=os.any Option.isNone
 | []=>rfl
 | none::os=>by have ih:=nT os;unfold XQ at ih ⊢;rw [Nb,Oi,ih];rfl
 | some i::os=>by have ih:=nT os;unfold XQ at ih ⊢;rw [Nb,Oi,ih];rfl
theorem xW (os:List (Option Int)):(os.map opV).all ko=true:=by rw [N6];intro v hv;obtain ⟨o,_,rfl⟩:=N4.mp hv;cases o <;> rfl
variable {os:List (Option Int)}
theorem F7 (h:RL K tb σ H (os.map Wu)):RE K (S5 (YL K false) (tC .Qj) tb) σ H (.bl (os.any Option.isNone)):=λH1 s Q q =>
 h H1 s _ λw H3 s3 q3=>by obtain ⟨a,vs,ev,hq,hd⟩:=q3;have e:=xO hd;subst e;refine ⟨a,_,ev,.inl hq.UI,rfl,xW os,?_⟩;rw [nT];exact q _ _ s3 (Dat.To _)
theorem zT (h:RL K tb σ H (os.map Wu)):RE K (S5 (YL K true) (tC .Qj) tb) σ H (.bl (!os.any Option.isNone)):=λH1 s Q q =>
 h H1 s _ λw H3 s3 q3=>by obtain ⟨a,vs,ev,hq,hd⟩:=q3;have e:=xO hd;subst e;refine ⟨a,_,ev,.inl hq.UI,rfl,xW os,?_⟩;rw [nT];exact q _ _ s3 (Dat.To _)
theorem DW {ns:List Int} {m:Int} (h:RL K t σ H (ns.map D.int)) (hm:m ∈ ns) (lo:∀ a ∈ ns,m<=a):RE K (Vd (GU K) (cC t eI)) σ H (.int m):=λH1 s Q q =>
 iD ((h.mono s).use λv H' s' hd=>by
  obtain ⟨l,ys,rfl,hy,hd⟩:=hd;refine ⟨l,ns,rfl,by rw [<- oH hd];exact hy.UI,List.length_pos_of_mem hm,λM h1 h2=>?_⟩;have e:M=m:=Int.le_antisymm (h2 m hm) (lo M h1);subst e;exact q _ _ s' (Dat.Qm _))
inductive Vu (K:W.Frag) (H:Hp):List (List D)->List V->Prop
 | nil:Vu K H [] []
 | cons {es:List D} {v:V} {Qq:List (List D)} {vs:List V}:LD K H es v->Vu K H Qq vs->Vu K H (es::Qq) (v::vs)
variable {Qq:List (List D)} {vs:List V}
theorem Vu.length (h:Vu K H Qq vs):Qq.length=vs.length:=by
 induction h with
 | nil=>rfl
 | cons _ _ ih=>simp [ih]
theorem Vu.map (h:Vu K H Qq vs) (f:∀ es v,LD K H es v->LD K H' es v):Vu K H' Qq vs:=by
 induction h with
 | nil=>exact .nil
 | cons h1 _ ih=>exact .cons (f _ _ h1) ih
theorem Qh.lds (e:Qh H H') (h:Vu K H Qq vs):Vu K H' Qq vs:=h.map λ_ _ z=>e.ld z
theorem Vu.snoc {es:List D} {v:V} (h:Vu K H Qq vs) (h1:LD K H es v):Vu K H (Qq++[es]) (vs++[v]):=by
 induction h with
 | nil=>exact .cons h1 .nil
 | cons k _ ih=>exact .cons k ih
noncomputable def Z9 (K:W.Frag) (t:TE) (σ:St) (H:Hp) (Qq:List (List D)):Prop:=∀ H1,Qh H H1->∀ Q:VK,(∀ l ys H',H1 l=none->Qh H1 H'->H' l=some (.lst ys)->Vu K H' Qq ys->Q (.ref l) H')->t σ H1 Q
theorem Z9.use {Q:VK} (h:Z9 K t σ H Qq) (q:∀ l ys H',H l=none->Qh H H'->H' l=some (.lst ys)->Vu K H' Qq ys->Q (.ref l) H'):t σ H Q:=h H (Qh.refl H) Q q
noncomputable def Off (K:W.Frag) (H:Hp) (l:Addr) (vs:List V):Prop:=∀ v ∈ vs,v≠.ref l
theorem Vu.grown {l:Addr} {zs zs':List V} (h:Vu K H Qq vs) (off:Off K H l vs) (e:QY l H H') (h1:H l=some (.lst zs)) (h2:H' l=some (.lst zs')):Vu K H' Qq vs:=by
 have g:gW K H H':=e.grow h1 h2
 induction h with
 | nil=>exact .nil
 | cons k _ ih =>refine .cons ?_ (ih λv hv=>off v (Nj _ hv));obtain ⟨a,us,rfl,ha,hd⟩:=k;have na:a≠l:=λz=>off _ NB (by rw [z]);refine ⟨a,us,rfl,?_,Qf.mono g _ hd⟩;exact ha.elim (λz=>.inl (e _ _ na z)) .inr
end
end L2
namespace L2
open PySem PySem.Spec PySem.Calls PyProof.Rows
variable {K:W.Frag} {σ:St} {H:Hp} {te:TE} {mk:St->St} {cs:List D}
theorem DP {ta:TA} {i j:Nat} {ds:List D} (h:RA K ta σ H [.tup cs,.tup ds]) (hl:cs.length=ds.length) (hc:cs.length<=1000) (Qq:List (List D)) (hn:Qq.length=cs.length) (ne:i≠j)
  (h0:((mk σ).set i none).set j none=mk σ)
  (turn:∀ H1 (k:Nat) c d es v w,Qh H H1->cs[k]?=some c->ds[k]?=some d->Qq[k]?=some es->Dat K H1 c v->Dat K H1 d w->RC K te (((mk σ).set i (some v)).set j (some w)) H1 es) :
  Z9 K (iM (GL K ta) mk (zj K 2 (jG (d6 i) (jG (d6 j) AZ))) hU te) σ H Qq:=λH1 s Q q=>by
 refine h H1 s _ λvs H2 s2 q2=>?_;obtain ⟨v1,v2,e,k1,k2⟩:=gb q2;subst e;obtain ⟨a,us,e1,ha,da⟩:=k1.Qw;obtain ⟨b,ws,e2,hb,db⟩:=k2.Qw;subst e1 e2;have lu:=da.length;have lw:=db.length;refine ⟨a,b,us,ws,rfl,ha,hb,λl hl2=>?_⟩;have s02:Qh H H2:=s.trans s2;refine ⟨λn m σ' G=>m=us.length - n/\n<=us.length/\(∃ z1 z2,σ'=((mk σ).set i z1).set j z2)/\Qh H2 G/\∃ ys,G l=some (.lst ys)/\Vu K G (Qq.take n) ys/\Off K G l ys,⟨us.length,by omega,NW _,⟨none,none,h0.symm⟩,aV hl2 _,[],aI,by rw [Ow];exact .nil,λv hv=>by cases hv⟩,?_⟩;rintro n m σ' G ⟨rfl,hle,⟨z1,z2,rfl⟩,sG,ys,hy,dy,off⟩;by_cases hlt:n < us.length
 ·refine .inr ⟨⟨hlt,by omega,sG.VW ha,sG.VW hb⟩,λσ'' G'=>(∃ z1 z2,σ''=((mk σ).set i z1).set j z2)/\Qh H2 G'/\∃ ys,G' l=some (.lst ys)/\Vu K G' (Qq.take (n+1)) ys/\Off K G' l ys,λσ'' G' w=>⟨us.length - (n+1),by omega,rfl,hlt,w.1,w.2⟩,λx G' y=>?_⟩;obtain ⟨p,u,w,hp,rfl,hu,hw,rfl⟩:=y;have sn:Qh G (upd G p (.tup [u,w])):=aV hp _;have s2n:=sG.trans sn;obtain ⟨c,ec,hcv⟩:=da.T9 hu;obtain ⟨d,ed,hdv⟩:=db.T9 hw;have hne:n < Qq.length:=by omega
  refine ⟨p,[u,w],rfl,QH.of aI,rfl,u,_,rfl,w,_,rfl,rfl,?_⟩;simp only [hU,O6];rw [D6 _ ne];refine RC.use (turn _ n c d Qq[n] u w (s02.trans s2n) ec ed (MT hne) (s2n.dat hcv) (s2n.dat hdv)) λr zs G4 hr s4 hz dz=>?_;have VX:=s4 _ _ (sn _ _ hy);have nrl:r≠l:=λz=>by rw [z,sn _ _ hy] at hr;cases hr
  have lys:ys.length=n:=by rw [<- dy.length,NI];omega
  refine ⟨ys,VX,dH (by omega),⟨_,_,rfl⟩,λx o hx=>?_,ys++[.ref r],aI,?_,?_⟩
  ·rw [aR (aQ hx hl2)];exact s4 _ _ (s2n _ _ hx)
  ·have bl:QY l G4 (upd G4 l (.lst (ys++[.ref r]))):=QY.upd (Qh.refl G4).but;have g:gW K G4 (upd G4 l (.lst (ys++[.ref r]))):=bl.grow VX aI;rw [NR,MT hne];exact Vu.snoc (Vu.grown (s4.lds (sn.lds dy)) off bl VX aI) (LD.of (bl _ _ nrl hz) (Qf.mono g _ dz))
  ·intro v hv;rcases Nh.mp hv with hv | hv
   ·exact off v hv
   ·rw [Nf.mp hv];exact λz=>nrl (by injection z)
 ·have e:n=us.length:=by omega
  subst e;refine .inl ⟨⟨rfl,sG.VW ha⟩,?_⟩;rw [OX (by omega)] at dy;exact q l ys G (s2.free hl2) (s2.trans sG) hy dy
theorem DM {tl:TE} {tt:TT} {jj:Nat} (h:RL K tl σ H cs) (hc:cs.length<=1000) (p:D->Bool) (h0:(mk σ).set jj none=mk σ)
  (turn:∀ H1 (i:Nat) c v,Qh H H1->cs[i]?=some c->Dat K H1 c v->RT tt ((mk σ).set jj (some v)) H1 (p c)/\RE K te ((mk σ).set jj (some v)) H1 c):RC K (iM (ra K tl) mk (d6 jj) tt te) σ H (cs.filter p):=λH1 s Q q=>by
 refine (h.mono s).use λv4 H4 s4 q4=>?_;obtain ⟨l4,V2,rfl,VX,WY⟩:=q4;have ll:=WY.length;refine ⟨l4,rfl,⟨V2,VX.UI⟩,λl hl=>?_⟩;refine uv (J:=XN K l4) (n:=V2.length) (item:=λi=>V2.getD i .Qj) (λG=>Qp K G l4 V2) (λi G o hi=>sC i G o hi) (λG o=>⟨V2,o,M0 _⟩) h0 l (λi G=>Qh H4 G/\∃ zs,G l=some (.lst zs)/\Qf K G ((cs.take i).filter p) zs) ⟨aV hl _,[],aI,by rw [Ow];exact Qf.nil⟩ (λi G _ w=>w.1.seq VX.UI) (λi G hi w=>?_) (λG w=>?_)
 ·obtain ⟨sG,zs,hz,dz⟩:=w;have hic:i < cs.length:=by omega
  obtain ⟨vz,ez,hv⟩:=(sG.Qu WY).get (MT hic);have e1:V2.getD i .Qj=vz:=by rw [Nt,ez];rfl
  simp only [e1];obtain ⟨t1,t2⟩:=turn G i cs[i] vz (s.trans (s4.trans sG)) (MT hic) hv;have et:cs.take (i+1)=cs.take i++[cs[i]]:=by rw [NR,MT hic];rfl
  have lz:zs.length<=1000:=by rw [<- dz.length];exact Nv (List.length_filter_le _ _) (by rw [NI];omega)
  have lz':zs.length < 1000:=by rw [<- dz.length];exact P1 (List.length_filter_le _ _) (by rw [NI];omega)
  refine t1.use λG2 s2=>?_
  cases hp:p cs[i] with
  | true =>
   refine mx ((t2.mono s2).use λv3 G3 s3 q3=>?_);have hz3:=(s2.trans s3) _ _ hz;have bl:QY l G3 (upd G3 l (.lst (zs++[v3]))):=QY.upd (Qh.refl G3).but;have g:gW K G3 (upd G3 l (.lst (zs++[v3]))):=bl.grow hz3 aI;refine ⟨zs,hz3,dH (by omega),⟨_,rfl⟩,λx o hx=>?_,zs++[v3],aI,?_⟩
   ·rw [aR (aQ hx hl)];exact (s2.trans s3) _ _ (sG _ _ hx)
   ·rw [et,List.filter_append];have e2:[cs[i]].filter p=[cs[i]]:=by rw [O3,MW hp];rfl
    rw [e2];exact Qf.append (Qf.mono g _ ((s2.trans s3).Qu dz)) (Qf.cons (Dat.mono g _ q3) Qf.nil)
  | false =>
   refine mw ⟨⟨_,rfl⟩,sG.trans s2,zs,s2 _ _ hz,?_⟩;rw [et,List.filter_append];have e2:[cs[i]].filter p=[]:=by rw [O3,MR (by rw [hp];exact MY)];rfl
   rw [e2,Np];exact s2.Qu dz
 ·obtain ⟨sG,zs,hz,dz⟩:=w;rw [<- ll,N7] at dz;exact q l zs G (s4.free hl) (s4.trans sG) hz dz
variable {X:Cx} {es:List Expr} {t:Xv} {n:Nat} {pos:Pos}
theorem yq {k:Nat} (hK:X.K=K) (hc:X.calm=true) (h:YJ X es t)
  (hn:(assignEach es X.env).length=n:=by rfl) (hst:(assignEach es X.env).findIdx? (·.1)=none:=by rfl):PG X (.Tuple es k pos) (zj K n t):=by
 subst hK;exact f6 hc h hn hst
section
variable {K:W.Frag} {σ:St} {H H':Hp} {d d':D} {ds es:List D} {t u ta tb te tl:TE} {tA:TA} {mk:St->St} {jj:Nat} {o:Option (List D)} {os:List (Option (List D))} {vs:List V} {ar:List Ar}
theorem qI:∀ {os:List (Option (List D))},os.any Option.isNone=false->∃ Qq:List (List D),os=Qq.map some
 | [],_=>⟨[],rfl⟩
 | none::os,h=>by cases h
 | some es::os,h=>by rw [Oi] at h;obtain ⟨Qq,e⟩:=qI (os:=os) (by simpa using h);exact ⟨es::Qq,by rw [e];rfl⟩
theorem D2 {En:i5} {G:Hp} {j:Nat} {l:Addr} {xs:List V} (h:RC K te σ G es) (hl:G l=some (.lst xs)) (hx:xs.length+es.length<=1000)
  (q:∀ ys G',QY l G G'->G' l=some (.lst (xs++ys))->Qf K G' es ys->En.nx σ G') (hv:σ[j]?=some (some (.ref l)):=by rfl):vD (Yj K "list" yy (fB j) (cC te eI)) En σ G:=by
 refine ⟨_,hv,.inl ⟨rfl,_,Qp.of hl⟩,h.use λp vs H1 hp s1 hv1 q1=>?_⟩;have hl1:=s1 _ _ hl;have lv:=q1.length;refine ⟨l,p,xs,vs,rfl,rfl,hl1,hv1,d8 (by omega),?_⟩;have b:QY l H1 (upd H1 l (.lst (xs++vs))):=QY.upd (Qh.refl _).but;exact q vs _ (s1.but.trans b) aI (Qf.mono (b.grow hl1 aI) _ q1)
end
theorem C2 {K:PySem.W.Frag} {a b:Addr} {xs ys:List V} {g:TG} {tb:TS} {D:i5} (Pv:Nat->St->Hp->Prop) (ll:xs.length=ys.length) (h0:Pv 0 σ H) (hl:∀ i σ H,i<=xs.length->Pv i σ H->QH K H a xs/\QH K H b ys)
  (hs:∀ i u v p σ H,xs[i]?=some u->ys[i]?=some v->H p=none->Pv i σ H->g (.ref p) σ (upd H p (.tup [u,v])) λσ2 H2=>tb { D with nx:=Pv (i+1),ct:=Pv (i+1),bk:=D.nx } σ2 H2) (hd:∀ σ H,Pv xs.length σ H->D.nx σ H) :
  ∃ W:Nat->Nat->St->Hp->Prop,(∃ m,W 0 m σ H)/\∀ i m σ H,W i m σ H ->
   ((Zk K a b xs ys).stop i H/\D.nx σ H)\/((Zk K a b xs ys).go i H/\∃ N:St->Hp->Prop,(∀ σ' H',N σ' H'->∃ m',m' < m/\W (i+1) m' σ' H')/\∀ x H',(Zk K a b xs ys).VC i H x H'->g x σ H' λσ2 H2=>tb { D with nx:=N,ct:=N,bk:=D.nx } σ2 H2):=by
 refine ⟨λi m σ H=>m=xs.length - i/\i<=xs.length/\Pv i σ H,⟨xs.length,by simp,NW _,h0⟩,?_⟩;rintro i m σ H ⟨rfl,hi,p⟩;have q:=hl i σ H hi p;by_cases hlt:i < xs.length
 ·refine .inr ⟨⟨hlt,by omega,q.1,q.2⟩,Pv (i+1),λσ' H' p'=>⟨xs.length - (i+1),by omega,rfl,hlt,p'⟩,λx H' y=>?_⟩;obtain ⟨r,u,v,hr,rfl,hu,hv,rfl⟩:=y;exact hs i u v r σ H hu hv hr p
 ·have e:i=xs.length:=by omega
  subst e;exact .inl ⟨⟨rfl,q.1⟩,hd σ H p⟩
noncomputable def GD (K:W.Frag) (n:Nat) (t:Xv):TG:=λv σ H Q=>∃ a xs,v=.ref a/\Qp K H a xs/\xs.length=n/\t xs σ H Q
theorem yr {k:Nat} (hc:X.calm=true) (h:YJ X es t)
  (hn:(assignEach es X.env).length=n:=by rfl) (hst:(assignEach es X.env).findIdx? (·.1)=none:=by rfl):PG X (.Tuple es k pos) (GD X.K n t):=λpins s σ H v u Q I r ⟨a,xs,ev,hq,hl,hw⟩=>by
 subst ev;cases r;obtain ⟨its,rv,pl,hz⟩:=I.list hq;have en:(assignEach es X.env).length=its.toArray.size:=by rw [hn,<- hl,rv.length,M9]
 rw [assign_Tuple];refine MV (O4 ?_);unfold unpack;rw [en,hst];refine MV (OQ (W.kun_itemsOf (I.ok.hd hc) pl.isList λh' hx=>?_));exact h pins _ σ H xs _ Q (I.kept (t':=s.toks) λb o e=>hx b o (ND (Ni e)) e) (by simpa using rv) hw
section
variable {prog:Program} {w:World} {A:Around} {E:Value->Shared->Prop} {s:Shared}
end
noncomputable def Ew (K:W.Frag):R2:=λx y H Q=>∃ a b ys,x=.ref a/\y=.ref b/\QH K H a []/\QH K H b ys/\Q (.ref b) H
theorem XF:So X (binaryOp .Add) (Ew X.K):=λpins s σ H x y v u Q I rx ry ⟨a,b,ys,ex,ey,ha,hb,q⟩=>by subst ex ey;cases rx;cases ry;obtain ⟨i1,r1,p1,_⟩:=I.tuple ha;obtain ⟨i2,r2,p2,_⟩:=I.tuple hb;have e1:=r1.Vc.mpr rfl;subst e1;obtain ⟨⟨c1,d1,t1,l1⟩,o1,k1,n1,m1⟩:=id p1;obtain ⟨⟨c2,d2,t2,l2⟩,o2,k2,n2,m2⟩:=id p2;simp only at k1 m1 k2 m2;subst k1 m1 k2 m2;exact concat_meets ⟨_,o1,rfl⟩ ⟨_,o2,rfl⟩ noFill_tuple_add seq_tuple_add F.slot_tuple_add P8 (P0 _ _) (tuple_addW0 a b _ _ n1 n2 d1 d2 l1 l2 rfl) ⟨o1,o2,.ref b,H,I,rfl,q⟩
noncomputable def BQ (K:W.Frag):R2:=λx y H Q=>Ew K x y H Q\/Ey K x y H Q
theorem Dt:So X (binaryOp .Add) (BQ X.K):=XF.or Ds
section
variable {K:W.Frag} {σ:St} {H H':Hp} {d:D} {ds es:List D} {t u ta tb te:TE} {n:Nat}
theorem AL {x y:V} {Q:VK} (h1:Dat K H (.tup ds) x) (h2:Dat K H (.tup es) y) (hl:ds.length+es.length<=1000) (q:∀ v H',Qh H H'->Dat K H' (.tup (ds++es)) v->Q v H'):BQ K x y H Q:=by
 obtain ⟨a,xs,ea,ha,da⟩:=h1.Qw;obtain ⟨b,ys,eb,hb,db⟩:=h2.Qw;have l1:=da.length;have l2:=db.length
 cases ds with
 | nil =>have e:=da.Us;subst e;exact .inl ⟨a,b,ys,ea,eb,ha,hb,q _ _ (Qh.refl _) (Dat.tupI hb db)⟩
 | cons d ds =>
  refine .inr ⟨a,b,xs,ys,ea,eb,ha,hb,λz=>?_,d8 (by omega),λz=>?_,λ_ p hp=>?_⟩
  ·rw [z] at l1;cases l1
  ·have e:es=[]:=List.length_eq_zero_iff.mp (by rw [l2,z];rfl);subst e;rw [Np] at q;exact q _ _ (Qh.refl _) (Dat.tupI ha da)
  ·exact q _ _ (aV hp _) (Dat.tupI (QH.of aI) ((aV hp _).Qu (Qf.append da db)))
theorem DR (h1:RE K ta σ H (.tup ds)) (h2:RE K tb σ H (.tup es)) (hl:ds.length+es.length<=1000):RE K (S5 (BQ K) ta tb) σ H (.tup (ds++es)):=λH1 s Q q =>
 h1 H1 s _ λv H2 s2 q2=>h2 H2 (s.trans s2) _ λw H3 s3 q3=>AL (s3.dat q2) q3 hl λv H' s' k=>q v H' (s2.trans (s3.trans s')) k
end
end L2
namespace L2
open PySem
end L2
namespace L2
open PySem PySem.Spec PySem.Calls PyProof.Rows PySem.W PySem.Builtin PySem.Builtin.ObjectAttr
section
variable {X:Cx} {pins:List (Addr × Obj)} {σ:St} {H:Hp} {s s':Shared} {E:XK} {e:Value}
end
section
variable {H:Hp} {e C dx b:Addr} {a0:Value} {f:Str} {v:V}
end
section
variable {X:Cx} {pins:List (Addr × Obj)} {σ:St} {H:Hp} {s s':Shared} {C fI e dx:Addr} {fd:FuncData} {k:Nat} {ps:List Str} {a0:Value} {f:Str} {v:V}
end
theorem DL {K:W.Frag} {σ:St} {H:Hp} {t ta tb:TE} {ds:List D} {lo hi:Nat} (h:RL K t σ H ds) (h1:RE K ta σ H (.int lo)) (h2:RE K tb σ H (.int hi)):RC K (ZZ (GW K) t (rR ta) (rR tb)) σ H ((ds.drop lo).take (hi - lo)):=λH1 s Q q =>
 h H1 s _ λv H2 s2 q2=>h1 H2 (s.trans s2) _ λv3 H3 s3 q3=>⟨lo,q3.Qk,h2 H3 (s.trans (s2.trans s3)) _ λv4 H4 s4 q4=>⟨hi,q4.Qk,by
  obtain ⟨a,vs,rfl,hq,hds⟩:=(s3.trans s4).ld q2;refine ⟨a,vs,rfl,hq.UI,λp hp=>?_⟩;rw [xK];exact q p _ _ ((s2.trans (s3.trans s4)).free hp) (s2.trans (s3.trans (s4.trans (aV hp _)))) aI ((aV hp _).Qu (Qf.W0 (Qf.WZ hds)))⟩⟩
section
variable {K:W.Frag} {σ:St} {H:Hp} {tA:TA} {ar:List Ar} {d:D} {f:Str} {es:List D} {R:List Ar->D->Prop} {RL:List Ar->List D->Prop} {B:List Ar->Addr->Int->Prop} {E:XK} {Q:VK} {C:Addr} {i:Int}
end
end L2
namespace L2
open PySem PySem.Spec PySem.Calls PyProof.Rows
noncomputable abbrev pM (t:Addr) (i:Int):Obj:={ cls:=.type "reversed",data:=.fields #[.ref t,rawInt i] }
theorem qF:Slot "reversed" "__init__" "object.__init__":=.of (owner:="object") (n:="__init__") (by rw [O8,OE];kernel_rfl) (by decide +kernel) (by decide +kernel) (by decide +kernel) (by first | exact .inl (by decide +kernel) | exact .inr (by decide +kernel)) (by rw [PM];kernel_rfl)
theorem vW:TypeCalled "reversed" "reversed.__new__" "object.__init__":=⟨by decide +kernel,by decide +kernel,⟨_,_,F.mro_reversed⟩,F.made_reversed,by decide +kernel,F.sub_reversed_self,qF⟩
theorem Q8:Slot "reversed" "__next__" "reversed.__next__":=.of (owner:="reversed") (n:="__next__") (by rw [O8,OE];kernel_rfl) (by decide +kernel) (by decide +kernel) (by decide +kernel) (by first | exact .inl (by decide +kernel) | exact .inr (by decide +kernel)) (by rw [PM];kernel_rfl)
theorem kD:Slot "reversed" "__iter__" "reversed.__iter__":=.of (owner:="reversed") (n:="__iter__") (by rw [O8,OE];kernel_rfl) (by decide +kernel) (by decide +kernel) (by decide +kernel) (by first | exact .inl (by decide +kernel) | exact .inr (by decide +kernel)) (by rw [PM];kernel_rfl)
theorem jE:entryFor table "reversed.__next__"=some Builtin.«reversed.__next__»:=entryFor_of_tree (by kernel_rfl)
theorem oJ:entryFor table "reversed.__iter__"=some Builtin.«dict_keyiterator.__iter__»:=entryFor_alias (id':="dict_keyiterator.__iter__") (by kernel_rfl) (by first | rfl | decide +kernel | (unfold String.splitOn;simp +decide [String.splitOnAux])) (by decide +kernel) (by kernel_rfl)
theorem rn:Manifest.owners.lookup (String.ofList ['d','e','s','r','e','v','e','r'].reverse)=some Manifest.sig_reversed:=by kernel_rfl
theorem kn (a:Value):argsOk "reversed.__next__" ⟨[a],[]⟩:=by unfold argsOk;rw [signature?_of (id:="reversed.__next__") (n:=['_','_','t','x','e','n','_','_']) (o:=['d','e','s','r','e','v','e','r']) (by kernel_rfl) rn];kernel_rfl
theorem qp (a:Value):argsOk "reversed.__iter__" ⟨[a],[]⟩:=by unfold argsOk;rw [signature?_of (id:="reversed.__iter__") (n:=['_','_','r','e','t','i','_','_']) (o:=['d','e','s','r','e','v','e','r']) (by kernel_rfl) rn];kernel_rfl
theorem Ac:typeLookup (.type "tuple") "__reversed__"=pure none:=by rw [O8,OE];kernel_rfl
theorem xr:isSubtype (.type "tuple") (.type "dict")=pure false:=by rw [PM];kernel_rfl
theorem nF:typeLookup (.type "tuple") "__getitem__"=pure (some (.builtin "tuple.__getitem__")):=by rw [O8,OE];kernel_rfl
theorem B7 (t:Addr) (items:Array Value) (n:Nat) (d2:Option Addr) (s2:Array (Option Value)) :
  Meets (Builtin.«reversed.__new__» ⟨[.type "reversed",.ref t],[]⟩) (λ_ R s=>s.heap.get? t=some { cls:=.type "tuple",dict:=d2,data:=.seq items n,slots:=s2 } /\
   (items.size:Int) < 2 ^ 63/\R (.ok (.ret (.ref s.heap.objs.size))) { s with heap:=s.heap.push (pM t ((items.size:Int) - 1)),toks:=s.toks+2 }) :=
 .of_wp λ_ _ _ _ s q=>by
  obtain ⟨h0,g0,d0,t0,o0⟩:=s;obtain ⟨a1,fit,q⟩:=q;have isT:Heap.IsTuple (Shared.heap ⟨h0,g0,d0,t0,o0⟩) t items:=⟨_,a1,rfl,n,rfl⟩
  have Zj:=F.sub_reversed_self
  wp_walk
  show wpAny _ _ (typeLookup (.type "tuple") "__reversed__") _ _ _;rw [Ac];refine Nc ?_;dsimp only
  wp_walk
  show wpAny _ _ (isSubtype (.type "tuple") (.type "dict")) _ _ _;rw [xr];refine Nc ?_;rw [MR (by decide)]
  wp_walk
  show wpAny _ _ (typeLookup (.type "tuple") "__getitem__") _ _ _;rw [nF];refine Nc ?_;dsimp only;rw [MW (by decide +kernel)];refine Nc ?_;rw [MR (by decide)];refine MV ?_;refine PyProof.Rows.len_tuple isT fit ?_
  wp_walk
  exact ⟨_,rfl,q⟩
variable {w:World}
theorem yV {prog:Program} {A:Around} {E:Value->Shared->Prop} {s:Shared} {t:Addr} {items:Array Value} {Q:Value->Shared->Prop} (a1:s.heap.IsTuple t items) (fit:(items.size:Int) < 2 ^ 63)
  (q:Q (.ref s.heap.objs.size) { s with heap:=s.heap.push (pM t ((items.size:Int) - 1)),toks:=s.toks+2 }):wpAny (model prog w) A (call (.type "reversed") [.ref t]) Q E s:=by
 obtain ⟨⟨c2,d2,Yn,s2⟩,a1,hc,n,hd⟩:=a1;obtain rfl:c2=.type "tuple":=hc;obtain rfl:Yn=.seq items n:=hd;refine callType_new vW (by decide) (F.typeCall_reversed_1 _) (F.newCall_reversed_1 _) (λo=>F.args_object_init_2 o _) F.entry_reversed_new (B7 t items n d2 s2) ⟨a1,fit,?_⟩;show _/\_;exact ⟨⟨_,Oc rfl rfl,rfl⟩,q⟩
theorem sx {i n:Nat} (h:i < n):seqIndex? (i:Int) n=some i:=(sM (by unfold Wn;rw [MW (by omega),MW (by omega)];rfl)).1
noncomputable abbrev mY (h:Heap) (it t:Addr) (i:Int):Prop:=h.get? it=some (pM t i)
section
variable {prog:Program} {w:World} {A:Around} {E:Value->Shared->Prop} {s:Shared} {it t:Addr} {items:Array Value}
theorem xf {i:Nat} {x:Value} {Q:Option Value->Shared->Prop} (a1:mY s.heap it t i) (a2:s.heap.IsTuple t items) (fit:(items.size:Int) < 2 ^ 63) (hx:items[i]?=some x)
  (q:∀ h' tk,mY h' it t ((i:Int) - 1)->Heap.SameBut it s.heap h'->Q (some x) { s with heap:=h',toks:=tk }):wpAny (model prog w) A (pyNext (.ref it)) Q E s:=by
 have ty:s.TypeIs (.ref it) "reversed":=⟨_,a1,rfl⟩
 have lt:i < items.size:=(Array.getElem?_eq_some_iff.mp hx).1;unfold pyNext;refine MV (Pk (N5 (name:=Str.ofString "__next__") ty Q8 (Oj Q8 ty jE ?_ (kn _))));obtain ⟨⟨c2,d2,Yn,s2⟩,b2,hc,n,hd⟩:=id a2;obtain rfl:c2=.type "tuple":=hc;obtain rfl:Yn=.seq items n:=hd;obtain ⟨h0,g0,d0,t0,o0⟩:=s;unfold mY pM rawInt at a1
 wp_walk
 show wpAny _ _ (typeLookup (.type "tuple") "__getitem__") _ _ _;rw [nF];refine Nc ?_;rw [MR (by decide)];refine MV (wpAny_mkInt (MV (Pk ?_)));show wpAny _ _ (getItem (.ref t) (.int (i:Int) _)) _ _ _;refine PyProof.Rows.getItem_tuple (j:=i) a2 (by omega) (by omega) (sx lt) hx ?_
 wp_walk
 exact ⟨x,rfl,Nc (q _ _ (Heap.get?_update_self _ a1 rfl) (Heap.SameBut.update ..))⟩
theorem w9 {Q:Option Value->Shared->Prop} (hh:A.handled=none) (a1:mY s.heap it t (-1)) (q:∀ h',Heap.ExtBut it s.heap h'->Q none { s with heap:=h' }):wpAny (model prog w) A (pyNext (.ref it)) Q E s:=by
 have ty:s.TypeIs (.ref it) "reversed":=⟨_,a1,rfl⟩
 unfold pyNext;refine MV (Pk (N5 (name:=Str.ofString "__next__") ty Q8 (Oj Q8 ty jE ?_ (kn _))));obtain ⟨h0,g0,d0,t0,o0⟩:=s;unfold mY pM rawInt at a1
 wp_walk
 refine wpAny_raiseNew_none hh ?_;refine MV (wpAny_isInstance (T:="StopIteration") (b:=true) ⟨_,Nr _ rfl,rfl⟩ isSubtype_stop (Nc (q _ λb o hb e=>?_)));exact MU _ (MU _ ((Heap.get?_update_ne _ _ _ _ hb).trans ((Heap.get?_update_ne _ _ _ _ hb).trans e)))
theorem vp {i:Int} {Q:Value->Shared->Prop} (a1:mY s.heap it t i) (h:Q (.ref it) s):wpAny (model prog w) A (pyIter (.ref it)) Q E s:=by
 have ty:s.TypeIs (.ref it) "reversed":=⟨_,a1,rfl⟩
 refine wpAny_pyIter_slot ty kD (Oj kD ty oJ ?_ (qp _));show wpAny _ _ (ret (.ref it)) _ _ s;exact Nc ⟨_,rfl,"reversed",_,ty,Q8.lookup,h⟩
end
noncomputable def Zl (K:W.Frag) (a:Addr) (xs:List V):It:=⟨λi H=>i < xs.length/\QH K H a xs,λi H x H'=>H'=H/\xs[xs.length - 1 - i]?=some x,λi _=>i=xs.length⟩
theorem Ae {P:Program} {K:W.Frag} {tg:Expr} (a it:Addr) (xs:List V):oo P w K tg (Zl K a xs) [it] it (λi h=>mY h it a ((xs.length:Int) - 1 - (i:Int))) where
 mem:=by simp
 obj:=λi h st b hb=>by
  have e:b=it:=by simpa using hb
  subst e;exact ⟨_,st,λv z=>by cases z⟩
 keep:=λi h h' st k=>k it (by simp) _ st
 item:=by
  intro X hP hw hK hc i pins s σ H E I hf st hg;subst hP hw hK;obtain ⟨hi,hq⟩:=hg;obtain ⟨its,rv,p,hz⟩:=I.tuple hq;obtain ⟨f0,f1,f2,f3,f4,f5⟩:=hf it (by simp);have lr:=rv.length;have hx:xs[xs.length - 1 - i]?=some (xs[xs.length - 1 - i]'(by omega)):=MT (by omega);obtain ⟨u,hu,ru⟩:=rv.get hx;have e1:(xs.length:Int) - 1 - (i:Int)=((xs.length - 1 - i:Nat):Int):=by omega
  rw [e1] at st;refine xf st p (by rw [M9];rw [OW] at hz;omega) (x:=u) (by simpa using hu) λh' tk st' sb=>?_;have e2:((xs.length - 1 - i:Nat):Int) - 1=(xs.length:Int) - 1 - ((i+1:Nat):Int):=by omega
  rw [e2] at st';have I1:Inv X pins σ H { s with heap:=h',toks:=tk }:=I.turned (t':=tk) (λb o hb e=>(sb.2 b hb).trans e) f0 f1 f3 f4 f5;exact ⟨u,rfl,qZ (s:={ s with heap:=h',toks:=tk }) st' rfl rfl (by decide) ⟨_,H,I1,ru,⟨rfl,hx⟩,st',λb hb=>(hf b hb).1⟩⟩
 done:=by
  intro X hP hw hK hc i pins s σ H E I hf st hg;subst hP hw hK;obtain ⟨f0,f1,f2,f3,f4,f5⟩:=hf it (by simp);have hg':i=xs.length:=hg;subst hg';have e1:(xs.length:Int) - 1 - (xs.length:Int)=-1:=by omega
  rw [e1] at st;exact w9 (I.ok.hd hc) st λh' eb=>⟨rfl,I.turned (t':=s.toks) (λb o hb e=>eb b o hb e) f0 f1 f3 f4 f5⟩
 self:=λA i s Q E st q=>vp st q
section
variable {X:Cx} {tg:Expr}
noncomputable def GI (K:W.Frag) (ta:TA):TI:=λσ H R=>ta σ H λvs H1=>∃ a xs,vs=[.ref a]/\QH K H1 a xs/\R (Zl K a xs) H1
theorem DC {a:Expr} {ta:TA} {p pos:Pos} (hg:Gl X "reversed") (hm:X.mg "reversed"=none) (ha:PA X [a] ta) (hs:starEach [a] X.env=[(false,eval a X.env)]:=by rfl):PI X tg (.Call (.Name "reversed" p) [a] [] pos) (GI X.K ta):=by
 intro pins s σ H R I h;refine Call_ (kM I hg hm m4 (Oe (Qt (ha pos pins s σ H _ I h) λus s1 ⟨vs,H1,I1,r1,q1⟩=>?_) hs rfl));obtain ⟨l,xs,e,hq,q⟩:=q1;subst e;obtain ⟨u,rfl,ru⟩:=ie r1;cases ru;obtain ⟨its,rv,pl,hz⟩:=I1.tuple hq;have lr:=rv.length;refine yV pl (by rw [M9];rw [OW] at hz;omega) ?_;have ez:((its.toArray.size:Nat):Int) - 1=(xs.length:Int) - 1 - ((0:Nat):Int):=by rw [M9,lr];omega
 rw [ez];have st:mY (s1.heap.push (pM l ((xs.length:Int) - 1 - ((0:Nat):Int)))) s1.heap.objs.size l ((xs.length:Int) - 1 - ((0:Nat):Int)):=Nr _ rfl;refine vp (s:={ s1 with heap:=s1.heap.push (pM l ((xs.length:Int) - 1 - ((0:Nat):Int))),toks:=s1.toks+2 }) st ?_;refine ⟨s1.heap.objs.size,[s1.heap.objs.size],_,_,H1,rfl,I1.kept (t':=s1.toks+2) λb o e=>MU _ e,Ae l _ xs,st,λb hb=>?_,q⟩;have e:b=s1.heap.objs.size:=by simpa using hb
 subst e;exact I1.VR (M0 _) (I1.hok.fresh (M0 _))
end
theorem AY {K:PySem.W.Frag} {a:Addr} {xs:List V} {g:TG} {tb:TS} {D:i5} {σ:St} {H:Hp} (Pv:Nat->St->Hp->Prop) (h0:Pv 0 σ H) (hl:∀ i σ H,i<=xs.length->Pv i σ H->QH K H a xs)
  (hs:∀ i x σ H,i < xs.length->xs[xs.length - 1 - i]?=some x->Pv i σ H->g x σ H λσ2 H2=>tb { D with nx:=Pv (i+1),ct:=Pv (i+1),bk:=D.nx } σ2 H2) (hd:∀ σ H,Pv xs.length σ H->D.nx σ H) :
  ∃ W:Nat->Nat->St->Hp->Prop,(∃ m,W 0 m σ H)/\∀ i m σ H,W i m σ H ->
   ((Zl K a xs).stop i H/\D.nx σ H)\/((Zl K a xs).go i H/\∃ N:St->Hp->Prop,(∀ σ' H',N σ' H'->∃ m',m' < m/\W (i+1) m' σ' H')/\∀ x H',(Zl K a xs).VC i H x H'->g x σ H' λσ2 H2=>tb { D with nx:=N,ct:=N,bk:=D.nx } σ2 H2):=by
 refine ⟨λi m σ H=>m=xs.length - i/\i<=xs.length/\Pv i σ H,⟨xs.length,by simp,NW _,h0⟩,?_⟩;rintro i m σ H ⟨rfl,hi,p⟩;have q:=hl i σ H hi p;by_cases hlt:i < xs.length
 ·refine .inr ⟨⟨hlt,q⟩,Pv (i+1),λσ' H' p'=>⟨xs.length - (i+1),by omega,rfl,hlt,p'⟩,λx H' y=>?_⟩;obtain ⟨e,y⟩:=y;subst e;exact hs i x σ _ hlt y p
 ·have e:i=xs.length:=by omega
  subst e;exact .inl ⟨rfl,hd σ H p⟩
section
variable {X:Cx} {pins:List (Addr × Obj)} {σ:St} {H:Hp} {a:Addr} {cls C:Value} {dx:Option Addr} {s:Shared} {D:i5} {x n:Str} {i:Nat} {np hpos:Pos} {b₀:Stmt} {suite:List Stmt} {rest:List ExceptHandler} {th:TS} {b:Bool}
end
section
variable {prog:Program} {w:World} {A:Around} {E:Value->Shared->Prop} {s:Shared} {z TI TO i1 i2 i3 l1 l2 l3:Addr} {k:Nat} {xs ys zs:Array Value}
end
end L2
namespace L2
open PySem PySem.Spec PyProof.Rows
section
variable {X:Cx}
noncomputable def FY (K:W.Frag) (neg:Bool):R2:=λx y H Q=>∃ l xs ds d,y=.ref l/\Qp K H l xs/\Qf K H ds xs/\Dat K H d x/\QB ds=true/\Rr d=true/\Ql ds<=20/\Q (.bl (if neg then !(ds.any λe=>Qs e d) else ds.any λe=>Qs e d)) H
theorem Bb {k:Nat} (hr:QM k X.A) {pins:List (Addr × Obj)} {σ:St} {H:Hp} {s:Shared} {x:V} {u:Value} {l:Addr} {xs:List V} {ds:List D} {d:D} (I:Inv X pins σ H s) (ru:RelV x u) (hq:Qp X.K H l xs) (hds:Qf X.K H ds xs) (hd:Dat X.K H d x) (n1:QB ds=true) (n2:Rr d=true) (dp:Ql ds<=20) :
  ∃ (its:List Value) (eq:Value->Bool),s.heap.IsList l its.toArray/\(∀ w ∈ its.toArray,SeqAt.EqAt X.A.in1 s w u (eq w))/\its.toArray.any eq=ds.any λe=>Qs e d:=by
 obtain ⟨its,r,pl,hz⟩:=I.list hq;have hl:=r.length;have ll:=hds.length
 have item:∀ (m:Nat) (w:Value),its[m]?=some w->∃ g,ds[m]?=some g/\∃ xv,RelV xv w/\Dat X.K H g xv:=λm w hw=>by have hm:m < its.length:=(Nu.mp hw).1;obtain ⟨g,hg,dg⟩:=hds.T9 (i:=m) (v:=xs[m]'(by omega)) (MT (by omega));obtain ⟨w',WD,rr⟩:=r.get (i:=m) (x:=xs[m]'(by omega)) (MT (by omega));rw [hw] at WD;cases WD;exact ⟨g,hg,_,rr,dg⟩
 have Wa:∀ {x1 x2:V} {w:Value},RelV x1 w->RelV x2 w->x1=x2:=λ{x1 x2 w} h1 h2=>RelV.inj h1 h2
 classical
 let eq:Value->Bool:=λw=>if hw:∃ m:Nat,its[m]?=some w then (match ds[Classical.choose hw]? with | some g=>Qs g d | none=>false) else false
 have WE:∀ (m:Nat) (w:Value) (g:D),its[m]?=some w->ds[m]?=some g->eq w=Qs g d:=λm w g hw hg=>by
  have WD:∃ m:Nat,its[m]?=some w:=⟨m,hw⟩
  show (if hw:∃ m:Nat,its[m]?=some w then _ else false)=_;rw [dif_pos WD];have hc:=Classical.choose_spec WD;obtain ⟨g',hg',xv',r1,d1⟩:=item _ w hc;obtain ⟨g2,Zi,xv,r2,d2⟩:=item m w hw;rw [hg] at Zi;cases Zi;rw [hg'];have ex:=Wa r1 r2;subst ex;have:=nR I g' g (gy n1 hg') d1 d2 (gy n1 hg);rw [this]
 have hu:X.A.in1.units+20+1 < cLine:=by have:=hr.un;show X.A.units+1+20+1 < cLine;omega
 refine ⟨its,eq,pl.isList,λw hw=>?_,?_⟩
 ·obtain ⟨m,hm,rfl⟩:=Array.getElem_of_mem hw;have hm':m < its.length:=by simpa using hm
  have XW:its[m]?=some (its[m]'hm'):=MT hm';obtain ⟨g,hg,xv,r1,d1⟩:=item m _ XW;have z1:its.toArray[m]=its[m]'hm':=by simp
  rw [z1,WE m _ g XW hg];exact sv I 20 X.A.in1 g d xv x _ u hu (Nv (jc hg) dp) (gy n1 hg) n2 d1 hd r1 ru
 ·rw [show its.toArray.any eq=its.any eq by simp]
  have em:its.map eq=ds.map λe=>Qs e d:=by
   apply List.ext_getElem?;intro m;rw [MZ,MZ]
   cases hw:its[m]? with
   | none =>have:its.length<=m:=List.getElem?_eq_none_iff.mp hw;rw [OD (by omega)];rfl
   | some w =>obtain ⟨g,hg,_⟩:=item m w hw;rw [hg];show some (eq w)=some (Qs g d);rw [WE m w g hw hg]
  have e1:∀ {α:Type} (f:α->Bool) (l:List α),l.any f=(l.map f).any id:=λf l=>by rw [List.any_map];rfl
  rw [e1 eq its,em,<- e1]
theorem FG {k:Nat} (hr:QM k X.A):So X (compareOp .In) (FY X.K false):=by intro pins s σ H x y v u Q I rx ry h;obtain ⟨l,xs,ds,d,rfl,hq,hds,hd,n1,n2,dp,q⟩:=h;cases ry;obtain ⟨its,eq,pl,ea,ee⟩:=Bb hr I rx hq hds hd n1 n2 dp;exact SeqAt.in_listAt eq pl ea ⟨.bl _,H,I,rfl,by rw [ee];exact q⟩
end
section
variable {K:W.Frag} {σ:St} {H:Hp} {t ta tb:TE} {d:D} {ds:List D}
theorem F6 {neg:Bool} (h1:RE K ta σ H d) (h2:RL K tb σ H ds) (n1:QB ds=true) (n2:Rr d=true) (dp:Ql ds<=20):RE K (S5 (FY K neg) ta tb) σ H (.bl (if neg then !(ds.any λe=>Qs e d) else ds.any λe=>Qs e d)):=λH1 s Q q =>
 h1 H1 s _ λv H2 s2 q2=>h2 H2 (s.trans s2) _ λw H3 s3 q3=>by obtain ⟨a,xs,rfl,ha,da⟩:=q3;exact ⟨a,xs,ds,d,rfl,ha.UI,da,s3.dat q2,n1,n2,dp,q _ _ (s2.trans s3) (Dat.To _)⟩
end
end L2
namespace My
open PySem L2 PyProof.Rows
noncomputable abbrev TL:List (Str × KTD.Dat):=[("num",.flat (.int 9999)),("arg",.flat (.int 3))]
noncomputable abbrev TB:List (Str × KTD.Dat):=[("add",.flat (.int 2)),("sub",.flat (.int 2)),("mul",.flat (.int 2)),("less",.flat (.int 2)),("pick",.flat (.int 3))]
noncomputable abbrev TM:List (Str × KTD.Dat):=[("hole",.flat (.int 2)),("gap",.flat (.int 3)),("slot",.flat (.int 2))]
noncomputable abbrev TF:List (Str × KTD.Dat):=[("low",.flat (.str "gap")),("high",.flat (.str "gap")),("arg",.flat (.str "slot"))]
noncomputable abbrev XG:List (Str × KTD.Dat):=[("load",.flat (.int 3)),("skip",.flat (.int 9)),("zero",.flat (.int 9))]
noncomputable abbrev AHE:List D:=[.int 10,.int 11]
noncomputable abbrev BAS:List D:=[.tup [.str "one",.tup [.str "gap",.int 0,.int 99],.tup [.int 1,.tup [.str "low",.int 0]]],.tup [.str "two",.tup [.str "gap",.int 0,.int 9999],.tup [.int 2,.tup [.str "low",.int 0],.tup [.str "high",.int 0]]],.tup [.str "slot",.tup [.str "slot",.int 0],.tup [.int 3,.tup [.str "arg",.int 0]]],.tup [.str "add",.tup [.str "add",.tup [.str "hole",.int 0],.tup [.str "hole",.int 1]],.tup [.int 4]],.tup [.str "sub",.tup [.str "sub",.tup [.str "hole",.int 0],.tup [.str "hole",.int 1]],.tup [.int 5]],.tup [.str "mul",.tup [.str "mul",.tup [.str "hole",.int 0],.tup [.str "hole",.int 1]],.tup [.int 6]],.tup [.str "less",.tup [.str "less",.tup [.str "hole",.int 0],.tup [.str "hole",.int 1]],.tup [.int 7]],.tup [.str "more",.tup [.str "add",.tup [.str "hole",.int 0],.tup [.str "gap",.int 0,.int 99]],.tup [.int 12,.tup [.str "low",.int 0]]]]
noncomputable abbrev BEH:List D:=[.int 8,.int 9]
noncomputable abbrev Yo:List D:=[.tup [.str "end",.int 0],.tup [.str "put",.int 1],.tup [.str "far",.int 2],.tup [.str "load",.int 1],.tup [.str "add",.int 0],.tup [.str "sub",.int 0],.tup [.str "mul",.int 0],.tup [.str "less",.int 0],.tup [.str "skip",.int 1],.tup [.str "jump",.int 2],.tup [.str "zero",.int 1],.tup [.str "none",.int 2],.tup [.str "more",.int 1],.tup [.str "twice",.int 0],.tup [.str "about",.int 0],.tup [.str "call",.int 2],.tup [.str "back",.int 0]]
noncomputable abbrev STR:List D:=[.str "put",.str "far",.str "load",.str "add",.str "sub",.str "mul",.str "less",.str "more",.str "twice",.str "about"]
noncomputable abbrev WAY:List D:=[.str "skip",.str "jump",.str "zero",.str "none",.str "call",.str "back"]
noncomputable def oF (s:Stmt) (j:Nat):Stmt:=match s with
 | .ClassDef _ _ _ b _ _ _ _ _ _ _=>b.getD j (.Pass ⟨0,0,0,0⟩)
 | _=>.Pass ⟨0,0,0,0⟩
noncomputable abbrev pS:Stmt:=top 15
theorem UW:Qi ["thing","low","high"] ["thing","low","high"] (aJ pS):=.Rg
noncomputable abbrev nz:Stmt:=top 16
theorem Ut:Qi ["thing"] ["thing"] (aJ nz):=.Rg
noncomputable abbrev rJ:Stmt:=top 25
theorem Ve:Qi ["thing","kind"] ["thing"] (aJ rJ):=.Rg
noncomputable abbrev jS:Stmt:=top 26
theorem S8:Qi ["tree"] ["tree"] (aJ jS):=.Rg
noncomputable abbrev mS:Stmt:=top 27
theorem Vf:Qi ["thing","waiting","parts","part","deep"] ["thing"] (aJ mS):=.Rg
noncomputable abbrev nE:Stmt:=top 28
theorem Uu:Qi ["tree"] ["tree"] (aJ nE):=.Rg
noncomputable abbrev vA:Stmt:=top 30
theorem VF:Qi ["tree","parts","within"] ["tree"] (aJ vA):=.Rg
noncomputable abbrev mR:Stmt:=top 17
theorem Vg:Qi ["thing"] ["thing"] (aJ mR):=.Rg
noncomputable abbrev i4:Stmt:=top 42
theorem QO:Qi ["cells","place","name","many","behind"] ["cells","place"] (aJ i4):=.Rg
noncomputable abbrev rH:Stmt:=top 57
theorem Vh:Qi ["thing"] ["thing"] (aJ rH):=.Rg
noncomputable abbrev gD:Stmt:=top 58
theorem R5:Qi ["thing","deep"] ["thing","deep"] (aJ gD):=.Rg
noncomputable abbrev pT:Stmt:=top 59
theorem UX:Qi ["pattern","kind","marks","within"] ["pattern","kind"] (aJ pT):=.Rg
noncomputable abbrev iT:Stmt:=top 60
theorem Tv:Qi ["pattern","kind","numbers"] ["pattern","kind"] (aJ iT):=.Rg
noncomputable abbrev jn:Stmt:=top 61
theorem TY:Qi ["thing"] ["thing"] (aJ jn):=.Rg
noncomputable abbrev lV:Stmt:=top 62
theorem TZ:Qi ["thing","pattern"] ["thing","pattern"] (aJ lV):=.Rg
noncomputable abbrev rG:Stmt:=top 63
theorem Vi:Qi ["thing","pattern"] ["thing","pattern"] (aJ rG):=.Rg
noncomputable abbrev gj:Stmt:=top 64
theorem R1:Qi ["cells","pattern","place","name","behind"] ["cells","pattern"] (aJ gj):=.Rg
noncomputable abbrev pR:Stmt:=top 65
theorem UY:Qi ["thing","name","pattern","cells"] ["thing"] (aJ pR):=.Rg
noncomputable abbrev lW:Stmt:=top 66
theorem VG:Qi ["thing"] ["thing"] (aJ lW):=.Rg
noncomputable abbrev pU:Stmt:=top 67
theorem UZ:Qi ["some"] ["some"] (aJ pU):=.Rg
noncomputable abbrev ju:Stmt:=top 68
theorem SD:Qi ["mark","tree"] ["mark","tree"] (aJ ju):=.Rg
noncomputable abbrev rK:Stmt:=top 69
theorem Vj:Qi ["pattern","tree","found","kind"] ["pattern","tree","found"] (aJ rK):=.Rg
noncomputable abbrev pQ:Stmt:=top 70
theorem U0:Qi ["piece","tree","found"] ["piece","tree"] (aJ pQ):=.Rg
noncomputable abbrev kz:Stmt:=top 71
theorem Tw:Qi ["cell","nums","ks"] ["cell","nums","ks"] (aJ kz):=.Rg
noncomputable abbrev nA:Stmt:=top 77
theorem Uv:Qi ["many","kinds","near","far"] ["many","kinds"] (aJ nA):=.Rg
noncomputable abbrev jt:Stmt:=top 78
theorem SE:Qi ["second","third","behind","ahead"] ["second","third"] (aJ jt):=.Rg
noncomputable abbrev rM:Stmt:=top 79
theorem Vk:Qi ["tree","some","ways","piece","found"] ["tree","some"] (aJ rM):=.Rg
noncomputable abbrev nB:Stmt:=top 80
theorem Uw:Qi ["name","cells","lengths","own","ahead","behind"] ["name","cells","lengths"] (aJ nB):=.Rg
noncomputable abbrev fj:Stmt:=top 81
theorem S9:Qi ["tree","some","done","bests","best","name","cells","trees","within","length"] ["tree","some","done","bests"] (aJ fj):=.Rg
noncomputable abbrev js:Stmt:=top 82
theorem SG:Qi ["tree","some","done","bests","part"] ["tree","some"] (aJ js):=.Rg
noncomputable abbrev nC:Stmt:=top 83
theorem Ux:Qi ["tree","some"] ["tree","some"] (aJ nC):=.Rg
noncomputable abbrev jQ:Stmt:=top 87
theorem Uy:Qi ["tree","some","cover","places","first","second","third","ahead","behind"] ["tree","some","cover","places"] (aJ jQ):=.Rg
noncomputable abbrev ik:Stmt:=top 88
theorem T3:Qi ["tree","some","cover","places","name","within","piece","holes","nums","ks","cells","hole","inner"] ["tree","some","cover","places"] (aJ ik):=.Rg
noncomputable abbrev lX:Stmt:=top 89
theorem T4:Qi ["tree","some","cover","places","place"] ["tree","some","cover","places"] (aJ lX):=.Rg
noncomputable abbrev rF:Stmt:=top 90
theorem Vl:Qi ["tree","some","length","cover"] ["tree","some"] (aJ rF):=.Rg
noncomputable abbrev EC:Stmt:=top 91
theorem W3:Qi ["tree","some"] ["tree","some"] (aJ EC):=.Rg
noncomputable abbrev fm:Stmt:=top 18
theorem Uz:Qi ["size","most"] ["size","most"] (aJ fm):=.Rg
noncomputable abbrev jR:Stmt:=top 19
theorem UA:Qi ["args","size"] ["args","size"] (aJ jR):=.Rg
noncomputable abbrev jv:Stmt:=top 29
theorem SH:Qi ["kind","first","second","size"] ["kind","first","second","size"] (aJ jv):=.Rg
noncomputable abbrev mQ:Stmt:=top 40
theorem Vm:Qi ["thing"] ["thing"] (aJ mQ):=.Rg
noncomputable abbrev nD:Stmt:=top 41
theorem UB:Qi ["code"] ["code"] (aJ nD):=.Rg
noncomputable abbrev kC:Stmt:=top 43
theorem Tz:Qi ["behind","number","cell"] ["behind"] (aJ kC):=.Rg
noncomputable abbrev bZ:Stmt:=oF (top 44) 0
theorem R3:Qi ["self","cells","given","size","pile"] ["self","cells","given","size","pile"] (aJ bZ):=.Rg
noncomputable abbrev dD:Stmt:=oF (top 44) 1
theorem Tc:Qi ["self"] ["self"] (aJ dD):=.Rg
noncomputable abbrev dB:Stmt:=oF (top 44) 2
theorem Td:Qi ["self","number"] ["self","number"] (aJ dB):=.Rg
noncomputable abbrev dS:Stmt:=oF (top 44) 4
theorem TH:Qi ["self","name","number","onward"] ["self","name","number","onward"] (aJ dS):=.Rg
noncomputable abbrev cI:Stmt:=oF (top 44) 5
theorem Sq:Qi ["self"] ["self"] (aJ cI):=.Rg
noncomputable abbrev cH:Stmt:=oF (top 44) 6
theorem Ss:Qi ["self","name","number","upper","lower"] ["self","name","number"] (aJ cH):=.Rg
noncomputable abbrev dC:Stmt:=oF (top 44) 3
theorem Te:Qi ["self","name","behind","number","onward"] ["self"] (aJ dC):=.Rg
noncomputable abbrev rL:Stmt:=top 45
theorem Vn:Qi ["code","args","size","steps"] ["code","args","size","steps"] (aJ rL):=.Rg
noncomputable abbrev yG:Stmt:=top 46
theorem W4:Qi ["code","args","size","steps","machine","done"] ["code","args","size","steps"] (aJ yG):=.Rg
noncomputable abbrev vw:Stmt:=top 47
theorem VH:Qi ["code","rows","place","name","behind"] ["code"] (aJ vw):=.Rg
noncomputable abbrev nq:Stmt:=top 93
theorem UC:Qi ["_law_script","_law_town","_law_many","_law_one","_law_at","_law_mixed"] ["_law_script","_law_town","_law_many"] (aJ nq):=.Rg
noncomputable abbrev pP:Stmt:=top 98
theorem U1:Qi ["_law_name","_law_one","_law_other","_law_base"] ["_law_name","_law_one","_law_other","_law_base"] (aJ pP):=.Rg
noncomputable abbrev lU:Stmt:=top 99
theorem T5:Qi ["_law_tree_here","_law_args_here","_law_base"] ["_law_tree_here","_law_args_here","_law_base"] (aJ lU):=.Rg
noncomputable abbrev pO:Stmt:=top 100
theorem U3:Qi ["_law_pattern","_law_tree_here","_law_found"] ["_law_pattern","_law_tree_here","_law_found"] (aJ pO):=.Rg
noncomputable abbrev nv:Stmt:=top 101
theorem UD:Qi ["_law_cells"] ["_law_cells"] (aJ nv):=.Rg
noncomputable abbrev ij:Stmt:=top 102
theorem T6:Qi ["_law_tree_here","_law_some","_law_three","_law_last","_law_lengths","_law_piece","_law_found","_law_holes"] ["_law_tree_here","_law_some"] (aJ ij):=.Rg
noncomputable abbrev ny:Stmt:=top 106
theorem UE:Qi ["_law_code","_law_args_here","_law_base","_law_most","e"] ["_law_code","_law_args_here","_law_base","_law_most"] (aJ ny):=.Rg
noncomputable abbrev nr:Stmt:=top 107
theorem UG:Qi ["_law_script","_law_town","_law_many","_law_made","_law_left"] ["_law_script","_law_town","_law_many"] (aJ nr):=.Rg
noncomputable abbrev lS:Stmt:=top 108
theorem T7:Qi ["_law_many"] ["_law_many"] (aJ lS):=.Rg
noncomputable abbrev vt:Stmt:=top 109
theorem W5:Qi ["_law_script","_law_town","_law_basic","_law_first","_law_last","_law_tree_here","_law_code","_law_names","_law_near","_law_number","_law_other","_law_args_here","_law_wide","_law_three"] ["_law_script"] (aJ vt):=.Rg
structure Df (K:W.Frag) (mg:Str->Option Value) (n:Str) (st:Stmt) (ps:List Str) where
 a:Addr
 d:FuncData
 f:Wq K n n st a d
 m:mg n=some (.ref a)
 b:Binds K d ps []
noncomputable abbrev Ok (P:Program) (w:World) (base:Heap) (k:Nat) {K:W.Frag} {mg:Str->Option Value} {n:Str} {st:Stmt} {ps:List Str} (D:Df K mg n st ps) (sp:Sp):Prop:=QE P w K mg base Ur k D.a D.d ps sp
theorem pc {X:Cx} {k:Nat} {n:Str} {st:Stmt} {ps:List Str} {sp:Sp} {e:Expr} {es:List Expr} {t:TA} {p pos:Pos} {D:Df X.K X.mg n st ps} (F:QE X.prog X.w X.K X.mg X.base Ur k D.a D.d ps sp) (hr:QM k X.A) (ha:PA X (e::es) t) (hg:Gl X n:=by rfl) (hdb:(n == ("__debug__":Str))=false:=by decide) (he:starEach (e::es) X.env=(false,eval e X.env)::starEach es X.env:=by rfl) (hpl:(backTo pos (starEach es X.env)).any (·.1)=false:=by rfl):PE X (.Call (.Name n p) (e::es) [] pos) (jV sp [] E0 t):=yo F hr hg D.m D.f.kp D.b .nil gn ha hdb he hpl
set_option genInjectivity false in
set_option genSizeOfSpec false in
structure Dfs (K:W.Frag) (mg:Str->Option Value) where
 HL:Df K mg "is_whole" pS ["thing","low","high"]
 IP:Df K mg "is_tagged" nz ["thing"]
 Kd:Df K mg "is_node" rJ ["thing"]
 HU:Df K mg "trees_within" jS ["tree"]
 KY:Df K mg "is_tree" mS ["thing"]
 Jy:Df K mg "need_tree" nE ["tree"]
 Ko:Df K mg "walked" vA ["tree"]
 KW:Df K mg "is_name" mR ["thing"]
 HM:Df K mg "instruction_at" i4 ["cells","place"]
 KU:Df K mg "is_mark" rH ["thing"]
 Ia:Df K mg "is_pattern_part" gD ["thing","deep"]
 IT:Df K mg "marks_in" pT ["pattern","kind"]
 JP:Df K mg "is_numbered" iT ["pattern","kind"]
 Ka:Df K mg "is_pattern" jn ["thing"]
 J9:Df K mg "is_filling" lV ["thing","pattern"]
 KR:Df K mg "is_cell" rG ["thing","pattern"]
 IS:Df K mg "are_instructions" gj ["cells","pattern"]
 KD:Df K mg "is_piece" pR ["thing"]
 Lb:Df K mg "is_set" lW ["thing"]
 JN:Df K mg "need_set" pU ["some"]
 Jm:Df K mg "may_stand_for" ju ["mark","tree"]
 Jw:Df K mg "matches" rK ["pattern","tree","found"]
 JM:Df K mg "found_in" pQ ["piece","tree"]
 JO:Df K mg "filled_cell" kz ["cell","nums","ks"]
 J5:Df K mg "jump_over" nA ["many","kinds"]
 Iy:Df K mg "jumps_of_pick" jt ["second","third"]
 K0:Df K mg "ways_of" rM ["tree","some"]
 Ku:Df K mg "length_by" nB ["name","cells","lengths"]
 JH:Df K mg "best_by_ways" fj ["tree","some","done","bests"]
 Iw:Df K mg "best_covering" js ["tree","some"]
 Kv:Df K mg "length_of" nC ["tree","some"]
 Kt:Df K mg "laid_pick" jQ ["tree","some","cover","places"]
 Kb:Df K mg "laid_piece" ik ["tree","some","cover","places"]
 Ik:Df K mg "laid_cells" lX ["tree","some","cover","places"]
 KQ:Df K mg "code_of" rF ["tree","some"]
 L7:Df K mg "lay" EC ["tree","some"]
 Kw:Df K mg "need_args" jR ["args","size"]
 Jn:Df K mg "worth_of_both" jv ["kind","first","second","size"]
 KS:Df K mg "is_code" mQ ["thing"]
 Jx:Df K mg "need_code" nD ["code"]
 JQ:Df K mg "number_told" kC ["behind"]
 KZ:Df K mg "started" rL ["code","args","size","steps"]
 Lc:Df K mg "listed" vw ["code"]
 Ih:Df K mg "_law_draw" nq ["_law_script","_law_town","_law_many"]
 KC:Df K mg "_law_two" pP ["_law_name","_law_one","_law_other","_law_base"]
 HZ:Df K mg "_law_worth" lU ["_law_tree_here","_law_args_here","_law_base"]
 Jd:Df K mg "_law_fit" pO ["_law_pattern","_law_tree_here","_law_found"]
 J3:Df K mg "_law_over" nv ["_law_cells"]
 HY:Df K mg "_law_least" ij ["_law_tree_here","_law_some"]
 J4:Df K mg "_law_told" ny ["_law_code","_law_args_here","_law_base","_law_most"]
 Ks:Df K mg "_law_long" nr ["_law_script","_law_town","_law_many"]
 Iz:Df K mg "_law_chain" lS ["_law_many"]
 L6:Df K mg "law" vt ["_law_script"]
set_option genInjectivity false in
set_option genSizeOfSpec false in
structure Txt (P:Program) (w:World) (K:W.Frag) (mg:Str->Option Value) extends Dfs K mg where
 JS:Addr
 JT:FuncData
 KL:Addr
 Kr:Tok
 JU:Ym K "need_size" "need_size" fm JS JT KL [.int 10000 Kr]
 Lm:mg "need_size"=some (.ref JS)
 L0:Addr
 L3:FuncData
 Mg:Wq K "run" "run" yG L0 L3
 ML:mg "run"=some (.ref L0)
 HK:Addr
 Kc:mg "Machine"=some (.ref HK)
 Qg:Vw K HK
 Ip:Addr
 Iq:FuncData
 Jo:Wq K "__init__" "Machine.__init__" bZ Ip Iq
 Vo:Mk K HK Ip
 IF:Addr
 IJ:FuncData
 Kk:Wq K "take" "Machine.take" dD IF IJ
 QI:rY K HK "take" IF
 IX:Addr
 Ja:FuncData
 Ki:Wq K "push" "Machine.push" dB IX Ja
 Qn:rY K HK "push" IX
 Jj:Addr
 Jk:FuncData
 Ky:Wq K "way" "Machine.way" dS Jj Jk
 TJ:rY K HK "way" Jj
 IE:Addr
 II:FuncData
 JJ:Wq K "finish" "Machine.finish" cI IE II
 Su:rY K HK "finish" IE
 ID:Addr
 IH:FuncData
 JI:Wq K "change" "Machine.change" cH ID IH
 Sv:rY K HK "change" ID
 IY:Addr
 Jb:FuncData
 Kj:Wq K "step" "Machine.step" dC IY Jb
 Tf:rY K HK "step" IY
 R6:Qx K HK "cells"
 R7:Qx K HK "given"
 Sw:Qx K HK "size"
 QZ:Qx K HK "pile"
 QU:Qx K HK "place"
 Rh:Qx K HK "kept"
 Rx:Qx K HK "ended"
 JF:Tok
 Jg:mg "MOST_PARTS"=some (.int 40 JF)
 JY:Tok
 Jq:mg "MOST_DEEP"=some (.int 8 JY)
 Jc:Tok
 IK:mg "LONGEST_NAME"=some (.int 8 Jc)
 JX:Tok
 IM:mg "MOST_CELL"=some (.int 99 JX)
 Ij:Tok
 Ib:mg "MOST_PATTERN_DEEP"=some (.int 3 Ij)
 Kn:Tok
 JK:mg "MOST_GAP"=some (.int 9999 Kn)
 Iv:Tok
 Ic:mg "MOST_PIECE_CELLS"=some (.int 12 Iv)
 Jl:Tok
 IU:mg "MOST_PIECES"=some (.int 16 Jl)
 J0:Tok
 Js:mg "MOST_NEAR"=some (.int 9 J0)
 JD:Tok
 Je:mg "CALL_CELLS"=some (.int 3 JD)
 L5:Tok
 LH:mg "END"=some (.int 0 L5)
 Ly:Tok
 Lg:mg "CALL"=some (.int 15 Ly)
 JE:Tok
 Jf:mg "MOST_CELLS"=some (.int 1000 JE)
 JW:Tok
 Jp:mg "MANY_ARGS"=some (.int 4 JW)
 J2:Tok
 JV:mg "MOST_SIZE"=some (.int 10000 J2)
 JG:Tok
 Jh:mg "MOST_STEPS"=some (.int 100000 JG)
 J1:Tok
 Jt:mg "MOST_PILE"=some (.int 64 J1)
 JZ:Tok
 Jr:mg "MOST_KEPT"=some (.int 16 JZ)
 IW:Addr
 Ir:mg "MOST_IN_LEAF"=some (.ref IW)
 Iu:jB K IW TL
 Ii:Addr
 HR:mg "TREES_IN_BRANCH"=some (.ref Ii)
 HS:jB K Ii TB
 Io:Addr
 Ig:mg "MARK_LENGTHS"=some (.ref Io)
 HP:jB K Io TM
 Ji:Addr
 IA:mg "FILLED_FROM"=some (.ref Ji)
 IB:jB K Ji TF
 Kq:Addr
 Ju:mg "MOST_TOLD"=some (.ref Kq)
 Jv:jB K Kq XG
 Im:Addr
 HX:mg "INSTRUCTIONS"=some (.ref Im)
 IZ:gk K (.tup Yo) (.ref Im)=true
 KB:Addr
 JL:mg "STRAIGHT"=some (.ref KB)
 Lw:gk K (.tup STR) (.ref KB)=true
 Lq:Addr
 KO:mg "AHEAD"=some (.ref Lq)
 Me:gk K (.tup AHE) (.ref Lq)=true
 K9:Addr
 Kz:mg "BEHIND"=some (.ref K9)
 L1:gk K (.tup BEH) (.ref K9)=true
 LL:Addr
 Lh:mg "WAYS"=some (.ref LL)
 Ms:gk K (.tup WAY) (.ref LL)=true
 Lr:Addr
 KP:mg "BASIC"=some (.ref Lr)
 Mf:o8 K BAS Lr=true
 KJ:Ai P w K Io ["hole","gap","slot"]
 HW:mg "len"=none
 HV:mg "isinstance"=none
 Mu:mg "int"=none
 Mt:mg "bool"=none
 Mv:mg "str"=none
 JC:mg "tuple"=none
 Li:mg "list"=none
 La:mg "range"=none
 Ln:mg "all"=none
 MM:mg "any"=none
 MO:mg "set"=none
 Mw:mg "sum"=none
 K6:mg "reversed"=none
 Mx:mg "zip"=none
 L4:mg "enumerate"=none
 MN:mg "min"=none
section
variable {P:Program} {w:World} {K:W.Frag} {mg:Str->Option Value} {base:Heap} {k:Nat}
theorem Fy {α:Type} {us:List α} (h:us.length=1):∃ a0,us=[a0]:=match us,h with | [a0],_=>⟨a0,rfl⟩
theorem Hz {α:Type} {us:List α} (h:us.length=2):∃ a0 a1,us=[a0,a1]:=match us,h with | [a0,a1],_=>⟨a0,a1,rfl⟩
theorem HA {α:Type} {us:List α} (h:us.length=3):∃ a0 a1 a2,us=[a0,a1,a2]:=match us,h with | [a0,a1,a2],_=>⟨a0,a1,a2,rfl⟩
theorem HB {α:Type} {us:List α} (h:us.length=4):∃ a0 a1 a2 a3,us=[a0,a1,a2,a3]:=match us,h with | [a0,a1,a2,a3],_=>⟨a0,a1,a2,a3,rfl⟩
theorem HC {α:Type} {us:List α} (h:us.length=5):∃ a0 a1 a2 a3 a4,us=[a0,a1,a2,a3,a4]:=match us,h with | [a0,a1,a2,a3,a4],_=>⟨a0,a1,a2,a3,a4,rfl⟩
theorem ui (T:Txt P w K mg):Binds K T.JT ["size","most"] [.int 10000 T.Kr]:=by
 obtain ⟨oc,od,kV,doc,pm,an,cdv,ct,osl,e,lk,hcd⟩:=T.JU.ex;obtain ⟨o,n,l,h⟩:=T.JU.df;intro s us hK hl;have hl':us.length=1:=by simpa using hl
 match us,hl' with
 | [u0],_=>rw [e];exact .of_defaults (T:=T.KL) rfl (hK _ _ l) h rfl rfl
theorem vH (T:Txt P w K mg):Vals [V.int 10000] [Value.int 10000 T.Kr]:=.cons ⟨_,rfl⟩ .nil
theorem kH (T:Txt P w K mg):Binds K T.Iq ["self","cells","given","size","pile"] []:=T.Jo.binds λ_ _ _ _ _ _ us hl=>by obtain ⟨_,_,_,_,_,rfl⟩:=HC hl;rfl
theorem gv (T:Txt P w K mg):Binds K T.IJ ["self"] []:=T.Kk.binds λ_ _ _ _ _ _ us hl=>by obtain ⟨_,rfl⟩:=Fy hl;rfl
theorem dU (T:Txt P w K mg):Binds K T.Ja ["self","number"] []:=T.Ki.binds λ_ _ _ _ _ _ us hl=>by obtain ⟨_,_,rfl⟩:=Hz hl;rfl
theorem qr (T:Txt P w K mg):Binds K T.Jk ["self","name","number","onward"] []:=T.Ky.binds λ_ _ _ _ _ _ us hl=>by obtain ⟨_,_,_,_,rfl⟩:=HB hl;rfl
theorem mj (T:Txt P w K mg):Binds K T.II ["self"] []:=T.JJ.binds λ_ _ _ _ _ _ us hl=>by obtain ⟨_,rfl⟩:=Fy hl;rfl
theorem mi (T:Txt P w K mg):Binds K T.IH ["self","name","number"] []:=T.JI.binds λ_ _ _ _ _ _ us hl=>by obtain ⟨_,_,_,rfl⟩:=HA hl;rfl
theorem oz (T:Txt P w K mg):Binds K T.Jb ["self"] []:=T.Kj.binds λ_ _ _ _ _ _ us hl=>by obtain ⟨_,rfl⟩:=Fy hl;rfl
noncomputable def A0 {α:Type}:List α->List α->List α
 | [x0,x1],[y0,y1]=>[x0,x1,y0,y1]
 | _,_=>[]
theorem Gy (T:Txt P w K mg):vN K T.L3 ["code","args","size","steps"] ["size","steps"] A0 A0:=by
 obtain ⟨oc,od,kV,doc,pm,an,cdv,ct,osl,e,lk,hcd⟩:=T.Mg.ex;refine ⟨λs us ws hK hl=>?_,λ{vs us zs ws} h1 h2=>?_⟩
 ·unfold A0 at hl ⊢;split at hl
  ·rw [e];exact .of_eq rfl
  ·cases hl
 ·cases h1 with
  | nil=>exact .nil
  | cons r1 t1 =>
   cases t1 with
   | nil=>exact .nil
   | cons r2 t2 =>
    cases t2 with
    | cons _ _=>exact .nil
    | nil =>
     cases h2 with
     | nil=>exact .nil
     | cons p1 z1 =>
      cases z1 with
      | nil=>exact .nil
      | cons p2 z2 =>
       cases z2 with
       | cons _ _=>exact .nil
       | nil=>exact (.cons r1 (.cons r2 (.cons p1 (.cons p2 .nil))))
noncomputable def dE (d:D) (lo hi:Int):Bool:=match d with
 | .int i=>decide (lo<=i) && decide (i<=hi)
 | _=>false
noncomputable def fq (ds:List D) (d:D):Prop:=∃ x lo hi,ds=[x,.int lo,.int hi]/\d=.bl (dE x lo hi)
noncomputable def fA:D->Bool
 | .tup (.str _::_)=>true
 | _=>false
noncomputable def nQ (ds:List D) (d:D):Prop:=∃ x,ds=[x]/\d=.bl (fA x)
noncomputable def kT (k:Str) (T:List (Str × KTD.Dat)):Int:=match KTD.datumAt k T with
 | some (.flat (.int i))=>i
 | _=>0
noncomputable def eV:D->Bool
 | .tup (.str k::r)=>if KTD.inKeys k TL=true then decide ((r.length:Int)+1=2) && dE (r.getD 0 .Qj) 0 (kT k TL) else KTD.inKeys k TB && decide ((r.length:Int)+1=1+kT k TB)
 | _=>false
noncomputable def Au (ds:List D) (d:D):Prop:=∃ x,ds=[x]/\d=.bl (eV x)
noncomputable def dQ:D->List D
 | .tup (.str k::r)=>if KTD.inKeys k TB=true then r else []
 | _=>[]
noncomputable def ig (ds:List D) (d:D):Prop:=∃ k r,ds=[.tup (.str k::r)]/\d=.tup (dQ (.tup (.str k::r)))
theorem Hk {T:List (Str × KTD.Dat)} {k:Str} (hT:∀ p ∈ T,∃ i,p.2=.flat (.int i)) (h:KTD.inKeys k T=true):KTD.datumAt k T=some (.flat (.int (kT k T))):=by
 unfold kT
 cases e:KTD.datumAt k T with
 | none=>exact absurd e (KTD.at_of_mem h)
 | some d =>
  have all:∀ (T:List (Str × KTD.Dat)),(∀ p ∈ T,∃ i,p.2=.flat (.int i))->KTD.datumAt k T=some d->∃ i,d=.flat (.int i):=by
   intro T
   induction T with
   | nil=>intro _ e;simp [KTD.datumAt] at e
   | cons p r ih =>
    intro hp e;obtain ⟨x,y⟩:=p;have e':(if decide (k=x)=true then some y else KTD.datumAt k r)=some d:=e;by_cases hx:k=x
    ·rw [MW (M5 hx)] at e';cases e';exact hp _ NB
    ·rw [MR (by simp [hx])] at e';exact ih (λp hp'=>hp p (Nj _ hp')) e'
  obtain ⟨i,rfl⟩:=all T hT e;rfl
theorem EY:∀ p ∈ TL,∃ i,p.2=.flat (.int i):=by intro p hp;simp only [TL,Na,Ny,NX] at hp;rcases hp with rfl | rfl <;> exact ⟨_,rfl⟩
theorem EW:∀ p ∈ TB,∃ i,p.2=.flat (.int i):=by intro p hp;simp only [TB,Na,Ny,NX] at hp;rcases hp with rfl | rfl | rfl | rfl | rfl <;> exact ⟨_,rfl⟩
theorem uV (T:Txt P w K mg)  : Ok P w base (k+1) T.HL (QF K fq):=by
 refine T.HL.f.ok UW (λvs H Q E h=>?_) (λcdv A outer s H vs Q E hr h=>?_)
 ·obtain ⟨ds,d,hd,⟨x,lo,hi,rfl,rfl⟩,_⟩:=h;exact hd.length.symm
 have nd:=UW.nd;obtain ⟨ds,d,hd,⟨x,lo,hi,rfl,rfl⟩,post⟩:=h;obtain ⟨v0,v1,v2,rfl,h0,h1,h2⟩:=oI hd;have g1:=h1.Qk;have g2:=h2.Qk;subst g1 g2;refine ⟨_,(aH (aL (hZ (aW (fC A8) rfl T.HV cO (cZ (pv 0) (cZ (gA (v:=.ty "int") rfl T.Mu AC rfl) aB))) (hZ (FL (aW (fC C8) rfl T.HV cO (cZ (pv 0) (cZ (gA (v:=.ty "bool") rfl T.Mt CN rfl) aB)))) (gO (uZ ib ib (pv 1) (pv 0) (pv 2))))))),?_⟩;refine bB (K:=K) (d:=.bl (dE x lo hi)) ?_ post
 cases x with
 | int i=>exact RE.as (eF (cX (aA h0)) λ_=>eF (B5 (cX (aA h0))) λ_=>jO (aA h1) (aA h0) λ_=>aA h2) rfl
 | bl y=>exact RE.as (eF (c:=false) (cX (aA h0)) λ_=>RE.as (eF (c:=true) (B5 (cX (aA h0))) λz=>nomatch z) rfl) rfl
 | Qj=>exact RE.as (eF (c:=true) (cX (aA h0)) λz=>nomatch z) rfl
 | str y=>exact RE.as (eF (c:=true) (cX (aA h0)) λz=>nomatch z) rfl
 | tup y=>exact RE.as (eF (c:=true) (cX (aA h0)) λz=>nomatch z) rfl
 | lst=>exact RE.as (eF (c:=true) (cX (aA h0)) λz=>nomatch z) rfl
theorem sV (T:Txt P w K mg)  : Ok P w base (k+1) T.IP (QF K nQ):=by
 refine T.IP.f.ok Ut (λvs H Q E h=>?_) (λcdv A outer s H vs Q E hr h=>?_)
 ·obtain ⟨ds,d,hd,⟨x,rfl,rfl⟩,_⟩:=h;exact hd.length.symm
 have nd:=Ut.nd;obtain ⟨ds,d,hd,⟨x,rfl,rfl⟩,post⟩:=h;obtain ⟨v0,rfl,h0⟩:=ia hd;refine ⟨_,(aH (aL (hZ (aW (fC lD) rfl T.HV cO (cZ (pv 0) (cZ (gA (v:=.ty "tuple") rfl T.JC f9 rfl) aB))) (hZ (dP rl (aW aT rfl T.HW bV (aF (pv 0) aB)) aE (aU _)) (gO (aW (fC A9) rfl T.HV cO (cZ (aX aY (pv 0) aE) (cZ (gA (v:=.ty "str") rfl T.Mv AE rfl) aB)))))))),?_⟩;refine bB (K:=K) (d:=.bl (fA x)) ?_ post
 cases x with
 | tup ds =>
  cases ds with
  | nil=>exact RE.as (eF (c:=false) (cX (aA h0)) λ_=>RE.as (eF (c:=true) (d9 (eU (aA h0)) aG) λz=>nomatch z) rfl) rfl
  | cons y r =>have l:decide ((0:Int) < (((y::r).length:Nat):Int))=true:=M5 (by rw [Nd];omega);refine RE.as (eF (cX (aA h0)) λ_=>eF (RE.as (d9 (eU (aA h0)) aG) (Nq D.bl l)) λ_=>cX (a6 (k:=0) (aA h0) aG (show (y::r)[0]?=some y from rfl))) ?_;cases y <;> rfl
 | int i=>exact RE.as (eF (c:=true) (cX (aA h0)) λz=>nomatch z) rfl
 | bl y=>exact RE.as (eF (c:=true) (cX (aA h0)) λz=>nomatch z) rfl
 | Qj=>exact RE.as (eF (c:=true) (cX (aA h0)) λz=>nomatch z) rfl
 | str y=>exact RE.as (eF (c:=true) (cX (aA h0)) λz=>nomatch z) rfl
 | lst=>exact RE.as (eF (c:=true) (cX (aA h0)) λz=>nomatch z) rfl
theorem wI (T:Txt P w K mg) (JR:Ok P w base k T.IP (QF K nQ)) (HN:Ok P w base k T.HL (QF K fq)):Ok P w base (k+1) T.Kd (QF K Au):=by
 refine T.Kd.f.ok Ve (λvs H Q E h=>?_) (λcdv A outer s H vs Q E hr h=>?_)
 ·obtain ⟨ds,d,hd,⟨x,rfl,rfl⟩,_⟩:=h;exact hd.length.symm
 have nd:=Ve.nd;obtain ⟨ds,d,hd,⟨x,rfl,rfl⟩,post⟩:=h;obtain ⟨v0,rfl,h0⟩:=ia hd;refine ⟨_,(aC (bE (cR (bP (pc (D:=T.IP) JR hr (aF (pv 0) aB)) (λ_=>rfl))) (aH (aL eH)) aM)
 (aC (bO (i:=1) nd rfl (Or.inl rfl) (aX aY (pv 0) aE))
 (aC (bE (aN lK (pv 1) (bQ (v:=.ref T.IW) rfl T.Ir rfl) (by with_unfolding_all rfl)) (aH (aL (hZ (dP cA (aW aT rfl T.HW bV (aF (pv 0) aB)) aE (aU _)) (gO (pc (D:=T.HL) HN hr (aF (aX aY (pv 0) aE) (aF aE (aF (aX Bd (bQ (v:=.ref T.IW) rfl T.Ir rfl) (pv 1)) aB)))))))) aM)
 (aH (aL (hZ (dP lK (pv 1) (bQ (v:=.ref T.Ii) rfl T.HR rfl) (by with_unfolding_all rfl)) (gO (dP cA (aW aT rfl T.HW bV (aF (pv 0) aB)) (bK cJ aE (aX Bd (bQ (v:=.ref T.Ii) rfl T.HR rfl) (pv 1))) (aU _))))))))),?_⟩
 refine aO (K:=K) (b:=!fA x) (bS (bL (bF (aD (aA h0) aP) ⟨x,rfl,rfl⟩))) (λc H1 s1=>?_) (λc H1 s1=>?_)
 ·refine bB (K:=K) (d:=.bl (eV x)) ?_ λv H' s q=>post v H' (s1.trans s) q
  have e:eV x=false:=by
   unfold eV;split
   ·unfold fA at c;simp at c
   ·rfl
  rw [e];exact fM
 ·have h0':=s1.dat h0;have c':fA x=true:=by simpa using c
  unfold fA at c';split at c'
  ·rename_i kd r;refine dR (K:=K) (d:=.str kd) (a6 (k:=0) (aA h0') aG rfl) λv1 H2 s2 q2=>?_;have h2:=s2.dat h0';have ev:=q2.Qy;subst ev;refine aO (K:=K) (b:=KTD.inKeys kd TL) (aK (g8 (aA q2) T.Iu)) (λcL H3 s3=>?_) (λcL H3 s3=>?_)
   ·have h3:=s3.dat h2
    have e:eV (.tup (.str kd::r))=(decide ((r.length:Int)+1=2) && dE (r.getD 0 .Qj) 0 (kT kd TL)):=by show (if KTD.inKeys kd TL=true then _ else _)=_;rw [MW cL]
    refine bB (K:=K) (d:=.bl (eV (.tup (.str kd::r)))) ?_ λv H' s q=>post v H' (s1.trans (s2.trans (s3.trans s))) q;rw [e];have el:((((D.str kd)::r).length:Nat):Int)=(r.length:Int)+1:=by rw [Nd];omega
    have b1:=iR (K:=K) (eU (aA (σ:=(start ["thing","kind"] [v0]).set 1 (some (.str kd))) (k:=0) h3)) (aG (i:=2));rw [el] at b1;refine eF b1 λhl=>?_;have hl':(r.length:Int)+1=2:=M1 hl
    obtain ⟨y,er⟩:∃ y,r=[y]:=by
     match r,hl' with
     | [],h=>simp at h
     | [y],_=>exact ⟨y,rfl⟩
     | _::_::_,h=>simp at h;omega
    subst er;refine bF (E:=E0) (R:=fq) (aD (a6 (k:=1) (aA h3) aG rfl) (aD aG (aD (vj (aA (s3.dat q2)) T.Iu (by rfl) (Hk EY cL)) aP))) ⟨y,0,kT kd TL,rfl,rfl⟩
   ·have h3:=s3.dat h2
    have e:eV (.tup (.str kd::r))=(KTD.inKeys kd TB && decide ((r.length:Int)+1=1+kT kd TB)):=by show (if KTD.inKeys kd TL=true then _ else _)=_;rw [MR (by rw [cL];exact MY)]
    refine bB (K:=K) (d:=.bl (eV (.tup (.str kd::r)))) ?_ λv H' s q=>post v H' (s1.trans (s2.trans (s3.trans s))) q;rw [e];have el:((((D.str kd)::r).length:Nat):Int)=(r.length:Int)+1:=by rw [Nd];omega
    refine eF (g8 (aA (s3.dat q2)) T.HS) λcB=>?_;have b1:=iR (K:=K) (eU (aA (σ:=(start ["thing","kind"] [v0]).set 1 (some (.str kd))) (k:=0) h3)) (dO (aG (i:=1)) (vj (aA (σ:=(start ["thing","kind"] [v0]).set 1 (some (.str kd))) (k:=1) (s3.dat q2)) T.HS (by rfl) (Hk EW cB)));rw [el] at b1;exact b1
  ·cases c'
theorem nN (T:Txt P w K mg)  : Ok P w base (k+1) T.HU (QF K ig):=by
 refine T.HU.f.ok S8 (λvs H Q E h=>?_) (λcdv A outer s H vs Q E hr h=>?_)
 ·obtain ⟨ds,d,hd,⟨kd,r,rfl,rfl⟩,_⟩:=h;exact hd.length.symm
 have nd:=S8.nd;obtain ⟨ds,d,hd,⟨kd,r,rfl,rfl⟩,post⟩:=h;obtain ⟨v0,rfl,h0⟩:=ia hd;refine ⟨_,(aC (bE (aN lK (aX aY (pv 0) aE) (bQ (v:=.ref T.Ii) rfl T.HR rfl) (by with_unfolding_all rfl)) (aH (aL (i0 pX (pv 0) (iH aE) nW))) aM)
 (aH (aL (bR aB)))),?_⟩
 refine aO (K:=K) (b:=KTD.inKeys kd TB) (aK (g8 (a6 (k:=0) (aA h0) aG rfl) T.HS)) (λc H1 s1=>?_) (λc H1 s1=>?_)
 ·refine bB (K:=K) (d:=.tup r) (j8 (aA (s1.dat h0))) λv H' s q=>post v H' (s1.trans s) ?_;show Dat K H' (.tup (if KTD.inKeys kd TB=true then r else [])) v;rw [MW c];exact q
 ·refine bB (K:=K) (σ:=start ["tree"] [v0]) (d:=.tup []) (bY aP) λv H' s q=>post v H' (s1.trans s) ?_;show Dat K H' (.tup (if KTD.inKeys kd TB=true then r else [])) v;rw [MR (by rw [c];exact MY)];exact q
theorem BJ {ns:List Int} {k:Int} (h0:0<=k) (h1:k < (ns.length:Int)):∃ z,WB (ns.map V.int) k=some (.int z):=by
 have hk:k.toNat < ns.length:=by omega
 refine ⟨ns[k.toNat],?_⟩;have e:k=((k.toNat:Nat):Int):=by omega
 have q:WB (ns.map V.int) ((k.toNat:Nat):Int)=some (.int ns[k.toNat]):=i7 (by rw [MZ,MT hk] <;> rfl);rw [<- e] at q;exact q
theorem sR (T:Txt P w K mg)  : Ok P w base (k+1) T.Ih (xj K):=by
 refine T.Ih.f.ok UC (λvs H Q E h=>?_) (λcdv A outer s H vs Q E hr h=>?_)
 ·obtain ⟨a,t,ns,m,p,q,rest,rfl,_⟩:=h;rfl
 have nd:=UC.nd;obtain ⟨a,t,ns,m,p,q,rest,rfl,hS,hT,hp,hm,hm2,post⟩:=h;refine ⟨_,(aC (bE (aN rl (aX cE (pv 1) aE) aE (aU _)) (aC (bO (i:=3) nd rfl (Or.inl rfl) (bK fg (aX cE (pv 1) aE) (pv 2)))
 (aC (fH (bK jg (aX cE (pv 1) aE) (pv 2)) (tF (pv 1) aE pW))
 (aH (aL (pv 3))))) aM)
 (aC (bO (i:=4) nd rfl (Or.inl rfl) (aX cE (pv 1) aE))
 (aC (DG (pv 1) aE A5 aE sJ pW)
 (aC (bE (aN (BB hr) (pv 0) (c7 aB) (aU _)) (aH (aL (bK fg (pv 4) (pv 2)))) aM)
 (aC (bE (PW.pt (FW (aN ni (pv 4) (aW aT rfl T.HW bV (aF (pv 0) aB)) (aU _)) (DH (aN rj (aX cE (pv 0) (pv 4)) (bK tD aE aE) (aU _))))) (aC (fH (bK fg (bK jg (aX cE (pv 0) (pv 4)) (pv 2)) (bK Du (bK tD aE aE) (bK tD aE aE))) (tF (pv 1) aE pW))
 (aH (aL (bK fg (aX cE (pv 0) (pv 4)) (pv 2))))) aM)
 (aC (bO (i:=5) nd rfl (Or.inl rfl) (bK fg (bK cJ (bK cJ (bK pC (aX cE (pv 0) (bK fg (pv 4) (aW aT rfl T.HW bV (aF (pv 0) aB)))) aE) (bK pC aE (pv 4))) aE) aE))
 (aH (aL (bK fg (bK fg (bK fg (bK tD (pv 5) aE) aE) aE) (pv 2)))))))))),?_⟩
 refine ⟨_,rfl,t,_,1,_,rfl,rfl,Qp.of hT,Z4,q,0,rfl,rfl,_,rfl,?_⟩;refine Bc (λc=>?_) (λc=>?_)
 ·refine ⟨_,rfl,t,_,1,_,rfl,rfl,Qp.of hT,Z4,_,rfl,q,m,rfl,rfl,hm,?_⟩;refine ⟨_,rfl,t,_,1,_,rfl,rfl,Qp.of hT,Z4,_,rfl,q,m,rfl,rfl,⟨hm,by omega⟩,?_⟩;refine ⟨_,rfl,t,_,1,1,rfl,rfl,hT,ix1,?_⟩;refine ⟨_,rfl,?_⟩;exact post (q % m) _ p (q / m) (QY.upd (Qh.refl H).but) aI hp (NO _ (by omega)) (NJ _ hm)
 refine ⟨_,rfl,t,_,0,_,rfl,rfl,Qp.of hT,at0,?_⟩;refine ⟨_,rfl,t,_,0,_,rfl,rfl,PN 0,Qp.of hT,rfl,p,1,rfl,rfl,t,_,0,0,rfl,rfl,hT,ix0,?_⟩;refine ⟨_,rfl,(by show 0<=sizeLine;decide),λl hl=>?_⟩;have bt1:QY t H (upd H t (.lst ((V.int p::.int q::rest).set 0 (.int (p+1))))):=QY.upd (Qh.refl H).but;have hlt:l≠t:=λz=>by rw [z,aI] at hl;cases hl
 have YS:=bt1.trans (aV hl (.lst [])).but
 have ht3:upd (upd H t (.lst ((V.int p::.int q::rest).set 0 (.int (p+1))))) l (.lst []) t=some (.lst (.int (p+1)::.int q::rest)):=by rw [aR (Nz hlt)];exact aI
 have XX:=(hS.but YS hT).UI;have hlen:((ns.map V.int).length:Int)=(ns.length:Int):=by rw [tB]
 refine ⟨a,l,_,[],ns.map D.int,[],rfl,rfl,XX,Qp.of aI,gm ns,Qf.nil,mE ns,(by unfold QB;rfl),(by rw [m8];decide),_,rfl,?_⟩;show (if QG (ns.map D.int) []=true then _ else _);rw [oM];refine Bc (λc0=>?_) (λc0=>?_)
 ·refine ⟨_,rfl,_,rfl,p,m,rfl,rfl,hm,?_⟩;exact post _ _ (p+1) q YS ht3 (by omega) (NO _ (by omega)) (NJ _ hm)
 have Vx:(0:Int) < ((ns.map V.int).length:Int):=by
  rw [hlen]
  cases ns with
  | nil=>exact absurd rfl c0
  | cons n ns=>rw [Nd];omega
 refine ⟨_,rfl,_,rfl,a,_,rfl,.inl XX,p,_,rfl,rfl,_,rfl,?_⟩;refine Bc (λc1=>?_) (λc1=>?_)
 ·have c1':p < ((ns.map V.int).length:Int):=M1 c1;obtain ⟨z,hz⟩:=BJ (ns:=ns) hp (by rw [<- hlen];exact c1');refine ⟨_,rfl,_,rfl,a,_,p,_,rfl,rfl,XX,hz,10,18,rfl,rfl,⟨by decide,by decide,by decide⟩,z,_,rfl,rfl,_,rfl,?_⟩;refine Bc (λc2=>?_) (λc2=>?_)
  ·refine ⟨_,rfl,_,rfl,a,_,p,_,rfl,rfl,XX,hz,_,rfl,z,m,rfl,rfl,⟨hm,by omega⟩,10,60,rfl,rfl,⟨by decide,by decide,by decide⟩,10,60,rfl,rfl,⟨by decide,by decide,by decide⟩,_,_,rfl,rfl,IntMulOk.of_bits (by decide +kernel) (by decide +kernel),_,_,rfl,rfl,(by show (0:Int) < 10 ^ (60:Int).toNat * 10 ^ (60:Int).toNat;decide +kernel),?_⟩;refine ⟨_,rfl,t,_,1,1,rfl,rfl,ht3,ix1,?_⟩;refine ⟨_,rfl,_,rfl,a,_,p,_,rfl,rfl,(hS.but YS.upd hT).UI,hz,_,rfl,z,m,rfl,rfl,hm,?_⟩;exact post _ _ (p+1) _ YS.upd aI (by omega) (NO _ (by omega)) (NJ _ hm)
  ·refine ⟨_,rfl,_,rfl,_,rfl,a,_,rfl,.inl XX,p,_,rfl,rfl,Vx,?_⟩;obtain ⟨z2,hz2⟩:=BJ (ns:=ns) (NO p (by omega:((ns.map V.int).length:Int)≠0)) (by rw [<- hlen];exact NJ p Vx);refine ⟨a,_,_,_,rfl,rfl,XX,hz2,z2,1103515245,rfl,rfl,.inr ⟨by decide,by decide⟩,_,rfl,7919,p,rfl,rfl,.inl ⟨by decide,by decide⟩,_,_,rfl,rfl,_,_,rfl,rfl,_,_,rfl,rfl,(by show (0:Int) < 2147483647;decide),?_⟩;have m1:=NO (z2 * 1103515245+7919 * p+12345) (by decide:(2147483647:Int)≠0);have m2:=NJ (z2 * 1103515245+7919 * p+12345) (by decide:(0:Int) < 2147483647);refine ⟨_,rfl,_,5,rfl,rfl,⟨by decide,by decide,by omega⟩,_,_,rfl,rfl,(by show (0:Int) < 2147483647;decide),_,_,rfl,rfl,(by show (0:Int) < 999983;decide),_,rfl,_,m,rfl,rfl,hm,?_⟩;exact post _ _ (p+1) q YS ht3 (by omega) (NO _ (by omega)) (NJ _ hm)
 ·refine ⟨_,rfl,_,rfl,_,rfl,a,_,rfl,.inl XX,p,_,rfl,rfl,Vx,?_⟩;obtain ⟨z2,hz2⟩:=BJ (ns:=ns) (NO p (by omega:((ns.map V.int).length:Int)≠0)) (by rw [<- hlen];exact NJ p Vx);refine ⟨a,_,_,_,rfl,rfl,XX,hz2,z2,1103515245,rfl,rfl,.inr ⟨by decide,by decide⟩,_,rfl,7919,p,rfl,rfl,.inl ⟨by decide,by decide⟩,_,_,rfl,rfl,_,_,rfl,rfl,_,_,rfl,rfl,(by show (0:Int) < 2147483647;decide),?_⟩;have m1:=NO (z2 * 1103515245+7919 * p+12345) (by decide:(2147483647:Int)≠0);have m2:=NJ (z2 * 1103515245+7919 * p+12345) (by decide:(0:Int) < 2147483647);refine ⟨_,rfl,_,5,rfl,rfl,⟨by decide,by decide,by omega⟩,_,_,rfl,rfl,(by show (0:Int) < 2147483647;decide),_,_,rfl,rfl,(by show (0:Int) < 999983;decide),_,rfl,_,m,rfl,rfl,hm,?_⟩;exact post _ _ (p+1) q YS ht3 (by omega) (NO _ (by omega)) (NJ _ hm)
end
inductive Tr where
 | num (n:Int)
 | arg (k:Int)
 | two (o:Str) (a b:Tr)
 | pick (a b c:Tr)
noncomputable def toD:Tr->D
 | .num n=>.tup [.str "num",.int n]
 | .arg k=>.tup [.str "arg",.int k]
 | .two o a b=>.tup [.str o,toD a,toD b]
 | .pick a b c=>.tup [.str "pick",toD a,toD b,toD c]
noncomputable def RI:Tr->Prop
 | .num n=>0<=n/\n<=9999
 | .arg k=>0<=k/\k<=3
 | .two o a b=>(o="add"\/o="sub"\/o="mul"\/o="less")/\RI a/\RI b
 | .pick a b c=>RI a/\RI b/\RI c
noncomputable def aS:Tr->Nat
 | .num _=>1
 | .arg _=>1
 | .two _ a b=>max (aS a) (aS b)+1
 | .pick a b c=>max (aS a) (max (aS b) (aS c))+1
noncomputable def a8:Tr->Nat
 | .num _=>1
 | .arg _=>1
 | .two _ a b=>a8 a+a8 b+1
 | .pick a b c=>a8 a+a8 b+a8 c+1
noncomputable def dI:Tr->List Tr
 | .num _=>[]
 | .arg _=>[]
 | .two _ a b=>[a,b]
 | .pick a b c=>[a,b,c]
noncomputable def a9:Tr->List Tr
 | .num n=>[.num n]
 | .arg k=>[.arg k]
 | .two o a b=>.two o a b::(a9 a++a9 b)
 | .pick a b c=>.pick a b c::(a9 a++a9 b++a9 c)
theorem bX:∀ t:Tr,(a9 t).length=a8 t
 | .num _=>rfl
 | .arg _=>rfl
 | .two _ a b=>by simp only [a9,a8,Nd,MQ,bX a,bX b]
 | .pick a b c=>by simp only [a9,a8,Nd,MQ,bX a,bX b,bX c]
theorem iX (t:Tr):1<=aS t:=by cases t <;> simp [aS]
theorem Bu {o:Str} (h:o="add"\/o="sub"\/o="mul"\/o="less"):KTD.inKeys o TL=false/\KTD.inKeys o TB=true/\kT o TB=2:=by rcases h with rfl | rfl | rfl | rfl <;> decide +kernel
theorem zE:KTD.inKeys ("pick":Str) TL=false/\KTD.inKeys ("pick":Str) TB=true/\kT ("pick":Str) TB=3:=by decide +kernel
theorem Bt:KTD.inKeys ("num":Str) TL=true/\KTD.inKeys ("num":Str) TB=false/\kT ("num":Str) TL=9999:=by decide +kernel
theorem Bs:KTD.inKeys ("arg":Str) TL=true/\KTD.inKeys ("arg":Str) TB=false/\kT ("arg":Str) TL=3:=by decide +kernel
variable {r:List D}
theorem ph {k:Str} (h:KTD.inKeys k TL=true):eV (.tup (.str k::r))=(decide ((r.length:Int)+1=2) && dE (r.getD 0 .Qj) 0 (kT k TL)):=by unfold eV;dsimp only;rw [MW h]
theorem pf {k:Str} (h:KTD.inKeys k TL=false):eV (.tup (.str k::r))=(KTD.inKeys k TB && decide ((r.length:Int)+1=1+kT k TB)):=by unfold eV;dsimp only;rw [MR (by rw [h];exact MY)]
theorem uH {k:Str} (h:KTD.inKeys k TB=true):dQ (.tup (.str k::r))=r:=by unfold dQ;dsimp only;rw [MW h]
theorem mz {k:Str} (h:KTD.inKeys k TB=false):dQ (.tup (.str k::r))=[]:=by unfold dQ;dsimp only;rw [MR (by rw [h];exact MY)]
theorem lF:∀ t:Tr,RI t->eV (toD t)=true/\dQ (toD t)=(dI t).map toD
 | .num n,h=>by obtain ⟨h1,h2,h3⟩:=Bt;refine ⟨?_,mz h2⟩;unfold toD;rw [ph h1,h3];show (decide ((1:Int)+1=2) && (decide (0<=n) && decide (n<=9999)))=true;simp [h.1,h.2]
 | .arg n,h=>by obtain ⟨h1,h2,h3⟩:=Bs;refine ⟨?_,mz h2⟩;unfold toD;rw [ph h1,h3];show (decide ((1:Int)+1=2) && (decide (0<=n) && decide (n<=3)))=true;simp [h.1,h.2]
 | .two o a b,h=>by obtain ⟨h1,h2,h3⟩:=Bu h.1;refine ⟨?_,uH h2⟩;unfold toD;rw [pf h1,h2,h3];rfl
 | .pick a b c,h=>by obtain ⟨h1,h2,h3⟩:=zE;refine ⟨?_,uH h2⟩;unfold toD;rw [pf h1,h2,h3];rfl
noncomputable def ku:Nat->List (D × Int)->Int->Bool
 | 0,_,_=>false
 | _+1,[],_=>true
 | n+1,(d,dp)::st,p=>if (decide (40 < p+1) || (decide (8 < dp) || !eV d))=true then false else ku n (((dQ d).map λx=>(x,dp+1)).reverse++st) (p+1)
noncomputable def gS (d:D):Bool:=ku 50 [(d,1)] 0
theorem j0 {n:Nat} {d:D} {dp:Int} {st:List (D × Int)} {p:Int} (h1:p+1<=40) (h2:dp<=8) (h3:eV d=true):ku (n+1) ((d,dp)::st) p=ku n (((dQ d).map λx=>(x,dp+1)).reverse++st) (p+1):=by show (if _=true then false else _)=_;rw [MR];simp [h3];omega
theorem iq:∀ (t:Tr),RI t->∀ (n:Nat) (dp:Int) (st:List (D × Int)) (p:Int),(aS t:Int)+dp<=9->p+(a8 t:Int)<=40->ku (n+a8 t) ((toD t,dp)::st) p=ku n st (p+a8 t)
 | .num m,h,n,dp,st,p,h1,h2=>by obtain ⟨e1,e2⟩:=lF (.num m) h;simp only [aS,a8] at h1 h2 ⊢;rw [j0 (by omega) (by omega) e1,e2];rfl
 | .arg m,h,n,dp,st,p,h1,h2=>by obtain ⟨e1,e2⟩:=lF (.arg m) h;simp only [aS,a8] at h1 h2 ⊢;rw [j0 (by omega) (by omega) e1,e2];rfl
 | .two o a b,h,n,dp,st,p,h1,h2=>by
  obtain ⟨e1,e2⟩:=lF (.two o a b) h;have d1:=iX a;simp only [aS,a8] at h1 h2 ⊢;have g1:(aS a:Int)+(dp+1)<=9:=by omega
  have g2:(aS b:Int)+(dp+1)<=9:=by omega
  rw [show n+(a8 a+a8 b+1)=(n+a8 a+a8 b)+1 by omega,j0 (by omega) (by omega) e1,e2];show ku (n+a8 a+a8 b) ((toD b,dp+1)::(toD a,dp+1)::st) (p+1)=_;rw [iq b h.2.2 (n+a8 a) (dp+1) ((toD a,dp+1)::st) (p+1) g2 (by omega),iq a h.2.1 n (dp+1) st _ g1 (by omega)];congr 1;omega
 | .pick a b c,h,n,dp,st,p,h1,h2=>by
  obtain ⟨e1,e2⟩:=lF (.pick a b c) h;have d1:=iX a;simp only [aS,a8] at h1 h2 ⊢;have g1:(aS a:Int)+(dp+1)<=9:=by omega
  have g2:(aS b:Int)+(dp+1)<=9:=by omega
  have g3:(aS c:Int)+(dp+1)<=9:=by omega
  rw [show n+(a8 a+a8 b+a8 c+1)=(n+a8 a+a8 b+a8 c)+1 by omega,j0 (by omega) (by omega) e1,e2];show ku (n+a8 a+a8 b+a8 c) ((toD c,dp+1)::(toD b,dp+1)::(toD a,dp+1)::st) (p+1)=_;rw [iq c h.2.2 (n+a8 a+a8 b) (dp+1) _ (p+1) g3 (by omega),iq b h.2.1 (n+a8 a) (dp+1) _ _ g2 (by omega),iq a h.1 n (dp+1) st _ g1 (by omega)];congr 1;omega
theorem yO {t:Tr} (h:RI t) (h1:aS t<=8) (h2:a8 t<=40):gS (toD t)=true:=by
 have q:=iq t h (50 - a8 t) 1 [] 0 (by omega) (by omega);rw [show 50 - a8 t+a8 t=50 by omega] at q;unfold gS;rw [q];obtain ⟨m,e⟩:∃ m,50 - a8 t=m+1:=⟨50 - a8 t - 1,by omega⟩
 rw [e];rfl
section
variable {P:Program} {w:World} {K:W.Frag} {mg:Str->Option Value} {base:Heap} {k:Nat}
noncomputable def mu2 (σ:L2.St) (_:Hp):Nat:=match σ[2]? with
 | some (some (V.int p))=>(50 - p).toNat
 | _=>0
noncomputable def xx (ds:List D) (d:D):Prop:=∃ x,ds=[x]/\d=.bl (gS x)
noncomputable abbrev pr (x:D × Int):D:=.tup [x.1,.int x.2]
variable {H:Hp}
theorem qR {K:W.Frag} {b:D}:∀ {as:List D} {vs:List V},Qf K H (as++[b]) vs->∃ us v,vs=us++[v]/\Qf K H as us/\Dat K H b v
 | [],vs,h=>by obtain ⟨v,e,q⟩:=ia h;exact ⟨[],v,e,Qf.nil,q⟩
 | a::as,vs,h=>by obtain ⟨u,r,e,h1,h2⟩:=h.QN;obtain ⟨us,v,e2,h3,h4⟩:=qR h2;subst e2 e;exact ⟨u::us,v,rfl,Qf.cons h1 h3,h4⟩
theorem Eg (k:Str):kT k TB<=3:=by
 unfold kT;split
 ·rename_i i e;simp only [TB,KTD.datumAt] at e
  repeat' split at e
  all_goals first
   | (cases e;decide)
   | cases e
 ·decide
variable {d:D}
theorem o5 (h:eV d=true):(dQ d).length<=3:=by
 unfold eV at h;split at h
 ·rename_i k r;unfold dQ;dsimp only;split
  ·rename_i hb;split at h
   ·rw [M4] at h;have z:=M1 h.1;omega
   ·rw [M4] at h;have z:=M1 h.2;have z2:=Eg k;omega
  ·exact NW _
 ·cases h
theorem pj (h:eV d=true):∃ k r,d=.tup (.str k::r):=by
 unfold eV at h;split at h
 ·exact ⟨_,_,rfl⟩
 ·cases h
theorem wJ (T:Txt P w K mg) (Lf:Ok P w base k T.Kd (QF K Au)) (Il:Ok P w base k T.HU (QF K ig)):Ok P w base (k+1) T.KY (QF K xx):=by
 refine T.KY.f.ok Vf (λvs H Q E h=>?_) (λcdv A outer s H vs Q E hr h=>?_)
 ·obtain ⟨ds,d,hd,⟨x,rfl,rfl⟩,_⟩:=h;exact hd.length.symm
 have nd:=Vf.nd;obtain ⟨ds,d,hd,⟨x,rfl,rfl⟩,post⟩:=h;obtain ⟨v0,rfl,h0⟩:=ia hd;refine ⟨_,(aC (bO (i:=1) nd rfl (Or.inl rfl) (c7 (aF (bR (aF (pv 0) (aF aE aB))) aB)))
 (aC (bO (i:=2) nd rfl (Or.inl rfl) aE)
 (aC (lO NP (bP (pv 1) (λ_=>rfl)) (aC (fH (wO NF Py F.type_list_pop wA (pv 1)) (f6 rfl (bJ (a7 (i:=3) nd rfl (Or.inl rfl)) (bJ (a7 (i:=4) nd rfl (Or.inr rfl)) eE))))
 (aC (tI (i:=2) nd rfl (Or.inl rfl) aE sJ)
 (aC (bE (PW.pt (gq (aN rl (pv 2) (bQ (v:=.int 40) rfl T.Jg ⟨_,rfl⟩) (aU _)) (gq (aN rl (pv 4) (bQ (v:=.int 8) rfl T.Jq ⟨_,rfl⟩) (aU _)) (fJ (cR (bP (pc (D:=T.Kd) Lf hr (aF (pv 3) aB)) (λ_=>rfl))))))) (aH (aL eH)) aM)
 (aH (bT (ic NF OT Pb j4 (pv 1) (aF (e8 (own:=["within"]) (fr:=[4]) (N':=["within","deep"]) (h6 (pc (D:=T.HU) Il hr (aF (pv 3) aB))) rfl (by show dW ["thing","waiting","parts","part","deep"] (λx=>(aJ mS).names.lookup x) _ _ _ _=true;decide +kernel) rfl (λ_ _ _ _ _=>(a7 (i:=0) (by show List.Nodup [("within":Str),("deep":Str)];decide +kernel) rfl (Or.inl rfl))) (λ_ _ _ _ _=>cQ) (λ_ _ _ _ _=>(bR (aF (pv 0) (aF (bK cJ (pv 1) aE) aB))))) aB))))))))
 (aH (aL eH))))),?_⟩
 refine fw (wZ (K:=K) (aD (bY (aD (aA h0) (aD aG aP))) aP) λwl YT H1 s1 hw q1=>?_);have hw0:H wl=none:=s1.free hw;have s1':Qh H (upd H1 wl (.lst YT)):=s1.trans (aV hw _)
 refine fw (B9 (eA (qj (λσ G=>∃ (st:List (D × Int)) (p:Int) (n:Nat) (xs:List V) (z3 z4:Option V),σ=[some v0,some (.ref wl),some (.int p),z3,z4]/\G wl=some (.lst xs)/\Qf K G (st.reverse.map pr) xs/\Qh H G/\ku n st p=gS x/\0<=p/\p<=40/\(n:Int)=50 - p/\(xs.length:Int)<=1+3 * p)
  mu2 ?_ ?_ ?_)))
 ·refine ⟨[(x,1)],0,50,YT,none,none,rfl,aI,(aV hw _).Qu q1,s1',rfl,by decide,by decide,by decide,?_⟩;rw [<- q1.length];simp
 ·rintro σ G ⟨st,p,n,xs,z3,z4,rfl,hG,hd,sG,lp,p0,p1,en,lx⟩;refine ⟨_,rfl,!xs.isEmpty,.inl ⟨xs,Qp.of hG,rfl⟩,?_⟩
  cases st with
  | nil =>
   have ex:=hd.Us;subst ex;rw [MR (by simp)];obtain ⟨m,rfl⟩:∃ m,n=m+1:=⟨n - 1,by omega⟩
   have Zm:gS x=true:=lp.symm;refine post _ _ sG ?_;rw [Zm];exact Dat.To _
  | cons e st =>
   obtain ⟨y,dp⟩:=e;rw [OZ,Nl] at hd;obtain ⟨us,v,ex,hu,hv⟩:=qR hd;subst ex;obtain ⟨a,ws,ev,hq,hws⟩:=hv.Qw;obtain ⟨vy,vd,ew,hy,hdp⟩:=gb hws;have edp:=hdp.Qk;subst edp ew ev;rw [MW (by simp)];refine ⟨_,rfl,.inl ⟨rfl,_,Qp.of hG⟩,wl,us++[.ref a],.ref a,rfl,rfl,hG,(by simp),?_⟩;rw [PD];have bt:QY wl G (upd G wl (.lst us)):=QY.upd (Qh.refl G).but;have g2:gW K G (upd G wl (.lst us)):=bt.grow hG aI;refine ⟨a,[vy,.int dp],rfl,bt.VW hG hq,rfl,vy,_,rfl,.int dp,_,rfl,rfl,?_⟩;have s2:Qh H (upd G wl (.lst us)):=λb o hb=>bt b o (aQ hb hw0) (sG b o hb);have YU:=Dat.mono g2 _ hy;have hu2:=Qf.mono g2 _ hu;refine ⟨_,rfl,p,1,rfl,rfl,?_⟩;dsimp only;refine aO (K:=K) (b:=decide (40 < p+1) || (decide (8 < dp) || !eV y)) ?_ (λc H3 s3=>?_) (λc H3 s3=>?_)
   ·exact eR (aK (d9 (aA (K:=K) (Dat.Qm (p+1))) aG)) λ_=>eR (aK (d9 (aA (K:=K) (Dat.Qm dp)) aG)) λ_=>bS (bL (bF (aD (aA YU) aP) ⟨y,rfl,rfl⟩))
   ·refine post _ _ (s2.trans s3) ?_;obtain ⟨m,rfl⟩:∃ m,n=m+1:=⟨n - 1,by omega⟩
    have Zm:gS x=false:=by rw [<- lp];show (if (decide (40 < p+1) || (decide (8 < dp) || !eV y))=true then false else _)=false;rw [MW c]
    rw [Zm];exact Dat.To _
   ·obtain ⟨m,rfl⟩:∃ m,n=m+1:=⟨n - 1,by omega⟩
    have Zm:ku m (((dQ y).map λx=>(x,dp+1)).reverse++st) (p+1)=gS x:=by
     rw [<- lp];show _=(if (decide (40 < p+1) || (decide (8 < dp) || !eV y))=true then false else _)
     rw [MR (by rw [c];exact MY)]
    simp only [OJ,decide_eq_false_iff_not,P6] at c;obtain ⟨c1,c2,c3⟩:=c;obtain ⟨kd,r,ey⟩:=pj c3;have few:=o5 c3;have Yp:=s3 _ _ (show upd G wl (.lst us) wl=some (.lst us) from aI);refine ⟨_,rfl,.inl ⟨rfl,_,Qp.of Yp⟩,?_⟩;refine mO (K:=K) (cs:=dQ y) (bF (R:=ig) (aD (aA (s3.dat YU)) aP) ⟨kd,r,by rw [ey],by rw [ey]⟩) (by omega) ((dQ y).map λz=>pr (z,dp+1)) (tB _) rfl (λH4 i z vz d s4 hz hi Zn=>?_) (λl ys H5 hl s5 WL XY=>?_)
    ·rw [MZ,hz] at hi;cases hi;exact bY (aD (aA Zn) (aD (dO (aA (Dat.Qm dp)) aG) aP))
    ·have XZ:=s5 _ _ Yp;have ly:ys.length=(dQ y).length:=by rw [<- XY.length,tB]
     have lu:us.length=st.length:=by rw [<- hu.length,tB,N1]
     rw [MQ,List.length_singleton] at lx;have b5:QY wl H5 (upd H5 wl (.lst (us++ys))):=QY.upd (Qh.refl H5).but;have g5:gW K H5 (upd H5 wl (.lst (us++ys))):=b5.grow XZ aI;refine ⟨wl,l,us,ys,rfl,rfl,XZ,WL,d8 (by omega),?_⟩;refine ⟨⟨_,p+1,m,us++ys,_,_,rfl,aI,?_,?_,Zm,by omega,by omega,by omega,?_⟩,?_⟩
     ·rw [List.reverse_append,List.reverse_reverse,Nl,OB];exact Qf.append (Qf.mono g5 _ ((s3.trans s5).Qu hu2)) (Qf.mono g5 _ XY)
     ·exact λb o hb=>b5 b o (aQ hb hw0) (s5 _ _ (s3 _ _ (s2 _ _ hb)))
     ·rw [MQ];omega
     ·show (50 - (p+1)).toNat < (50 - p).toNat;omega
 ·intro σ G Q1 Q2 hQ hc;obtain ⟨v,e,k',tr,q⟩:=hc;exact ⟨v,e,k',tr,hQ _ _ q⟩
theorem tu (T:Txt P w K mg) (Mn:Ok P w base k T.KY (QF K xx)):Ok P w base (k+1) T.Jy (QF K λds d=>∃ x,ds=[x]/\gS x=true/\d=.Qj):=by
 refine T.Jy.f.ok Uu (λvs H Q E h=>?_) (λcdv A outer s H vs Q E hr h=>?_)
 ·obtain ⟨ds,d,hd,⟨x,rfl,_,rfl⟩,_⟩:=h;exact hd.length.symm
 have nd:=Uu.nd;obtain ⟨ds,d,hd,⟨x,rfl,hx,rfl⟩,post⟩:=h;obtain ⟨v0,rfl,h0⟩:=ia hd;refine ⟨_,(aH (bE (cR (bP (pc (D:=T.KY) Mn hr (aF (pv 0) aB)) (λ_=>rfl))) (aH c8) aM)),?_⟩;refine g9 (b:=!gS x) (bS (bL (bF (aD (aA h0) aP) ⟨x,rfl,rfl⟩))) (λc H1 s1=>?_) (λc H1 s1=>?_)
 ·rw [hx] at c;cases c
 ·exact post _ _ s1 Dat.VM
noncomputable def me (n:Nat) (ds es:List D):Prop:=∃ t,ds=[toD t]/\RI t/\aS t<=n/\a8 t<=200/\es=(a9 t).map toD
theorem gh (t:Tr):a9 t=t::(dI t).flatMap a9:=by cases t <;> simp [a9,dI]
variable {t x:Tr}
theorem Dh (h:RI t) (hx:x ∈ dI t):RI x/\aS x+1<=aS t/\a8 x+1<=a8 t:=by
 cases t with
 | num n=>simp [dI] at hx
 | arg n=>simp [dI] at hx
 | two o a b =>
  simp only [dI,Na,Ny,NX] at hx;rcases hx with rfl | rfl
  ·exact ⟨h.2.1,by simp only [aS];omega,by simp only [a8];omega⟩
  ·exact ⟨h.2.2,by simp only [aS];omega,by simp only [a8];omega⟩
 | pick a b c =>
  simp only [dI,Na,Ny,NX] at hx;rcases hx with rfl | rfl | rfl
  ·exact ⟨h.1,by simp only [aS];omega,by simp only [a8];omega⟩
  ·exact ⟨h.2.1,by simp only [aS];omega,by simp only [a8];omega⟩
  ·exact ⟨h.2.2,by simp only [aS];omega,by simp only [a8];omega⟩
noncomputable def vG (t:Tr) (i:Nat):List Tr:=t::((dI t).take i).flatMap a9
variable {i:Nat}
theorem Af (h:(dI t)[i]?=some x):vG t (i+1)=vG t i++a9 x:=by unfold vG;rw [NR,h];simp
theorem Cv (t:Tr):vG t (dI t).length=a9 t:=by unfold vG;rw [N7,gh]
theorem Ef (t:Tr) (i:Nat):(vG t i).length<=a8 t:=by
 rw [<- bX t,gh];unfold vG;rw [Nd,Nd]
 have h:((dI t).take i).flatMap a9++((dI t).drop i).flatMap a9=(dI t).flatMap a9:=by rw [<- List.flatMap_append,O1]
 have h2:=Nq List.length h;rw [MQ] at h2;omega
theorem Ed (t:Tr):∃ kd r,toD t=.tup (.str kd::r):=by cases t <;> exact ⟨_,_,rfl⟩
variable {n:Nat}
theorem zK (T:Txt P w K mg) (Il:Ok P w base k T.HU (QF K ig)) (Lv:Ok P w base k T.Ko (lZ K (me n))):Ok P w base (k+1) T.Ko (lZ K (me (n+1))):=by
 refine T.Ko.f.ok VF (λvs H Q E h=>?_) (λcdv A outer s H vs Q E hr h=>?_)
 ·obtain ⟨ds,es,hd,⟨t,rfl,_⟩,_⟩:=h;exact hd.length.symm
 have nd:=VF.nd;obtain ⟨ds,es,hd,⟨t,rfl,ht,hn,hz,rfl⟩,post⟩:=h;obtain ⟨v0,rfl,h0⟩:=ia hd;refine ⟨_,(aC (bO (i:=1) nd rfl (Or.inl rfl) (c7 (aF (pv 0) aB)))
 (aC (h7 NP rfl (h6 (pc (D:=T.HU) Il hr (aF (pv 0) aB))) (a7 (i:=2) nd rfl (Or.inl rfl)) (aH (bT (ic NF OT Pb j4 (pv 1) (aF (pc (D:=T.Ko) Lv hr (aF (pv 2) aB)) aB)))))
 (aH (aL (pv 1))))),?_⟩
 refine fw (wZ (K:=K) (aD (aA h0) aP) λwl YT H1 s1 hw q1=>?_);have hw0:H wl=none:=s1.free hw;have s1':Qh H (upd H1 wl (.lst YT)):=s1.trans (aV hw _);obtain ⟨kd,r,ek⟩:=Ed t;refine eA (RE.use (bF (R:=ig) (d:=.tup (dQ (toD t))) (aD (aA (K:=K) (k:=0) (s1'.dat h0)) aP) ⟨kd,r,by rw [ek],by rw [ek]⟩) λv4 H4 s4 q4=>?_);rw [(lF t ht).2] at q4;obtain ⟨a,vs,ea,hq,hds⟩:=q4.Qw;subst ea;have hl:=hds.length;rw [tB] at hl;refine ⟨a,rfl,⟨vs,hq⟩,lB (xs:=vs) (λi σ G=>∃ (z:Option V) (ys:List V),σ=[some v0,some (.ref wl),z]/\Qh H G/\QH K G a vs/\Qf K G ((dI t).map toD) vs/\G wl=some (.lst ys)/\Qf K G ((vG t i).map toD) ys) ?_ (λi σ G _ ⟨z,ys,_,_,p,_⟩=>p) ?_ ?_⟩
 ·exact ⟨none,YT,rfl,s1'.trans s4,hq,hds,s4 _ _ aI,(show Qf K H4 ([t].map toD) YT from ((aV hw _).trans s4).Qu q1)⟩
 ·rintro i vx σ G hi ⟨z,ys,rfl,sG,Zo,W6,V3,W7⟩;obtain ⟨dx,ex,hx⟩:=W6.T9 hi;rw [MZ] at ex
  cases hk:(dI t)[i]? with
  | none=>rw [hk] at ex;cases ex
  | some x =>
   rw [hk] at ex;cases ex;obtain ⟨k1,k2,k3⟩:=Dh ht (Nn hk);refine ⟨_,rfl,.inl ⟨rfl,_,Qp.of V3⟩,_,rfl,[toD x],_,(Qf.cons hx Qf.nil:Qf K G [toD x] [vx]),⟨x,rfl,k1,by omega,by omega,rfl⟩,λr us H5 s5 hr5 _ XY=>?_⟩;have XZ:=s5 _ _ V3;have b6:QY wl H5 (upd H5 wl (.lst (ys++us))):=QY.upd (Qh.refl H5).but;have g6:gW K H5 (upd H5 wl (.lst (ys++us))):=b6.grow XZ aI;have ly:ys.length<=a8 t:=by rw [<- W7.length,tB];exact Ef t i
   have lu:us.length=a8 x:=by rw [<- XY.length,tB,bX]
   refine ⟨wl,r,ys,us,rfl,rfl,XZ,hr5,d8 (by omega),some vx,ys++us,rfl,λb o hb=>b6 b o (aQ hb hw0) (s5 _ _ (sG _ _ hb)),g6.tup _ _ (s5.VW Zo),Qf.mono g6 _ (s5.Qu W6),aI,?_⟩;rw [Af hk,Nl];exact Qf.append (Qf.mono g6 _ (s5.Qu W7)) (Qf.mono g6 _ XY)
 ·rintro σ G ⟨z,ys,rfl,sG,Zo,W6,V3,W7⟩;refine ⟨_,rfl,post wl ys G sG V3 hw0 ?_⟩;rw [<- hl,Cv] at W7;exact W7
theorem iN {b:Bool} (h:(!b)=true):b=false:=by cases b with | true=>cases h | false=>rfl
theorem gd {b:Bool} (h:(!b)=false):b=true:=by cases b with | true=>rfl | false=>cases h
noncomputable def sgn (c:Nat):Bool:=(!decide (([c]:List Nat) < ("a":Str).cps.toList)) && !decide (("z":Str).cps.toList < ([c]:List Nat))
noncomputable def jM:D->Bool
 | .str x=>(decide (1<=(x.length:Int)) && decide ((x.length:Int)<=8)) && (x.cps.toList.map sgn).all id
 | _=>false
noncomputable def Et:D->Prop
 | .str x=>x.length<=sizeLine
 | _=>True
noncomputable def As (ds:List D) (d:D):Prop:=∃ x,ds=[x]/\Et x/\d=.bl (jM x)
theorem wm {x:D} (h:∀ y,x≠.str y):nI x "str"=false:=by
 cases x with
 | str y=>exact absurd rfl (h y)
 | _=>rfl
theorem Bm {x:D} (h:∀ y,x≠.str y):jM x=false:=by
 cases x with
 | str y=>exact absurd rfl (h y)
 | _=>rfl
theorem wH (T:Txt P w K mg)  : Ok P w base (k+1) T.KW (QF K As):=by
 refine T.KW.f.ok Vg (λvs H Q E h=>?_) (λcdv A outer s H vs Q E hr h=>?_)
 ·obtain ⟨ds,d,hd,⟨x,rfl,_⟩,_⟩:=h;exact hd.length.symm
 have nd:=Vg.nd;obtain ⟨ds,d,hd,⟨x,rfl,hx,rfl⟩,post⟩:=h;obtain ⟨v0,rfl,h0⟩:=ia hd;refine ⟨_,(aC (bE (PW.pt (gq (cR (bP (aW (fC A9) rfl T.HV cO (cZ (pv 0) (cZ (gA (v:=.ty "str") rfl T.Mv AE rfl) aB))) (λ_=>rfl))) (fJ (cR (lP ib ib aE (aW r8 rfl T.HW bV (aF (pv 0) aB)) (bQ (v:=.int 8) rfl T.IK ⟨_,rfl⟩)))))) (aH (aL eH)) aM)
 (aH (aL (aW (iy rfl) rfl T.Ln kJ (aF (e8 (own:=["sign"]) (fr:=[]) (N':=["sign"]) (FS (pv 0)) rfl (by show dW ["thing"] (λx=>(aJ mR).names.lookup x) _ _ _ _=true;decide +kernel) rfl (λ_ _ _ _ _=>(a7 (i:=0) (by show List.Nodup [("sign":Str)];decide +kernel) rfl (Or.inl rfl))) (λ_ _ _ _ _=>cQ) (λ_ _ _ _ _=>(uZ BC BC bC (pv 0) bC))) aB))))),?_⟩
 by_cases hs:∃ y,x=.str y
 ·obtain ⟨y,rfl⟩:=hs;have hx:y.length<=sizeLine:=hx;refine aO (K:=K) (b:=!(decide (1<=(y.length:Int)) && decide ((y.length:Int)<=8))) ?_ (λc H1 s1=>?_) (λc H1 s1=>?_)
  ·exact RT.as (eR (bS (bL (cX (aA h0)))) λ_=>bS (aK (jO (p:=λi j=>decide (i<=j)) (r:=λi j=>decide (i<=j)) aG (DV (aA h0) hx) λ_=>aG))) rfl
  ·refine bB (K:=K) (d:=.bl (jM (.str y))) ?_ λv H' s q=>post v H' (s1.trans s) q
   have e:jM (.str y)=false:=by show (_ && _)=false;have c':=iN c;rw [c',OL]
   rw [e];exact fM
  ·have c':=gd c
   have hy:y.cps.size<=8:=by rw [M4] at c';have:=M1 c'.2;have e:y.length=y.cps.size:=rfl;omega
   refine bB (K:=K) (d:=.bl (jM (.str y))) ?_ λv H' s q=>post v H' (s1.trans s) q
   have e:jM (.str y)=(y.cps.toList.map sgn).all id:=by show (_ && _)=_;rw [c',O5]
   rw [e];refine j7 (bs:=y.cps.toList.map sgn) (F2 (aA (s1.dat h0)) (by omega) _ (by simp) rfl (λH2 i c d s2 hc hd2=>?_));rw [MZ,MZ] at hd2;have hc':y.cps.toList[i]?=some c:=by simpa using hc
   rw [hc'] at hd2;cases hd2;refine RE.as (zQ (p:=λi j=>!decide (j.cps.toList < i.cps.toList)) (q':=λi j=>!decide (j.cps.toList < i.cps.toList)) aZ (aA (Dat.RK _)) λ_=>aZ) rfl
 ·have hs':∀ y,x≠.str y:=λy e=>hs ⟨y,e⟩;refine aO (K:=K) (b:=true) ?_ (λc H1 s1=>?_) (λc=>nomatch c)
  ·exact RT.as (eR (b:=true) (c:=true) (RT.as (bS (bL (cX (aA h0)))) (by rw [wm hs'];rfl)) λc=>nomatch c) rfl
  ·refine bB (K:=K) (d:=.bl (jM x)) ?_ λv H' s q=>post v H' (s1.trans s) q;rw [Bm hs'];exact fM
theorem EZ:∀ p ∈ TM,∃ i,p.2=.flat (.int i):=by intro p hp;simp only [TM,Na,Ny,NX] at hp;rcases hp with rfl | rfl | rfl <;> exact ⟨_,rfl⟩
noncomputable def fU:D->Bool
 | .tup (.str k::r)=>decide ((r.length:Int)+1=kl k TM 0) && (dE (r.getD 0 .Qj) 0 1 && (!decide (k="gap") || dE (r.getD 1 .Qj) 0 9999))
 | _=>false
theorem jI (k:Str) (r:List D):fU (.tup (.str k::r))=(decide ((r.length:Int)+1=kl k TM 0) && (dE (r.getD 0 .Qj) 0 1 && (!decide (k="gap") || dE (r.getD 1 .Qj) 0 9999))):=rfl
noncomputable def Ei (ds:List D) (d:D):Prop:=∃ x,ds=[x]/\d=.bl (fU x)
theorem uL (k:Str):kl k TM 0=0\/kl k TM 0=2\/(k="gap"/\kl k TM 0=3):=by
 unfold kl;by_cases h1:k="hole"
 ·subst h1;exact .inr (.inl rfl)
 by_cases h2:k="gap"
 ·subst h2;exact .inr (.inr ⟨rfl,rfl⟩)
 by_cases h3:k="slot"
 ·subst h3;exact .inr (.inl rfl)
 have e:KTD.datumAt k TM=none:=by simp [TM,KTD.datumAt,h1,h2,h3]
 rw [e];exact .inl rfl
theorem Gn {x:D} (h:fA x=false):fU x=false:=by
 unfold fA at h;unfold fU;split at h
 ·cases h
 ·rename_i hn
  first
   | rfl
   | (split
      ·rename_i k r;exact absurd rfl (hn k r)
      ·rfl)
theorem wG (T:Txt P w K mg) (JR:Ok P w base k T.IP (QF K nQ)) (HN:Ok P w base k T.HL (QF K fq)):Ok P w base (k+1) T.KU (QF K Ei):=by
 refine T.KU.f.ok Vh (λvs H Q E h=>?_) (λcdv A outer s H vs Q E hr h=>?_)
 ·obtain ⟨ds,d,hd,⟨x,rfl,rfl⟩,_⟩:=h;exact hd.length.symm
 have nd:=Vh.nd;obtain ⟨ds,d,hd,⟨x,rfl,rfl⟩,post⟩:=h;obtain ⟨v0,rfl,h0⟩:=ia hd;refine ⟨_,(aC (bE (PW.pt (gq (cR (bP (pc (D:=T.IP) JR hr (aF (pv 0) aB)) (λ_=>rfl))) (fJ (aN jN (aW aT rfl T.HW bV (aF (pv 0) aB)) (rq (bQ (v:=.ref T.Io) rfl T.Ig rfl) (aX aY (pv 0) aE) aE ⟨rfl,rfl,rfl,rfl⟩) (aU _))))) (aH (aL eH)) aM)
 (aC (bE (cR (bP (pc (D:=T.HL) HN hr (aF (aX aY (pv 0) aE) (aF aE (aF aE aB)))) (λ_=>rfl))) (aH (aL eH)) aM)
 (aH (aL (yp (dP jN (aX aY (pv 0) aE) bC (aU _)) (gO (pc (D:=T.HL) HN hr (aF (aX aY (pv 0) aE) (aF aE (aF (bQ (v:=.int 9999) rfl T.JK ⟨_,rfl⟩) aB)))))))))),?_⟩
 cases ht:fA x with
 | false =>
  refine aO (K:=K) (b:=true) ?_ (λc H1 s1=>?_) (λc=>nomatch c)
  ·exact RT.as (eR (b:=true) (c:=true) (RT.as (bS (bL (bF (aD (aA h0) aP) ⟨x,rfl,rfl⟩))) (by rw [ht];rfl)) λc=>nomatch c) rfl
  ·refine bB (K:=K) (d:=.bl (fU x)) ?_ λv H' s q=>post v H' (s1.trans s) q;rw [Gn ht];exact fM
 | true =>
  have ht':=ht;unfold fA at ht';split at ht'
  ·rename_i kd r;have el:((((D.str kd)::r).length:Nat):Int)=(r.length:Int)+1:=by rw [Nd];omega
   refine aO (K:=K) (b:=!decide ((r.length:Int)+1=kl kd TM 0)) ?_ (λc H1 s1=>?_) (λc H1 s1=>?_)
   ·have b1:=jl (K:=K) (eU (aA (σ:=start ["thing"] [v0]) (k:=0) h0)) (rD (i:=0) T.HP (a6 (k:=0) (aA (σ:=start ["thing"] [v0]) (k:=0) h0) aG rfl) aG EZ);rw [el] at b1;exact RT.as (eR (b:=false) (RT.as (bS (bL (bF (aD (aA h0) aP) ⟨_,rfl,rfl⟩))) (by rw [ht];rfl)) λ_=>aK b1) (N9 _)
   ·refine bB (K:=K) (d:=.bl (fU (.tup (.str kd::r)))) ?_ λv H' s q=>post v H' (s1.trans s) q
    have e:fU (.tup (.str kd::r))=false:=by rw [jI];rw [show decide ((r.length:Int)+1=kl kd TM 0)=false from iN c,OL]
    rw [e];exact fM
   ·have c':decide ((r.length:Int)+1=kl kd TM 0)=true:=gd c;have hl:=M1 c';have h1:=s1.dat h0
    obtain ⟨y,r',er⟩:∃ y r',r=y::r':=by
     cases r with
     | nil=>rcases uL kd with h | h | ⟨_,h⟩ <;> (rw [h] at hl;simp at hl)
     | cons y r'=>exact ⟨y,r',rfl⟩
    subst er;refine aO (K:=K) (b:=!dE y 0 1) (bS (bL (bF (R:=fq) (aD (a6 (k:=1) (aA h1) aG rfl) (aD aG (aD aG aP))) ⟨y,0,1,rfl,rfl⟩))) (λc2 H2 s2=>?_) (λc2 H2 s2=>?_)
    ·refine bB (K:=K) (d:=.bl (fU (.tup (.str kd::y::r')))) ?_ λv H' s q=>post v H' (s1.trans (s2.trans s)) q
     have e:fU (.tup (.str kd::y::r'))=false:=by rw [jI,c',O5];show (dE y 0 1 && _)=false;rw [show dE y 0 1=false from iN c2,OL]
     rw [e];exact fM
    ·refine bB (K:=K) (d:=.bl (fU (.tup (.str kd::y::r')))) ?_ λv H' s q=>post v H' (s1.trans (s2.trans s)) q;have h2:=s2.dat h1
     have e:fU (.tup (.str kd::y::r'))=(!decide (kd="gap") || dE (r'.getD 0 .Qj) 0 9999):=by rw [jI,c',O5];show (dE y 0 1 && (!decide (kd="gap") || dE (r'.getD 0 .Qj) 0 9999))=_;rw [show dE y 0 1=true from gd c2,O5]
     rw [e];refine vn (wW (a6 (k:=0) (aA h2) aG rfl) aZ) λc3=>?_;have hk:kd="gap":=by simpa using c3
     obtain ⟨z,er⟩:∃ z,r'=[z]:=by
      rcases uL kd with h | h | ⟨_,h⟩
      ·rw [h] at hl;simp at hl;omega
      ·rw [hk] at h;exact absurd h (by decide +kernel)
      ·rw [h] at hl
       match r',hl with
       | [z],_=>exact ⟨z,rfl⟩
       | [],h=>simp at h
       | _::_::_,h=>simp at h;omega
     subst er;exact bF (E:=E0) (R:=fq) (aD (a6 (k:=2) (aA h2) aG rfl) (aD aG (aD aG aP))) ⟨z,0,9999,rfl,rfl⟩
  ·cases ht'
noncomputable def kZ:D->Bool
 | .tup (.str k::_)=>decide (k ∈ (["arg","pick"]:List Str))
 | _=>false
noncomputable def Vp:Nat->D->Bool
 | 0,_=>false
 | n+1,d=>fU d || (eV d && (!kZ d && ((dQ d).map (Vp n)).all id))
noncomputable def Yq (n:Nat) (ds:List D) (d:D):Prop:=∃ x,ds=[x,.int (4 - (n:Int))]/\d=.bl (Vp n x)
noncomputable def Ej:Nat->List D->D->Prop
 | 0=>λ_ _=>False
 | n+1=>Yq n
theorem iC (T:Txt P w K mg) (Ml:Ok P w base k T.KU (QF K Ei)) (Lf:Ok P w base k T.Kd (QF K Au)) (Il:Ok P w base k T.HU (QF K ig)) (Jz:Ok P w base k T.Ia (QF K (Ej n))):Ok P w base (k+1) T.Ia (QF K (Yq n)):=by
 refine T.Ia.f.ok R5 (λvs H Q E h=>?_) (λcdv A outer s H vs Q E hr h=>?_)
 ·obtain ⟨ds,d,hd,⟨x,rfl,rfl⟩,_⟩:=h;exact hd.length.symm
 have nd:=R5.nd;obtain ⟨ds,d,hd,⟨x,rfl,rfl⟩,post⟩:=h;obtain ⟨v0,v1,rfl,h0,h1⟩:=gb hd;refine ⟨_,(aC (bE (aN rl (pv 1) (bQ (v:=.int 3) rfl T.Ib ⟨_,rfl⟩) (aU _)) (aH (aL eH)) aM)
 (aC (bE (bP (pc (D:=T.KU) Ml hr (aF (pv 0) aB)) (λ_=>rfl)) (aH (aL eH)) aM)
 (aC (bE (PW.pt (gq (cR (bP (pc (D:=T.Kd) Lf hr (aF (pv 0) aB)) (λ_=>rfl))) (fJ (aN ir (aX aY (pv 0) aE) (bR (aF bC (aF bC aB))) (by with_unfolding_all rfl))))) (aH (aL eH)) aM)
 (aH (aL (aW (iy rfl) rfl T.Ln kJ (aF (e8 (own:=["within"]) (fr:=[1]) (N':=["within","deep"]) (h6 (pc (D:=T.HU) Il hr (aF (pv 0) aB))) rfl (by show dW ["thing","deep"] (λx=>(aJ gD).names.lookup x) _ _ _ _=true;decide +kernel) rfl (λ_ _ _ _ _=>(a7 (i:=0) (by show List.Nodup [("within":Str),("deep":Str)];decide +kernel) rfl (Or.inl rfl))) (λ_ _ _ _ _=>cQ) (λ_ _ _ _ _=>(pc (D:=T.Ia) Jz hr (aF (pv 0) (aF (bK cJ (pv 1) aE) aB))))) aB))))))),?_⟩
 cases n with
 | zero =>refine aO (K:=K) (b:=true) (RT.as (aK (d9 (p:=λi j=>decide (j < i)) (aA h1) aG)) rfl) (λc H1 s1=>?_) (λc=>nomatch c);exact bB (K:=K) (d:=.bl false) fM λv H' s q=>post v H' (s1.trans s) q
 | succ n =>
  refine aO (K:=K) (b:=false) (RT.as (aK (d9 (p:=λi j=>decide (j < i)) (aA h1) aG)) (MX (by omega))) (λc=>nomatch c) (λc H1 s1=>?_);have h0:=s1.dat h0;have h1:=s1.dat h1;refine aO (K:=K) (b:=fU x) (bL (bF (aD (aA h0) aP) ⟨x,rfl,rfl⟩)) (λc H2 s2=>?_) (λc H2 s2=>?_)
  ·refine bB (K:=K) (d:=.bl true) fM λv H' s q=>post v H' (s1.trans (s2.trans s)) ?_;have e:Vp (n+1) x=true:=by unfold Vp;rw [c];rfl
   rw [e];exact q
  have h0:=s2.dat h0;have h1:=s2.dat h1
  have e1:Vp (n+1) x=(eV x && (!kZ x && ((dQ x).map (Vp n)).all id)):=by show (fU x || _)=_;rw [c,N9]
  cases hn:eV x with
  | false =>refine aO (K:=K) (b:=true) (RT.as (eR (b:=true) (c:=true) (RT.as (bS (bL (bF (aD (aA h0) aP) ⟨x,rfl,rfl⟩))) (by rw [hn];rfl)) λc=>nomatch c) rfl) (λc H3 s3=>?_) (λc=>nomatch c);refine bB (K:=K) (d:=.bl false) fM λv H' s q=>post v H' (s1.trans (s2.trans (s3.trans s))) ?_;rw [e1,hn];exact q
  | true =>
   obtain ⟨kd,r,ek⟩:=pj hn;have few:=o5 hn;have h0':Dat K H2 (.tup (.str kd::r)) v0:=by rw [<- ek];exact h0
   refine aO (K:=K) (b:=kZ x) (RT.as (eR (b:=false) (RT.as (bS (bL (bF (aD (aA h0) aP) ⟨x,rfl,rfl⟩))) (by rw [hn];rfl)) λ_=>aK (pL (ys:=["arg","pick"]) (a6 (k:=0) (aA h0') aG rfl) (bY (aD aZ (aD aZ aP))))) (by rw [ek];exact N9 _)) (λc3 H3 s3=>?_) (λc3 H3 s3=>?_)
   ·refine bB (K:=K) (d:=.bl false) fM λv H' s q=>post v H' (s1.trans (s2.trans (s3.trans s))) ?_;rw [e1,hn,c3];exact q
   ·have h1:=s3.dat h1;refine bB (K:=K) (d:=.bl (((dQ x).map (Vp n)).all id)) (j7 (pJ (cs:=dQ x) (bF (R:=ig) (aD (aA (s3.dat h0)) aP) ⟨kd,r,by rw [ek],by rw [ek]⟩) (by omega) _ (by simp) rfl (λH4 i z vz d s4 hz hi Zn=>?_))) λv H' s q=>post v H' (s1.trans (s2.trans (s3.trans s))) ?_
    ·rw [MZ,MZ,hz] at hi;cases hi;exact bF (E:=E0) (R:=Yq n) (aD (aA Zn) (aD (RE.as (dO (aA (s4.dat h1)) aG) (Nq D.int (by omega:(4:Int) - ((n+1:Nat):Int)+1=4 - (n:Int)))) aP)) ⟨z,rfl,rfl⟩
    ·rw [e1,hn,c3];exact q
noncomputable def mq (k:Str):D->Bool
 | .tup (.str h::_)=>decide (h=k)
 | _=>false
noncomputable def dZ:Nat->Str->D->List D
 | 0,_,_=>[]
 | n+1,k,d=>if mq k d=true then [d] else (dQ d).flatMap (dZ n k)
noncomputable def jz (n:Nat) (ds es:List D):Prop:=∃ x k,ds=[x,.str k]/\n<=3/\Vp n x=true/\es=dZ n k x
theorem uM (h:fU d=true):∃ k r,d=.tup (.str k::r):=by
 unfold fU at h;split at h
 ·exact ⟨_,_,rfl⟩
 ·cases h
variable {r:List D}
theorem Bl {k:Str} (h:fU (.tup (.str k::r))=true):k="hole"\/k="gap"\/k="slot":=by
 rw [jI,M4] at h;have hl:=M1 h.1;unfold kl at hl;by_cases h1:k="hole"
 ·exact .inl h1
 by_cases h2:k="gap"
 ·exact .inr (.inl h2)
 by_cases h3:k="slot"
 ·exact .inr (.inr h3)
 have e:KTD.datumAt k TM=none:=by simp [TM,KTD.datumAt,h1,h2,h3]
 rw [e] at hl;dsimp only at hl;omega
theorem p8 {k:Str} (h:k="hole"\/k="gap"\/k="slot"):KTD.inKeys k TB=false/\KTD.inKeys k TL=false:=by rcases h with rfl | rfl | rfl <;> decide +kernel
theorem zx (h:fU d=true):dQ d=[]:=by obtain ⟨k,r,rfl⟩:=uM h;exact mz (p8 (Bl h)).1
theorem wR (h:Vp n d=true):∃ k r,d=.tup (.str k::r):=by
 cases n with
 | zero=>cases h
 | succ n =>
  have h':(fU d || (eV d && (!kZ d && ((dQ d).map (Vp n)).all id)))=true:=h;rw [Bool.or_eq_true] at h';rcases h' with h' | h'
  ·exact uM h'
  ·rw [M4] at h';exact pj h'.1
theorem tH (h:Vp (n+1) d=true):(dQ d).length<=3/\∀ c ∈ dQ d,Vp n c=true:=by
 have h':(fU d || (eV d && (!kZ d && ((dQ d).map (Vp n)).all id)))=true:=h;rw [Bool.or_eq_true] at h';rcases h' with h' | h'
 ·rw [zx h'];exact ⟨by simp,λc hc=>absurd hc (by simp)⟩
 ·rw [M4,M4] at h';refine ⟨o5 h'.1,λc hc=>?_⟩;have z:=N6.mp h'.2.2 (Vp n c) (N4.mpr ⟨c,hc,rfl⟩);exact z
theorem xV {α β:Type} (f:α->List β) (m:Nat):∀ l:List α,(∀ x ∈ l,(f x).length<=m)->(l.flatMap f).length<=l.length * m
 | [],_=>by simp
 | x::l,h=>by have h1:=h x (by simp);have h2:=xV f m l λy hy=>h y (by simp [hy]);rw [List.flatMap_cons,MQ,Nd,Nat.succ_mul];omega
theorem o9 (k:Str):∀ (n:Nat) (d:D),Vp n d=true->(dZ n k d).length<=3 ^ n
 | 0,d,h=>by cases h
 | n+1,d,h=>by
  unfold dZ;split
  ·have:1<=3 ^ (n+1):=Nat.one_le_iff_ne_zero.mpr (by simp);simpa using this
  ·obtain ⟨h1,h2⟩:=tH h;have z:=xV (dZ n k) (3 ^ n) (dQ d) λc hc=>o9 k n c (h2 c hc);have z2:(dQ d).length * 3 ^ n<=3 * 3 ^ n:=Nat.mul_le_mul_right _ h1;rw [PF,Nat.mul_comm (3 ^ n) 3];omega
theorem p3 (h:n<=3):3 ^ n<=27:=by
 match n,h with
 | 0,_=>decide
 | 1,_=>decide
 | 2,_=>decide
 | 3,_=>decide
theorem uW (T:Txt P w K mg) (Il:Ok P w base k T.HU (QF K ig)) (Ke:Ok P w base k T.IT (lZ K (jz n))):Ok P w base (k+1) T.IT (lZ K (jz (n+1))):=by
 refine T.IT.f.ok UX (λvs H Q E h=>?_) (λcdv A outer s H vs Q E hr h=>?_)
 ·obtain ⟨ds,es,hd,⟨x,kk,rfl,_⟩,_⟩:=h;exact hd.length.symm
 have nd:=UX.nd;obtain ⟨ds,es,hd,⟨x,kk,rfl,hn3,hp,rfl⟩,post⟩:=h;obtain ⟨v0,v1,rfl,h0,h1⟩:=gb hd;refine ⟨_,(aC (bE (aN cA (aX aY (pv 0) aE) (pv 1) (aU _)) (aH (aL (c7 (aF (pv 0) aB)))) aM)
 (aC (bO (i:=2) nd rfl (Or.inl rfl) (c7 aB))
 (aC (h7 NP rfl (h6 (pc (D:=T.HU) Il hr (aF (pv 0) aB))) (a7 (i:=3) nd rfl (Or.inl rfl)) (aH (bT (ic NF OT Pb j4 (pv 2) (aF (pc (D:=T.IT) Ke hr (aF (pv 3) (aF (pv 1) aB))) aB)))))
 (aH (aL (pv 2)))))),?_⟩
 obtain ⟨kd,r,ek⟩:=wR hp;have h0':Dat K H (.tup (.str kd::r)) v0:=by rw [<- ek];exact h0
 have eh:mq kk x=decide (kd=kk):=by rw [ek];rfl
 obtain ⟨few,kok⟩:=tH hp;have cap:=o9 kk (n+1) x hp;have cap3:=p3 hn3;refine aO (K:=K) (b:=mq kk x) (RT.as (aK (bI (a6 (k:=0) (aA h0') aG rfl) (aA h1))) eh.symm) (λc H1 s1=>?_) (λc H1 s1=>?_)
 ·refine jr ((jk (K:=K) (es:=[x]) (aD (aA (s1.dat h0)) aP)).use λl ys H2 hl s2 hy hd2=>?_);refine post l ys H2 (s1.trans s2) hy (s1.free hl) ?_;unfold dZ;rw [MW c];exact hd2
 have em:dZ (n+1) kk x=(dQ x).flatMap (dZ n kk):=by show (if mq kk x=true then _ else _)=_;rw [MR (by rw [c];exact MY)]
 rw [em] at cap post;have h0:=s1.dat h0;have h1:=s1.dat h1;have hk1:=h1.Qy;refine fQ (K:=K) (es:=[]) (jk aP) λwl ys0 H2 hw s2 hy0 hd0=>?_;have hw0:H wl=none:=s1.free hw;refine eA (RE.use (bF (R:=ig) (d:=.tup (dQ x)) (aD (aA (K:=K) (k:=0) (s2.dat h0)) aP) ⟨kd,r,by rw [ek],by rw [ek]⟩) λv4 H4 s4 q4=>?_);obtain ⟨a,vs,ea,hq,hds⟩:=q4.Qw;subst ea;have hl:=hds.length;refine ⟨a,rfl,⟨vs,hq⟩,lB (xs:=vs) (λi σ G=>∃ (z:Option V) (ys:List V),σ=[some v0,some v1,some (.ref wl),z]/\Qh H G/\QH K G a vs/\Qf K G (dQ x) vs/\G wl=some (.lst ys)/\Qf K G (((dQ x).take i).flatMap (dZ n kk)) ys) ?_ (λi σ G _ ⟨z,ys,_,_,p,_⟩=>p) ?_ ?_⟩
 ·exact ⟨none,ys0,rfl,s1.trans (s2.trans s4),hq,hds,s4 _ _ hy0,s4.Qu hd0⟩
 ·rintro i vx σ G hi ⟨z,ys,rfl,sG,Zo,W6,V3,W7⟩;obtain ⟨dx,ex,hx⟩:=W6.T9 hi;have hpx:=kok dx (Nn ex);subst hk1;refine ⟨_,rfl,.inl ⟨rfl,_,Qp.of V3⟩,_,rfl,_,rfl,[dx,.str kk],_,(Qf.cons hx (Qf.cons (Dat.RK _) Qf.nil):Qf K G [dx,.str kk] [vx,.str kk]),⟨dx,kk,rfl,by omega,hpx,rfl⟩,λr us H5 s5 hr5 _ XY=>?_⟩;have XZ:=s5 _ _ V3;have b6:QY wl H5 (upd H5 wl (.lst (ys++us))):=QY.upd (Qh.refl H5).but;have g6:gW K H5 (upd H5 wl (.lst (ys++us))):=b6.grow XZ aI
  have et:((dQ x).take (i+1)).flatMap (dZ n kk)=((dQ x).take i).flatMap (dZ n kk)++dZ n kk dx:=by rw [NR,ex];simp
  have lt:(((dQ x).take (i+1)).flatMap (dZ n kk)).length<=27:=by
   have e2:((dQ x).take (i+1)).flatMap (dZ n kk)++((dQ x).drop (i+1)).flatMap (dZ n kk)=(dQ x).flatMap (dZ n kk):=by rw [<- List.flatMap_append,O1]
   have:=Nq List.length e2;rw [MQ] at this;omega
  have ly:=W7.length;have lu:=XY.length;rw [et,MQ] at lt;refine ⟨wl,r,ys,us,rfl,rfl,XZ,hr5,d8 (by omega),some vx,ys++us,rfl,λb o hb=>b6 b o (aQ hb hw0) (s5 _ _ (sG _ _ hb)),g6.tup _ _ (s5.VW Zo),Qf.mono g6 _ (s5.Qu W6),aI,?_⟩;rw [et];exact Qf.append (Qf.mono g6 _ (s5.Qu W7)) (Qf.mono g6 _ XY)
 ·rintro σ G ⟨z,ys,rfl,sG,Zo,W6,V3,W7⟩;refine ⟨_,rfl,post wl ys G sG V3 hw0 ?_⟩;rw [<- hl,N7] at W7;exact W7
noncomputable def Ge:D->D
 | .tup (_::y::_)=>y
 | _=>.Qj
theorem wz {k:Str} (h:fU (.tup (.str k::r))=true):∃ i r',r=.int i::r':=by
 rw [jI,M4,M4] at h;have hw:=h.2.1
 cases r with
 | nil=>cases hw
 | cons y r' =>
  have WD:dE y 0 1=true:=hw
  cases y with
  | int i=>exact ⟨i,r',rfl⟩
  | _=>cases WD
theorem jJ {k:Str} (hk:k="hole"\/k="gap"\/k="slot"):∀ (n:Nat) (x m:D),Vp n x=true->m ∈ dZ n k x->∃ i r,m=.tup (.str k::.int i::r)
 | 0,x,m,h,_=>by cases h
 | n+1,x,m,h,hm=>by
  unfold dZ at hm;split at hm
  ·rename_i hh;have e:m=x:=by simpa using hm
   subst e;obtain ⟨k',r,rfl⟩:=wR h;have ek:k'=k:=M1 hh;subst ek;have h':(fU (.tup (.str k'::r)) || (eV (.tup (.str k'::r)) && _))=true:=h;rw [Bool.or_eq_true] at h';rcases h' with h' | h'
   ·obtain ⟨i,r',rfl⟩:=wz h';exact ⟨i,r',rfl⟩
   ·rw [M4] at h';have z:=h'.1;rw [pf (p8 hk).2,(p8 hk).1,OL] at z;cases z
  ·obtain ⟨c,hc,hm'⟩:=List.mem_flatMap.mp hm;exact jJ hk n c m ((tH h).2 c hc) hm'
noncomputable def Dn (k:Str) (x:D):Bool:=QG ((dZ 3 k x).map Ge) ((List.range (dZ 3 k x).length).map λi:Nat=>D.int i)
noncomputable def ES (ds:List D) (d:D):Prop:=∃ x k,ds=[x,.str k]/\Vp 3 x=true/\(k="hole"\/k="gap"\/k="slot")/\d=.bl (Dn k x)
variable {σ:L2.St} {l:Addr} {ys:List V}
theorem nZ {K:W.Frag} {k:Nat} (hl:H l=some (.lst ys)) (e:σ[k]?=some (some (.ref l)):=by rfl):RE K (Vd (λxs H Q=>∃ p ys,xs=[.ref p]/\(Qp K H p ys\/QH K H p ys)/\Q (.int ys.length) H) (cC (fB k) eI)) σ H (.int ys.length):=λH1 s Q q =>
 ⟨.ref l,e,l,ys,rfl,.inl (Qp.of (s _ _ hl)),q _ _ (Qh.refl _) (Dat.Qm _)⟩
theorem pd {l:List D} (h:∀ d ∈ l,∃ i,d=.int i):QB l=true/\Ql l=0:=by
 induction l with
 | nil=>exact ⟨by unfold QB;rfl,by unfold Ql;rfl⟩
 | cons d l ih =>
  obtain ⟨i,rfl⟩:=h d (by simp);obtain ⟨h1,h2⟩:=ih λd hd=>h d (by simp [hd]);refine ⟨?_,?_⟩
  ·unfold QB;rw [h1];unfold Rr;rfl
  ·unfold Ql;rw [h2];unfold fD;rfl
theorem pA (T:Txt P w K mg) (Ke:Ok P w base k T.IT (lZ K (jz 3))):Ok P w base (k+1) T.JP (QF K ES):=by
 refine T.JP.f.ok Tv (λvs H Q E h=>?_) (λcdv A outer s H vs Q E hr h=>?_)
 ·obtain ⟨ds,d,hd,⟨x,kk,rfl,_⟩,_⟩:=h;exact hd.length.symm
 have nd:=Tv.nd;obtain ⟨ds,d,hd,⟨x,kk,rfl,hp,hk,rfl⟩,post⟩:=h;obtain ⟨v0,v1,rfl,h0,h1⟩:=gb hd;refine ⟨_,(aC (gP (i:=2) (own:=["mark"]) (fr:=[]) (N':=["mark"]) (fN (pc (D:=T.IT) Ke hr (aF (pv 0) (aF (pv 1) aB)))) rfl (by show dW ["pattern","kind","numbers"] (λx=>(aJ iT).names.lookup x) _ _ _ _=true;decide +kernel) rfl (λ_ _ _ _ _=>(a7 (i:=0) (by show List.Nodup [("mark":Str)];decide +kernel) rfl (Or.inl rfl))) (λ_ _ _ _ _=>cQ) (λ_ _ _ _ _=>(aX (r:=vh K) aY (pv 0) aE)) nd rfl rfl rfl)
 (aH (aL (dP (BB hr) (pv 2) (fh (qt rfl) rfl T.Li lj (aF (fh AK rfl T.La AD (aF (aW aT rfl T.HW bV (aF (pv 2) aB)) aB)) aB)) (aU _))))),?_⟩
 have cap:=o9 kk 3 x hp;refine fQ (K:=K) (es:=(dZ 3 kk x).map Ge) (DN (cs:=dZ 3 kk x) (lR (R:=jz 3) (aD (aA h0) (aD (aA h1) aP)) ⟨x,kk,rfl,by decide,hp,rfl⟩) (Nv cap (by decide)) _ (by simp) rfl (λH1 i c v d s1 hc hi hv=>?_)) λl ys H2 hl s2 hy hd2=>?_
 ·rw [MZ,hc] at hi;cases hi;obtain ⟨j,r,rfl⟩:=jJ hk 3 x c hp (Nn hc);exact a6 (k:=1) (aA hv) aG rfl
 have ll:=hd2.length;rw [tB] at ll;refine ⟨_,rfl,(tL (K:=K) (n:=ys.length) (nZ (k:=2) hy) (by rw [<- ll];exact Nv cap (by decide))).use λl2 ys2 H3 hl2 s3 hy3 hd3=>?_⟩
 have i1:∀ d ∈ (dZ 3 kk x).map Ge,∃ i,d=.int i:=λd hdm=>by obtain ⟨m,hm,rfl⟩:=N4.mp hdm;obtain ⟨j,r,rfl⟩:=jJ hk 3 x m hp hm;exact ⟨j,rfl⟩
 have i2:∀ d ∈ (List.range ys.length).map (λi:Nat=>D.int i),∃ i,d=.int i:=λd hdm=>by obtain ⟨m,hm,rfl⟩:=N4.mp hdm;exact ⟨_,rfl⟩
 refine ⟨l,l2,ys,ys2,_,_,rfl,rfl,Qp.of (s3 _ _ hy),Qp.of hy3,s3.Qu hd2,hd3,(pd i1).1,(pd i2).1,by rw [(pd i1).2];decide,?_⟩;refine post _ _ (s2.trans s3) ?_;unfold Dn;rw [ll];exact Dat.To _
noncomputable def tE (x:D):Bool:=Vp 3 x && (!mq "hole" x && ((["hole","gap","slot"]:List Str).map λk=>Dn k x).all id)
noncomputable def ET (ds:List D) (d:D):Prop:=∃ x,ds=[x]/\d=.bl (tE x)
theorem qB (T:Txt P w K mg) (Jz:Ok P w base k T.Ia (QF K (Yq 3))) (LF:Ok P w base k T.JP (QF K ES)):Ok P w base (k+1) T.Ka (QF K ET):=by
 refine T.Ka.f.ok TY (λvs H Q E h=>?_) (λcdv A outer s H vs Q E hr h=>?_)
 ·obtain ⟨ds,d,hd,⟨x,rfl,rfl⟩,_⟩:=h;exact hd.length.symm
 have nd:=TY.nd;obtain ⟨ds,d,hd,⟨x,rfl,rfl⟩,post⟩:=h;obtain ⟨v0,rfl,h0⟩:=ia hd;refine ⟨_,(aC (bE (PW.pt (gq (cR (bP (pc (D:=T.Ia) Jz hr (aF (pv 0) (aF aE aB))) (λ_=>rfl))) (fJ (aN cA (aX aY (pv 0) aE) bC (aU _))))) (aH (aL eH)) aM)
 (aH (aL (aW (iy rfl) rfl T.Ln kJ (aF (e8 (own:=["kind"]) (fr:=[0]) (N':=["kind","thing"]) (FT (bQ (v:=.ref T.Io) rfl T.Ig rfl)) rfl (by show dW ["thing"] (λx=>(aJ jn).names.lookup x) _ _ _ _=true;decide +kernel) rfl (λ_ _ _ _ _=>(a7 (i:=0) (by show List.Nodup [("kind":Str),("thing":Str)];decide +kernel) rfl (Or.inl rfl))) (λ_ _ _ _ _=>cQ) (λ_ _ _ _ _=>(pc (D:=T.JP) LF hr (aF (pv 1) (aF (pv 0) aB))))) aB))))),?_⟩
 cases hp:Vp 3 x with
 | false =>refine aO (K:=K) (b:=true) (RT.as (eR (b:=true) (c:=true) (RT.as (bS (bL (bF (R:=Yq 3) (aD (aA h0) (aD aG aP)) ⟨x,rfl,rfl⟩))) (by rw [hp];rfl)) λc=>nomatch c) rfl) (λc H3 s3=>?_) (λc=>nomatch c);refine bB (K:=K) (d:=.bl false) fM λv H' s q=>post v H' (s3.trans s) ?_;unfold tE;rw [hp];exact q
 | true =>
  obtain ⟨kd,r,ek⟩:=wR hp;have h0':Dat K H (.tup (.str kd::r)) v0:=by rw [<- ek];exact h0
  refine aO (K:=K) (b:=mq "hole" x) (RT.as (eR (b:=false) (RT.as (bS (bL (bF (R:=Yq 3) (aD (aA h0) (aD aG aP)) ⟨x,rfl,rfl⟩))) (by rw [hp];rfl)) λ_=>aK (bI (a6 (k:=0) (aA h0') aG rfl) aZ)) (by rw [ek];exact N9 _)) (λc H1 s1=>?_) (λc H1 s1=>?_)
  ·refine bB (K:=K) (d:=.bl false) fM λv H' s q=>post v H' (s1.trans s) ?_;unfold tE;rw [hp,c];exact q
  ·refine bB (K:=K) (d:=.bl (((["hole","gap","slot"]:List Str).map λk=>Dn k x).all id)) (j7 (F4 T.KJ (by decide) _ rfl rfl (λH2 i kk d s2 hk hi=>?_))) λv H' s q=>post v H' (s1.trans s) ?_
   ·rw [MZ,MZ,hk] at hi;cases hi;refine bF (E:=E0) (R:=ES) (aD (aA (s2.dat (s1.dat h0))) (aD (aA (Dat.RK kk)) aP)) ⟨x,kk,rfl,hp,?_,rfl⟩;have:=Nn hk;simpa using this
   ·unfold tE;rw [hp,c];exact q
noncomputable def rQ (k:Str) (T:List (Str × KTD.Dat)):Str:=match KTD.datumAt k T with | some (.flat (.str z))=>z | _=>""
theorem EX {k:Str} (h:KTD.inKeys k TF=true):KTD.datumAt k TF=some (.flat (.str (rQ k TF))):=by
 unfold rQ;by_cases h1:k="low"
 ·subst h1;rfl
 by_cases h2:k="high"
 ·subst h2;rfl
 by_cases h3:k="arg"
 ·subst h3;rfl
 have e:KTD.inKeys k TF=false:=by simp [TF,KTD.inKeys,h1,h2,h3]
 rw [e] at h;cases h
noncomputable def oN (p:D):D->Bool
 | .tup (.str k::r)=>decide ((r.length:Int)+1=2) && (KTD.inKeys k TF && dE (r.getD 0 .Qj) 0 (((dZ 3 (rQ k TF) p).length:Int) - 1))
 | _=>false
theorem uA (p:D) (k:Str) (r:List D):oN p (.tup (.str k::r))=(decide ((r.length:Int)+1=2) && (KTD.inKeys k TF && dE (r.getD 0 .Qj) 0 (((dZ 3 (rQ k TF) p).length:Int) - 1))):=rfl
noncomputable def Ap (ds:List D) (d:D):Prop:=∃ x p,ds=[x,p]/\Vp 3 p=true/\d=.bl (oN p x)
theorem CZ {p x:D} (h:fA x=false):oN p x=false:=by
 unfold fA at h;unfold oN;split at h
 ·cases h
 ·rename_i hn
  first
   | rfl
   | (split
      ·rename_i k r;exact absurd rfl (hn k r)
      ·rfl)
theorem qA (T:Txt P w K mg) (JR:Ok P w base k T.IP (QF K nQ)) (Ke:Ok P w base k T.IT (lZ K (jz 3))) (HN:Ok P w base k T.HL (QF K fq)):Ok P w base (k+1) T.J9 (QF K Ap):=by
 refine T.J9.f.ok TZ (λvs H Q E h=>?_) (λcdv A outer s H vs Q E hr h=>?_)
 ·obtain ⟨ds,d,hd,⟨x,p,rfl,_⟩,_⟩:=h;exact hd.length.symm
 have nd:=TZ.nd;obtain ⟨ds,d,hd,⟨x,p,rfl,hp,rfl⟩,post⟩:=h;obtain ⟨v0,v1,rfl,h0,h1⟩:=gb hd;refine ⟨_,(aC (bE (PW.pt (gq (cR (bP (pc (D:=T.IP) JR hr (aF (pv 0) aB)) (λ_=>rfl))) (gq (aN jN (aW aT rfl T.HW bV (aF (pv 0) aB)) aE (aU _)) (fJ (aN uY (aX aY (pv 0) aE) (bQ (v:=.ref T.Ji) rfl T.IA rfl) (by with_unfolding_all rfl)))))) (aH (aL eH)) aM)
 (aH (aL (pc (D:=T.HL) HN hr (aF (aX aY (pv 0) aE) (aF aE (aF (bK kP (aW aT rfl T.HW bV (aF (pc (D:=T.IT) Ke hr (aF (pv 1) (aF (aX Dg (bQ (v:=.ref T.Ji) rfl T.IA rfl) (aX aY (pv 0) aE)) aB))) aB)) aE) aB))))))),?_⟩
 cases ht:fA x with
 | false =>
  refine aO (K:=K) (b:=true) ?_ (λc H1 s1=>?_) (λc=>nomatch c)
  ·exact RT.as (eR (b:=true) (c:=true) (RT.as (bS (bL (bF (aD (aA h0) aP) ⟨x,rfl,rfl⟩))) (by rw [ht];rfl)) λc=>nomatch c) rfl
  ·refine bB (K:=K) (d:=.bl (oN p x)) ?_ λv H' s q=>post v H' (s1.trans s) q;rw [CZ ht];exact fM
 | true =>
  have ht':=ht;unfold fA at ht';split at ht'
  ·rename_i kd r;have el:((((D.str kd)::r).length:Nat):Int)=(r.length:Int)+1:=by rw [Nd];omega
   have b1:=jl (K:=K) (eU (aA (σ:=start ["thing","pattern"] [v0,v1]) (k:=0) h0)) (aG (i:=2));rw [el] at b1;refine aO (K:=K) (b:=!decide ((r.length:Int)+1=2) || !KTD.inKeys kd TF) (RT.as (eR (b:=false) (RT.as (bS (bL (bF (aD (aA h0) aP) ⟨_,rfl,rfl⟩))) (by rw [ht];rfl)) λ_=>eR (aK b1) λ_=>aK (vk (a6 (k:=0) (aA h0) aG rfl) T.IB)) (N9 _)) (λc H1 s1=>?_) (λc H1 s1=>?_)
   ·refine bB (K:=K) (d:=.bl false) fM λv H' s q=>post v H' (s1.trans s) ?_
    have e:oN p (.tup (.str kd::r))=false:=by
     rw [uA]
     cases h2:decide ((r.length:Int)+1=2) with
     | false=>rfl
     | true =>rw [h2] at c;have h3:KTD.inKeys kd TF=false:=iN c;rw [h3];rfl
    rw [e];exact q
   ·rw [OJ] at c;have c1:=gd c.1;have c2:=gd c.2
    obtain ⟨y,er⟩:∃ y,r=[y]:=by
     match r,M1 c1 with
     | [],h=>simp at h
     | [y],_=>exact ⟨y,rfl⟩
     | _::_::_,h=>simp at h;omega
    subst er;have h0:=s1.dat h0;have h1:=s1.dat h1;refine bB (K:=K) (d:=.bl (dE y 0 (((dZ 3 (rQ kd TF) p).length:Int) - 1))) (bF (R:=fq) (aD (a6 (k:=1) (aA h0) aG rfl) (aD aG (aD (kS (DU (lR (R:=jz 3) (aD (aA h1) (aD (zR (a6 (k:=0) (aA h0) aG rfl) T.IB (by rfl) (EX c2)) aP)) ⟨p,rQ kd TF,rfl,by decide,hp,rfl⟩)) aG) aP))) ⟨y,0,_,rfl,rfl⟩) λv H' s q=>post v H' (s1.trans s) ?_;rw [uA,c1,c2];exact q
  ·cases ht'
noncomputable def uo (p x:D):Bool:=dE x 0 99 || oN p x
noncomputable def Am (ds:List D) (d:D):Prop:=∃ x p,ds=[x,p]/\Vp 3 p=true/\d=.bl (uo p x)
theorem wD (T:Txt P w K mg) (HN:Ok P w base k T.HL (QF K fq)) (LI:Ok P w base k T.J9 (QF K Ap)):Ok P w base (k+1) T.KR (QF K Am):=by
 refine T.KR.f.ok Vi (λvs H Q E h=>?_) (λcdv A outer s H vs Q E hr h=>?_)
 ·obtain ⟨ds,d,hd,⟨x,p,rfl,_⟩,_⟩:=h;exact hd.length.symm
 have nd:=Vi.nd;obtain ⟨ds,d,hd,⟨x,p,rfl,hp,rfl⟩,post⟩:=h;obtain ⟨v0,v1,rfl,h0,h1⟩:=gb hd;refine ⟨_,(aH (aL (yp (pc (D:=T.HL) HN hr (aF (pv 0) (aF aE (aF (bQ (v:=.int 99) rfl T.IM ⟨_,rfl⟩) aB)))) (gO (pc (D:=T.J9) LI hr (aF (pv 0) (aF (pv 1) aB))))))),?_⟩;exact bB (K:=K) (d:=.bl (uo p x)) (vn (bF (R:=fq) (aD (aA h0) (aD aG (aD aG aP))) ⟨x,0,99,rfl,rfl⟩) λ_=>bF (R:=Ap) (aD (aA h0) (aD (aA h1) aP)) ⟨x,p,rfl,hp,rfl⟩) post
noncomputable def rb (c:Int):Option (Str × Nat):=match Yo[c.toNat]? with
 | some (.tup [.str nm,.int m])=>some (nm,m.toNat)
 | _=>none
variable {c:Int} {nm:Str}
theorem Fp {m:Nat} (h:rb c=some (nm,m)):Yo[c.toNat]?=some (.tup [.str nm,.int (m:Int)])/\c.toNat < 17:=by
 unfold rb at h
 have hlt:c.toNat < 17:=by
  by_cases hc:c.toNat < 17
  ·exact hc
  ·rw [OD (by show (17:Nat)<=c.toNat;omega)] at h;cases h
 refine ⟨?_,hlt⟩
 have all:∀ i:Nat,i < 17->∀ nm m,(match Yo[i]? with | some (.tup [.str nm,.int m])=>some (nm,m.toNat) | _=>none)=some (nm,m)->Yo[i]?=some (.tup [.str nm,.int (m:Int)]):=by
  intro i hi nm m e
  match i,hi with
  | 0,_=>cases e;rfl
  | 1,_=>cases e;rfl
  | 2,_=>cases e;rfl
  | 3,_=>cases e;rfl
  | 4,_=>cases e;rfl
  | 5,_=>cases e;rfl
  | 6,_=>cases e;rfl
  | 7,_=>cases e;rfl
  | 8,_=>cases e;rfl
  | 9,_=>cases e;rfl
  | 10,_=>cases e;rfl
  | 11,_=>cases e;rfl
  | 12,_=>cases e;rfl
  | 13,_=>cases e;rfl
  | 14,_=>cases e;rfl
  | 15,_=>cases e;rfl
  | 16,_=>cases e;rfl
  | n+17,h=>omega
 exact all c.toNat hlt nm m h
noncomputable def i9 (cells:List D) (p m:Nat):List D:=(cells.drop (p+1)).take m
noncomputable def Aq (ds:List D) (d:D):Prop:=∃ (cells:List D) (p:Nat) (c:Int) (nm:Str) (m:Nat),ds=[.tup cells,.int p]/\cells[p]?=some (.int c)/\0<=c/\rb c=some (nm,m)/\(i9 cells p m).length=m/\d=.tup [.str nm,.tup (i9 cells p m)]
theorem lI (T:Txt P w K mg)  : Ok P w base (k+1) T.HM (QF K Aq):=by
 refine T.HM.f.ok QO (λvs H Q E h=>?_) (λcdv A outer s H vs Q E hr h=>?_)
 ·obtain ⟨ds,d,hd,⟨cells,p,c,nm,m,rfl,_⟩,_⟩:=h;exact hd.length.symm
 have nd:=QO.nd;obtain ⟨ds,d,hd,⟨cells,p,c,nm,m,rfl,hc,c0,hi,hb,rfl⟩,post⟩:=h;obtain ⟨v0,v1,rfl,h0,h1⟩:=gb hd;refine ⟨_,(aC (bE (PW.pt (gq (aN rj (pv 1) (aW aT rfl T.HW bV (aF (pv 0) aB)) (aU _)) (fJ (aN rj (aX aY (pv 0) (pv 1)) (aW aT rfl T.HW bV (aF (bQ (v:=.ref T.Im) rfl T.HX rfl) aB)) (aU _))))) (aH c8) aM)
 (aC (fH (aX aY (bQ (v:=.ref T.Im) rfl T.HX rfl) (aX aY (pv 0) (pv 1))) (f6 rfl (bJ (a7 (i:=2) nd rfl (Or.inl rfl)) (bJ (a7 (i:=3) nd rfl (Or.inl rfl)) eE))))
 (aC (bO (i:=4) nd rfl (Or.inl rfl) (fh fu rfl T.JC f9 (aF (i0 pX (pv 0) (iH (bK cJ (pv 1) aE)) (iH (bK cJ (bK cJ (pv 1) aE) (pv 3)))) aB)))
 (aC (bE (aN ni (aW aT rfl T.HW bV (aF (pv 4) aB)) (pv 3) (aU _)) (aH c8) aM)
 (aH (aL (bR (aF (pv 2) (aF (pv 4) aB))))))))),?_⟩
 obtain ⟨hi,h17⟩:=Fp hi;have hp:p < cells.length:=(Nu.mp hc).1;have ec:c=((c.toNat:Nat):Int):=by omega
 refine aO (K:=K) (b:=false) (RT.as (eR (b:=false) (c:=false) (RT.as (aK (d9 (p:=λi j=>decide (j<=i)) (aA h1) (eU (aA h0)))) (MX (by omega))) λ_=>RT.as (aK (d9 (p:=λi j=>decide (j<=i)) (a6 (k:=p) (aA h0) (aA h1) hc) (eU (jP T.IZ)))) (MX (by show ¬ (17:Int)<=c;omega))) rfl) (λc=>nomatch c) (λ_ H1 s1=>?_);have h0:=s1.dat h0;have h1:=s1.dat h1;refine iL (K:=K) (d:=.str nm) (e:=.int m) (a6 (k:=c.toNat) (jP T.IZ) (RE.as (a6 (k:=p) (aA h0) (aA h1) hc) (Nq D.int ec)) hi) λv2 v3 H2 s2 h2 h3=>?_;have h0:=s2.dat h0;have h1:=s2.dat h1;have el:(p:Int)+1=((p+1:Nat):Int):=by omega
 have eh:(p:Int)+1+(m:Int)=((p+1+m:Nat):Int):=by omega
 refine dR (K:=K) (d:=.tup (i9 cells p m)) (RE.as (zV (F5 (lo:=p+1) (hi:=p+1+m) (aA h0) (RE.as (dO (aA h1) aG) (Nq D.int el)) (RE.as (dO (dO (aA h1) aG) (aA h3)) (Nq D.int eh)) (by omega) (by omega))) (by unfold i9;rw [show p+1+m - (p+1)=m by omega])) λv4 H3 s3 h4=>?_;refine aO (K:=K) (b:=false) (RT.as (aK (d9 (p:=λi j=>decide (i < j)) (eU (aA h4)) (aA (s3.dat h3)))) (MX (by rw [hb];omega))) (λc=>nomatch c) (λ_ H4 s4=>?_);exact bB (K:=K) (d:=.tup [.str nm,.tup (i9 cells p m)]) (bY (aD (aA (s4.dat (s3.dat h2))) (aD (aA (s4.dat h4)) aP))) λv H' s q=>post v H' (s1.trans (s2.trans (s3.trans (s4.trans s)))) q
noncomputable abbrev SS:List Str:=["put","far","load","add","sub","mul","less","more","twice","about"]
noncomputable def GM (rec:Nat->Option Bool) (pat:D) (cells:List D) (p:Nat):D->Option Bool
 | .int c=>(match rb c with
  | some (nm,m)=>if (i9 cells p m).length=m then (if (!decide (nm ∈ SS) || !((i9 cells p m).map (uo pat)).all id)=true then some false else rec (p+1+m)) else none
  | none=>none)
 | _=>none
noncomputable def ow:Nat->D->List D->Nat->Option Bool
 | 0,_,_,_=>none
 | n+1,pat,cells,p=>match cells[p]? with
  | none=>some true
  | some x=>if dE x 0 99=false then some false else GM (ow n pat cells) pat cells p x
noncomputable def EM (ds:List D) (d:D):Prop:=∃ (cells:List D) (pat:D) (b:Bool),ds=[.tup cells,pat]/\Vp 3 pat=true/\cells.length<=100/\ow (cells.length+1) pat cells 0=some b/\d=.bl b
noncomputable def HD (σ:L2.St) (_:Hp):Nat:=match σ[2]? with
 | some (some (V.int p))=>(200 - p).toNat
 | _=>0
variable {cells:List D} {p:Nat}
theorem E2 {m:Nat}:(i9 cells p m).length<=cells.length:=by unfold i9;rw [NI,OM];omega
theorem CL {m:Nat} (h:(i9 cells p m).length=m) (hp:p < cells.length):p+1+m<=cells.length:=by unfold i9 at h;rw [NI,OM] at h;omega
theorem kj (T:Txt P w K mg) (HN:Ok P w base k T.HL (QF K fq)) (IC:Ok P w base k T.HM (QF K Aq)) (Mi:Ok P w base k T.KR (QF K Am)):Ok P w base (k+1) T.IS (QF K EM):=by
 refine T.IS.f.ok R1 (λvs H Q E h=>?_) (λcdv A outer s H vs Q E hr h=>?_)
 ·obtain ⟨ds,d,hd,⟨cells,pat,bb,rfl,_⟩,_⟩:=h;exact hd.length.symm
 have nd:=R1.nd;obtain ⟨ds,d,hd,⟨cells,pat,bb,rfl,hp,hl,hr2,rfl⟩,post⟩:=h;obtain ⟨v0,v1,rfl,h0,h1⟩:=gb hd;refine ⟨_,(aC (bO (i:=2) nd rfl (Or.inl rfl) aE)
 (aC (lO NP (aN ni (pv 2) (aW aT rfl T.HW bV (aF (pv 0) aB)) (aU _)) (aC (bE (cR (bP (pc (D:=T.HL) HN hr (aF (aX aY (pv 0) (pv 2)) (aF aE (aF (bQ (v:=.int 99) rfl T.IM ⟨_,rfl⟩) aB)))) (λ_=>rfl))) (aH (aL eH)) aM)
 (aC (yv (aH (fH (pc (D:=T.HM) IC hr (aF (pv 0) (aF (pv 2) aB))) (f6 rfl (bJ (a7 (i:=3) nd rfl (Or.inl rfl)) (bJ (a7 (i:=4) nd rfl (Or.inl rfl)) eE))))))
 (aC (bE (PW.pt (gq (aN lN (pv 3) (bQ (v:=.ref T.KB) rfl T.JL rfl) (by with_unfolding_all rfl)) (fJ (cR (bP (aW (iy rfl) rfl T.Ln kJ (aF (e8 (own:=["cell"]) (fr:=[1]) (N':=["cell","pattern"]) (h6 (pv 4)) rfl (by show dW ["cells","pattern","place","name","behind"] (λx=>(aJ gj).names.lookup x) _ _ _ _=true;decide +kernel) rfl (λ_ _ _ _ _=>(a7 (i:=0) (by show List.Nodup [("cell":Str),("pattern":Str)];decide +kernel) rfl (Or.inl rfl))) (λ_ _ _ _ _=>cQ) (λ_ _ _ _ _=>(pc (D:=T.KR) Mi hr (aF (pv 0) (aF (pv 1) aB))))) aB)) (λ_=>rfl)))))) (aH (aL eH)) aM)
 (aH (tI (i:=2) nd rfl (Or.inl rfl) (bK cJ aE (aW aT rfl T.HW bV (aF (pv 4) aB))) sJ))))))
 (aH (aL eH)))),?_⟩
 refine fw (B9 (eA (qj (λσ G=>∃ (p n:Nat) (z3 z4:Option V),σ=[some v0,some v1,some (.int p),z3,z4]/\Qh H G/\ow n pat cells p=some bb/\p<=cells.length) HD ?_ ?_ ?_)))
 ·exact ⟨0,_,none,none,rfl,Qh.refl _,hr2,NW _⟩
 ·rintro σ G ⟨p,n,z3,z4,rfl,sG,ha,hpl⟩;have g0:=sG.dat h0;have g1:=sG.dat h1;refine RT.use (b:=decide ((p:Int) < (cells.length:Int))) (aK (d9 (p:=λi j=>decide (i < j)) (aA (K:=K) (Dat.Qm (p:Int))) (eU (aA g0)))) λG1 s1=>?_
  obtain ⟨n,rfl⟩:∃ m,n=m+1:=by
   cases n with
   | zero=>cases ha
   | succ m=>exact ⟨m,rfl⟩
  by_cases hlt:p < cells.length
  ·rw [M5 (by omega:(p:Int) < (cells.length:Int))];refine mx ?_;have hx:cells[p]?=some cells[p]:=MT hlt;generalize cells[p]=x at hx
   have ha':(if dE x 0 99=false then some false else GM (ow n pat cells) pat cells p x)=some bb:=by have e:ow (n+1) pat cells p=some bb:=ha;unfold ow at e;rw [hx] at e;exact e
   have g0:=s1.dat g0;have g1:=s1.dat g1;refine aO (K:=K) (b:=!dE x 0 99) (bS (bL (bF (R:=fq) (aD (a6 (k:=p) (aA g0) (aA (Dat.Qm (p:Int))) hx) (aD aG (aD aG aP))) ⟨x,0,99,rfl,rfl⟩))) (λcB G2 s2=>?_) (λcB G2 s2=>?_)
   ·rw [MW (iN cB)] at ha';cases ha';exact post _ _ (sG.trans (s1.trans s2)) (Dat.To _)
   ·have cw:=gd cB;rw [MR (by rw [cw];exact λz=>nomatch z)] at ha'
    cases x with
    | int c =>
     have ha':(match rb c with
      | some (nm,m)=>if (i9 cells p m).length=m then (if (!decide (nm ∈ SS) || !((i9 cells p m).map (uo pat)).all id)=true then some false else ow n pat cells (p+1+m)) else none
      | none=>none)=some bb:=ha'
     have c0:0<=c:=by have z:(decide (0<=c) && decide (c<=99))=true:=cw;rw [M4] at z;exact M1 z.1
     cases hin:rb c with
     | none=>rw [hin] at ha';cases ha'
     | some nm =>
      obtain ⟨nm,m⟩:=nm;rw [hin] at ha';dsimp only at ha';by_cases hb:(i9 cells p m).length=m
      ·rw [MW hb] at ha';have g0:=s2.dat g0;have g1:=s2.dat g1;refine iL (K:=K) (d:=.str nm) (e:=.tup (i9 cells p m)) (bF (R:=Aq) (aD (aA g0) (aD (aA (Dat.Qm (p:Int))) aP)) ⟨cells,p,c,nm,m,rfl,hx,c0,hin,hb,rfl⟩) λv3 v4 G3 s3 g3 g4=>?_;have g1:=s3.dat g1;have lb:=E2 (cells:=cells) (p:=p) (m:=m);refine aO (K:=K) (b:=!decide (nm ∈ SS) || !((i9 cells p m).map (uo pat)).all id) (eR (aK (zU (ys:=SS) (aA g3) (jP T.Lw))) λ_=>bS (bL (j7 (pJ (aA g4) (by omega) _ (by simp) rfl (λG4 i z vz d s4 hz hi Zn=>?_))))) (λc2 G4 s4=>?_) (λc2 G4 s4=>?_)
       ·rw [MZ,MZ,hz] at hi;cases hi;exact bF (E:=E0) (R:=Am) (aD (aA Zn) (aD (aA (s4.dat g1)) aP)) ⟨z,pat,rfl,hp,rfl⟩
       ·rw [MW c2] at ha';cases ha';exact post _ _ (sG.trans (s1.trans (s2.trans (s3.trans s4)))) (Dat.To _)
       ·rw [MR (by rw [c2];exact MY)] at ha';refine ⟨_,rfl,RE.use (dO (K:=K) aG (eU (aA (s4.dat g4)))) λv5 G5 s5 q5=>?_⟩;refine ⟨p,1+((i9 cells p m).length:Int),rfl,q5.Qk,?_⟩;have ep:(p:Int)+(1+((i9 cells p m).length:Int))=((p+1+m:Nat):Int):=by rw [hb];omega
        have he:=CL hb hlt;refine ⟨⟨p+1+m,n,some v3,some v4,by rw [<- ep];rfl,sG.trans (s1.trans (s2.trans (s3.trans (s4.trans s5)))),ha',he⟩,?_⟩;show (200 - ((p:Int)+(1+((i9 cells p m).length:Int)))).toNat < (200 - (p:Int)).toNat;omega
      ·rw [MR hb] at ha';cases ha'
    | _=>cases ha'
  ·rw [MX (by omega:¬ (p:Int) < (cells.length:Int))];refine mw ?_
   have e:ow (n+1) pat cells p=some true:=by unfold ow;rw [OD (by omega)]
   rw [e] at ha;cases ha;exact post _ _ (sG.trans s1) (Dat.To _)
 ·intro σ G Q1 Q2 hQ hc;obtain ⟨v,e,v',e',p,ys,e2,hq,i,j,e3,e4,b,e5,q⟩:=hc;exact ⟨v,e,v',e',p,ys,e2,hq,i,j,e3,e4,b,e5,hQ _ _ q⟩
noncomputable def wj:D->Bool
 | .str x=>decide (x="pick")
 | _=>false
noncomputable def csD (pat:D):D->Option Bool
 | .tup l=>if (decide (1<=(l.length:Int)) && decide ((l.length:Int)<=12))=false then some false else ow (l.length+1) pat l 0
 | _=>some false
noncomputable def pF:D->Option Bool
 | .tup [nm,pat,cs]=>if (!jM nm || (wj nm || !tE pat))=true then some false else csD pat cs
 | _=>some false
noncomputable def HF:D->Prop
 | .tup (nm::_)=>Et nm
 | _=>True
noncomputable def vQ (ds:List D) (d:D):Prop:=∃ (x:D) (b:Bool),ds=[x]/\HF x/\pF x=some b/\d=.bl b
variable {te:TE} {us:TS} {En:i5} {j:Nat} {e:D}
theorem yF {K:W.Frag} {l:Nat} {f:D} (h:RE K te σ H (.tup [d,e,f])) (q:∀ v w x H',Qh H H'->Dat K H' d v->Dat K H' e w->Dat K H' f x->us En (((σ.set i (some v)).set j (some w)).set l (some x)) H') :
  l8 (pZ te (zj K 3 (jG (d6 i) (jG (d6 j) (jG (d6 l) AZ))))) us En σ H :=
 h.use λx H1 s1 q1=>by obtain ⟨a,vs,e1,hq,hd⟩:=q1.Qw;obtain ⟨v,w,x,e2,hv,hw,hx⟩:=oI hd;subst e1 e2;exact ⟨a,_,rfl,hq,rfl,v,_,rfl,w,_,rfl,x,_,rfl,rfl,q v w x H1 s1 hv hw hx⟩
theorem o4 {x:D} (h:∀ y,x≠.tup y):nI x "tuple"=false:=by
 cases x with
 | tup y=>exact absurd rfl (h y)
 | _=>rfl
theorem BM {x:D} (h:∀ a b c,x≠.tup [a,b,c]):pF x=some false:=by
 unfold pF;split
 ·rename_i a b c;exact absurd rfl (h a b c)
 ·rfl
theorem FJ {x:D} (h:tE x=true):Vp 3 x=true:=by unfold tE at h;rw [M4] at h;exact h.1
theorem Bn {x:D} (h:jM x=true):∃ y,x=.str y:=by
 cases x with
 | str y=>exact ⟨y,rfl⟩
 | _=>cases h
theorem uU (T:Txt P w K mg) (Mm:Ok P w base k T.KW (QF K As)) (LJ:Ok P w base k T.Ka (QF K ET)) (K2:Ok P w base k T.IS (QF K EM)):Ok P w base (k+1) T.KD (QF K vQ):=by
 refine T.KD.f.ok UY (λvs H Q E h=>?_) (λcdv A outer s H vs Q E hr h=>?_)
 ·obtain ⟨ds,d,hd,⟨x,bb,rfl,_⟩,_⟩:=h;exact hd.length.symm
 have nd:=UY.nd;obtain ⟨ds,d,hd,⟨x,bb,rfl,hok,hpc,rfl⟩,post⟩:=h;obtain ⟨v0,rfl,h0⟩:=ia hd;refine ⟨_,(aC (bE (PW.pt (gq (cR (bP (aW (fC lD) rfl T.HV cO (cZ (pv 0) (cZ (gA (v:=.ty "tuple") rfl T.JC f9 rfl) aB))) (λ_=>rfl))) (fJ (aN jN (aW aT rfl T.HW bV (aF (pv 0) aB)) aE (aU _))))) (aH (aL eH)) aM)
 (aC (fH (pv 0) (f6 rfl (bJ (a7 (i:=1) nd rfl (Or.inl rfl)) (bJ (a7 (i:=2) nd rfl (Or.inl rfl)) (bJ (a7 (i:=3) nd rfl (Or.inl rfl)) eE)))))
 (aC (bE (PW.pt (gq (cR (bP (pc (D:=T.KW) Mm hr (aF (pv 1) aB)) (λ_=>rfl))) (gq (aN cA (pv 1) bC (aU _)) (fJ (cR (bP (pc (D:=T.Ka) LJ hr (aF (pv 2) aB)) (λ_=>rfl))))))) (aH (aL eH)) aM)
 (aC (bE (PW.pt (gq (cR (bP (aW (fC lD) rfl T.HV cO (cZ (pv 3) (cZ (gA (v:=.ty "tuple") rfl T.JC f9 rfl) aB))) (λ_=>rfl))) (fJ (cR (lP ib ib aE (aW aT rfl T.HW bV (aF (pv 3) aB)) (bQ (v:=.int 12) rfl T.Ic ⟨_,rfl⟩)))))) (aH (aL eH)) aM)
 (aH (aL (pc (D:=T.IS) K2 hr (aF (pv 3) (aF (pv 2) aB))))))))),?_⟩
 by_cases h3:∃ a b c,x=.tup [a,b,c]
 ·obtain ⟨nm,pat,cs,rfl⟩:=h3;refine aO (K:=K) (b:=false) (RT.as (eR (b:=false) (c:=false) (RT.as (bS (bL (cX (aA h0)))) rfl) λ_=>RT.as (aK (jl (eU (aA h0)) aG)) rfl) rfl) (λc=>nomatch c) (λ_ H1 s1=>?_);refine yF (K:=K) (d:=nm) (e:=pat) (f:=cs) (aA (s1.dat h0)) λv1 v2 v3 H2 s2 h1 h2 h3=>?_;have Vz:(if (!jM nm || (wj nm || !tE pat))=true then some false else csD pat cs)=some bb:=hpc;refine aO (K:=K) (b:=!jM nm || (wj nm || !tE pat)) (eR (bS (bL (bF (R:=As) (aD (aA h1) aP) ⟨nm,rfl,hok,rfl⟩))) λc=>eR ?_ λ_=>bS (bL (bF (R:=ET) (aD (aA h2) aP) ⟨pat,rfl,rfl⟩))) (λc H3 s3=>?_) (λc H3 s3=>?_)
  ·obtain ⟨y,rfl⟩:=Bn (gd c);exact aK (bI (aA h1) aZ)
  ·rw [MW c] at Vz;cases Vz;exact bB (K:=K) (d:=.bl false) fM λv H' s q=>post v H' (s1.trans (s2.trans (s3.trans s))) q
  ·rw [MR (by rw [c];exact MY)] at Vz;rw [OJ,OJ] at c;have hp:=FJ (gd c.2.2);have h2:=s3.dat h2;have h3:=s3.dat h3;have QV:=s1.trans (s2.trans s3);by_cases hc:∃ l,cs=.tup l
   ·obtain ⟨l,rfl⟩:=hc;have Vz:(if (decide (1<=(l.length:Int)) && decide ((l.length:Int)<=12))=false then some false else ow (l.length+1) pat l 0)=some bb:=Vz;refine aO (K:=K) (b:=!(decide (1<=(l.length:Int)) && decide ((l.length:Int)<=12))) (RT.as (eR (b:=false) (RT.as (bS (bL (cX (aA h3)))) rfl) λ_=>bS (aK (jO (p:=λi j=>decide (i<=j)) (r:=λi j=>decide (i<=j)) aG (eU (aA h3)) λ_=>aG))) (N9 _)) (λc4 H4 s4=>?_) (λc4 H4 s4=>?_)
    ·rw [MW (iN c4)] at Vz;cases Vz;exact bB (K:=K) (d:=.bl false) fM λv H' s q=>post v H' (QV.trans (s4.trans s)) q
    ·have c5:=gd c4;rw [MR (by rw [c5];exact λz=>nomatch z)] at Vz;rw [M4] at c5;have l12:=M1 c5.2;exact bB (K:=K) (d:=.bl bb) (bF (R:=EM) (aD (aA (s4.dat h3)) (aD (aA (s4.dat h2)) aP)) ⟨l,pat,bb,rfl,hp,by omega,Vz,rfl⟩) λv H' s q=>post v H' (QV.trans (s4.trans s)) q
   ·have hc':∀ y,cs≠.tup y:=λy e=>hc ⟨y,e⟩
    have e:bb=false:=by
     cases cs with
     | tup y=>exact absurd rfl (hc' y)
     | _=>cases Vz;rfl
    refine aO (K:=K) (b:=true) (RT.as (eR (b:=true) (c:=true) (RT.as (bS (bL (cX (aA h3)))) (by rw [o4 hc'];rfl)) λc=>nomatch c) rfl) (λc4 H4 s4=>?_) (λc=>nomatch c);rw [e] at post;exact bB (K:=K) (d:=.bl false) fM λv H' s q=>post v H' (QV.trans (s4.trans s)) q
 ·have h3':∀ a b c,x≠.tup [a,b,c]:=λa b c e=>h3 ⟨a,b,c,e⟩;rw [BM h3'] at hpc;cases hpc;refine aO (K:=K) (b:=true) ?_ (λc H1 s1=>?_) (λc=>nomatch c)
  ·by_cases ht:∃ l,x=.tup l
   ·obtain ⟨l,rfl⟩:=ht;refine RT.as (eR (b:=false) (c:=true) (RT.as (bS (bL (cX (aA h0)))) rfl) λ_=>RT.as (aK (jl (eU (aA h0)) aG)) ?_) rfl
    have:¬ (l.length:Int)=3:=λe=>by
     match l,e with
     | [a,b,c],_=>exact h3' a b c rfl
     | [],h=>simp at h
     | [_],h=>simp at h
     | [_,_],h=>simp at h
     | _::_::_::_::_,h=>simp at h;omega
    rw [MX this];rfl
   ·have ht':∀ y,x≠.tup y:=λy e=>ht ⟨y,e⟩;exact RT.as (eR (b:=true) (c:=true) (RT.as (bS (bL (cX (aA h0)))) (by rw [o4 ht'];rfl)) λc=>nomatch c) rfl
  ·exact bB (K:=K) (d:=.bl false) fM λv H' s q=>post v H' (s1.trans s) q
variable {Up:List V} {E:XK} {tA:TA} {Q:VK}
theorem kQ {sp:Sp} (h:tA σ H λvs H1=>sp (vs++Up) H1 Q E):jV sp Up E tA σ H Q:=h
theorem f7 {Q:List V->Hp->Prop} (h:te σ H λx H1=>tA σ H1 λxs H2=>Q (x::xs) H2):cC te tA σ H Q:=h
inductive Pa where
 | hole (i:Int)
 | gap (i m:Int)
 | slot (i:Int)
 | num (n:Int)
 | two (o:Str) (a b:Pa)
noncomputable def U6:Pa->D
 | .hole i=>.tup [.str "hole",.int i]
 | .gap i m=>.tup [.str "gap",.int i,.int m]
 | .slot i=>.tup [.str "slot",.int i]
 | .num n=>.tup [.str "num",.int n]
 | .two o a b=>.tup [.str o,U6 a,U6 b]
noncomputable abbrev Xl (o:Str):Prop:=o="add"\/o="sub"\/o="mul"\/o="less"
noncomputable def wB:Pa->Prop
 | .num n=>0<=n/\n<=9999
 | .two o a b=>Xl o/\wB a/\wB b
 | _=>True
noncomputable def eG:Pa->Nat
 | .two _ a b=>max (eG a) (eG b)+1
 | _=>1
theorem mn (p:Pa):1<=eG p:=by cases p <;> simp [eG]
noncomputable abbrev Sx:Type:=List Tr × List Int × List Int
noncomputable def E9 (f g:Sx):Sx:=(f.1++g.1,f.2.1++g.2.1,f.2.2++g.2.2)
noncomputable def cG:Pa->Tr->Option Sx
 | .hole _,t=>some ([t],[],[])
 | .gap _ m,.num n=>if n<=m then some ([],[n],[]) else none
 | .gap _ _,_=>none
 | .slot _,.arg k=>some ([],[],[k])
 | .slot _,_=>none
 | .num n,.num m=>if m=n then some ([],[],[]) else none
 | .num _,_=>none
 | .two o a b,.two o' x y=>if o'=o then (match cG a x,cG b y with
  | some f,some g=>some (E9 f g)
  | _,_=>none) else none
 | .two _ _ _,_=>none
noncomputable def Hx:Pa->Bool
 | .hole _=>true
 | .gap _ _=>true
 | .slot _=>true
 | _=>false
theorem A7 (t:Tr) (ht:RI t):∃ kd r,toD t=.tup (.str kd::r)/\(kd="num"↔∃ n,t=.num n)/\(kd="arg"↔∃ n,t=.arg n):=by
 cases t with
 | num n=>exact ⟨_,_,rfl,⟨λ_=>⟨n,rfl⟩,λ_=>rfl⟩,⟨λe=>absurd e (by decide +kernel),λ⟨m,e⟩=>nomatch e⟩⟩
 | arg n=>exact ⟨_,_,rfl,⟨λe=>absurd e (by decide +kernel),λ⟨m,e⟩=>nomatch e⟩,⟨λ_=>⟨n,rfl⟩,λ_=>rfl⟩⟩
 | two o a b =>
  have h:o="add"\/o="sub"\/o="mul"\/o="less":=ht.1;refine ⟨_,_,rfl,⟨λe=>?_,λ⟨m,e⟩=>nomatch e⟩,⟨λe=>?_,λ⟨m,e⟩=>nomatch e⟩⟩
  ·subst e;exact absurd h (by decide +kernel)
  ·subst e;exact absurd h (by decide +kernel)
 | pick a b c=>exact ⟨_,_,rfl,⟨λe=>absurd e (by decide +kernel),λ⟨m,e⟩=>nomatch e⟩,⟨λe=>absurd e (by decide +kernel),λ⟨m,e⟩=>nomatch e⟩⟩
noncomputable def kW (ds:List D) (d:D):Prop:=∃ p t,ds=[U6 p,toD t]/\Hx p=true/\RI t/\d=.bl (cG p t).isSome
theorem uF {i m:Int} (h:∀ n,t≠.num n):cG (.gap i m) t=none:=by
 cases t with
 | num n=>exact absurd rfl (h n)
 | _=>rfl
theorem rO {i:Int} (h:∀ n,t≠.arg n):cG (.slot i) t=none:=by
 cases t with
 | arg n=>exact absurd rfl (h n)
 | _=>rfl
theorem mJ (T:Txt P w K mg)  : Ok P w base (k+1) T.Jm (QF K kW):=by
 refine T.Jm.f.ok SD (λvs H Q E h=>?_) (λcdv A outer s H vs Q E hr h=>?_)
 ·obtain ⟨ds,d,hd,⟨p,t,rfl,_⟩,_⟩:=h;exact hd.length.symm
 have nd:=SD.nd;obtain ⟨ds,d,hd,⟨p,t,rfl,hm,ht,rfl⟩,post⟩:=h;obtain ⟨v0,v1,rfl,h0,h1⟩:=gb hd;refine ⟨_,(aC (bE (aN cA (aX aY (pv 0) aE) bC (aU _)) (aH (aL (hZ (dP cA (aX aY (pv 1) aE) bC (aU _)) (gO (dP ib (aX aY (pv 1) aE) (aX aY (pv 0) aE) (aU _)))))) aM)
 (aH (aL (yp (dP cA (aX aY (pv 0) aE) bC (aU _)) (gO (dP cA (aX aY (pv 1) aE) bC (aU _))))))),?_⟩
 obtain ⟨kd,r,ek,hnum,harg⟩:=A7 t ht;have Wr:Dat K H (.tup (.str kd::r)) v1:=by rw [<- ek];exact h1
 cases p with
 | hole i =>have h0:Dat K H (.tup [.str "hole",.int i]) v0:=h0;refine aO (K:=K) (b:=false) (RT.as (aK (bI (a6 (k:=0) (aA h0) aG rfl) aZ)) (MX (by decide +kernel))) (λc=>nomatch c) (λ_ H1 s1=>?_);exact bB (K:=K) (d:=.bl true) (RE.as (vn (b:=true) (c:=true) (RE.as (bI (a6 (k:=0) (aA (s1.dat h0)) aG rfl) aZ) (Nq D.bl (M5 rfl))) λc=>nomatch c) rfl) λv H' s q=>post v H' (s1.trans s) q
 | gap i m =>
  have h0:Dat K H (.tup [.str "gap",.int i,.int m]) v0:=h0;refine aO (K:=K) (b:=true) (RT.as (aK (bI (a6 (k:=0) (aA h0) aG rfl) aZ)) (M5 rfl)) (λ_ H1 s1=>?_) (λc=>nomatch c);by_cases hn:∃ n,t=.num n
  ·obtain ⟨n,rfl⟩:=hn;have h1:Dat K H (.tup [.str "num",.int n]) v1:=h1;refine bB (K:=K) (d:=.bl (decide (n<=m))) (RE.as (eF (b:=true) (RE.as (bI (a6 (k:=0) (aA (s1.dat h1)) aG rfl) aZ) (Nq D.bl (M5 rfl))) λ_=>d9 (p:=λi j=>decide (i<=j)) (a6 (k:=1) (aA (s1.dat h1)) aG rfl) (a6 (k:=2) (aA (s1.dat h0)) aG rfl)) rfl) λv H' s q=>post v H' (s1.trans s) ?_
   have e:(cG (.gap i m) (.num n)).isSome=decide (n<=m):=by
    show (if n<=m then some _ else none).isSome=_;by_cases z:n<=m
    ·rw [MW z,M5 z];rfl
    ·rw [MR z,MX z];rfl
   rw [e];exact q
  ·refine bB (K:=K) (d:=.bl false) (RE.as (eF (b:=false) (c:=true) (RE.as (bI (a6 (k:=0) (aA (s1.dat Wr)) aG rfl) aZ) (Nq D.bl (MX (λe=>hn (hnum.mp e))))) λc=>nomatch c) rfl) λv H' s q=>post v H' (s1.trans s) ?_;rw [uF λn e=>hn ⟨n,e⟩];exact q
 | slot i =>
  have h0:Dat K H (.tup [.str "slot",.int i]) v0:=h0;refine aO (K:=K) (b:=false) (RT.as (aK (bI (a6 (k:=0) (aA h0) aG rfl) aZ)) (MX (by decide +kernel))) (λc=>nomatch c) (λ_ H1 s1=>?_);refine bB (K:=K) (d:=.bl (decide (kd="arg"))) (RE.as (vn (b:=false) (RE.as (bI (a6 (k:=0) (aA (s1.dat h0)) aG rfl) aZ) (Nq D.bl (MX (by decide +kernel)))) λ_=>bI (a6 (k:=0) (aA (s1.dat Wr)) aG rfl) aZ) (Nq D.bl (N9 _))) λv H' s q=>post v H' (s1.trans s) ?_;by_cases ha:∃ n,t=.arg n
  ·rw [M5 (harg.mpr ha)] at q;obtain ⟨n,rfl⟩:=ha;exact q
  ·rw [MX (λe=>ha (harg.mp e))] at q;rw [rO λn e=>ha ⟨n,e⟩];exact q
 | num n=>cases hm
 | two o a b=>cases hm
noncomputable def kE (K:W.Frag) (o:Addr->Addr->Addr->HO) (n:Nat):Sp:=λvs H Q _=>∃ (p:Pa) (t:Tr) (v0 v1:V) (f l0 l1 l2:Addr) (a b c:List V),vs=[v0,v1,.ref f]/\wB p/\RI t/\aS t<=8/\eG p<=n/\n<=3/\Dat K H (U6 p) v0/\Dat K H (toD t) v1 /\
 H f=some (o l0 l1 l2)/\f≠l0/\f≠l1/\f≠l2/\Vy l0 l1 l2 H a b c/\a.length+2 ^ n<=100/\b.length+2 ^ n<=100/\c.length+2 ^ n<=100 /\
 ∀ (H':Hp) (a' b' c':List V),Ua l0 l1 l2 H H'->Vy l0 l1 l2 H' (a++a') (b++b') (c++c')->a'.length<=2 ^ n->b'.length<=2 ^ n->c'.length<=2 ^ n ->
  (∀ fd:Sx,cG p t=some fd->Qf K H' (fd.1.map toD) a'/\Qf K H' (fd.2.1.map D.int) b'/\Qf K H' (fd.2.2.map D.int) c')->Q (.bl (cG p t).isSome) H'
noncomputable def oD (l0 l1 l2:Addr):HO:=.dK [(Sum.inr "hole",.ref l0),(Sum.inr "gap",.ref l1),(Sum.inr "slot",.ref l2)]
theorem yj (l0 l1 l2:Addr):kU ([(Sum.inr "hole",V.ref l0),(Sum.inr "gap",.ref l1),(Sum.inr "slot",.ref l2)]:List (Key × V)) (Sum.inr "hole")=some (.ref l0):=rfl
theorem Bx (l0 l1 l2:Addr):kU ([(Sum.inr "hole",V.ref l0),(Sum.inr "gap",.ref l1),(Sum.inr "slot",.ref l2)]:List (Key × V)) (Sum.inr "gap")=some (.ref l1):=rfl
theorem yk (l0 l1 l2:Addr):kU ([(Sum.inr "hole",V.ref l0),(Sum.inr "gap",.ref l1),(Sum.inr "slot",.ref l2)]:List (Key × V)) (Sum.inr "slot")=some (.ref l2):=rfl
theorem A4 {f:Addr} {kvs:List (Key × V)} {x:Str} {v:V} (h:H f=some (.dK kvs)) (e:kU kvs (Sum.inr x)=some v):VS H f (.str x) (some v):=by have g:=VS.k (k:=Sum.inr x) h;rw [e] at g;exact g
theorem p7 {k:Str} (h:k="hole"\/k="gap"\/k="slot"):KTD.inKeys k TM=true:=by rcases h with rfl | rfl | rfl <;> decide +kernel
variable {o:Str}
theorem CJ (h:Xl o):KTD.inKeys o TM=false/\¬ o="num":=by rcases h with rfl | rfl | rfl | rfl <;> decide +kernel
theorem BO (n:Nat):1<=2 ^ n:=Nat.one_le_iff_ne_zero.mpr (by simp)
theorem mN {α:Type} {x y:List α} (h1:x.length<=2 ^ n) (h2:y.length<=2 ^ n):(x++y).length<=2 ^ (n+1):=by rw [MQ,PF];omega
variable {y:Tr}
theorem eP {o':Str} {a b:Pa} {fd:Sx} (h:cG (.two o a b) (.two o' x y)=some fd):o'=o/\∃ f g,cG a x=some f/\cG b y=some g/\fd=E9 f g:=by
 unfold cG at h;by_cases e:o'=o
 ·rw [MW e] at h
  cases h1:cG a x with
  | none=>rw [h1] at h;cases h
  | some f =>
   cases h2:cG b y with
   | none=>rw [h1,h2] at h;cases h
   | some g =>rw [h1,h2] at h;cases h;exact ⟨e,f,g,rfl,rfl,rfl⟩
 ·rw [MR e] at h;cases h
theorem iG {a b:Pa} (h:cG a x=none):cG (.two o a b) (.two o x y)=none:=by unfold cG;rw [MW rfl,h]
theorem oR {a b:Pa} {f:Sx} (h:cG a x=some f):(cG (.two o a b) (.two o x y)).isSome=(cG b y).isSome:=by show (if o=o then _ else none:Option Sx).isSome=_;rw [MW rfl,h];cases cG b y <;> rfl
variable {kd:Str}
theorem uD {a b:Pa} (hp:Xl o) (ek:toD t=.tup (.str kd::r)) (h:¬ kd=o):cG (.two o a b) t=none:=by
 cases t with
 | two o' x y =>unfold cG;rw [MR];intro e;apply h;have z:toD (.two o' x y)=.tup [.str o',toD x,toD y]:=rfl;rw [z] at ek;injection ek with ek;injection ek with ek _;injection ek with ek;rw [<- ek,e]
 | _=>rfl
theorem uG (ho:Xl o) (ek:toD t=.tup (.str kd::r)) (h:kd=o):∃ x y,t=.two o x y:=by
 subst h
 cases t with
 | two o' x y =>have z:toD (.two o' x y)=.tup [.str o',toD x,toD y]:=rfl;rw [z] at ek;injection ek with ek;injection ek with ek _;injection ek with ek;subst ek;exact ⟨x,y,rfl⟩
 | num n =>have z:toD (.num n)=.tup [.str "num",.int n]:=rfl;rw [z] at ek;injection ek with ek;injection ek with ek _;injection ek with ek;subst ek;exact absurd ho (by decide +kernel)
 | arg n =>have z:toD (.arg n)=.tup [.str "arg",.int n]:=rfl;rw [z] at ek;injection ek with ek;injection ek with ek _;injection ek with ek;subst ek;exact absurd ho (by decide +kernel)
 | pick x y u =>have z:toD (.pick x y u)=.tup [.str "pick",toD x,toD y,toD u]:=rfl;rw [z] at ek;injection ek with ek;injection ek with ek _;injection ek with ek;subst ek;exact absurd ho (by decide +kernel)
theorem yi {o:Addr->Addr->Addr->HO} (vs:List V) (H:Hp) (Q:VK) (E:XK):¬ kE K o 0 vs H Q E:=λ⟨p,_,_,_,_,_,_,_,_,_,_,_,_,_,_,h,_⟩=>by have:=mn p;omega
theorem wK (T:Txt P w K mg) (Lo:Ok P w base k T.Jm (QF K kW)) (KN:Ok P w base k T.Jw (kE K oD n)):Ok P w base (k+1) T.Jw (kE K oD (n+1)):=by
 refine T.Jw.f.ok Vj (λvs H Q E h=>?_) (λcdv A outer s H vs Q E hr h=>?_)
 ·obtain ⟨p,t,v0,v1,f,l0,l1,l2,a,b,c,rfl,_⟩:=h;rfl
 have nd:=Vj.nd;obtain ⟨p,t,v0,v1,f,l0,l1,l2,a,b,c,rfl,UH,Sy,U4,hn,hn3,h0,h1,hf,f0,f1,f2,UL,la,lb,lc,post⟩:=h;refine ⟨_,(aC (bO (i:=3) nd rfl (Or.inl rfl) (aX aY (pv 0) aE))
 (aC (bE (aN lK (pv 3) (bQ (v:=.ref T.Io) rfl T.Ig rfl) (by with_unfolding_all rfl)) (aC (bE (cR (bP (pc (D:=T.Jm) Lo hr (aF (pv 0) (aF (pv 1) aB))) (λ_=>rfl))) (aH (aL eH)) aM)
 (aC (bT (ic NF NT NV eJ (nV (yb hr) (pv 2) (pv 3) (λ_ _=>rfl)) (aF (g7 (aN cA (pv 3) bC (aU _)) (pv 1) (aX aY (pv 1) aE)) aB)))
 (aH (aL eH)))) aM)
 (aC (bE (aN jN (aX aY (pv 1) aE) (pv 3) (aU _)) (aH (aL eH)) aM)
 (aC (bE (aN cA (pv 3) bC (aU _)) (aH (aL (dP cA (aX aY (pv 1) aE) (aX aY (pv 0) aE) (aU _)))) aM)
 (aH (aL (hZ (pc (D:=T.Jw) KN hr (aF (aX aY (pv 0) aE) (aF (aX aY (pv 1) aE) (aF (pv 2) aB)))) (gO (pc (D:=T.Jw) KN hr (aF (aX aY (pv 0) aE) (aF (aX aY (pv 1) aE) (aF (pv 2) aB)))))))))))),?_⟩
 obtain ⟨kd,r,ek,hnum,harg⟩:=A7 t Sy;have hf':∀ {G:Hp},Ua l0 l1 l2 H G->G f=some (oD l0 l1 l2):=λbb=>bb _ _ f0 f1 f2 hf;have p1:=BO (n+1);have p2:2 ^ (n+1)=2 * 2 ^ n:=by rw [PF,Nat.mul_comm]
 cases p with
 | hole i =>have h0:Dat K H (.tup [.str "hole",.int i]) v0:=h0;refine dR (K:=K) (d:=.str "hole") (a6 (k:=0) (aA h0) aG rfl) λv3 H1 s1 q3=>?_;have ev:=q3.Qy;subst ev;refine aO (K:=K) (b:=true) (RT.as (aK (g8 (aA q3) T.HP)) (p7 (.inl rfl))) (λ_ H2 s2=>?_) (λc=>nomatch c);have s12:=s1.trans s2;refine aO (K:=K) (b:=!true) (bS (bL (bF (R:=kW) (d:=.bl true) (aD (aA (s12.dat h0)) (aD (aA (s12.dat h1)) aP)) ⟨.hole i,t,rfl,rfl,Sy,rfl⟩))) (λc=>nomatch c) (λ_ H3 s3=>?_);have QV:=s12.trans s3;refine eA ⟨_,rfl,_,rfl,f,.ref l0,rfl,A4 (QV _ _ hf) (yj l0 l1 l2),.inl ⟨rfl,_,Qp.of (QV _ _ UL.h0)⟩,?_⟩;refine RE.use (K:=K) (d:=toD t) (kx (b:=true) (RT.as (aK (K:=K) (bI (aA (Dat.RK "hole")) aZ)) (M5 rfl)) (λ_=>aA (QV.dat h1)) (λc=>nomatch c)) λy H4 s4 q4=>?_;have RJ:=QV.trans s4;have S7:=UL.same RJ;refine ⟨l0,a,y,rfl,rfl,S7.h0,dH (by omega),?_⟩;obtain ⟨t5,b5⟩:=S7.p0 (v:=y);refine post _ [y] [] [] (RJ.Sz.trans b5) t5 (by simpa using p1) (by simp) (by simp) λfd e=>?_;cases e;exact ⟨Qf.cons (Dat.mono (b5.grow S7 t5) _ q4) Qf.nil,Qf.nil,Qf.nil⟩
 | gap i m =>
  have h0:Dat K H (.tup [.str "gap",.int i,.int m]) v0:=h0;refine dR (K:=K) (d:=.str "gap") (a6 (k:=0) (aA h0) aG rfl) λv3 H1 s1 q3=>?_;have ev:=q3.Qy;subst ev;refine aO (K:=K) (b:=true) (RT.as (aK (g8 (aA q3) T.HP)) (p7 (.inr (.inl rfl)))) (λ_ H2 s2=>?_) (λc=>nomatch c);have s12:=s1.trans s2;refine aO (K:=K) (b:=!(cG (.gap i m) t).isSome) (bS (bL (bF (R:=kW) (aD (aA (s12.dat h0)) (aD (aA (s12.dat h1)) aP)) ⟨.gap i m,t,rfl,rfl,Sy,rfl⟩))) (λcN H3 s3=>?_) (λcS H3 s3=>?_)
  ·have QV:=s12.trans s3;have e:(cG (.gap i m) t).isSome=false:=iN cN;refine bB (K:=K) (d:=.bl false) fM λv H' s qq=>?_;rw [qq.Tp,<- e];have RJ:=QV.trans s;exact post _ [] [] [] RJ.Sz (UL.same RJ).nil (by simp) (by simp) (by simp) λfd z=>by rw [z] at e;cases e
  ·have QV:=s12.trans s3
   obtain ⟨nn,rfl⟩:∃ nn,t=.num nn:=by
    have cS':=gd cS
    cases t with
    | num nn=>exact ⟨nn,rfl⟩
    | _=>cases cS'
   have h1:Dat K H (.tup [.str "num",.int nn]) v1:=h1;refine eA ⟨_,rfl,_,rfl,f,.ref l1,rfl,A4 (QV _ _ hf) (Bx l0 l1 l2),.inl ⟨rfl,_,Qp.of (QV _ _ UL.h1)⟩,?_⟩;refine RE.use (K:=K) (d:=.int nn) (kx (b:=false) (RT.as (aK (K:=K) (bI (aA (Dat.RK "gap")) aZ)) (MX (by decide +kernel))) (λc=>nomatch c) (λ_=>a6 (k:=1) (aA (QV.dat h1)) aG rfl)) λy H4 s4 q4=>?_;have RJ:=QV.trans s4;have S7:=UL.same RJ;refine ⟨l1,b,y,rfl,rfl,S7.h1,dH (by omega),?_⟩;obtain ⟨t5,b5⟩:=S7.p1 (v:=y);have e:=gd cS;show Q (.bl true) _;rw [<- e];refine post _ [] [y] [] (RJ.Sz.trans b5) t5 (by simp) (by simpa using p1) (by simp) λfd z=>?_;have z':(if nn<=m then some ([],[nn],[]) else none:Option Sx)=some fd:=z;by_cases hm:nn<=m
   ·rw [MW hm] at z';cases z';exact ⟨Qf.nil,Qf.cons (Dat.mono (b5.grow S7 t5) _ q4) Qf.nil,Qf.nil⟩
   ·rw [MR hm] at z';cases z'
 | slot i =>
  have h0:Dat K H (.tup [.str "slot",.int i]) v0:=h0;refine dR (K:=K) (d:=.str "slot") (a6 (k:=0) (aA h0) aG rfl) λv3 H1 s1 q3=>?_;have ev:=q3.Qy;subst ev;refine aO (K:=K) (b:=true) (RT.as (aK (g8 (aA q3) T.HP)) (p7 (.inr (.inr rfl)))) (λ_ H2 s2=>?_) (λc=>nomatch c);have s12:=s1.trans s2;refine aO (K:=K) (b:=!(cG (.slot i) t).isSome) (bS (bL (bF (R:=kW) (aD (aA (s12.dat h0)) (aD (aA (s12.dat h1)) aP)) ⟨.slot i,t,rfl,rfl,Sy,rfl⟩))) (λcN H3 s3=>?_) (λcS H3 s3=>?_)
  ·have QV:=s12.trans s3;have e:(cG (.slot i) t).isSome=false:=iN cN;refine bB (K:=K) (d:=.bl false) fM λv H' s qq=>?_;rw [qq.Tp,<- e];have RJ:=QV.trans s;exact post _ [] [] [] RJ.Sz (UL.same RJ).nil (by simp) (by simp) (by simp) λfd z=>by rw [z] at e;cases e
  ·have QV:=s12.trans s3
   obtain ⟨nn,rfl⟩:∃ nn,t=.arg nn:=by
    have cS':=gd cS
    cases t with
    | arg nn=>exact ⟨nn,rfl⟩
    | _=>cases cS'
   have h1:Dat K H (.tup [.str "arg",.int nn]) v1:=h1;refine eA ⟨_,rfl,_,rfl,f,.ref l2,rfl,A4 (QV _ _ hf) (yk l0 l1 l2),.inl ⟨rfl,_,Qp.of (QV _ _ UL.h2)⟩,?_⟩;refine RE.use (K:=K) (d:=.int nn) (kx (b:=false) (RT.as (aK (K:=K) (bI (aA (Dat.RK "slot")) aZ)) (MX (by decide +kernel))) (λc=>nomatch c) (λ_=>a6 (k:=1) (aA (QV.dat h1)) aG rfl)) λy H4 s4 q4=>?_;have RJ:=QV.trans s4;have S7:=UL.same RJ;refine ⟨l2,c,y,rfl,rfl,S7.h2,dH (by omega),?_⟩;obtain ⟨t5,b5⟩:=S7.p2 (v:=y);have e:=gd cS;show Q (.bl true) _;rw [<- e];refine post _ [] [] [y] (RJ.Sz.trans b5) t5 (by simp) (by simp) (by simpa using p1) λfd z=>?_;cases z;exact ⟨Qf.nil,Qf.nil,Qf.cons (Dat.mono (b5.grow S7 t5) _ q4) Qf.nil⟩
 | num m =>
  have h0:Dat K H (.tup [.str "num",.int m]) v0:=h0;have Wr:Dat K H (.tup (.str kd::r)) v1:=by rw [<- ek];exact h1
  refine dR (K:=K) (d:=.str "num") (a6 (k:=0) (aA h0) aG rfl) λv3 H1 s1 q3=>?_;refine aO (K:=K) (b:=false) (RT.as (aK (g8 (aA q3) T.HP)) (by decide +kernel)) (λc=>nomatch c) (λ_ H2 s2=>?_);have s12:=s1.trans s2;refine aO (K:=K) (b:=!decide (kd="num")) (aK (wW (a6 (k:=0) (aA (s12.dat Wr)) aG rfl) (aA (s2.dat q3)))) (λcN H3 s3=>?_) (λcS H3 s3=>?_)
  ·have QV:=s12.trans s3;have hne:¬ kd="num":=Ng (iN cN)
   have e:cG (.num m) t=none:=by
    cases t with
    | num n=>exact absurd (hnum.mpr ⟨n,rfl⟩) hne
    | _=>rfl
   refine bB (K:=K) (d:=.bl false) fM λv H' s qq=>?_;rw [qq.Tp];have RJ:=QV.trans s;have pz:=post _ [] [] [] RJ.Sz (UL.same RJ).nil (by simp) (by simp) (by simp) λfd z=>by rw [e] at z;cases z
   rw [e] at pz;exact pz
  ·have QV:=s12.trans s3;obtain ⟨nn,rfl⟩:=hnum.mp (M1 (gd cS));have h1:Dat K H (.tup [.str "num",.int nn]) v1:=h1;refine aO (K:=K) (b:=true) (RT.as (aK (bI (aA ((s2.trans s3).dat q3)) aZ)) (M5 rfl)) (λ_ H4 s4=>?_) (λc=>nomatch c);have RJ:=QV.trans s4;refine bB (K:=K) (d:=.bl (decide (nn=m))) (iR (a6 (k:=1) (aA (RJ.dat h1)) aG rfl) (a6 (k:=1) (aA (RJ.dat h0)) aG rfl)) λv H' s qq=>?_;rw [qq.Tp];have Wv:=RJ.trans s
   have pz:=post _ [] [] [] Wv.Sz (UL.same Wv).nil (by simp) (by simp) (by simp) λfd z=>by
    have z':(if nn=m then some ([],[],[]) else none:Option Sx)=some fd:=z;by_cases hm:nn=m
    ·rw [MW hm] at z';cases z';exact ⟨Qf.nil,Qf.nil,Qf.nil⟩
    ·rw [MR hm] at z';cases z'
   have e:(cG (.num m) (.num nn)).isSome=decide (nn=m):=by
    show (if nn=m then some _ else none:Option Sx).isSome=_;by_cases hm:nn=m
    ·rw [MW hm,M5 hm];rfl
    ·rw [MR hm,MX hm];rfl
   rw [e] at pz;exact pz
 | two o pa pb =>
  have h0:Dat K H (.tup [.str o,U6 pa,U6 pb]) v0:=h0;have Wr:Dat K H (.tup (.str kd::r)) v1:=by rw [<- ek];exact h1
  obtain ⟨b1,b2⟩:=CJ UH.1;refine dR (K:=K) (d:=.str o) (a6 (k:=0) (aA h0) aG rfl) λv3 H1 s1 q3=>?_;refine aO (K:=K) (b:=false) (RT.as (aK (g8 (aA q3) T.HP)) b1) (λc=>nomatch c) (λ_ H2 s2=>?_);have s12:=s1.trans s2;refine aO (K:=K) (b:=!decide (kd=o)) (aK (wW (a6 (k:=0) (aA (s12.dat Wr)) aG rfl) (aA (s2.dat q3)))) (λcN H3 s3=>?_) (λcS H3 s3=>?_)
  ·have QV:=s12.trans s3;have e:=uD (a:=pa) (b:=pb) UH.1 ek (Ng (iN cN));refine bB (K:=K) (d:=.bl false) fM λv H' s qq=>?_;rw [qq.Tp];have RJ:=QV.trans s;have pz:=post _ [] [] [] RJ.Sz (UL.same RJ).nil (by simp) (by simp) (by simp) λfd z=>by rw [e] at z;cases z
   rw [e] at pz;exact pz
  ·have QV:=s12.trans s3;obtain ⟨x,y,rfl⟩:=uG UH.1 ek (M1 (gd cS));have h1:Dat K H (.tup [.str o,toD x,toD y]) v1:=h1;refine aO (K:=K) (b:=false) (RT.as (aK (bI (aA ((s2.trans s3).dat q3)) aZ)) (MX b2)) (λc=>nomatch c) (λ_ H4 s4=>?_);have RJ:=QV.trans s4;have dpa:eG pa<=n:=by simp only [eG] at hn;omega
   have dpb:eG pb<=n:=by simp only [eG] at hn;omega
   have dpx:aS x<=8:=by simp only [aS] at U4;omega
   have dpy:aS y<=8:=by simp only [aS] at U4;omega
   refine RE.use (K:=K) (d:=U6 pa) (a6 (k:=1) (aA (RJ.dat h0)) aG rfl) λw0 H5 s5 q5=>?_;refine RE.use (K:=K) (d:=toD x) (a6 (k:=1) (aA ((RJ.trans s5).dat h1)) aG rfl) λw1 H6 s6 q6=>?_;have VO:=RJ.trans (s5.trans s6);have W8:=UL.same VO;refine ⟨_,rfl,pa,x,w0,w1,f,l0,l1,l2,a,b,c,rfl,UH.2.1,Sy.2.1,dpx,dpa,by omega,s6.dat q5,q6,VO _ _ hf,f0,f1,f2,W8,by omega,by omega,by omega,λH7 a1 Yr c1 Zp Wb ka kb kc d7=>?_⟩;refine ⟨_,rfl,?_⟩
   have n8:2 ^ n<=8:=by
    have:n<=3:=by omega
    match n,this with
    | 0,_=>decide
    | 1,_=>decide
    | 2,_=>decide
    | 3,_=>decide
   have Zq:gW K H6 H7:=Zp.grow W8 Wb;have Wc:Ua l0 l1 l2 H H7:=VO.Sz.trans Zp
   cases WG:cG pa x with
   | none =>
    refine mw ?_;have pz:=post H7 a1 Yr c1 Wc Wb (Nv ka (NZ (by decide) (by omega))) (Nv kb (NZ (by decide) (by omega))) (Nv kc (NZ (by decide) (by omega))) λfd z=>by rw [iG WG] at z;cases z
    rw [iG WG] at pz;exact pz
   | some fa =>
    refine mx ?_;obtain ⟨da,db,dc⟩:=d7 fa WG;refine kQ (f7 (RE.use (K:=K) (d:=U6 pb) (a6 (k:=2) (aA (Dat.mono Zq _ (VO.dat h0))) aG rfl) λw2 H8 s8 q8=>?_));refine f7 (RE.use (K:=K) (d:=toD y) (a6 (k:=2) (aA (s8.dat (Dat.mono Zq _ (VO.dat h1)))) aG rfl) λw3 H9 s9 q9=>?_);have WH:=s8.trans s9;have W9:=Wb.same WH;refine ⟨_,rfl,pb,y,w2,w3,f,l0,l1,l2,a++a1,b++Yr,c++c1,rfl,UH.2.2,Sy.2.2,dpy,dpb,by omega,s9.dat q8,q9,WH _ _ (hf' Wc),f0,f1,f2,W9,by rw [MQ];omega,by rw [MQ];omega,by rw [MQ];omega,λH10 a2 b2' c2 Xa Vq ma mb mc d10=>?_⟩;have g:=Xa.grow (K:=K) W9 Vq;rw [NC,NC,NC] at Vq
    have pz:=post H10 (a1++a2) (Yr++b2') (c1++c2) (Wc.trans (WH.Sz.trans Xa)) Vq (mN ka ma) (mN kb mb) (mN kc mc) λfd z=>by
     obtain ⟨_,f',g',e1,e2,e3⟩:=eP z;rw [WG] at e1;cases e1;obtain ⟨da2,db2,dc2⟩:=d10 g' e2;subst e3;refine ⟨?_,?_,?_⟩
     ·show Qf K H10 ((fa.1++g'.1).map toD) _;rw [Nl];exact Qf.append (Qf.mono g _ (WH.Qu da)) da2
     ·show Qf K H10 ((fa.2.1++g'.2.1).map D.int) _;rw [Nl];exact Qf.append (Qf.mono g _ (WH.Qu db)) db2
     ·show Qf K H10 ((fa.2.2++g'.2.2).map D.int) _;rw [Nl];exact Qf.append (Qf.mono g _ (WH.Qu dc)) dc2
    rw [oR WG] at pz;exact pz
noncomputable def Zr:Option Sx->D
 | none=>.Qj
 | some f=>.tup [.tup (f.1.map toD),.tup (f.2.1.map D.int),.tup (f.2.2.map D.int)]
noncomputable def oi (ds:List D) (d:D):Prop:=∃ nm p cs t,ds=[.tup [nm,U6 p,cs],toD t]/\wB p/\RI t/\aS t<=8/\eG p<=3/\d=Zr (cG p t)
theorem Fz (x y z:V):mC [] ([(Sum.inr (Str.ofString "hole"),x),(Sum.inr (Str.ofString "gap"),y),(Sum.inr (Str.ofString "slot"),z)]:List (Key × V))=[(Sum.inr (Str.ofString "hole"),x),(Sum.inr (Str.ofString "gap"),y),(Sum.inr (Str.ofString "slot"),z)]:=rfl
theorem GY {K:W.Frag} {ts:TS} (h:te σ H λx H'=>∃ k,vR K x H' k/\if (!k)=true then ts { En with nx:=us En } σ H' else us En σ H'):l8 (Eb (Gk (λσ H Q=>te σ H λx H'=>∃ k,vR K x H' k/\Q k H')) ts yL) us En σ H:=h
theorem uT (T:Txt P w K mg) (KN:Ok P w base k T.Jw (kE K oD 3)):Ok P w base (k+1) T.JM (QF K oi):=by
 refine T.JM.f.ok U0 (λvs H Q E h=>?_) (λcdv A outer s H vs Q E hr h=>?_)
 ·obtain ⟨ds,d,hd,⟨nm,p,cs,t,rfl,_⟩,_⟩:=h;exact hd.length.symm
 have nd:=U0.nd;obtain ⟨ds,d,hd,⟨nm,p,cs,t,rfl,UH,Sy,U4,dpp,rfl⟩,post⟩:=h;obtain ⟨v0,v1,rfl,h0,h1⟩:=gb hd;refine' ⟨_,?Xb,?Zs⟩
 case' Xb=>refine' aC ?a ?b
 case' a=>refine' bO (i:=2) ?c ?d ?e ?f
 case c=>exact nd
 case d=>exact rfl
 case e=>exact Or.inl rfl
 case' f=>refine' Dw ?g ?h ?i ?j ?k
 case' g=>refine' pH ?l ?m ?n
 case l=>exact bC
 case m=>exact (c7 aB)
 case' n=>refine' pH ?o ?p ?q
 case o=>exact bC
 case p=>exact (c7 aB)
 case' q=>refine' pH ?r ?s ?t
 case r=>exact bC
 case s=>exact (c7 aB)
 case t=>exact DF
 case h=>exact rfl
 case i=>exact rfl
 case j=>simp
 case k=>decide
 case' b=>refine' aC ?u ?v
 case' u=>refine' bE ?w ?x ?y
 case w=>exact (cR (bP (pc (D:=T.Jw) KN hr (aF (aX aY (pv 0) aE) (aF (pv 1) (aF (pv 2) aB)))) (λ_=>rfl)))
 case' x=>refine' aH ?z
 case z=>exact (aL iQ)
 case y=>exact aM
 case' v=>refine' aH ?aa
 case aa=>exact (aL (bR (aF (fh fu rfl T.JC f9 (aF (nV (yb hr) (pv 2) bC (λ_ _=>rfl)) aB)) (aF (fh fu rfl T.JC f9 (aF (nV (yb hr) (pv 2) bC (λ_ _=>rfl)) aB)) (aF (fh fu rfl T.JC f9 (aF (nV (yb hr) (pv 2) bC (λ_ _=>rfl)) aB)) aB)))))
 refine fw (λf hf=>⟨d8 (by decide),λl0 Vx=>⟨d8 (by decide),λl1 hl1=>⟨d8 (by decide),λl2 hl2=>⟨?_,[(Sum.inr "hole",.ref l0),(Sum.inr "gap",.ref l1),(Sum.inr "slot",.ref l2)],rfl,by simp,?_⟩⟩⟩⟩)
 ·rw [aR (aQ (by rw [aR (aQ (by rw [aR (aQ aI Vx)];exact aI) hl1),aR (aQ aI Vx)];exact aI) hl2),aR (aQ (by rw [aR (aQ aI Vx)];exact aI) hl1),aR (aQ aI Vx)];exact aI
 rw [Fz];have YV:f≠l0:=aQ aI Vx;have Zt:f≠l1:=aQ (by rw [aR YV];exact aI) hl1;have WM:l0≠l1:=aQ aI hl1;have n2f:f≠l2:=aQ (by rw [aR Zt,aR YV];exact aI) hl2;have X0:l0≠l2:=aQ (by rw [aR WM];exact aI) hl2;have X3:l1≠l2:=aQ aI hl2;generalize hG:upd (upd (upd (upd (upd H f (.dK [])) l0 (.lst [])) l1 (.lst [])) l2 (.lst [])) f (.dK [(Sum.inr "hole",V.ref l0),(Sum.inr "gap",.ref l1),(Sum.inr "slot",.ref l2)])=G;have gf:G f=some (oD l0 l1 l2):=by rw [<- hG];exact aI
 have UL:Vy l0 l1 l2 G [] [] []:=by
  rw [<- hG];refine ⟨?_,?_,?_,WM,X0,X3⟩
  ·rw [aR (Nz YV),aR X0,aR WM];exact aI
  ·rw [aR (Nz Zt),aR X3];exact aI
  ·rw [aR (Nz n2f)];exact aI
 have sG:Qh H G:=λx o hx=>by have zf:=aQ hx hf;have z0:x≠l0:=aQ (by rw [aR zf];exact hx) Vx;have z1:x≠l1:=aQ (by rw [aR z0,aR zf];exact hx) hl1;have z2:x≠l2:=aQ (by rw [aR z1,aR z0,aR zf];exact hx) hl2;rw [<- hG,aR zf,aR z2,aR z1,aR z0,aR zf];exact hx
 have Zu:H l0=none:=by rw [aR (Nz YV)] at Vx;exact Vx
 have Zv:H l1=none:=by rw [aR (Nz WM),aR (Nz Zt)] at hl1;exact hl1
 have Zw:H l2=none:=by rw [aR (Nz X3),aR (Nz X0),aR (Nz n2f)] at hl2;exact hl2
 refine GY (K:=K) (kQ (f7 (RE.use (K:=K) (d:=U6 p) (a6 (k:=1) (aA (sG.dat h0)) aG rfl) λw0 G1 s1 q0=>?_)));refine ⟨_,rfl,_,rfl,p,t,w0,v1,f,l0,l1,l2,[],[],[],rfl,UH,Sy,U4,dpp,by decide,q0,(sG.trans s1).dat h1,s1 _ _ gf,YV,Zt,n2f,UL.same s1,by decide,by decide,by decide,λH' a' b' c' bb Wd _ _ _ dd=>⟨_,rfl,?_⟩⟩;have sm:Qh H H':=λx o hx=>bb x o (aQ hx Zu) (aQ hx Zv) (aQ hx Zw) (s1 _ _ (sG _ _ hx))
 cases VP:cG p t with
 | none =>refine mx ?_;rw [VP] at post;exact post _ _ sm Dat.VM
 | some fd =>refine mw ?_;obtain ⟨d0,d1,d2⟩:=dd fd VP;have gf':H' f=some (.dK [(Sum.inr "hole",V.ref l0),(Sum.inr "gap",.ref l1),(Sum.inr "slot",.ref l2)]):=bb _ _ YV Zt n2f (s1 _ _ gf);rw [VP] at post;exact bB (K:=K) (d:=Zr (some fd)) (bY (aD (mP gf' (yj l0 l1 l2) Wd.h0 d0) (aD (mP gf' (Bx l0 l1 l2) Wd.h1 d1) (aD (mP gf' (yk l0 l1 l2) Wd.h2 d2) aP)))) λv Q0 s qq=>post v Q0 (sm.trans s) qq
noncomputable abbrev xA (ds:List D) (d:D):Prop:=∃ x,ds=[x]/\gS x=true/\d=.Qj
structure Pc where
 nm:Str
 pt:Pa
 cs:List D
noncomputable def SI (p:Pc):D:=.tup [.str p.nm,U6 p.pt,.tup p.cs]
noncomputable def ff:Pa->Bool
 | .hole _=>false
 | _=>true
structure Dq (p:Pc):Prop where
 nm:p.nm≠"pick"
 ok:wB p.pt
 dp:eG p.pt<=3
 cs:p.cs.length<=12
 nh:ff p.pt=true
structure Wy where
 nm:Str
 cs:List D
 ts:List Tr
noncomputable def wyD (w:Wy):D:=.tup [.str w.nm,.tup w.cs,.tup (w.ts.map toD)]
noncomputable def gJ (t:Tr) (p:Pc):Option Wy:=(cG p.pt t).map λf=>⟨p.nm,p.cs,f.1⟩
noncomputable def sL:Tr->Bool
 | .pick _ _ _=>true
 | _=>false
noncomputable def gH (ps:List Pc) (t:Tr):List Wy:=if sL t=true then [⟨"pick",[],dI t⟩] else ps.filterMap (gJ t)
noncomputable def eX (near Ys many:Int):List Int:=if many<=9 then [near,many] else [Ys,many % 100,many / 100]
noncomputable def fk (many:Int):Int:=if many<=9 then 2 else 3
theorem gY (near Ys many:Int):((eX near Ys many).length:Int)=fk many:=by unfold eX fk;split <;> rfl
theorem ye {a b:Int} (h:a<=b):fk a<=fk b:=by unfold fk;split <;> split <;> omega
theorem Be (a:Int):2<=fk a/\fk a<=3:=by unfold fk;split <;> omega
noncomputable def pE (y z:Int):Int:=fk (y+fk z)+fk z
theorem BK {a b d:Int} (h:a<=b) (h':c<=d):pE a c<=pE b d:=by unfold pE;have h1:=ye h';have h2:=ye (show a+fk c<=b+fk d by omega);omega
noncomputable def nO (w:Wy) (ls:List Int):Int:=if w.nm="pick" then pE (ls.getD 1 0) (ls.getD 2 0) else (w.cs.length:Int)
noncomputable def cY (w:Wy) (ls:List Int):Int:=nO w ls+ls.sum
noncomputable abbrev T8:Type:=Option (Int × D)
noncomputable def bD:T8->D
 | none=>.Qj
 | some b=>.tup [.int b.1,b.2]
noncomputable def eT:List T8->Option (List (Int × D))
 | []=>some []
 | none::_=>none
 | some b::r=>(eT r).map (b::·)
noncomputable def Xm (nm:Str) (bs:List (Int × D)):D:=.tup [.str nm,.tup (bs.map (·.2))]
noncomputable def ix (best:T8) (l:Int) (c:D):T8:=match best with
 | none=>some (l,c)
 | some b=>if l < b.1 then some (l,c) else some b
noncomputable def vC (best:T8) (w:Wy):Option (List (Int × D))->T8
 | none=>best
 | some bs=>ix best (cY w (bs.map (·.1))) (Xm w.nm bs)
noncomputable def gE (f:Tr->T8) (best:T8) (w:Wy):T8:=vC best w (eT (w.ts.map f))
noncomputable def kI (ps:List Pc) (f:Tr->T8) (t:Tr):T8:=(gH ps t).foldl (gE f) none
noncomputable def k8 (ps:List Pc):Nat->Tr->T8
 | 0,_=>none
 | n+1,t=>kI ps (k8 ps n) t
noncomputable def bM (ps:List Pc) (t:Tr):T8:=k8 ps (a8 t) t
theorem rN (t:Tr):1<=a8 t:=by cases t <;> simp [a8]
theorem oO:∀ (p:Pa) (t:Tr) (f:Sx),cG p t=some f->∀ x ∈ f.1,x ∈ a9 t
 | .hole i,t,f,h,x,hx=>by cases h;simp at hx;rw [hx,gh];exact NB
 | .gap i m,t,f,h,x,hx=>by
  cases t with
  | num n =>
   have h':(if n<=m then some ([],[n],[]) else none:Option Sx)=some f:=h;by_cases z:n<=m
   ·rw [MW z] at h';cases h';simp at hx
   ·rw [MR z] at h';cases h'
  | _=>cases h
 | .slot i,t,f,h,x,hx=>by
  cases t with
  | arg n=>cases h;simp at hx
  | _=>cases h
 | .num m,t,f,h,x,hx=>by
  cases t with
  | num n =>
   have h':(if n=m then some ([],[],[]) else none:Option Sx)=some f:=h;by_cases z:n=m
   ·rw [MW z] at h';cases h';simp at hx
   ·rw [MR z] at h';cases h'
  | _=>cases h
 | .two o a b,t,f,h,x,hx=>by
  cases t with
  | two o' u v =>
   obtain ⟨_,f1,f2,e1,e2,e3⟩:=eP h;subst e3;have hx':x ∈ f1.1++f2.1:=hx;simp only [a9,Na,Nh];rcases Nh.mp hx' with hx | hx
   ·exact .inr (.inl (oO a u f1 e1 x hx))
   ·exact .inr (.inr (oO b v f2 e2 x hx))
  | _=>cases h
theorem jF {p:Pa} {f:Sx} (hp:ff p=true) (h:cG p t=some f):∀ x ∈ f.1,x ∈ (dI t).flatMap a9:=by
 intro x hx
 cases p with
 | hole i=>cases hp
 | gap i m =>
  cases t with
  | num n =>
   have h':(if n<=m then some ([],[n],[]) else none:Option Sx)=some f:=h;by_cases z:n<=m
   ·rw [MW z] at h';cases h';simp at hx
   ·rw [MR z] at h';cases h'
  | _=>cases h
 | slot i =>
  cases t with
  | arg n=>cases h;simp at hx
  | _=>cases h
 | num m =>
  cases t with
  | num n =>
   have h':(if n=m then some ([],[],[]) else none:Option Sx)=some f:=h;by_cases z:n=m
   ·rw [MW z] at h';cases h';simp at hx
   ·rw [MR z] at h';cases h'
  | _=>cases h
 | two o a b =>
  cases t with
  | two o' u v =>
   obtain ⟨_,f1,f2,e1,e2,e3⟩:=eP h;subst e3;have hx':x ∈ f1.1++f2.1:=hx;simp only [dI,List.flatMap_cons,List.flatMap_nil,Np,Nh];rcases Nh.mp hx' with hx | hx
   ·exact .inl (oO a u f1 e1 x hx)
   ·exact .inr (oO b v f2 e2 x hx)
  | _=>cases h
theorem zY (t:Tr):t ∈ a9 t:=by rw [gh];exact NB
variable {ps:List Pc}
theorem og (hp:∀ p ∈ ps,ff p.pt=true) {w:Wy} (hw:w ∈ gH ps t):∀ x ∈ w.ts,x ∈ (dI t).flatMap a9:=by
 unfold gH at hw;split at hw
 ·rw [Nf.mp hw];intro x hx;exact List.mem_flatMap.mpr ⟨x,hx,zY x⟩
 ·obtain ⟨p,h1,h2⟩:=Oz.mp hw;unfold gJ at h2
  cases e:cG p.pt t with
  | none=>rw [e] at h2;cases h2
  | some f =>rw [e] at h2;cases h2;exact jF (hp p h1) e
theorem fE:∀ (t x:Tr),x ∈ a9 t->a8 x<=a8 t/\aS x<=aS t
 | .num n,x,h=>by
  have e:x=.num n:=by simpa [a9] using h
  subst e;exact ⟨M0 _,M0 _⟩
 | .arg n,x,h=>by
  have e:x=.arg n:=by simpa [a9] using h
  subst e;exact ⟨M0 _,M0 _⟩
 | .two o a b,x,h=>by
  simp only [a9,Na,Nh] at h;rcases h with rfl | h | h
  ·exact ⟨M0 _,M0 _⟩
  ·have:=fE a x h;simp only [a8,aS];omega
  ·have:=fE b x h;simp only [a8,aS];omega
 | .pick a b c,x,h=>by
  simp only [a9,Na,Nh] at h;rcases h with rfl | (h | h) | h
  ·exact ⟨M0 _,M0 _⟩
  ·have:=fE a x h;simp only [a8,aS];omega
  ·have:=fE b x h;simp only [a8,aS];omega
  ·have:=fE c x h;simp only [a8,aS];omega
theorem gz:∀ (t x:Tr),RI t->x ∈ a9 t->RI x
 | .num n,x,k,h=>by
  have e:x=.num n:=by simpa [a9] using h
  subst e;exact k
 | .arg n,x,k,h=>by
  have e:x=.arg n:=by simpa [a9] using h
  subst e;exact k
 | .two o a b,x,k,h=>by
  simp only [a9,Na,Nh] at h;rcases h with rfl | h | h
  ·exact k
  ·exact gz a x k.2.1 h
  ·exact gz b x k.2.2 h
 | .pick a b c,x,k,h=>by
  simp only [a9,Na,Nh] at h;rcases h with rfl | (h | h) | h
  ·exact k
  ·exact gz a x k.1 h
  ·exact gz b x k.2.1 h
  ·exact gz c x k.2.2 h
theorem zq (h:x ∈ dI t):a8 x < a8 t/\aS x < aS t:=by
 cases t with
 | num n=>simp [dI] at h
 | arg n=>simp [dI] at h
 | two o a b =>simp only [dI,Na,Ny,NX] at h;simp only [a8,aS];rcases h with rfl | rfl <;> omega
 | pick a b c =>simp only [dI,Na,Ny,NX] at h;simp only [a8,aS];rcases h with rfl | rfl | rfl <;> omega
theorem gQ (h:x ∈ (dI t).flatMap a9):a8 x < a8 t/\aS x < aS t:=by obtain ⟨k,h1,h2⟩:=List.mem_flatMap.mp h;have:=zq h1;have:=fE k x h2;omega
theorem j9 (h:x ∈ (dI t).flatMap a9):x ∈ a9 t:=by rw [gh];exact Nj _ h
variable {f g:Tr->T8}
theorem xm {w:Wy} (h:∀ x ∈ w.ts,f x=g x) (b:T8):gE f b w=gE g b w:=by unfold gE;rw [List.map_congr_left h]
theorem kL:∀ (ws:List Wy) (b:T8),(∀ w ∈ ws,∀ x ∈ w.ts,f x=g x)->ws.foldl (gE f) b=ws.foldl (gE g) b
 | [],_,_=>rfl
 | w::ws,b,h=>by rw [OF,OF,xm (h w NB)];exact kL ws _ λw' hw=>h w' (Nj _ hw)
theorem mZ (hp:∀ p ∈ ps,ff p.pt=true):∀ (n:Nat) (t:Tr),a8 t<=n->k8 ps (n+1) t=k8 ps n t
 | 0,t,h=>by have:=rN t;omega
 | n+1,t,h=>by show kI ps (k8 ps (n+1)) t=kI ps (k8 ps n) t;refine kL _ _ λw hw x hx=>mZ hp n x ?_;have:=gQ (og hp hw x hx);omega
theorem oB (hp:∀ p ∈ ps,ff p.pt=true):∀ {n:Nat},a8 t<=n->k8 ps n t=bM ps t:=by
 intro n
 induction n with
 | zero=>intro h;have:=rN t;omega
 | succ n ih =>
  intro h;by_cases e:a8 t=n+1
  ·unfold bM;rw [e]
  ·rw [mZ hp n t (by omega)];exact ih (by omega)
theorem jD (hp:∀ p ∈ ps,ff p.pt=true) (t:Tr):bM ps t=kI ps (bM ps) t:=by rw [<- oB hp (Nat.le_succ (a8 t))];show kI ps (k8 ps (a8 t)) t=_;refine kL _ _ λw hw x hx=>oB hp ?_;exact Og (gQ (og hp hw x hx)).1
inductive SJ {α β:Type} (R:α->β->Prop):List α->List β->Prop
 | nil:SJ R [] []
 | cons {a b as bs}:R a b->SJ R as bs->SJ R (a::as) (b::bs)
theorem SJ.mono {α β:Type} {R S:α->β->Prop} (h:∀ a b,R a b->S a b):∀ {as:List α} {bs:List β},SJ R as bs->SJ S as bs:=by
 intro as bs q
 induction q with
 | nil=>exact .nil
 | cons r _ ih=>exact .cons (h _ _ r) ih
noncomputable def rX (ps:List Pc):Nat->Tr->Int->Prop
 | 0,_,_=>False
 | n+1,t,m=>∃ w ∈ gH ps t,∃ ls,SJ (rX ps n) w.ts ls/\m=cY w ls
noncomputable def R8 (S:Int->Prop):T8->Prop
 | none=>∀ m,¬ S m
 | some x=>S x.1/\∀ m,S m->x.1<=m
theorem Gh:∀ {as bs:List Int},SJ (λa b=>a<=b) as bs->as.sum<=bs.sum:=by
 intro as bs h
 induction h with
 | nil=>exact PN _
 | cons r _ ih=>simp only [List.sum_cons];omega
theorem xX:∀ {as bs:List Int},SJ (λa b=>a<=b) as bs->∀ i,as.getD i 0<=bs.getD i 0:=by
 intro as bs h
 induction h with
 | nil=>intro i;exact PN _
 | cons r _ ih =>
  intro i
  cases i with
  | zero=>simpa using r
  | succ i=>simpa using ih i
theorem Bi (w:Wy) {as bs:List Int} (h:SJ (λa b=>a<=b) as bs):cY w as<=cY w bs:=by
 unfold cY nO;have h1:=Gh h;split
 ·have:=BK (xX h 1) (xX h 2);omega
 ·omega
theorem qJ {C:Tr->Int->Prop} (hf:∀ t,R8 (C t) (f t)):∀ {ts:List Tr},eT (ts.map f)=none->∀ ls,¬ SJ C ts ls
 | [],h,ls=>by cases h
 | t::ts,h,ls=>by
  intro q
  cases q with
  | cons r q =>
   cases e:f t with
   | none =>have z:=hf t;rw [e] at z;exact z _ r
   | some b =>
    rw [Nb,e] at h;have h':(eT (ts.map f)).map (b::·)=none:=h
    cases e2:eT (ts.map f) with
    | none=>exact qJ hf e2 _ q
    | some r=>rw [e2] at h';cases h'
theorem qK {C:Tr->Int->Prop} (hf:∀ t,R8 (C t) (f t)):∀ {ts:List Tr} {bs:List (Int × D)},eT (ts.map f)=some bs->SJ C ts (bs.map (·.1))/\∀ ls,SJ C ts ls->SJ (λa b=>a<=b) (bs.map (·.1)) ls
 | [],bs,h=>by cases h;exact ⟨.nil,λls q=>by cases q;exact .nil⟩
 | t::ts,bs,h=>by
  cases e:f t with
  | none=>rw [Nb,e] at h;cases h
  | some b =>
   rw [Nb,e] at h;have h':(eT (ts.map f)).map (b::·)=some bs:=h
   cases e2:eT (ts.map f) with
   | none=>rw [e2] at h';cases h'
   | some r =>
    rw [e2] at h';cases h';obtain ⟨i1,i2⟩:=qK hf e2;have z:=hf t;rw [e] at z;refine ⟨.cons z.1 i1,λls q=>?_⟩
    cases q with
    | cons q1 q2=>exact .cons (z.2 _ q1) (i2 _ q2)
theorem xn {C:Tr->Int->Prop} (hf:∀ t,R8 (C t) (f t)) {S:Int->Prop} {b:T8} (w:Wy) (h:R8 S b):R8 (λm=>S m\/∃ ls,SJ C w.ts ls/\m=cY w ls) (gE f b w):=by
 unfold gE
 cases e:eT (w.ts.map f) with
 | none =>
  have no:=qJ hf e
  cases b with
  | none=>exact λm z=>z.elim (h m) λ⟨ls,q,_⟩=>no ls q
  | some x=>exact ⟨.inl h.1,λm z=>z.elim (h.2 m) λ⟨ls,q,_⟩=>absurd q (no ls)⟩
 | some bs =>
  obtain ⟨i1,i2⟩:=qK hf e;have lo:∀ ls,SJ C w.ts ls->cY w (bs.map (·.1))<=cY w ls:=λls q=>Bi w (i2 ls q);show R8 _ (ix b _ _);unfold ix
  cases b with
  | none=>exact ⟨.inr ⟨_,i1,rfl⟩,λm z=>z.elim (λq=>absurd q (h m)) λ⟨ls,q,em⟩=>by rw [em];exact lo ls q⟩
  | some x =>
   dsimp only;split
   ·rename_i hlt;exact ⟨.inr ⟨_,i1,rfl⟩,λm z=>z.elim (λq=>Int.le_of_lt (Int.lt_of_lt_of_le hlt (h.2 m q))) λ⟨ls,q,em⟩=>by rw [em];exact lo ls q⟩
   ·rename_i hge;exact ⟨.inl h.1,λm z=>z.elim (h.2 m) λ⟨ls,q,em⟩=>by rw [em];have:=lo ls q;omega⟩
theorem R8.iff {S T:Int->Prop} {b:T8} (h:R8 S b) (e:∀ m,S m↔T m):R8 T b:=by have z:S=T:=funext λm=>propext (e m);rw [<- z];exact h
theorem oT {C:Tr->Int->Prop} (hf:∀ t,R8 (C t) (f t)):∀ (ws:List Wy) (S:Int->Prop) (b:T8),R8 S b->R8 (λm=>S m\/∃ w ∈ ws,∃ ls,SJ C w.ts ls/\m=cY w ls) (ws.foldl (gE f) b)
 | [],S,b,h=>h.iff λm=>⟨λq=>.inl q,λq=>q.elim id λ⟨w,hw,_⟩=>absurd hw (by simp)⟩
 | w::ws,S,b,h=>by
  rw [OF];refine (oT hf ws _ _ (xn hf w h)).iff λm=>⟨λq=>?_,λq=>?_⟩
  ·rcases q with (q | q) | ⟨w',hw,q⟩
   ·exact .inl q
   ·exact .inr ⟨w,NB,q⟩
   ·exact .inr ⟨w',Nj _ hw,q⟩
  ·rcases q with q | ⟨w',hw,q⟩
   ·exact .inl (.inl q)
   ·rcases Na.mp hw with rfl | hw
    ·exact .inl (.inr q)
    ·exact .inr ⟨w',hw,q⟩
theorem oC (ps:List Pc):∀ (n:Nat) (t:Tr),R8 (rX ps n t) (k8 ps n t)
 | 0,t=>λm h=>h
 | n+1,t=>(oT (oC ps n) (gH ps t) (λ_=>False) none (λm h=>h)).iff λm=>⟨λq=>q.elim False.elim id,λq=>.inr q⟩
theorem ux:∀ (n:Nat) (t:Tr) (m:Int),rX ps n t m->rX ps (n+1) t m
 | 0,t,m,h=>h.elim
 | n+1,t,m,⟨w,hw,ls,q,e⟩=>⟨w,hw,ls,q.mono (ux n),e⟩
theorem si {k:Nat} (h:n<=k) {m:Int} (q:rX ps n t m):rX ps k t m:=by
 induction h with
 | refl=>exact q
 | step _ ih=>exact ux _ _ _ ih
noncomputable def VI (ps:List Pc) (t:Tr) (m:Int):Prop:=∃ n,rX ps n t m
theorem GQ (hp:∀ p ∈ ps,ff p.pt=true) (t:Tr):R8 (VI ps t) (bM ps t):=by
 have key:∀ n,R8 (rX ps (max n (a8 t)) t) (bM ps t):=λn=>by have:=oC ps (max n (a8 t)) t;rw [oB hp (Nat.le_max_right _ _)] at this;exact this
 cases e:bM ps t with
 | none =>rintro m ⟨n,q⟩;have k:=key n;rw [e] at k;exact k m (si (PB _ _) q)
 | some x =>
  refine ⟨?_,?_⟩
  ·have k:=key 0;rw [e] at k;exact ⟨_,k.1⟩
  ·rintro m ⟨n,q⟩;have k:=key n;rw [e] at k;exact k.2 m (si (PB _ _) q)
theorem Fd:∀ {ts:List Tr} {ls:List Int},SJ (VI ps) ts ls->∃ n,SJ (rX ps n) ts ls:=by
 intro ts ls h
 induction h with
 | nil=>exact ⟨0,.nil⟩
 | cons r _ ih =>obtain ⟨n1,q1⟩:=r;obtain ⟨n2,q2⟩:=ih;exact ⟨max n1 n2,.cons (si (PB _ _) q1) (q2.mono λ_ _=>si (Nat.le_max_right _ _))⟩
theorem VI.intro {w:Wy} {ls:List Int} (hw:w ∈ gH ps t) (h:SJ (VI ps) w.ts ls):VI ps t (cY w ls):=by obtain ⟨n,q⟩:=Fd h;exact ⟨n+1,w,hw,ls,q,rfl⟩
theorem mX {p:Pc} {f:Sx} (hp:p ∈ ps) (ht:sL t=false) (h:cG p.pt t=some f):(⟨p.nm,p.cs,f.1⟩:Wy) ∈ gH ps t:=by unfold gH;rw [MR (by rw [ht];exact MY)];exact Oz.mpr ⟨p,hp,by unfold gJ;rw [h];rfl⟩
theorem qi {a b c:Tr}:gH ps (.pick a b c)=[⟨"pick",[],[a,b,c]⟩]:=rfl
noncomputable def gK:Pa->Nat
 | .hole _=>1
 | .two _ a b=>gK a+gK b
 | _=>0
theorem jZ:∀ (p:Pa) (t:Tr) (f:Sx),cG p t=some f->f.1.length=gK p
 | .hole i,t,f,h=>by cases h;rfl
 | .gap i m,t,f,h=>by
  cases t with
  | num n =>
   have h':(if n<=m then some ([],[n],[]) else none:Option Sx)=some f:=h;by_cases z:n<=m
   ·rw [MW z] at h';cases h';rfl
   ·rw [MR z] at h';cases h'
  | _=>cases h
 | .slot i,t,f,h=>by
  cases t with
  | arg n=>cases h;rfl
  | _=>cases h
 | .num m,t,f,h=>by
  cases t with
  | num n =>
   have h':(if n=m then some ([],[],[]) else none:Option Sx)=some f:=h;by_cases z:n=m
   ·rw [MW z] at h';cases h';rfl
   ·rw [MR z] at h';cases h'
  | _=>cases h
 | .two o a b,t,f,h=>by
  cases t with
  | two o' u v =>obtain ⟨_,f1,f2,e1,e2,e3⟩:=eP h;subst e3;show (f1.1++f2.1).length=gK a+gK b;rw [MQ,jZ a u f1 e1,jZ b v f2 e2]
  | _=>cases h
noncomputable abbrev Ht:Pc:=⟨"add",.two "add" (.hole 0) (.hole 1),[.int 4]⟩
noncomputable abbrev BP:List Pc:=[⟨"one",.gap 0 99,[.int 1,.tup [.str "low",.int 0]]⟩,⟨"two",.gap 0 9999,[.int 2,.tup [.str "low",.int 0],.tup [.str "high",.int 0]]⟩,⟨"slot",.slot 0,[.int 3,.tup [.str "arg",.int 0]]⟩,
 Ht,⟨"sub",.two "sub" (.hole 0) (.hole 1),[.int 5]⟩,⟨"mul",.two "mul" (.hole 0) (.hole 1),[.int 6]⟩,⟨"less",.two "less" (.hole 0) (.hole 1),[.int 7]⟩,⟨"more",.two "add" (.hole 0) (.gap 0 99),[.int 12,.tup [.str "low",.int 0]]⟩]
theorem AW (o:Str) (x y:Tr):cG (.two o (.hole 0) (.hole 1)) (.two o x y)=some ([x,y],[],[]):=by show (if o=o then _ else _)=_;rw [MW rfl];rfl
theorem BE (h:Xl o):∃ c:D,(⟨o,.two o (.hole 0) (.hole 1),[c]⟩:Pc) ∈ BP:=by
 rcases h with rfl | rfl | rfl | rfl
 ·exact ⟨.int 4,by simp [BP]⟩
 ·exact ⟨.int 5,by simp [BP]⟩
 ·exact ⟨.int 6,by simp [BP]⟩
 ·exact ⟨.int 7,by simp [BP]⟩
theorem By (h:Xl o):¬ o="pick":=by rcases h with rfl | rfl | rfl | rfl <;> decide +kernel
theorem CO (hb:∀ p ∈ BP,p ∈ ps) (h:Xl o) {m n:Int} (hx:VI ps x m) (hy:VI ps y n):VI ps (.two o x y) (m+n+1):=by
 obtain ⟨c,hc⟩:=BE h;have q:=VI.intro (mX (t:=.two o x y) (hb _ hc) rfl (AW o x y)) (.cons hx (.cons hy .nil))
 have e:cY ⟨o,[c],[x,y]⟩ [m,n]=m+n+1:=by unfold cY nO;rw [MR (By h)];simp;omega
 rw [<- e];exact q
theorem gX (hb:∀ p ∈ BP,p ∈ ps):∀ t:Tr,RI t->∃ m,VI ps t m
 | .num n,h=>by
  have e:cG (.gap 0 9999) (.num n)=some ([],[n],[]):=by show (if n<=9999 then _ else _)=_;rw [MW h.2]
  exact ⟨_,VI.intro (mX (t:=.num n) (p:=⟨"two",.gap 0 9999,[.int 2,.tup [.str "low",.int 0],.tup [.str "high",.int 0]]⟩) (hb _ (by simp [BP])) rfl e) .nil⟩
 | .arg k,h=>⟨_,VI.intro (mX (t:=.arg k) (p:=⟨"slot",.slot 0,[.int 3,.tup [.str "arg",.int 0]]⟩) (f:=([],[],[k])) (hb _ (by simp [BP])) rfl rfl) .nil⟩
 | .two o a b,h=>by obtain ⟨m,hm⟩:=gX hb a h.2.1;obtain ⟨n,hn⟩:=gX hb b h.2.2;exact ⟨_,CO hb h.1 hm hn⟩
 | .pick a b c,h=>by obtain ⟨m,hm⟩:=gX hb a h.1;obtain ⟨n,hn⟩:=gX hb b h.2.1;obtain ⟨l,hl⟩:=gX hb c h.2.2;exact ⟨_,VI.intro (w:=⟨"pick",[],[a,b,c]⟩) (by rw [qi];exact Nf.mpr rfl) (.cons hm (.cons hn (.cons hl .nil)))⟩
theorem jX (hp:∀ p ∈ ps,ff p.pt=true) (h:∃ m,VI ps t m):∃ b,bM ps t=some b/\VI ps t b.1/\∀ m,VI ps t m->b.1<=m:=by
 have z:=GQ hp t
 cases e:bM ps t with
 | none=>rw [e] at z;obtain ⟨m,q⟩:=h;exact absurd q (z m)
 | some b=>rw [e] at z;exact ⟨b,rfl,z.1,z.2⟩
noncomputable def xy (ds es:List D):Prop:=∃ m n f,ds=[.int m,.tup [.int n,.int f]]/\es=(eX n f m).map D.int
theorem GZ (h:tA σ H λxs H1=>xs.length<=sizeLine/\∀ p,H1 p=none->Q (.ref p) (upd H1 p (.tup xs))):Cn tA σ H Q:=h
theorem iK (h:En.nx σ H):yL En σ H:=h
theorem D1 (h:En.ct σ H):EI En σ H:=h
variable {G:Hp}
theorem tS {xs:List V} (h:RE K te σ G d) (hl:G l=some (.lst xs)) (hx:xs.length<=900)
  (q:∀ y G',QY l G G'->G' l=some (.lst (xs++[y]))->Dat K G' d y->En.nx σ G') (hv:σ[j]?=some (some (.ref l)):=by rfl):vD (Yj K "list" lQ (fB j) (cC te eI)) En σ G:=by
 refine ⟨_,hv,.inl ⟨rfl,_,Qp.of hl⟩,h.use λy H1 s1 q1=>?_⟩;have hl1:=s1 _ _ hl;refine ⟨l,xs,y,rfl,rfl,hl1,dH (by omega),?_⟩;have b:QY l H1 (upd H1 l (.lst (xs++[y]))):=QY.upd (Qh.refl _).but;exact q y _ (s1.but.trans b) aI (Dat.mono (b.grow hl1 aI) _ q1)
theorem tV {k:Nat} (h:RE K te σ H d) (q:∀ v H',Qh H H'->Dat K H' d v->En.nx (σ.set k (some v)) H'):pZ te (d6 k) En σ H:=h.use q
theorem sW (T:Txt P w K mg)  : Ok P w base (k+1) T.J5 (lZ K xy):=by
 refine T.J5.f.ok Uv (λvs H Q E h=>?_) (λcdv A outer s H vs Q E hr h=>?_)
 ·obtain ⟨ds,d,hd,⟨m,n,f,rfl,_⟩,_⟩:=h;exact hd.length.symm
 have nd:=Uv.nd;obtain ⟨ds,es,hd,⟨m,n,f,rfl,rfl⟩,post⟩:=h;obtain ⟨v0,v1,rfl,h0,h1⟩:=gb hd;refine ⟨_,(aC (fH (pv 1) (f6 rfl (bJ (a7 (i:=2) nd rfl (Or.inl rfl)) (bJ (a7 (i:=3) nd rfl (Or.inl rfl)) eE))))
 (aC (bE (aN ib (pv 0) (bQ (v:=.int 9) rfl T.Js ⟨_,rfl⟩) (aU _)) (aH (aL (c7 (aF (pv 2) (aF (pv 0) aB))))) aM)
 (aH (aL (c7 (aF (pv 3) (aF (bK fg (pv 0) aE) (aF (bK jg (pv 0) aE) aB)))))))),?_⟩
 refine iL (K:=K) (aA h1) λv w H1 s1 q1 q2=>?_;have h0:=s1.dat h0;refine aO (K:=K) (b:=decide (m<=9)) (aK (d9 (p:=λi j=>decide (i<=j)) (aA h0) aG)) (λc H2 s2=>?_) (λc H2 s2=>?_)
 ·have e:eX n f m=[n,m]:=by unfold eX;rw [MW (M1 c)]
  rw [e] at post;exact jr (RC.use (K:=K) (jk (aD (aA (s2.dat q1)) (aD (aA (s2.dat h0)) aP))) λl ys H' hl s hy hd=>post l ys H' (s1.trans (s2.trans s)) hy ((s1.trans s2).free hl) hd)
 ·have e:eX n f m=[f,m % 100,m / 100]:=by unfold eX;rw [MR (Ng c)]
  rw [e] at post;exact jr (RC.use (K:=K) (jk (aD (aA (s2.dat q2)) (aD (iS (aA (s2.dat h0)) aG (by decide)) (aD (tM (aA (s2.dat h0)) aG ⟨by decide,by decide⟩) aP)))) λl ys H' hl s hy hd=>post l ys H' (s1.trans (s2.trans s)) hy ((s1.trans s2).free hl) hd)
noncomputable def tZ (K:W.Frag):Sp:=λvs H Q _=>∃ y z:Int,vs=[.int y,.int z]/\∀ (p a b:Addr) (us ws:List V) (H':Hp),Qh H H'->QH K H' p [.ref a,.ref b]->H' a=some (.lst us)->H' b=some (.lst ws)->H a=none->H b=none->a≠b ->
 Qf K H' ((eX 10 11 (y+fk z)).map D.int) us->Qf K H' ((eX 8 9 z).map D.int) ws->Q (.ref p) H'
theorem mI (T:Txt P w K mg) (Ll:Ok P w base k T.J5 (lZ K xy)):Ok P w base (k+1) T.Iy (tZ K):=by
 refine T.Iy.f.ok SE (λvs H Q E h=>?_) (λcdv A outer s H vs Q E hr h=>?_)
 ·obtain ⟨y,z,rfl,_⟩:=h;rfl
 have nd:=SE.nd;obtain ⟨y,z,rfl,post⟩:=h;refine ⟨_,(aC (bO (i:=2) nd rfl (Or.inl rfl) (pc (D:=T.J5) Ll hr (aF (pv 1) (aF (bQ (v:=.ref T.K9) rfl T.Kz rfl) aB))))
 (aC (bO (i:=3) nd rfl (Or.inl rfl) (pc (D:=T.J5) Ll hr (aF (bK cJ (pv 0) (aW aT rfl T.HW bV (aF (pv 2) aB))) (aF (bQ (v:=.ref T.Lq) rfl T.KO rfl) aB))))
 (aH (aL (bR (aF (pv 3) (aF (pv 2) aB))))))),?_⟩
 refine fQ (K:=K) (lR (R:=xy) (aD (aA (k:=1) (Dat.Qm z)) (aD (jP T.L1) aP)) ⟨z,8,9,rfl,rfl⟩) λb ws H1 hb s1 YR VY=>?_;have el:(ws.length:Int)=fk z:=by rw [<- VY.length,tB,gY]
 have b1:=nZ (K:=K) (σ:=(start ["second","third","behind","ahead"] [.int y,.int z]).set 2 (some (.ref b))) (k:=2) YR;rw [el] at b1;refine fQ (K:=K) (lR (R:=xy) (aD (dO (aA (k:=0) (Dat.Qm y)) b1) (aD (jP T.Me) aP)) ⟨_,10,11,rfl,rfl⟩) λa us H2 ha s2 has Ww=>?_;refine jr (GZ ⟨_,rfl,_,rfl,d8 (by simp),λp hp=>?_⟩);have s3:Qh H2 (upd H2 p (.tup [.ref a,.ref b])):=aV hp _;have nab:a≠b:=Nz (aQ YR ha);exact post p a b us ws _ (s1.trans (s2.trans s3)) (QH.of aI) (s3 _ _ has) (s3 _ _ (s2 _ _ YR)) (s1.free ha) hb nab (s3.Qu Ww) ((s2.trans s3).Qu VY)
theorem rB (h:o="num"\/o="arg"\/Xl o):decide (o=("pick":Str))=false/\o≠"call":=by rcases h with rfl | rfl | rfl | rfl | rfl | rfl <;> exact ⟨by decide +kernel,by decide +kernel⟩
theorem x8 (t:Tr) (ht:RI t):∃ kd r,toD t=.tup (.str kd::r)/\decide (kd="pick")=sL t/\kd≠"call"/\(sL t=true->r=(dI t).map toD):=by
 cases t with
 | num n=>exact ⟨_,_,rfl,(rB (.inl rfl)).1,(rB (.inl rfl)).2,λz=>nomatch z⟩
 | arg n=>exact ⟨_,_,rfl,(rB (.inr (.inl rfl))).1,(rB (.inr (.inl rfl))).2,λz=>nomatch z⟩
 | two o a b=>exact ⟨_,_,rfl,(rB (.inr (.inr ht.1))).1,(rB (.inr (.inr ht.1))).2,λz=>nomatch z⟩
 | pick a b c=>exact ⟨_,_,rfl,M5 rfl,by decide +kernel,λ_=>rfl⟩
structure iB (ps:List Pc):Prop where
 ok:∀ p ∈ ps,Dq p
 few:ps.length<=100
noncomputable def Ax (as:List Ar) (es:List D):Prop:=∃ ps t,as=[.d (toD t),.l (ps.map SI)]/\iB ps/\RI t/\aS t<=8/\es=(gH ps t).map wyD
theorem AV (f:Sx):Zr (some f)=.tup [.tup (f.1.map toD),.tup (f.2.1.map D.int),.tup (f.2.2.map D.int)]:=rfl
theorem wM (T:Txt P w K mg) (K3:Ok P w base k T.JM (QF K oi)):Ok P w base (k+1) T.K0 (jT K Ax):=by
 refine T.K0.f.ok Vk (λvs H Q E h=>?_) (λcdv A outer s H vs Q E hr h=>?_)
 ·obtain ⟨as,d,hd,⟨ps,t,rfl,_⟩,_⟩:=h;exact hd.length.symm
 have nd:=Vk.nd;obtain ⟨as,es,hd,⟨ps,t,rfl,TV,Sy,U4,rfl⟩,post⟩:=h;obtain ⟨v0,v1,rfl,h0,h1⟩:=uh hd;have h0:Dat K H (toD t) v0:=h0;have h1:LD K H (ps.map SI) v1:=h1;refine ⟨_,(aC (bE (aN cA (aX aY (pv 0) aE) bC (aU _)) (aH (aL (c7 (aF (bR (aF bC (aF (bR aB) (aF (i0 pX (pv 0) (iH aE) nW) aB)))) aB)))) aM)
 (aC (bO (i:=2) nd rfl (Or.inl rfl) (c7 aB))
 (aC (h7 NP rfl (fN (pv 1)) (a7 (i:=3) nd rfl (Or.inl rfl)) (aC (bO (i:=4) nd rfl (Or.inl rfl) (pc (D:=T.JM) K3 hr (aF (pv 3) (aF (pv 0) aB))))
 (aH (bE (aN Dv (pv 4) iQ (aU _)) (aH (bT (ic NF NT NV eJ (pv 2) (aF (bR (aF (aX aY (pv 3) aE) (aF (aX aY (pv 3) aE) (aF (aX aY (pv 4) aE) aB)))) aB)))) aM))))
 (aH (aL (pv 2)))))),?_⟩
 obtain ⟨kd,r,ek,hpk,_,VZ⟩:=x8 t Sy;have h0':Dat K H (.tup (.str kd::r)) v0:=by rw [<- ek];exact h0
 refine aO (K:=K) (b:=sL t) (RT.as (aK (bI (a6 (k:=0) (aA h0') aG rfl) aZ)) hpk) (λc H1 s1=>?_) (λc H1 s1=>?_)
 ·have e:(gH ps t).map wyD=[.tup [.str "pick",.tup [],.tup r]]:=by
   unfold gH;rw [MW c,VZ c];rfl
  rw [e] at post;exact jr (RC.use (K:=K) (jk (aD (bY (aD aZ (aD (bY aP) (aD (j8 (aA (s1.dat h0'))) aP)))) aP)) λl ys H' hl s hy hd=>post l ys H' (s1.trans s) hy (s1.free hl) hd)
 have ew:gH ps t=ps.filterMap (gJ t):=by unfold gH;rw [MR (by rw [c];exact MY)]
 rw [ew] at post;refine fw ⟨d8 (by decide),λwl hwl=>?_⟩;have s2:Qh H1 (upd H1 wl (.lst [])):=aV hwl _;have s12:=s1.trans s2;obtain ⟨a,vs,rfl,ha,hda⟩:=h1;have la:=hda.length;rw [tB] at la;have hps:=TV.few;have hwn:H wl=none:=s1.free hwl;refine eA ⟨_,rfl,a,rfl,⟨vs,(s12.Tq ha).UI⟩,oV (xs:=vs) (λi σ G=>∃ (z3 z4:Option V) (ys:List V),σ=[some v0,some (.ref a),some (.ref wl),z3,z4]/\Qh H G/\G wl=some (.lst ys)/\Qf K G (((ps.take i).filterMap (gJ t)).map wyD) ys) ?_ (λi σ G _ ⟨_,_,_,_,p,_⟩=>(p.Tq ha).UI) ?_ ?_⟩
 ·exact ⟨none,none,[],rfl,s12,aI,by rw [Ow];exact Qf.nil⟩
 ·rintro i vx σ G hi ⟨z3,z4,ys,rfl,sG,V3,dy⟩;obtain ⟨dx,ex,hx⟩:=(sG.Qu hda).T9 hi;rw [MZ] at ex
  cases hp:ps[i]? with
  | none=>rw [hp] at ex;cases ex
  | some p =>
   rw [hp] at ex;cases ex;have UH:=TV.ok p (Nn hp);have et:ps.take (i+1)=ps.take i++[p]:=by rw [NR,hp];rfl
   have lys:ys.length<=100:=by have l1:=dy.length;rw [tB] at l1;have l2:=Pd (gJ t) (ps.take i);rw [NI] at l2;omega
   refine iJ ?_;dsimp only;refine dR (K:=K) (d:=Zr (cG p.pt t)) (bF (R:=oi) (aD (aA (k:=3) hx) (aD (aA (k:=0) (sG.dat h0)) aP)) ⟨.str p.nm,p.pt,.tup p.cs,t,rfl,UH.ok,Sy,U4,UH.dp,rfl⟩) λvf G2 s2 qf=>?_;have XW:=s2 _ _ V3
   cases VP:cG p.pt t with
   | none =>
    have eW:gJ t p=none:=by unfold gJ;rw [VP];rfl
    rw [VP] at qf;refine g9 (b:=false) (aK (yB (K:=K) (aA (k:=4) qf))) (λc=>nomatch c) (λ_ G3 s3=>iK ?_);refine ⟨_,_,ys,rfl,sG.trans (s2.trans s3),s3 _ _ XW,?_⟩;rw [et,Oo];simp only [Ou,P7,eW,Np];exact (s2.trans s3).Qu dy
   | some f =>
    have eW:gJ t p=some ⟨p.nm,p.cs,f.1⟩:=by unfold gJ;rw [VP];rfl
    rw [VP,AV] at qf;refine g9 (b:=true) (aK (yB (K:=K) (aA (k:=4) qf))) (λ_ G3 s3=>?_) (λc=>nomatch c);have Yp:=s3 _ _ XW;have hx3:=(s2.trans s3).dat hx;refine tS (K:=K) (d:=.tup [.str p.nm,.tup p.cs,.tup (f.1.map toD)]) (bY (aD (a6 (k:=0) (aA (k:=3) hx3) aG rfl) (aD (a6 (k:=2) (aA (k:=3) hx3) aG rfl) (aD (a6 (k:=0) (aA (k:=4) (s3.dat qf)) aG rfl) aP)))) Yp (by omega) λy G4 b4 hw4 q4=>?_;have g4:gW K G3 G4:=b4.grow Yp hw4;refine ⟨_,_,ys++[y],rfl,λx o hx=>b4 x o (aQ hx hwn) (s3 _ _ (s2 _ _ (sG _ _ hx))),hw4,?_⟩;rw [et,Oo,Nl];simp only [Ou,P7,eW];exact Qf.append (Qf.mono g4 _ ((s2.trans s3).Qu dy)) (Qf.cons q4 Qf.nil)
 ·rintro σ G ⟨z3,z4,ys,rfl,sG,V3,dy⟩;rw [<- la,N7] at dy;exact ⟨_,rfl,post wl ys G sG V3 hwn dy⟩
theorem tT {g:TG} (h:te σ H λx H1=>g x σ H1 (us En)):l8 (pZ te g) us En σ H:=h
noncomputable def ER (as:List Ar) (d:D):Prop:=∃ (w:Wy) (ls:List Int),as=[.d (.str w.nm),.d (.tup w.cs),.l (ls.map D.int)]/\(w.nm="pick"->ls.length=3)/\d=.int (cY w ls)
theorem sY (T:Txt P w K mg) (J7:Ok P w base k T.Iy (tZ K)):Ok P w base (k+1) T.Ku (UJ K ER):=by
 refine T.Ku.f.ok Uw (λvs H Q E h=>?_) (λcdv A outer s H vs Q E hr h=>?_)
 ·obtain ⟨as,d,hd,⟨w,ls,rfl,_⟩,_⟩:=h;exact hd.length.symm
 have nd:=Uw.nd;obtain ⟨as,d,hd,⟨w,ls,rfl,h3,rfl⟩,post⟩:=h;obtain ⟨v0,v1,v2,rfl,h0,h1,h2⟩:=Gx hd;have h0:Dat K H (.str w.nm) v0:=h0;have h1:Dat K H (.tup w.cs) v1:=h1;have h2:LD K H (ls.map D.int) v2:=h2;refine ⟨_,(aC (bO (i:=3) nd rfl (Or.inl rfl) (aW aT rfl T.HW bV (aF (pv 1) aB)))
 (aC (bE (aN cA (pv 0) bC (aU _)) (aC (fH (pc (D:=T.Iy) J7 hr (aF (aX cE (pv 2) aE) (aF (aX cE (pv 2) aE) aB))) (f6 rfl (bJ (a7 (i:=4) nd rfl (Or.inl rfl)) (bJ (a7 (i:=5) nd rfl (Or.inl rfl)) eE))))
 (aH (bO (i:=3) nd rfl (Or.inl rfl) (bK cJ (aW aT rfl T.HW bV (aF (pv 4) aB)) (aW aT rfl T.HW bV (aF (pv 5) aB)))))) aM)
 (aH (aL (bK cJ (pv 3) (aW (um rfl) rfl T.Mw AF (aF (pv 2) aB))))))),?_⟩
 refine dR (K:=K) (eU (aA h1)) λvo H1 s1 qo=>?_;have eo:=qo.Qk;subst eo;refine yE (λσ G=>∃ z4 z5:Option V,σ=[some v0,some v1,some v2,some (.int (nO w ls)),z4,z5]/\Qh H G) ?_ (λhrest=>?_)
 case refine_2 =>
  refine g9 (b:=decide (w.nm="pick")) (aK (bI (K:=K) (aA (k:=0) (s1.dat h0)) aZ)) (λc H2 s2=>?_) (λc H2 s2=>?_)
  ·have cp:=M1 c
   obtain ⟨x,y,z,rfl⟩:∃ x y z,ls=[x,y,z]:=by
    match ls,h3 cp with
    | [x,y,z],_=>exact ⟨x,y,z,rfl⟩
   have h22:=(s1.trans s2).ld h2;refine tT (kQ (f7 (RE.use (K:=K) (d:=.int y) (gB (k:=1) (bA (k:=2) h22) aG rfl) λw1 H3 s3 q3=>f7 (RE.use (K:=K) (d:=.int z) (gB (k:=2) (bA (k:=2) (s3.ld h22)) aG rfl) λw2 H4 s4 q4=>?_))));have e3:=q3.Qk;have e4:=q4.Qk;subst e3 e4;refine ⟨y,z,rfl,λp a b us ws H5 s5 hp ha hb _ _ _ Ww VY=>?_⟩;have lu:(us.length:Int)=fk (y+fk z):=by rw [<- Ww.length,tB,gY]
   have lw:(ws.length:Int)=fk z:=by rw [<- VY.length,tB,gY]
   refine ⟨p,_,rfl,hp,rfl,_,_,rfl,_,_,rfl,rfl,?_⟩;dsimp only;refine tV (K:=K) (d:=.int (nO w [x,y,z])) (RE.as (dO (nZ (k:=4) ha) (nZ (k:=5) hb)) ?_) λv H6 s6 q6=>?_
   ·rw [lu,lw];unfold nO;rw [MW cp];rfl
   ·have e6:=q6.Qk;subst e6;exact hrest _ _ ⟨_,_,rfl,s1.trans (s2.trans (s3.trans (s4.trans (s5.trans s6))))⟩
  ·have cp:¬ w.nm="pick":=Ng c;refine iK (hrest _ _ ⟨none,none,?_,s1.trans s2⟩);have e:nO w ls=(w.cs.length:Int):=by unfold nO;rw [MR cp]
   rw [e];rfl
 rintro σ G ⟨z4,z5,rfl,sG⟩;exact bB (K:=K) (d:=.int (cY w ls)) (dO (aA (k:=3) (Dat.Qm _)) (yC (bA (k:=2) (sG.ld h2)))) λv H' s q=>post v H' (sG.trans s) q
theorem GR:¬ ("num":Str)="arg":=by decide +kernel
theorem Gw:¬ ("arg":Str)="num":=by decide +kernel
theorem CV {n:Int} {b:Tr} (h:Qs (toD (.num n)) (toD b)=true):b=.num n:=by
 cases b with
 | num m =>simp only [toD,fZ,dF,eO,eZ,eK,fY,fX,NL,NS,M4,NH] at h;rw [h.2]
 | arg m =>simp only [toD,fZ,dF,eO,eZ,eK,fY,fX,NL,NS,M4,NH] at h;exact absurd h.1 GR
 | two o x y =>simp only [toD,fZ,dF,eO,eZ,eK,fY,fX,NL,NS,M4,NH] at h;cases h
 | pick x y z =>simp only [toD,fZ,dF,eO,eZ,eK,fY,fX,NL,NS,M4,NH] at h;cases h
theorem CU {n:Int} {b:Tr} (h:Qs (toD (.arg n)) (toD b)=true):b=.arg n:=by
 cases b with
 | num m =>simp only [toD,fZ,dF,eO,eZ,eK,fY,fX,NL,NS,M4,NH] at h;exact absurd h.1 Gw
 | arg m =>simp only [toD,fZ,dF,eO,eZ,eK,fY,fX,NL,NS,M4,NH] at h;rw [h.2]
 | two o x y =>simp only [toD,fZ,dF,eO,eZ,eK,fY,fX,NL,NS,M4,NH] at h;cases h
 | pick x y z =>simp only [toD,fZ,dF,eO,eZ,eK,fY,fX,NL,NS,M4,NH] at h;cases h
theorem CW {b:Tr} (h:Qs (toD (.two o x y)) (toD b)=true):∃ x' y',b=.two o x' y'/\Qs (toD x) (toD x')=true/\Qs (toD y) (toD y')=true:=by
 cases b with
 | num m =>simp only [toD,fZ,dF,eO,eZ,eK,fY,fX,NL,NS,M4,NH] at h;cases h
 | arg m =>simp only [toD,fZ,dF,eO,eZ,eK,fY,fX,NL,NS,M4,NH] at h;cases h
 | two o' x' y' =>simp only [toD,fZ,dF,eO,eZ,eK,fY,fX,NL,NS,M4,NH] at h;exact ⟨x',y',by rw [h.1],h.2.1,h.2.2⟩
 | pick x y z =>simp only [toD,fZ,dF,eO,eZ,eK,fY,fX,NL,NS,M4,NH] at h;cases h
theorem AU {z b:Tr} (h:Qs (toD (.pick x y z)) (toD b)=true):∃ x' y' z',b=.pick x' y' z'/\Qs (toD x) (toD x')=true/\Qs (toD y) (toD y')=true/\Qs (toD z) (toD z')=true:=by
 cases b with
 | num m =>simp only [toD,fZ,dF,eO,eZ,eK,fY,fX,NL,NS,M4,NH] at h;cases h
 | arg m =>simp only [toD,fZ,dF,eO,eZ,eK,fY,fX,NL,NS,M4,NH] at h;cases h
 | two o' x' y' =>simp only [toD,fZ,dF,eO,eZ,eK,fY,fX,NL,NS,M4,NH] at h;cases h
 | pick x' y' z' =>simp only [toD,fZ,dF,eO,eZ,eK,fY,fX,NL,NS,M4,NH] at h;exact ⟨x',y',z',rfl,h.2.1,h.2.2.1,h.2.2.2⟩
theorem Ec (a:Tr):∀ b:Tr,Qs (toD a) (toD b)=true->a=b:=by
 induction a with
 | num n=>intro b h;exact (CV h).symm
 | arg n=>intro b h;exact (CU h).symm
 | two o x y ihx ihy =>intro b h;obtain ⟨x',y',rfl,h1,h2⟩:=CW h;rw [ihx x' h1,ihy y' h2]
 | pick x y z ihx ihy ihz =>intro b h;obtain ⟨x',y',z',rfl,h1,h2,h3⟩:=AU h;rw [ihx x' h1,ihy y' h2,ihz z' h3]
theorem hV:∀ t:Tr,fD (toD t)=aS t
 | .num n=>by unfold toD aS;simp [fD,Ql]
 | .arg n=>by unfold toD aS;simp [fD,Ql]
 | .two o a b=>by unfold toD aS;simp [fD,Ql,hV a,hV b]
 | .pick a b c=>by unfold toD aS;simp [fD,Ql,hV a,hV b,hV c]
theorem gF:∀ t:Tr,Rr (toD t)=true
 | .num n=>by unfold toD;simp [Rr,QB]
 | .arg n=>by unfold toD;simp [Rr,QB]
 | .two o a b=>by unfold toD;simp [Rr,QB,gF a,gF b]
 | .pick a b c=>by unfold toD;simp [Rr,QB,gF a,gF b,gF c]
theorem uP:∀ ts:List Tr,QB (ts.map toD)=true
 | []=>by simp [QB]
 | t::ts=>by simp [QB,gF t,uP ts]
theorem qS:∀ ts:List Tr,(∀ x ∈ ts,aS x<=n)->Ql (ts.map toD)<=n
 | [],_=>by simp [Ql]
 | t::ts,h=>by have h1:=h t (by simp);have h2:=qS ts λx hx=>h x (by simp [hx]);simp only [Nb,Ql,hV];omega
theorem uC:∀ {ts:List Tr},(∀ y ∈ ts,RI y)->RI x->x ∈ ts->∃ j:Nat,ts[j]?=some x/\∀ (m:Nat) e,m < j->(ts.map toD)[m]?=some e->Qs e (toD x)=false
 | [],_,_,h=>by simp at h
 | y::ts,hok,hx,h=>by
  by_cases e:Qs (toD y) (toD x)=true
  ·have:=Ec y x e;exact ⟨0,by rw [this];rfl,λm _ hm=>absurd hm (Nat.not_lt_zero m)⟩
  ·have hmem:x ∈ ts:=by
    rcases Na.mp h with rfl | h
    ·exact absurd (iz _ (gF x)) e
    ·exact h
   obtain ⟨j,h1,h2⟩:=uC (λz hz=>hok z (Nj _ hz)) hx hmem;refine ⟨j+1,by simpa using h1,λm d hm hd=>?_⟩
   cases m with
   | zero =>
    have e':toD y=d:=by simpa using hd
    rw [<- e'];exact Bool.eq_false_iff.mpr e
   | succ m=>exact h2 m d (by omega) (by simpa using hd)
theorem uf:∀ bs:List T8,(bs.map λb=>YQ (bD b)).any id=(eT bs).isNone
 | []=>rfl
 | none::bs=>rfl
 | some b::bs=>by have ih:=uf bs;show (false || (bs.map λb=>YQ (bD b)).any id)=((eT bs).map (b::·)).isNone;rw [ih,N9];cases eT bs <;> rfl
theorem ug:∀ {bs:List T8} {cs:List (Int × D)},eT bs=some cs->bs=cs.map some
 | [],cs,h=>by cases h;rfl
 | none::bs,cs,h=>by cases h
 | some b::bs,cs,h=>by
  have h':(eT bs).map (b::·)=some cs:=h
  cases e:eT bs with
  | none=>rw [e] at h';cases h'
  | some r =>rw [e] at h';cases h';rw [ug e];rfl
theorem oY:∀ p:Pa,gK p<=2 ^ (eG p - 1)
 | .hole _=>by simp [gK,eG]
 | .gap _ _=>by simp [gK,eG]
 | .slot _=>by simp [gK,eG]
 | .num _=>by simp [gK,eG]
 | .two o a b=>by
  have h1:=oY a;have h2:=oY b;have d1:=mn a;have d2:=mn b;have e:eG (.two o a b) - 1=(max (eG a) (eG b) - 1)+1:=by simp only [eG];omega
  rw [e,PF];have p1:2 ^ (eG a - 1)<=2 ^ (max (eG a) (eG b) - 1):=NZ (by decide) (by omega);have p2:2 ^ (eG b - 1)<=2 ^ (max (eG a) (eG b) - 1):=NZ (by decide) (by omega);simp only [gK];omega
noncomputable def Al (as:List Ar) (d:D):Prop:=∃ (ps:List Pc) (t:Tr) (f:Tr->T8) (ts:List Tr),as=[.d (toD t),.l (ps.map SI),.l (ts.map toD),.l (ts.map λx=>bD (f x))]/\iB ps/\RI t/\aS t<=8/\ts.length<=200/\(∀ x ∈ ts,RI x/\aS x<=8) /\
 (∀ w ∈ gH ps t,∀ x ∈ w.ts,x ∈ ts)/\d=bD (kI ps f t)
theorem CA (h:∀ p ∈ ps,Dq p) {w:Wy} (hw:w ∈ gH ps t):w.ts.length<=8/\(w.nm="pick"->w.ts.length=3):=by
 unfold gH at hw;split at hw
 ·rename_i c;rw [Nf.mp hw]
  cases t with
  | pick a b c=>exact ⟨by simp [dI],λ_=>rfl⟩
  | _=>cases c
 ·obtain ⟨p,h1,h2⟩:=Oz.mp hw;unfold gJ at h2
  cases e:cG p.pt t with
  | none=>rw [e] at h2;cases h2
  | some f =>
   rw [e] at h2;cases h2;refine ⟨?_,λz=>absurd z (h p h1).nm⟩;show f.1.length<=8;rw [jZ _ _ _ e];have:=oY p.pt;have hd:=(h p h1).dp
   calc gK p.pt<=2 ^ (eG p.pt - 1):=this
    _<=2 ^ 2:=NZ (by decide) (by omega)
    _<=8:=by decide
theorem nM (T:Txt P w K mg) (Mp:Ok P w base k T.K0 (jT K Ax)) (LW:Ok P w base k T.Ku (UJ K ER)):Ok P w base (k+1) T.JH (UJ K Al):=by
 refine T.JH.f.ok S9 (λvs H Q E h=>?_) (λcdv A outer s H vs Q E hr h=>?_)
 ·obtain ⟨as,d,hd,⟨ps,t,f,ts,rfl,_⟩,_⟩:=h;exact hd.length.symm
 have nd:=S9.nd;obtain ⟨as,d,hd,⟨ps,t,f,ts,rfl,TV,Sy,U4,fts,Yt,hts,rfl⟩,post⟩:=h;obtain ⟨v0,v1,v2,v3,rfl,h0,h1,h2,h3⟩:=CH hd;have h0:Dat K H (toD t) v0:=h0;have h1:LD K H (ps.map SI) v1:=h1;have h2:LD K H (ts.map toD) v2:=h2;have h3:LD K H (ts.map λx=>bD (f x)) v3:=h3;refine ⟨_,(aC (bE (aN cA (aX aY (pv 0) aE) bC (aU _)) (aH (aL (bR (aF (bQ (v:=.int 3) rfl T.Je ⟨_,rfl⟩) (aF (bR aB) aB))))) aM)
 (aC (bO (i:=4) nd rfl (Or.inl rfl) iQ)
 (aC (h7 NP rfl (fN (pc (D:=T.K0) Mp hr (aF (pv 0) (aF (pv 1) aB)))) (f6 rfl (bJ (a7 (i:=5) nd rfl (Or.inl rfl)) (bJ (a7 (i:=6) nd rfl (Or.inl rfl)) (bJ (a7 (i:=7) nd rfl (Or.inl rfl)) eE)))) (aC (gP (i:=8) (own:=["one"]) (fr:=[2,3]) (N':=["one","done","bests"]) (h6 (pv 7)) rfl (by show dW ["tree","some","done","bests","best","name","cells","trees","within","length"] (λx=>(aJ fj).names.lookup x) _ _ _ _=true;decide +kernel) rfl (λ_ _ _ _ _=>(a7 (i:=0) (by show List.Nodup [("one":Str),("done":Str),("bests":Str)];decide +kernel) rfl (Or.inl rfl))) (λ_ _ _ _ _=>cQ) (λ_ _ _ _ _=>(aX (r:=BR K) cE (pv 2) (FK (r:=nY K) K rfl NF F.slot_list_index F.type_list_index (zz hr) (pv 1) (aF (pv 0) aB)))) nd rfl rfl rfl)
 (aC (bE (bP (aW (AJ rfl) rfl T.MM E5 (aF (e8 (own:=["one"]) (fr:=[]) (N':=["one"]) (fN (pv 8)) rfl (by show dW ["tree","some","done","bests","best","name","cells","trees","within","length"] (λx=>(aJ fj).names.lookup x) _ _ _ _=true;decide +kernel) rfl (λ_ _ _ _ _=>(a7 (i:=0) (by show List.Nodup [("one":Str)];decide +kernel) rfl (Or.inl rfl))) (λ_ _ _ _ _=>cQ) (λ_ _ _ _ _=>(dP wN (pv 0) iQ (aU _)))) aB)) (λ_=>rfl)) (aH vc) aM)
 (aC (bO (i:=9) nd rfl (Or.inl rfl) (pc (D:=T.Ku) LW hr (aF (pv 5) (aF (pv 6) (aF (e8 (own:=["one"]) (fr:=[]) (N':=["one"]) (fN (pv 8)) rfl (by show dW ["tree","some","done","bests","best","name","cells","trees","within","length"] (λx=>(aJ fj).names.lookup x) _ _ _ _=true;decide +kernel) rfl (λ_ _ _ _ _=>(a7 (i:=0) (by show List.Nodup [("one":Str)];decide +kernel) rfl (Or.inl rfl))) (λ_ _ _ _ _=>cQ) (λ_ _ _ _ _=>(aX (r:=vh K) aY (pv 0) aE))) aB)))))
 (aH (bE (PW.pt (gq (aN wN (pv 4) iQ (aU _)) (fJ (aN ni (pv 9) (aX aY (pv 4) aE) (aU _))))) (aH (bO (i:=4) nd rfl (Or.inl rfl) (bR (aF (pv 9) (aF (bR (aF (pv 5) (aF (fh fu rfl T.JC f9 (aF (e8 (own:=["one"]) (fr:=[]) (N':=["one"]) (fN (pv 8)) rfl (by show dW ["tree","some","done","bests","best","name","cells","trees","within","length"] (λx=>(aJ fj).names.lookup x) _ _ _ _=true;decide +kernel) rfl (λ_ _ _ _ _=>(a7 (i:=0) (by show List.Nodup [("one":Str)];decide +kernel) rfl (Or.inl rfl))) (λ_ _ _ _ _=>cQ) (λ_ _ _ _ _=>(aX (r:=vh K) aY (pv 0) aE))) aB)) aB))) aB))))) aM))))))
 (aH (aL (pv 4)))))),?_⟩
 obtain ⟨kd,r,ek,hpk,hcall,VZ⟩:=x8 t Sy;have h0':Dat K H (.tup (.str kd::r)) v0:=by rw [<- ek];exact h0
 refine aO (K:=K) (b:=false) (RT.as (aK (bI (a6 (k:=0) (aA h0') aG rfl) aZ)) (MX hcall)) (λc=>nomatch c) (λ_ H1 s1=>?_);refine fw (B9 ?_);refine eA (RC.use (K:=K) (fK (R:=Ax) (fO (aA (k:=0) (s1.dat h0)) (eY (bA (k:=1) (s1.ld h1)) cK)) ⟨ps,t,rfl,TV,Sy,U4,rfl⟩) λl ys H2 hl s2 hy hdy=>?_);have s12:=s1.trans s2;have ly:=hdy.length;rw [tB] at ly;refine ⟨l,rfl,⟨ys,Qp.of hy⟩,oV (xs:=ys) (λi σ G=>∃ (vb:V) (z5 z6 z7 z8 z9:Option V),σ=[some v0,some v1,some v2,some v3,some vb,z5,z6,z7,z8,z9]/\Qh H2 G/\Dat K G (bD (((gH ps t).take i).foldl (gE f) none)) vb) ?_ (λi σ G _ ⟨_,_,_,_,_,_,_,p,_⟩=>Qp.of (p _ _ hy)) ?_ ?_⟩
 ·exact ⟨.Qj,_,_,_,_,_,rfl,Qh.refl _,Dat.VM⟩
 ·rintro i vx σ G hi ⟨vb,z5,z6,z7,z8,z9,rfl,sG,hb⟩;have Yu:=s12.trans sG;obtain ⟨dx,ex,hx⟩:=(sG.Qu hdy).T9 hi;rw [MZ] at ex
  cases hw:(gH ps t)[i]? with
  | none=>rw [hw] at ex;cases ex
  | some w =>
   rw [hw] at ex;cases ex;have hwm:=Nn hw;obtain ⟨few,few3⟩:=CA TV.ok hwm;have et:(gH ps t).take (i+1)=(gH ps t).take i++[w]:=by rw [NR,hw];rfl
   rw [et,List.foldl_append,OF,List.foldl_nil];generalize ((gH ps t).take i).foldl (gE f) none=best at hb ⊢;obtain ⟨pa,us,rfl,hpa,hus⟩:=(show Dat K G (.tup [.str w.nm,.tup w.cs,.tup (w.ts.map toD)]) vx from hx).Qw;obtain ⟨x5,x6,x7,rfl,k5,k6,k7⟩:=oI hus;refine ⟨pa,_,rfl,hpa,rfl,_,_,rfl,_,_,rfl,_,_,rfl,rfl,?_⟩;dsimp only;refine fQ (K:=K) (pJ (aA (k:=7) k7) (by rw [tB];omega) (w.ts.map λx=>bD (f x)) (by rw [tB,tB]) rfl (λG1 j c v d s1 hc hd hv=>?_)) λlw zs G2 hlw s2 hzs dzs=>?_
   ·rw [MZ] at hc hd
    cases hx:w.ts[j]? with
    | none=>rw [hx] at hc;cases hc
    | some x =>rw [hx] at hc hd;cases hc;cases hd;have hxt:=hts w hwm x (Nn hx);obtain ⟨m,hm1,hm2⟩:=uC (λy hy=>(Yt y hy).1) (Yt x hxt).1 hxt;have sH1:=Yu.trans s1;refine gB (k:=m) (bA (k:=2) (sH1.ld h3)) (B2 (k:=1) (sH1.ld h2) (aA (k:=0) hv) (uP ts) (gF x) (Nv (qS (n:=8) ts λy hy=>(Yt y hy).2) (by decide)) (by rw [tB];omega) ⟨toD x,by rw [MZ,hm1];rfl,iz _ (gF x)⟩ hm2) (by rw [MZ,hm1];rfl)
   have Xn:LD K G2 (w.ts.map λx=>bD (f x)) (.ref lw):=LD.of hzs dzs;have eM:(w.ts.map λx=>bD (f x))=(w.ts.map f).map bD:=by rw [OB];rfl
   have lM:(w.ts.map f).length<=8:=by rw [tB];exact few
   rw [eM] at Xn;generalize hfb:w.ts.map f=fb at Xn lM;have eS:∀ b,gE f b w=vC b w (eT fb):=λb=>by unfold gE;rw [hfb]
   rw [eS];refine aO (K:=K) (b:=(eT fb).isNone) (RT.as (bL (DQ (bs:=fb.map λb=>YQ (bD b)) (iE (bA (k:=8) Xn) (by rw [tB];omega) _ (by simp) rfl (λG1 j c v d s1 hc hd hv=>?_)))) (uf fb)) (λcN G3 s3=>D1 ?_) (λcS G3 s3=>?_)
   ·rw [MZ] at hc hd;rw [MZ] at hd
    cases hx:fb[j]? with
    | none=>rw [hx] at hc;cases hc
    | some b =>rw [hx] at hc hd;cases hc;cases hd;exact tO (aA (k:=0) hv)
   ·have eN:eT fb=none:=by cases e:eT fb with | none=>rfl | some _=>rw [e] at cN;cases cN
    refine ⟨vb,_,_,_,_,_,rfl,sG.trans (s2.trans s3),?_⟩;rw [eN];exact (s2.trans s3).dat hb
   ·cases eb:eT fb with
    | none=>rw [eb] at cS;cases cS
    | some bs =>
     have YW:=ug eb;have lbs:bs.length<=8:=by rw [YW,tB] at lM;exact lM
     have lbw:bs.length=w.ts.length:=by have:=Nq List.length hfb;rw [YW,tB,tB] at this;exact this.symm
     have Xo:=s3.ld Xn;have s23:=s2.trans s3;refine dR (K:=K) (d:=.int (cY w (bs.map (·.1)))) (cU (R:=ER) (fO (aA (k:=5) (s23.dat k5)) (fO (aA (k:=6) (s23.dat k6)) (eY (ds:=(bs.map (·.1)).map D.int) (ky (iE (bA (k:=8) Xo) (by rw [tB];omega) _ (by rw [YW];simp) rfl (λG1 j c v d s1 hc hd hv=>?_))) cK))) ⟨w,bs.map (·.1),rfl,λz=>by rw [tB,lbw];exact few3 z,rfl⟩) λvl G4 s4 q4=>?_
     ·rw [YW] at hc;simp only [MZ] at hc hd
      cases hx:bs[j]? with
      | none=>rw [hx] at hc;cases hc
      | some b =>rw [hx] at hc hd;cases hc;cases hd;exact a6 (k:=0) (aA (k:=0) hv) aG rfl
     have s24:=s23.trans s4;have el:=q4.Qk;subst el;have hb4:=s24.dat hb
     have new:∀ {G5:Hp},Qh G4 G5->RE K (Cn (cC (fB 9) (cC (Cn (cC (fB 5) (cC (Vd (λxs H Q=>∃ p ys,xs=[.ref p]/\((Qp K H p ys/\∀ l,H l=none->Q (.ref l) (upd H l (.tup ys)))\/(QH K H p ys/\Q (.ref p) H))) (cC (iM (ra K (fB 8)) (XC ["one"] []) (d6 0) hU (S5 (vh K) (fB 0) (tC (.int 1)))) eI)) eI))) eI))) [some v0,some v1,some v2,some v3,some vb,some x5,some x6,some x7,some (.ref lw),some (.int (cY w (bs.map (·.1))))] G5 (.tup [.int (cY w (bs.map (·.1))),Xm w.nm bs]):=λ{G5} s5=>by
      refine bY (aD (aA (k:=9) (Dat.Qm _)) (aD (bY (aD (aA (k:=5) ((s24.trans s5).dat k5)) (aD (rE (es:=bs.map (·.2)) (iE (bA (k:=8) ((s4.trans s5).ld Xo)) (by rw [tB];omega) _ (by rw [YW];simp) rfl (λG1 j c v d s1 hc hd hv=>?_))) aP))) aP));rw [YW] at hc;simp only [MZ] at hc hd
      cases hx:bs[j]? with
      | none=>rw [hx] at hc;cases hc
      | some b =>rw [hx] at hc hd;cases hc;cases hd;exact a6 (k:=1) (aA (k:=0) hv) aG rfl
     have done:∀ {G5:Hp} {d:D},Qh G4 G5->d=bD (ix best (cY w (bs.map (·.1))) (Xm w.nm bs))->∀ v,Dat K G5 d v->∃ (vb:V) (z5 z6 z7 z8 z9:Option V),[some v0,some v1,some v2,some v3,some v,some x5,some x6,some x7,some (.ref lw),some (.int (cY w (bs.map (·.1))))]=[some v0,some v1,some v2,some v3,some vb,z5,z6,z7,z8,z9]/\Qh H2 G5/\Dat K G5 (bD (ix best (cY w (bs.map (·.1))) (Xm w.nm bs))) vb:=λ{G5 d} s5 e v hv =>
      ⟨v,_,_,_,_,_,rfl,sG.trans (s24.trans s5),e ▸ hv⟩
     cases best with
     | none =>refine g9 (b:=true) (RT.as (eR (b:=true) (c:=true) (aK (tO (K:=K) (aA (k:=4) hb4))) λc=>nomatch c) rfl) (λ_ G5 s5=>?_) (λc=>nomatch c);exact tV (K:=K) (new s5) λv G6 s6 q6=>done (s5.trans s6) rfl v q6
     | some b0 =>
      have Yv:Dat K G4 (.tup [.int b0.1,b0.2]) vb:=hb4;refine g9 (b:=decide (cY w (bs.map (·.1)) < b0.1)) (RT.as (eR (b:=false) (aK (tO (K:=K) (aA (k:=4) Yv))) λ_=>aK (d9 (p:=λi j=>decide (i < j)) (aA (k:=9) (Dat.Qm _)) (a6 (k:=0) (aA (k:=4) Yv) aG rfl))) (N9 _)) (λc G5 s5=>?_) (λc G5 s5=>iK ?_)
      ·refine tV (K:=K) (new s5) λv G6 s6 q6=>done (s5.trans s6) ?_ v q6;show _=bD (if cY w (bs.map (·.1)) < b0.1 then _ else _);rw [MW (M1 c)];rfl
      ·refine done (d:=bD (some b0)) s5 ?_ vb (s5.dat Yv);show _=bD (if cY w (bs.map (·.1)) < b0.1 then _ else _);rw [MR (Ng c)]
 ·rintro σ G ⟨vb,z5,z6,z7,z8,z9,rfl,sG,hb⟩;rw [<- ly,N7] at hb;exact ⟨_,rfl,post vb G (s12.trans sG) hb⟩
theorem gI:∀ (t:Tr) (j:Nat) (x:Tr),(a9 t)[j]?=some x->∃ r,(a9 t).drop j=a9 x++r
 | .num n,j,x,h=>by
  cases j with
  | zero=>cases h;exact ⟨[],rfl⟩
  | succ j=>simp [a9] at h
 | .arg n,j,x,h=>by
  cases j with
  | zero=>cases h;exact ⟨[],rfl⟩
  | succ j=>simp [a9] at h
 | .two o a b,j,x,h=>by
  cases j with
  | zero=>cases h;exact ⟨[],by rw [List.drop_zero,Np]⟩
  | succ j =>
   have h':(a9 a++a9 b)[j]?=some x:=by simpa [a9] using h
   show ∃ r,(a9 a++a9 b).drop j=a9 x++r;by_cases hj:j < (a9 a).length
   ·rw [Oq hj] at h';obtain ⟨r,e⟩:=gI a j x h';exact ⟨r++a9 b,by rw [OY (Og hj),e,NC]⟩
   ·rw [NQ (by omega)] at h';obtain ⟨r,e⟩:=gI b _ x h';refine ⟨r,?_⟩;rw [Pr,Pj (by omega),OG];exact e
 | .pick a b c,j,x,h=>by
  cases j with
  | zero=>cases h;exact ⟨[],by rw [List.drop_zero,Np]⟩
  | succ j =>
   have h':(a9 a++(a9 b++a9 c))[j]?=some x:=by simpa [a9] using h
   show ∃ r,(a9 a++a9 b++a9 c).drop j=a9 x++r;rw [NC];by_cases hj:j < (a9 a).length
   ·rw [Oq hj] at h';obtain ⟨r,e⟩:=gI a j x h';exact ⟨r++(a9 b++a9 c),by rw [OY (Og hj),e,NC]⟩
   ·rw [NQ (by omega)] at h';rw [Pr,Pj (l:=a9 a) (by omega),OG];generalize j - (a9 a).length=i at h' ⊢;by_cases hi:i < (a9 b).length
    ·rw [Oq hi] at h';obtain ⟨r,e⟩:=gI b i x h';exact ⟨r++a9 c,by rw [OY (Og hi),e,NC]⟩
    ·rw [NQ (by omega)] at h';obtain ⟨r,e⟩:=gI c _ x h';refine ⟨r,?_⟩;rw [Pr,Pj (by omega),OG];exact e
theorem qG (hi:i < a8 t) (h:(a9 t)[a8 t - 1 - i]?=some x) (hy:y ∈ (dI x).flatMap a9):y ∈ (a9 t).reverse.take i:=by
 obtain ⟨r,e⟩:=gI t _ x h
 have e2:(a9 t).drop (a8 t - i)=(dI x).flatMap a9++r:=by
  have:a8 t - i=a8 t - 1 - i+1:=by omega
  rw [this,<- List.drop_drop,e,gh x];rfl
 rw [List.take_reverse,List.mem_reverse,bX,e2];exact Oa _ hy
theorem DX {α:Type} {l:List α} (h:i < l.length):l.reverse[i]?=l[l.length - 1 - i]?:=List.getElem?_reverse h
noncomputable def Ao (as:List Ar) (d:D):Prop:=∃ (ps:List Pc) (t:Tr) (b:Int × D),as=[.d (toD t),.l (ps.map SI)]/\iB ps/\RI t/\aS t<=8/\a8 t<=200/\bM ps t=some b/\d=.tup [.int b.1,b.2]
variable {tb:TS}
theorem F0 {ta:TA} {g:TG} (h:ta σ H λvs H1=>∃ a xs,vs=[.ref a]/\Qp K H1 a xs/\∃ W:Nat->Nat->L2.St->Hp->Prop,(∃ m,W 0 m σ H1)/\∀ i m σ H,W i m σ H ->
   ((XT K a xs).stop i H/\En.nx σ H)\/((XT K a xs).go i H/\∃ N:L2.St->Hp->Prop,(∀ σ' H',N σ' H'->∃ m',m' < m/\W (i+1) m' σ' H')/\∀ x H',(XT K a xs).VC i H x H'->g x σ H' λσ2 H2=>tb { En with nx:=N,ct:=N,bk:=En.nx } σ2 H2)):Hg (GH K ta) g tb En σ H:=h
theorem Bo (h:iB ps):∀ p ∈ ps,ff p.pt=true:=λp hp=>(h.ok p hp).nh
theorem mH (T:Txt P w K mg) (Lv:Ok P w base k T.Ko (lZ K (me 8))) (Lu:Ok P w base k T.JH (UJ K Al)):Ok P w base (k+1) T.Iw (UJ K Ao):=by
 refine T.Iw.f.ok SG (λvs H Q E h=>?_) (λcdv A outer s H vs Q E hr h=>?_)
 ·obtain ⟨as,d,hd,⟨ps,t,b,rfl,_⟩,_⟩:=h;exact hd.length.symm
 have nd:=SG.nd;obtain ⟨as,d,hd,⟨ps,t,b,rfl,TV,Sy,U4,Yw,Yx,rfl⟩,post⟩:=h;obtain ⟨v0,v1,rfl,h0,h1⟩:=uh hd;have h0:Dat K H (toD t) v0:=h0;have h1:LD K H (ps.map SI) v1:=h1;refine ⟨_,(aC (bO (i:=2) nd rfl (Or.inl rfl) (c7 aB))
 (aC (bO (i:=3) nd rfl (Or.inl rfl) (c7 aB))
 (aC (h7 NP rfl (FR rfl T.K6 (aF (pc (D:=T.Ko) Lv hr (aF (pv 0) aB)) aB)) (a7 (i:=4) nd rfl (Or.inl rfl)) (aC (bT (ic NF NT NV eJ (pv 3) (aF (pc (D:=T.JH) Lu hr (aF (pv 4) (aF (pv 1) (aF (pv 2) (aF (pv 3) aB))))) aB)))
 (aH (bT (ic NF NT NV eJ (pv 2) (aF (pv 4) aB))))))
 (aC (bE (aN wN (aX cE (pv 3) (Eu Ct aE)) iQ (aU _)) (aH c8) aM)
 (aH (aL (aX cE (pv 3) (Eu Ct aE)))))))),?_⟩
 refine fw ⟨d8 (by decide),λld Zx=>?_⟩;refine fw ⟨d8 (by decide),λlb hlb=>?_⟩;have ndb:ld≠lb:=aQ aI hlb;have s1:Qh H (upd (upd H ld (.lst [])) lb (.lst [])):=(aV Zx _).trans (aV hlb _);have hlb0:H lb=none:=(aV Zx _).free hlb;have hd1:upd (upd H ld (.lst [])) lb (.lst []) ld=some (.lst []):=by rw [aR ndb];exact aI
 have hb1:upd (upd H ld (.lst [])) lb (.lst []) lb=some (.lst []):=aI;generalize upd (upd H ld (.lst [])) lb (.lst [])=G1 at s1 hd1 hb1 ⊢;refine eA (F0 (K:=K) (f7 (RC.use (K:=K) (lR (R:=me 8) (aD (aA (k:=0) (s1.dat h0)) aP) ⟨t,rfl,Sy,U4,Yw,rfl⟩) λlw xs G2 hlw s2 hxs dxs=>?_)));have nwd:ld≠lw:=aQ hd1 hlw;have nwb:lb≠lw:=aQ hb1 hlw;have lx:=dxs.length;rw [tB,bX] at lx;refine ⟨lw,xs,rfl,Qp.of hxs,C1 (xs:=xs) (λi σ G=>∃ (z4:Option V) (us ws:List V),σ=[some v0,some v1,some (.ref ld),some (.ref lb),z4]/\Qh H G/\G lw=some (.lst xs)/\Qf K G ((a9 t).map toD) xs/\G ld=some (.lst us)/\Qf K G (((a9 t).reverse.take i).map toD) us/\G lb=some (.lst ws)/\Qf K G (((a9 t).reverse.take i).map λx=>bD (bM ps x)) ws) ?_ (λi σ G _ ⟨_,_,_,_,_,p,_⟩=>Qp.of p) ?_ ?_⟩
 ·exact ⟨none,[],[],rfl,s1.trans s2,hxs,dxs,s2 _ _ hd1,Qf.nil,s2 _ _ hb1,Qf.nil⟩
 ·rintro i vx σ G hi hx ⟨z4,us,ws,rfl,sG,V3,dxG,W6,Ww,Zy,VY⟩;obtain ⟨dx,ex,hxd⟩:=dxG.T9 hx;rw [MZ] at ex
  cases hp:(a9 t)[xs.length - 1 - i]? with
  | none=>rw [hp] at ex;cases ex
  | some x =>
   rw [hp] at ex;cases ex;have hp':(a9 t)[a8 t - 1 - i]?=some x:=by rw [lx];exact hp
   have hxm:=Nn hp;have okx:=gz t x Sy hxm;have dpx:=(fE t x hxm).2;have hi':i < (a9 t).reverse.length:=by rw [N1,bX];omega
   have ei:(a9 t).reverse[i]?=some x:=by rw [DX (by rw [bX];omega),bX];exact hp'
   have et:(a9 t).reverse.take (i+1)=(a9 t).reverse.take i++[x]:=by rw [NR,ei];rfl
   have lus:us.length<=200:=by rw [<- Ww.length,tB,NI];omega
   have lws:ws.length<=200:=by rw [<- VY.length,tB,NI];omega
   refine iJ ?_;dsimp only;refine yD (K:=K) (d:=bD (bM ps x)) (cU (R:=Al) (fO (aA (k:=4) hxd) (eY (bA (k:=1) (sG.ld h1)) (eY (bA (k:=2) (LD.of W6 Ww)) (eY (bA (k:=3) (LD.of Zy VY)) cK)))) ⟨ps,x,bM ps,(a9 t).reverse.take i,rfl,TV,okx,by omega,by rw [NI];rw [N1,bX];omega,λy hy=>?_,λw hw y hy=>qG (by omega) hp' (og (Bo TV) hw y hy),by rw [<- jD (Bo TV)]⟩) Zy (by omega) λy G3 b3 hb3 q3=>?_
   ·have hym:y ∈ a9 t:=List.mem_reverse.mp (List.mem_of_mem_take hy);have:=(fE t y hym).2;exact ⟨gz t y Sy hym,by omega⟩
   have g3:gW K G G3:=b3.grow Zy hb3;have hd3:=b3 _ _ ndb W6;have Yp:=b3 _ _ (Nz nwb) V3;refine tS (K:=K) (d:=toD x) (aA (k:=4) (Dat.mono g3 _ hxd)) hd3 (by omega) λy4 G4 b4 WY q4=>?_;have g4:gW K G3 G4:=b4.grow hd3 WY;refine ⟨_,us++[y4],ws++[y],rfl,λa o ha=>b4 a o (aQ ha Zx) (b3 a o (aQ ha hlb0) (sG _ _ ha)),b4 _ _ (Nz nwd) Yp,Qf.mono g4 _ (Qf.mono g3 _ dxG),WY,?_,b4 _ _ (Nz ndb) hb3,?_⟩
   ·rw [et,Nl];exact Qf.append (Qf.mono g4 _ (Qf.mono g3 _ Ww)) (Qf.cons q4 Qf.nil)
   ·rw [et,Nl];exact Qf.append (Qf.mono g4 _ (Qf.mono g3 _ VY)) (Qf.cons (Dat.mono g4 _ q3) Qf.nil)
 ·rintro σ G ⟨z4,us,ws,rfl,sG,V3,dxG,W6,Ww,Zy,VY⟩
  have ea:((a9 t).reverse.take xs.length).map (λx=>bD (bM ps x))=(((dI t).flatMap a9).reverse.map λx=>bD (bM ps x))++[bD (some b)]:=by rw [<- lx,<- bX,<- N1,N7,gh,OZ,Nl,Nb,Qc,Yx]
  rw [ea] at VY;have hL:LD K G ((((dI t).flatMap a9).reverse.map λx=>bD (bM ps x))++[bD (some b)]) (.ref lb):=LD.of Zy VY;refine aO (K:=K) (b:=false) (aK (tO (rC (bA (k:=3) hL) (EB aG)))) (λc=>nomatch c) (λ_ G3 s3=>?_);exact bB (K:=K) (d:=bD (some b)) (rC (bA (k:=3) (s3.ld hL)) (EB aG)) λv G4 s4 q4=>post v G4 (sG.trans (s3.trans s4)) q4
structure lC (ps:List Pc):Prop where
 lo:1<=ps.length
 hi:ps.length<=16
 pc:∀ p ∈ ps,pF (SI p)=some true/\p.nm.length<=sizeLine
 nd:(ps.map (·.nm)).Nodup
noncomputable def EU (as:List Ar) (d:D):Prop:=∃ ps,as=[.l (ps.map SI)]/\lC ps/\d=.bl true
theorem zH (T:Txt P w K mg) (L9:Ok P w base k T.KD (QF K vQ)):Ok P w base (k+1) T.Lb (UJ K EU):=by
 refine T.Lb.f.ok VG (λvs H Q E h=>?_) (λcdv A outer s H vs Q E hr h=>?_)
 ·obtain ⟨as,d,hd,⟨ps,rfl,_⟩,_⟩:=h;exact hd.length.symm
 have nd:=VG.nd;obtain ⟨as,d,hd,⟨ps,rfl,hS,rfl⟩,post⟩:=h;obtain ⟨v0,rfl,h0⟩:=yQ hd;have h0:LD K H (ps.map SI) v0:=h0;have hlo:=hS.lo;have hhi:=hS.hi;refine ⟨_,(aC (bE (PW.pt (gq (cR (bP (aW (fC ya) rfl T.HV cO (cZ (pv 0) (cZ (gA (v:=.ty "list") rfl T.Li lj rfl) aB))) (λ_=>rfl))) (fJ (cR (lP ib ib aE (aW aT rfl T.HW bV (aF (pv 0) aB)) (bQ (v:=.int 16) rfl T.IU ⟨_,rfl⟩)))))) (aH (aL eH)) aM)
 (aC (bE (cR (bP (aW (iy rfl) rfl T.Ln kJ (aF (e8 (own:=["piece"]) (fr:=[]) (N':=["piece"]) (fN (pv 0)) rfl (by show dW ["thing"] (λx=>(aJ lW).names.lookup x) _ _ _ _=true;decide +kernel) rfl (λ_ _ _ _ _=>(a7 (i:=0) (by show List.Nodup [("piece":Str)];decide +kernel) rfl (Or.inl rfl))) (λ_ _ _ _ _=>cQ) (λ_ _ _ _ _=>(pc (D:=T.KD) L9 hr (aF (pv 0) aB)))) aB)) (λ_=>rfl))) (aH (aL eH)) aM)
 (aH (aL (dP cA (aW uk rfl T.HW bV (aF (fh (yX rfl) rfl T.MO E7 (aF (e8 (own:=["piece"]) (fr:=[]) (N':=["piece"]) (fN (pv 0)) rfl (by show dW ["thing"] (λx=>(aJ lW).names.lookup x) _ _ _ _=true;decide +kernel) rfl (λ_ _ _ _ _=>(a7 (i:=0) (by show List.Nodup [("piece":Str)];decide +kernel) rfl (Or.inl rfl))) (λ_ _ _ _ _=>cQ) (λ_ _ _ _ _=>(aX (r:=vh K) aY (pv 0) aE))) aB)) aB)) (aW aT rfl T.HW bV (aF (pv 0) aB)) (aU _)))))),?_⟩
 refine aO (K:=K) (b:=false) ?_ (λc=>nomatch c) (λ_ H1 s1=>?_)
 ·refine RT.as (eR (b:=false) (RT.as (bS (bL (cX (aA h0.lst)))) rfl) λ_=>bS (aK (jO (p:=λi j=>decide (i<=j)) (r:=λi j=>decide (i<=j)) aG (fP (bA h0)) λ_=>aG))) ?_;rw [tB,N9,M5 (show (1:Int)<=(ps.length:Int) by omega),M5 (show (ps.length:Int)<=16 by omega)];rfl
 have h0:=s1.ld h0;refine aO (K:=K) (b:=false) ?_ (λc=>nomatch c) (λ_ H2 s2=>?_)
 ·refine RT.as (bS (bL (j7 (bs:=ps.map λ_=>true) (iE (bA h0) (by rw [tB];omega) _ (by simp) rfl (λG1 j c v d s1 hc hd hv=>?_))))) ?_
  ·simp only [MZ] at hc hd
   cases hx:ps[j]? with
   | none=>rw [hx] at hc;cases hc
   | some p =>rw [hx] at hc hd;cases hc;cases hd;obtain ⟨k1,k2⟩:=hS.pc p (Nn hx);exact bF (R:=vQ) (aD (aA (k:=0) hv) aP) ⟨SI p,true,rfl,k2,k1,rfl⟩
  ·rw [List.all_map];simp
 have h0:=s2.ld h0;refine bB (K:=K) (d:=.bl true) (RE.as (iR (zS (zs:=ps.map (·.nm)) (iE (bA h0) (by rw [tB];omega) _ (by simp) rfl (λG1 j c v d s1 hc hd hv=>?_)) (by rw [tB];omega)) (fP (bA h0))) ?_) λv H' s q=>post v H' (s1.trans (s2.trans s)) q
 ·simp only [MZ] at hc hd
  cases hx:ps[j]? with
  | none=>rw [hx] at hc;cases hc
  | some p =>rw [hx] at hc hd;cases hc;cases hd;exact a6 (k:=0) (aA (k:=0) hv) aG rfl
 ·rw [(CQ _).mpr hS.nd,tB,tB];simp
noncomputable def om (as:List Ar) (d:D):Prop:=∃ ps,as=[.l (ps.map SI)]/\lC ps/\d=.Qj
theorem uX (T:Txt P w K mg) (Mq:Ok P w base k T.Lb (UJ K EU)):Ok P w base (k+1) T.JN (UJ K om):=by
 refine T.JN.f.ok UZ (λvs H Q E h=>?_) (λcdv A outer s H vs Q E hr h=>?_)
 ·obtain ⟨as,d,hd,⟨ps,rfl,_⟩,_⟩:=h;exact hd.length.symm
 have nd:=UZ.nd;obtain ⟨as,d,hd,⟨ps,rfl,hS,rfl⟩,post⟩:=h;obtain ⟨v0,rfl,h0⟩:=yQ hd;have h0:LD K H (ps.map SI) v0:=h0;refine ⟨_,(aH (bE (cR (bP (pc (D:=T.Lb) Mq hr (aF (pv 0) aB)) (λ_=>rfl))) (aH c8) aM)),?_⟩;exact g9 (b:=false) (bS (bL (cU (K:=K) (R:=EU) (eY (bA h0) cK) ⟨ps,rfl,hS,rfl⟩))) (λc=>nomatch c) (λ_ H1 s1=>post _ H1 s1 Dat.VM)
noncomputable def rZ (as:List Ar) (d:D):Prop:=∃ (ps:List Pc) (t:Tr) (b:Int × D),as=[.d (toD t),.l (ps.map SI)]/\lC ps/\iB ps/\RI t/\aS t<=8/\a8 t<=40/\bM ps t=some b/\d=.int b.1
theorem sZ (T:Txt P w K mg) (KH:Ok P w base k T.Jy (QF K xA)) (K4:Ok P w base k T.JN (UJ K om)) (J6:Ok P w base k T.Iw (UJ K Ao)):Ok P w base (k+1) T.Kv (UJ K rZ):=by
 refine T.Kv.f.ok Ux (λvs H Q E h=>?_) (λcdv A outer s H vs Q E hr h=>?_)
 ·obtain ⟨as,d,hd,⟨ps,t,b,rfl,_⟩,_⟩:=h;exact hd.length.symm
 have nd:=Ux.nd;obtain ⟨as,d,hd,⟨ps,t,b,rfl,hS,TV,Sy,U4,Yw,Yx,rfl⟩,post⟩:=h;obtain ⟨v0,v1,rfl,h0,h1⟩:=uh hd;have h0:Dat K H (toD t) v0:=h0;have h1:LD K H (ps.map SI) v1:=h1;refine ⟨_,(aC (bT (pc (D:=T.Jy) KH hr (aF (pv 0) aB)))
 (aC (bT (pc (D:=T.JN) K4 hr (aF (pv 1) aB)))
 (aH (aL (aX aY (pc (D:=T.Iw) J6 hr (aF (pv 0) (aF (pv 1) aB))) aE))))),?_⟩
 refine gC (RE.use (bF (R:=xA) (d:=.Qj) (aD (aA (K:=K) (k:=0) h0) aP) ⟨toD t,rfl,yO Sy U4 Yw,rfl⟩) λv4 H1 s1 _=>?_);refine gC (RE.use (cU (R:=om) (d:=.Qj) (eY (bA (K:=K) (k:=1) (s1.ld h1)) cK) ⟨ps,rfl,hS,rfl⟩) λv5 H2 s2 _=>?_);have s12:=s1.trans s2;exact bB (K:=K) (d:=.int b.1) (a6 (k:=0) (cU (R:=Ao) (fO (aA (k:=0) (s12.dat h0)) (eY (bA (k:=1) (s12.ld h1)) cK)) ⟨ps,t,b,rfl,TV,Sy,U4,by omega,Yx,rfl⟩) aG rfl) λv H' s q=>post v H' (s12.trans s) q
structure vM (ps:List Pc) (t:Tr):Prop where
 os:iB ps
 gs:lC ps
 ot:RI t
 dp:aS t<=8
 sz:a8 t<=40
noncomputable def qY:Pa->Nat
 | .gap _ _=>1
 | .two _ a b=>qY a+qY b
 | _=>0
noncomputable def mU:Pa->Nat
 | .slot _=>1
 | .two _ a b=>mU a+mU b
 | _=>0
theorem oP:∀ (p:Pa) (t:Tr) (f:Sx),cG p t=some f->f.2.1.length=qY p/\f.2.2.length=mU p
 | .hole i,t,f,h=>by cases h;exact ⟨rfl,rfl⟩
 | .gap i m,t,f,h=>by
  cases t with
  | num n =>
   have h':(if n<=m then some ([],[n],[]) else none:Option Sx)=some f:=h;by_cases z:n<=m
   ·rw [MW z] at h';cases h';exact ⟨rfl,rfl⟩
   ·rw [MR z] at h';cases h'
  | _=>cases h
 | .slot i,t,f,h=>by
  cases t with
  | arg n=>cases h;exact ⟨rfl,rfl⟩
  | _=>cases h
 | .num m,t,f,h=>by
  cases t with
  | num n =>
   have h':(if n=m then some ([],[],[]) else none:Option Sx)=some f:=h;by_cases z:n=m
   ·rw [MW z] at h';cases h';exact ⟨rfl,rfl⟩
   ·rw [MR z] at h';cases h'
  | _=>cases h
 | .two o a b,t,f,h=>by
  cases t with
  | two o' u v =>
   obtain ⟨_,f1,f2,e1,e2,e3⟩:=eP h;subst e3;have h1:=oP a u f1 e1;have h2:=oP b v f2 e2;refine ⟨?_,?_⟩
   ·show (f1.2.1++f2.2.1).length=qY a+qY b;rw [MQ,h1.1,h2.1]
   ·show (f1.2.2++f2.2.2).length=mU a+mU b;rw [MQ,h1.2,h2.2]
  | _=>cases h
inductive Cl where
 | n (i:Int)
 | arg (k:Nat)
 | low (k:Nat)
 | high (k:Nat)
noncomputable def Zz:Cl->D
 | .n i=>.int i
 | .arg k=>.tup [.str "arg",.int k]
 | .low k=>.tup [.str "low",.int k]
 | .high k=>.tup [.str "high",.int k]
noncomputable def Fc (g s:Nat):Cl->Bool
 | .n _=>true
 | .arg k=>decide (k < s)
 | .low k=>decide (k < g)
 | .high k=>decide (k < g)
noncomputable def jq (nums ks:List Int):Cl->Int
 | .n i=>i
 | .arg k=>ks.getD k 0
 | .low k=>nums.getD k 0 % 100
 | .high k=>nums.getD k 0 / 100
structure uc (p:Pc) (cl:List Cl):Prop where
 eq:p.cs=cl.map Zz
 ok:∀ c ∈ cl,Fc (qY p.pt) (mU p.pt) c=true
inductive V0 (R:Tr->D->List D->Prop):List Tr->List D->List (List D)->Prop
 | nil:V0 R [] [] []
 | cons {t c es ts cs Qq}:R t c es->V0 R ts cs Qq->V0 R (t::ts) (c::cs) (es::Qq)
variable {ts:List Tr}
theorem V0.len {R:Tr->D->List D->Prop} {cs:List D} {Qq:List (List D)} (h:V0 R ts cs Qq):ts.length=cs.length/\Qq.length=ts.length:=by
 induction h with
 | nil=>exact ⟨rfl,rfl⟩
 | cons _ _ ih=>exact ⟨by simp [ih.1],by simp [ih.2]⟩
noncomputable def kg (near Ys:Int) (n:Nat):List D:=(eX near Ys n).map D.int
theorem lE (near Ys:Int) (n:Nat):((kg near Ys n).length:Int)=fk n:=by unfold kg;rw [tB,gY]
noncomputable def e7 (x y z:List D):List D:=x++kg 10 11 (y++kg 8 9 z.length).length++(y++kg 8 9 z.length)++z
noncomputable def fe (xss:List (List D)) (f:Sx) (cl:List Cl):List D:=xss.flatten++cl.map λc=>D.int (jq f.2.1 f.2.2 c)
noncomputable def qm (ps:List Pc):Nat->Tr->D->List D->Prop
 | 0,_,_,_=>False
 | n+1,t,c,es=>(∃ a b d ca cb cd xa xb xd,t=.pick a b d/\c=.tup [.str "pick",.tup [ca,cb,cd]]/\qm ps n a ca xa/\qm ps n b cb xb/\qm ps n d cd xd/\es=e7 xa xb xd) \/
  (∃ p f cl cs xss,sL t=false/\p ∈ ps/\cG p.pt t=some f/\uc p cl/\c=.tup [.str p.nm,.tup cs]/\V0 (qm ps n) f.1 cs xss/\es=fe xss f cl)
theorem oU:∀ (ws:List Wy) (b x:T8),ws.foldl (gE f) b=x->x=b\/∃ w ∈ ws,∃ bs,eT (w.ts.map f)=some bs/\x=some (cY w (bs.map (·.1)),Xm w.nm bs)
 | [],b,x,h=>.inl h.symm
 | w::ws,b,x,h=>by
  rw [OF] at h;rcases oU ws _ x h with e | ⟨w',hw,r⟩
  ·unfold gE at e
   cases ea:eT (w.ts.map f) with
   | none=>rw [ea] at e;exact .inl e
   | some bs =>
    rw [ea] at e;have e:x=ix b (cY w (bs.map (·.1))) (Xm w.nm bs):=e
    have two:ix b (cY w (bs.map (·.1))) (Xm w.nm bs)=b\/ix b (cY w (bs.map (·.1))) (Xm w.nm bs)=some (cY w (bs.map (·.1)),Xm w.nm bs):=by
     unfold ix
     cases b with
     | none=>exact .inr rfl
     | some y =>
      dsimp only;split
      ·exact .inr rfl
      ·exact .inl rfl
    rcases two with z | z
    ·exact .inl (e.trans z)
    ·exact .inr ⟨w,NB,bs,ea,e.trans z⟩
  ·exact .inr ⟨w',Nj _ hw,r⟩
theorem kX:∀ {ts:List Tr} {bs:List (Int × D)},eT (ts.map f)=some bs->ts.map f=bs.map some
 | [],bs,h=>by cases h;rfl
 | t::ts,bs,h=>by
  cases e:f t with
  | none=>rw [Nb,e] at h;cases h
  | some b =>
   rw [Nb,e] at h;have h':(eT (ts.map f)).map (b::·)=some bs:=h
   cases e2:eT (ts.map f) with
   | none=>rw [e2] at h';cases h'
   | some r =>rw [e2] at h';cases h';rw [Nb,Nb,e,kX e2]
theorem yf (ih:∀ x b,aS x<=n->bM ps x=some b->∃ es,qm ps n x b.2 es/\(es.length:Int)=b.1):∀ {ts:List Tr} {bs:List (Int × D)},(∀ x ∈ ts,aS x<=n)->ts.map (bM ps)=bs.map some ->
  ∃ xss,V0 (qm ps n) ts (bs.map (·.2)) xss/\(xss.flatten.length:Int)=(bs.map (·.1)).sum
 | [],[],_,_=>⟨[],.nil,rfl⟩
 | [],b::bs,_,h=>by cases h
 | t::ts,[],_,h=>by cases h
 | t::ts,b::bs,hd,h=>by rw [Nb,Nb] at h;injection h with h1 h2;obtain ⟨es,l1,l2⟩:=ih t b (hd t NB) h1;obtain ⟨xss,r1,r2⟩:=yf ih (λx hx=>hd x (Nj _ hx)) h2;refine ⟨es::xss,.cons l1 r1,?_⟩;rw [NU,MQ,Nb,List.sum_cons];omega
theorem iV (hp:∀ p ∈ ps,ff p.pt=true/\p.nm≠"pick"/\∃ cl,uc p cl):∀ (n:Nat) (t:Tr) (b:Int × D),aS t<=n->bM ps t=some b->∃ es,qm ps n t b.2 es/\(es.length:Int)=b.1
 | 0,t,b,h,_=>by
  have:1<=aS t:=by cases t <;> simp [aS]
  omega
 | n+1,t,b,h,hb=>by
  have nh:∀ p ∈ ps,ff p.pt=true:=λp q=>(hp p q).1;rw [jD nh] at hb;rcases oU _ _ _ hb with e | ⟨w,hw,bs,ea,e⟩
  ·cases e
  injection e with e;subst e
  have d8:∀ x ∈ w.ts,aS x<=n:=λx hx=>by have:=(gQ (og nh hw x hx)).2;omega
  have em:=kX ea;obtain ⟨xss,r1,r2⟩:=yf (iV hp n) d8 em;unfold gH at hw;split at hw
  ·rename_i c;have ew:=Nf.mp hw;subst ew
   cases t with
   | pick x y z =>
    have l3:bs.length=3:=by have:=Nq List.length em;simpa [dI] using this.symm
    match bs,l3,em with
    | [b1,b2,b3],_,em =>
     have em:[bM ps x,bM ps y,bM ps z]=[some b1,some b2,some b3]:=em;injection em with m1 em;injection em with m2 em;injection em with m3 _;obtain ⟨x1,i1,j1⟩:=iV hp n x b1 (d8 x (by simp [dI])) m1;obtain ⟨x2,i2,j2⟩:=iV hp n y b2 (d8 y (by simp [dI])) m2;obtain ⟨x3,i3,j3⟩:=iV hp n z b3 (d8 z (by simp [dI])) m3;refine ⟨e7 x1 x2 x3,.inl ⟨x,y,z,b1.2,b2.2,b3.2,x1,x2,x3,rfl,rfl,i1,i2,i3,rfl⟩,?_⟩;show _=cY ⟨"pick",[],[x,y,z]⟩ [b1.1,b2.1,b3.1]
     have el:cY ⟨"pick",[],[x,y,z]⟩ [b1.1,b2.1,b3.1]=pE b2.1 b3.1+(b1.1+b2.1+b3.1):=by unfold cY nO;rw [MW rfl];simp;omega
     rw [el];unfold e7 pE;have k1:=lE 8 9 x3.length;have k2:=lE 10 11 (x2++kg 8 9 x3.length).length;rw [MQ] at k2;simp only [MQ];rw [j3] at k1;have k3:((x2.length+(kg 8 9 x3.length).length:Nat):Int)=b2.1+fk b3.1:=by omega
     rw [k3] at k2;omega
   | _=>cases c
  ·rename_i c;obtain ⟨p,h1,h2⟩:=Oz.mp hw;unfold gJ at h2
   cases ef:cG p.pt t with
   | none=>rw [ef] at h2;cases h2
   | some f =>
    rw [ef] at h2;cases h2;obtain ⟨_,hnm,cl,hcl⟩:=hp p h1;refine ⟨fe xss f cl,.inr ⟨p,f,cl,bs.map (·.2),xss,by simpa using c,h1,ef,hcl,rfl,r1,rfl⟩,?_⟩;show ((xss.flatten++cl.map _).length:Int)=cY ⟨p.nm,p.cs,f.1⟩ (bs.map (·.1));have lc:p.cs.length=cl.length:=by rw [hcl.eq,tB]
    unfold cY nO;rw [MR hnm,MQ,tB];show _=(p.cs.length:Int)+_;omega
theorem GG (t:Tr):∃ kd y r,toD t=.tup (.str kd::y::r):=by cases t <;> exact ⟨_,_,_,rfl⟩
theorem Ez {ta tb:TE} (h:ta σ H λx H1=>∃ c,x=.bl c/\if c=true then tb σ H1 Q else Q (.bl false) H1):Cj ta tb σ H Q:=h
noncomputable def oL (l0 l1 l2:Addr):HO:=.lst [.ref l0,.ref l1,.ref l2]
theorem Fg (m:Int) (t:Tr) (ht:RI t):Qs (toD t) (U6 (.num m))=(cG (.num m) t).isSome:=by
 cases t with
 | num n =>
  show Qs (.tup [.str "num",.int n]) (.tup [.str "num",.int m])=(if n=m then some _ else none:Option Sx).isSome;by_cases h:n=m
  ·rw [MW h];simp [Qs,QG,h]
  ·rw [MR h];simp [Qs,QG,h]
 | arg n=>exact rfl
 | two o a b =>have h:o="add"\/o="sub"\/o="mul"\/o="less":=ht.1;show Qs (.tup [.str o,toD a,toD b]) (.tup [.str "num",.int m])=false;unfold Qs QG Qs;rcases h with rfl | rfl | rfl | rfl <;> rfl
 | pick a b c=>exact rfl
theorem uR (T:Txt P w K mg) (KA:Ok P w base k T.Jd (kE K oL n)):Ok P w base (k+1) T.Jd (kE K oL (n+1)):=by
 refine T.Jd.f.ok U3 (λvs H Q E h=>?_) (λcdv A outer s H vs Q E hr h=>?_)
 ·obtain ⟨p,t,v0,v1,f,l0,l1,l2,a,b,c,rfl,_⟩:=h;rfl
 have nd:=U3.nd;obtain ⟨p,t,v0,v1,f,l0,l1,l2,a,b,c,rfl,UH,Sy,U4,hn,hn3,h0,h1,hf,f0,f1,f2,UL,la,lb,lc,post⟩:=h;refine ⟨_,(aC (bE (aN cA (aX aY (pv 0) aE) bC (aU _)) (aC (bT (ic NF NT NV eJ (aX cE (pv 2) aE) (aF (pv 1) aB)))
 (aH (aL eH))) aM)
 (aC (bE (aN cA (aX aY (pv 0) aE) bC (aU _)) (aC (bT (ic NF NT NV eJ (aX cE (pv 2) aE) (aF (aX aY (pv 1) aE) aB)))
 (aH (aL (hZ (dP cA (aX aY (pv 1) aE) bC (aU _)) (gO (dP ib (aX aY (pv 1) aE) (aX aY (pv 0) aE) (aU _))))))) aM)
 (aC (bE (aN cA (aX aY (pv 0) aE) bC (aU _)) (aC (bT (ic NF NT NV eJ (aX cE (pv 2) aE) (aF (aX aY (pv 1) aE) aB)))
 (aH (aL (dP cA (aX aY (pv 1) aE) bC (aU _))))) aM)
 (aC (bE (aN cA (aX aY (pv 0) aE) bC (aU _)) (aH (aL (dP (BA hr) (pv 1) (pv 0) (aU _)))) aM)
 (aH (aL (hZ (dP cA (aX aY (pv 1) aE) (aX aY (pv 0) aE) (aU _)) (hZ (pc (D:=T.Jd) KA hr (aF (aX aY (pv 0) aE) (aF (aX aY (pv 1) aE) (aF (pv 2) aB)))) (gO (pc (D:=T.Jd) KA hr (aF (aX aY (pv 0) aE) (aF (aX aY (pv 1) aE) (aF (pv 2) aB))))))))))))),?_⟩
 obtain ⟨kd,y1,r,ek⟩:=GG t;obtain ⟨ZA,r',ek',hnum,harg⟩:=A7 t Sy
 have ekk:ZA=kd:=by rw [ek] at ek';injection ek' with z;injection z with z _;injection z with z;exact z.symm
 subst ekk;have Wr:Dat K H (.tup (.str ZA::y1::r)) v1:=by rw [<- ek];exact h1
 have hf':∀ {G:Hp},Ua l0 l1 l2 H G->G f=some (oL l0 l1 l2):=λbb=>bb _ _ f0 f1 f2 hf;have p1:=BO (n+1);have p2:2 ^ (n+1)=2 * 2 ^ n:=by rw [PF,Nat.mul_comm]
 cases p with
 | hole i =>have h0:Dat K H (.tup [.str "hole",.int i]) v0:=h0;refine aO (K:=K) (b:=true) (RT.as (aK (bI (a6 (k:=0) (aA h0) aG rfl) aZ)) (M5 rfl)) (λ_ H1 s1=>?_) (λc=>nomatch c);refine eA ⟨_,rfl,f,_,0,_,rfl,rfl,Qp.of (show H1 f=some (.lst [.ref l0,.ref l1,.ref l2]) from s1 _ _ hf),at0,.inl ⟨rfl,_,Qp.of (s1 _ _ UL.h0)⟩,_,rfl,?_⟩;have Yy:=UL.same s1;refine ⟨l0,a,v1,rfl,rfl,Yy.h0,dH (by omega),?_⟩;obtain ⟨t5,b5⟩:=Yy.p0 (v:=v1);refine post _ [v1] [] [] (s1.Sz.trans b5) t5 (by simpa using p1) (by simp) (by simp) λfd e=>?_;cases e;exact ⟨Qf.cons (Dat.mono (b5.grow Yy t5) _ (s1.dat h1)) Qf.nil,Qf.nil,Qf.nil⟩
 | gap i m =>
  have h0:Dat K H (.tup [.str "gap",.int i,.int m]) v0:=h0;refine aO (K:=K) (b:=false) (RT.as (aK (bI (a6 (k:=0) (aA h0) aG rfl) aZ)) (MX (by decide +kernel))) (λc=>nomatch c) (λ_ H1 s1=>?_);have h0:=s1.dat h0;refine aO (K:=K) (b:=true) (RT.as (aK (bI (a6 (k:=0) (aA h0) aG rfl) aZ)) (M5 rfl)) (λ_ H2 s2=>?_) (λc=>nomatch c);have h0:=s2.dat h0;have s12:=s1.trans s2;refine eA ⟨_,rfl,f,_,1,_,rfl,rfl,Qp.of (show H2 f=some (.lst [.ref l0,.ref l1,.ref l2]) from s12 _ _ hf),Z4,.inl ⟨rfl,_,Qp.of (s12 _ _ UL.h1)⟩,?_⟩;refine f7 (RE.use (K:=K) (d:=y1) (a6 (k:=1) (aA (s12.dat Wr)) aG rfl) λy H4 s4 q4=>?_);have RJ:=s12.trans s4;have S7:=UL.same RJ;refine ⟨l1,b,y,rfl,rfl,S7.h1,dH (by omega),?_⟩;obtain ⟨t5,b5⟩:=S7.p1 (v:=y);have g5:=b5.grow (K:=K) S7 t5;dsimp only;by_cases hnn:∃ nn,t=.num nn
  ·obtain ⟨nn,rfl⟩:=hnn;have h1:Dat K H (.tup [.str "num",.int nn]) v1:=h1
   have ey:y1=.int nn:=by have z:toD (.num nn)=.tup [.str "num",.int nn]:=rfl;rw [z] at ek;injection ek with ek;injection ek with _ ek;injection ek with ek _;exact ek.symm
   subst ey;have h5:=Dat.mono g5 _ (RJ.dat h1);refine bB (K:=K) (d:=.bl (decide (nn<=m))) (RE.as (eF (b:=true) (RE.as (bI (a6 (k:=0) (aA h5) aG rfl) aZ) (Nq D.bl (M5 rfl))) λ_=>d9 (p:=λi j=>decide (i<=j)) (a6 (k:=1) (aA h5) aG rfl) (a6 (k:=2) (aA (Dat.mono g5 _ (s4.dat h0))) aG rfl)) rfl) λv H' s qq=>?_;rw [qq.Tp]
   have pz:=post _ [] [y] [] ((RJ.Sz.trans b5).trans s.Sz) (t5.same s) (by simp) (by simpa using p1) (by simp) λfd z=>by
    have z':(if nn<=m then some ([],[nn],[]) else none:Option Sx)=some fd:=z;by_cases hm:nn<=m
    ·rw [MW hm] at z';cases z';exact ⟨Qf.nil,Qf.cons (s.dat (Dat.mono g5 _ q4)) Qf.nil,Qf.nil⟩
    ·rw [MR hm] at z';cases z'
   have e:(cG (.gap i m) (.num nn)).isSome=decide (nn<=m):=by
    show (if nn<=m then some _ else none:Option Sx).isSome=_;by_cases hm:nn<=m
    ·rw [MW hm,M5 hm];rfl
    ·rw [MR hm,MX hm];rfl
   rw [e] at pz;exact pz
  ·have e:=uF (i:=i) (m:=m) λn z=>hnn ⟨n,z⟩;refine bB (K:=K) (d:=.bl false) (RE.as (eF (b:=false) (c:=true) (RE.as (bI (a6 (k:=0) (aA (Dat.mono g5 _ (RJ.dat Wr))) aG rfl) aZ) (Nq D.bl (MX (λz=>hnn (hnum.mp z))))) λc=>nomatch c) rfl) λv H' s qq=>?_;rw [qq.Tp];have pz:=post _ [] [y] [] ((RJ.Sz.trans b5).trans s.Sz) (t5.same s) (by simp) (by simpa using p1) (by simp) λfd z=>by rw [e] at z;cases z
   rw [e] at pz;exact pz
 | slot i =>
  have h0:Dat K H (.tup [.str "slot",.int i]) v0:=h0;refine aO (K:=K) (b:=false) (RT.as (aK (bI (a6 (k:=0) (aA h0) aG rfl) aZ)) (MX (by decide +kernel))) (λc=>nomatch c) (λ_ H1 s1=>?_);have h0:=s1.dat h0;refine aO (K:=K) (b:=false) (RT.as (aK (bI (a6 (k:=0) (aA h0) aG rfl) aZ)) (MX (by decide +kernel))) (λc=>nomatch c) (λ_ H2 s2=>?_);have h0:=s2.dat h0;refine aO (K:=K) (b:=true) (RT.as (aK (bI (a6 (k:=0) (aA h0) aG rfl) aZ)) (M5 rfl)) (λ_ H3 s3=>?_) (λc=>nomatch c);have QV:=s1.trans (s2.trans s3);refine eA ⟨_,rfl,f,_,2,_,rfl,rfl,Qp.of (show H3 f=some (.lst [.ref l0,.ref l1,.ref l2]) from QV _ _ hf),at2,.inl ⟨rfl,_,Qp.of (QV _ _ UL.h2)⟩,?_⟩;refine f7 (RE.use (K:=K) (d:=y1) (a6 (k:=1) (aA (QV.dat Wr)) aG rfl) λy H4 s4 q4=>?_);have RJ:=QV.trans s4;have S7:=UL.same RJ;refine ⟨l2,c,y,rfl,rfl,S7.h2,dH (by omega),?_⟩;obtain ⟨t5,b5⟩:=S7.p2 (v:=y);have g5:=b5.grow (K:=K) S7 t5;dsimp only;refine bB (K:=K) (d:=.bl (decide (ZA="arg"))) (bI (a6 (k:=0) (aA (Dat.mono g5 _ (RJ.dat Wr))) aG rfl) aZ) λv H' s qq=>?_;rw [qq.Tp]
  have pz:=post _ [] [] [y] ((RJ.Sz.trans b5).trans s.Sz) (t5.same s) (by simp) (by simp) (by simpa using p1) λfd z=>by
   cases t with
   | arg nn =>
    cases z
    have ey:y1=.int nn:=by have z:toD (.arg nn)=.tup [.str "arg",.int nn]:=rfl;rw [z] at ek;injection ek with ek;injection ek with _ ek;injection ek with ek _;exact ek.symm
    subst ey;exact ⟨Qf.nil,Qf.nil,Qf.cons (s.dat (Dat.mono g5 _ q4)) Qf.nil⟩
   | _=>cases z
  by_cases ha:∃ n,t=.arg n
  ·rw [M5 (harg.mpr ha)];obtain ⟨nn,rfl⟩:=ha;exact pz
  ·rw [MX (λz=>ha (harg.mp z))];rw [rO λn z=>ha ⟨n,z⟩] at pz;exact pz
 | num m =>
  have h0:Dat K H (.tup [.str "num",.int m]) v0:=h0;refine aO (K:=K) (b:=false) (RT.as (aK (bI (a6 (k:=0) (aA h0) aG rfl) aZ)) (MX (by decide +kernel))) (λc=>nomatch c) (λ_ H1 s1=>?_);have h0:=s1.dat h0;refine aO (K:=K) (b:=false) (RT.as (aK (bI (a6 (k:=0) (aA h0) aG rfl) aZ)) (MX (by decide +kernel))) (λc=>nomatch c) (λ_ H2 s2=>?_);have h0:=s2.dat h0;refine aO (K:=K) (b:=false) (RT.as (aK (bI (a6 (k:=0) (aA h0) aG rfl) aZ)) (MX (by decide +kernel))) (λc=>nomatch c) (λ_ H3 s3=>?_);have h0:=s3.dat h0;refine aO (K:=K) (b:=true) (RT.as (aK (bI (a6 (k:=0) (aA h0) aG rfl) aZ)) (M5 rfl)) (λ_ H4 s4=>?_) (λc=>nomatch c);have RJ:=s1.trans (s2.trans (s3.trans s4));refine ⟨_,rfl,_,rfl,toD t,U6 (.num m),RJ.dat h1,s4.dat h0,gF t,by unfold U6;simp [Rr,QB],by rw [hV];omega,?_⟩;show Q (.bl (Qs (toD t) (U6 (.num m)))) _;rw [Fg m t Sy]
  exact post _ [] [] [] RJ.Sz (UL.same RJ).nil (by simp) (by simp) (by simp) λfd z=>by
   cases t with
   | num nn =>
    have z':(if nn=m then some ([],[],[]) else none:Option Sx)=some fd:=z;by_cases hm:nn=m
    ·rw [MW hm] at z';cases z';exact ⟨Qf.nil,Qf.nil,Qf.nil⟩
    ·rw [MR hm] at z';cases z'
   | _=>cases z
 | two o pa pb =>
  have h0:Dat K H (.tup [.str o,U6 pa,U6 pb]) v0:=h0;have ho:Xl o:=UH.1;refine aO (K:=K) (b:=false) (RT.as (aK (bI (a6 (k:=0) (aA h0) aG rfl) aZ)) (MX (by intro z;subst z;exact absurd ho (by decide +kernel)))) (λc=>nomatch c) (λ_ H1 s1=>?_);have h0:=s1.dat h0;refine aO (K:=K) (b:=false) (RT.as (aK (bI (a6 (k:=0) (aA h0) aG rfl) aZ)) (MX (by intro z;subst z;exact absurd ho (by decide +kernel)))) (λc=>nomatch c) (λ_ H2 s2=>?_);have h0:=s2.dat h0;refine aO (K:=K) (b:=false) (RT.as (aK (bI (a6 (k:=0) (aA h0) aG rfl) aZ)) (MX (by intro z;subst z;exact absurd ho (by decide +kernel)))) (λc=>nomatch c) (λ_ H3 s3=>?_);have h0:=s3.dat h0;refine aO (K:=K) (b:=false) (RT.as (aK (bI (a6 (k:=0) (aA h0) aG rfl) aZ)) (MX (by intro z;subst z;exact absurd ho (by decide +kernel)))) (λc=>nomatch c) (λ_ H4 s4=>?_);have h0:=s4.dat h0;have RJ:=s1.trans (s2.trans (s3.trans s4));refine jr (Ez (RE.use (K:=K) (d:=.bl (decide (ZA=o))) (bI (a6 (k:=0) (aA (RJ.dat Wr)) aG rfl) (a6 (k:=0) (aA h0) aG rfl)) λvb G sG qb=>⟨_,qb.Tp,?_⟩));have s1G:=RJ.trans sG;by_cases hk:ZA=o
  ·rw [M5 hk];refine mx ?_;obtain ⟨x,y,rfl⟩:=uG ho ek hk;have h1:Dat K H (.tup [.str o,toD x,toD y]) v1:=h1;have dpa:eG pa<=n:=by simp only [eG] at hn;omega
   have dpb:eG pb<=n:=by simp only [eG] at hn;omega
   have dpx:aS x<=8:=by simp only [aS] at U4;omega
   have dpy:aS y<=8:=by simp only [aS] at U4;omega
   refine Ez (kQ (f7 (RE.use (K:=K) (d:=U6 pa) (a6 (k:=1) (aA (sG.dat h0)) aG rfl) λw0 H5 s5 q5=>?_)));refine f7 (RE.use (K:=K) (d:=toD x) (a6 (k:=1) (aA ((s1G.trans s5).dat h1)) aG rfl) λw1 H6 s6 q6=>?_);have VO:=s1G.trans (s5.trans s6);have W8:=UL.same VO;refine ⟨_,rfl,pa,x,w0,w1,f,l0,l1,l2,a,b,c,rfl,UH.2.1,Sy.2.1,dpx,dpa,by omega,s6.dat q5,q6,VO _ _ hf,f0,f1,f2,W8,by omega,by omega,by omega,λH7 a1 Yr c1 Zp Wb ka kb kc d7=>?_⟩;refine ⟨_,rfl,?_⟩;have Zq:gW K H6 H7:=Zp.grow W8 Wb;have Wc:Ua l0 l1 l2 H H7:=VO.Sz.trans Zp
   cases WG:cG pa x with
   | none =>
    refine mw ?_;have pz:=post H7 a1 Yr c1 Wc Wb (Nv ka (NZ (by decide) (by omega))) (Nv kb (NZ (by decide) (by omega))) (Nv kc (NZ (by decide) (by omega))) λfd z=>by rw [iG WG] at z;cases z
    rw [iG WG] at pz;exact pz
   | some fa =>
    refine mx ?_;obtain ⟨da,db,dc⟩:=d7 fa WG;refine kQ (f7 (RE.use (K:=K) (d:=U6 pb) (a6 (k:=2) (aA (Dat.mono Zq _ ((sG.trans (s5.trans s6)).dat h0))) aG rfl) λw2 H8 s8 q8=>?_));refine f7 (RE.use (K:=K) (d:=toD y) (a6 (k:=2) (aA (s8.dat (Dat.mono Zq _ (VO.dat h1)))) aG rfl) λw3 H9 s9 q9=>?_);have WH:=s8.trans s9;have W9:=Wb.same WH;refine ⟨_,rfl,pb,y,w2,w3,f,l0,l1,l2,a++a1,b++Yr,c++c1,rfl,UH.2.2,Sy.2.2,dpy,dpb,by omega,s9.dat q8,q9,WH _ _ (hf' Wc),f0,f1,f2,W9,by rw [MQ];omega,by rw [MQ];omega,by rw [MQ];omega,λH10 a2 b2' c2 Xa Vq ma mb mc d10=>?_⟩;have g:=Xa.grow (K:=K) W9 Vq;rw [NC,NC,NC] at Vq
    have pz:=post H10 (a1++a2) (Yr++b2') (c1++c2) (Wc.trans (WH.Sz.trans Xa)) Vq (mN ka ma) (mN kb mb) (mN kc mc) λfd z=>by
     obtain ⟨_,f',g',e1,e2,e3⟩:=eP z;rw [WG] at e1;cases e1;obtain ⟨da2,db2,dc2⟩:=d10 g' e2;subst e3;refine ⟨?_,?_,?_⟩
     ·show Qf K H10 ((fa.1++g'.1).map toD) _;rw [Nl];exact Qf.append (Qf.mono g _ (WH.Qu da)) da2
     ·show Qf K H10 ((fa.2.1++g'.2.1).map D.int) _;rw [Nl];exact Qf.append (Qf.mono g _ (WH.Qu db)) db2
     ·show Qf K H10 ((fa.2.2++g'.2.2).map D.int) _;rw [Nl];exact Qf.append (Qf.mono g _ (WH.Qu dc)) dc2
    rw [oR WG] at pz;exact pz
  ·rw [MX hk];refine mw ?_;have e:=uD (a:=pa) (b:=pb) ho ek hk;have pz:=post _ [] [] [] s1G.Sz (UL.same s1G).nil (by simp) (by simp) (by simp) λfd z=>by rw [e] at z;cases z
   rw [e] at pz;exact pz
noncomputable def xB (ds:List D) (d:D):Prop:=∃ m,ds=[.int m]/\d=.int (fk m)
theorem sT (T:Txt P w K mg)  : Ok P w base (k+1) T.J3 (QF K xB):=by
 refine T.J3.f.ok UD (λvs H Q E h=>?_) (λcdv A outer s H vs Q E hr h=>?_)
 ·obtain ⟨ds,d,hd,⟨m,rfl,rfl⟩,_⟩:=h;exact hd.length.symm
 have nd:=UD.nd;obtain ⟨ds,d,hd,⟨m,rfl,rfl⟩,post⟩:=h;obtain ⟨v0,rfl,h0⟩:=ia hd;refine ⟨_,(aH (aL (g7 (aN ib (pv 0) aE (aU _)) aE aE))),?_⟩;refine bB (K:=K) (d:=.int (fk m)) (kx (b:=decide (m<=9)) (aK (d9 (p:=λi j=>decide (i<=j)) (aA h0) aG)) (λc=>RE.as aG ?_) (λc=>RE.as aG ?_)) post
 ·unfold fk;rw [MW (M1 c)]
 ·unfold fk;rw [MR (Ng c)]
variable {ns:List Int}
theorem sQ {k:Nat} (h:k < ns.length):(ns.map D.int)[k]?=some (.int (ns.getD k 0)):=by rw [MZ,Nt,MT h];rfl
structure Xc (F G:Hp) (f l0 l1 l2:Addr):Prop where
 s:Qh F G
 hf:G f=some (oL l0 l1 l2)
 n0:f≠l0
 n1:f≠l1
 n2:f≠l2
 UL:Vy l0 l1 l2 G [] [] []
 f0:F l0=none
 f1:F l1=none
 f2:F l2=none
variable {F G':Hp} {l0 l1 l2:Addr}
theorem Xc.mono {f:Addr} (h:Xc F G f l0 l1 l2) (s:Qh G G'):Xc F G' f l0 l1 l2:=⟨h.s.trans s,s _ _ h.hf,h.n0,h.n1,h.n2,h.UL.same s,h.f0,h.f1,h.f2⟩
theorem F1 (q:∀ f l0 l1 l2 G,Xc F G f l0 l1 l2->Q (.ref f) G):vE (cC (vE eI) (cC (vE eI) (cC (vE eI) eI))) σ F Q:=by
 refine ⟨d8 (by decide),λl0 Vx=>⟨d8 (by decide),λl1 hl1=>⟨d8 (by decide),λl2 hl2=>⟨d8 (by simp),λf hf=>?_⟩⟩⟩⟩;have WM:l0≠l1:=aQ aI hl1;have X0:l0≠l2:=aQ (by rw [aR WM];exact aI) hl2;have X3:l1≠l2:=aQ aI hl2;have nf0:l0≠f:=aQ (by rw [aR X0,aR WM];exact aI) hf;have nf1:l1≠f:=aQ (by rw [aR X3];exact aI) hf;have nf2:l2≠f:=aQ aI hf;refine q f l0 l1 l2 _ ⟨(aV Vx _).trans ((aV hl1 _).trans ((aV hl2 _).trans (aV hf _))),aI,Nz nf0,Nz nf1,Nz nf2,⟨?_,?_,?_,WM,X0,X3⟩,Vx,?_,?_⟩
 ·rw [aR nf0,aR X0,aR WM];exact aI
 ·rw [aR nf1,aR X3];exact aI
 ·rw [aR nf2];exact aI
 ·rw [aR (Nz WM)] at hl1;exact hl1
 ·rw [aR (Nz X3),aR (Nz X0)] at hl2;exact hl2
structure Gr (K:W.Frag) (F G:Hp) (f l0 l1 l2:Addr) (fd:Sx):Prop where
 hf:G f=some (.lst [.ref l0,.ref l1,.ref l2])
 h0:LD K G (fd.1.map toD) (.ref l0)
 h1:LD K G (fd.2.1.map D.int) (.ref l1)
 h2:LD K G (fd.2.2.map D.int) (.ref l2)
theorem GX {tp tt:TE} {f:Addr} {p:Pa} (N:Xc F G f l0 l1 l2) (UH:wB p) (Sy:RI t) (U4:aS t<=8) (dpp:eG p<=3) (hp:RE K tp σ G (U6 p)) (ht:RE K tt σ G (toD t))
  (q:∀ G',Qh F G'->(∀ fd,cG p t=some fd->Gr K F G' f l0 l1 l2 fd)->Q (.bl (cG p t).isSome) G') (hv:σ[j]?=some (some (.ref f)):=by rfl):jV (kE K oL 3) [] E (cC tp (cC tt (cC (fB j) eI))) σ G Q:=by
 refine kQ (f7 (hp.use λw0 G1 s1 q1=>f7 ((ht.mono s1).use λw1 G2 s2 q2=>?_)));have N2:=N.mono (s1.trans s2);refine ⟨_,hv,p,t,w0,w1,f,l0,l1,l2,[],[],[],rfl,UH,Sy,U4,dpp,by decide,s2.dat q1,q2,N2.hf,N2.n0,N2.n1,N2.n2,N2.UL,by decide,by decide,by decide,λG3 a' b' c' bb Wd _ _ _ dd=>?_⟩;refine q G3 (λx o hx=>bb x o (aQ hx N2.f0) (aQ hx N2.f1) (aQ hx N2.f2) (N2.s _ _ hx)) λfd e=>?_;obtain ⟨d0,d1,d2⟩:=dd fd e;exact ⟨bb _ _ N2.n0 N2.n1 N2.n2 N2.hf,LD.of Wd.h0 d0,LD.of Wd.h1 d1,LD.of Wd.h2 d2⟩
variable {es:List D}
theorem G8 {tb:TE} {k:Nat} {v:Nat} {f:Addr} {us:List V} (hf:H f=some (.lst us)) (hl:LD K H es (.ref l)) (h2:RE K tb σ H (.int (v:Nat))) (e:us[v]?=some (.ref l)) (hv:σ[k]?=some (some (.ref f)):=by rfl):RL K (S5 (BR K) (fB k) tb) σ H es:=λH1 s Q q =>
 ⟨_,hv,h2 H1 s _ λw H3 s3 q3=>⟨f,us,v,.ref l,rfl,q3.Qk,Qp.of ((s.trans s3) _ _ hf),i7 e,q _ _ s3 ((s.trans s3).ld hl)⟩⟩
variable {ds:List D}
theorem B3 {k:Nat} (hl:H l=some (.lst ys)) (hd:Qf K H ds ys) (n1:QB ds=true) (dp:Ql ds<=20) (hv:σ[k]?=some (some (.ref l)):=by rfl):RE K (S5 (FX K true) (fB k) (vE eI)) σ H (.bl (!QG ds [])):=λH1 s Q q =>
 ⟨_,hv,d8 (by decide),λp hp=>by
  have sp:=aV hp (.lst []);exact ⟨l,p,ys,[],ds,[],rfl,rfl,Qp.of (sp _ _ (s _ _ hl)),Qp.of aI,sp.Qu (s.Qu hd),Qf.nil,n1,rfl,dp,q _ _ sp (Dat.To _)⟩⟩
noncomputable def iO (f:Tr->T8) (w:Wy):Option Int:=(eT (w.ts.map f)).map λbs=>cY w (bs.map (·.1))
theorem zt {w:Wy} {bs:List (Int × D)} (h:eT (w.ts.map f)=some bs) (hn:w.nm≠"pick"):iO f w=some ((w.cs.length:Int)+(bs.map (·.1)).sum):=by unfold iO;rw [h,OV];unfold cY nO;rw [MR hn]
theorem zr {w:Wy} (h:eT (w.ts.map f)=none):iO f w=none:=by unfold iO;rw [h,Option.map_none]
noncomputable def oh (L:List Int):T8->Prop
 | none=>L=[]
 | some x=>x.1 ∈ L/\∀ m ∈ L,x.1<=m
theorem Ci {L:List Int} {b:T8} (w:Wy) (h:oh L b):oh (L++(iO f w).toList) (gE f b w):=by
 unfold gE iO
 cases e:eT (w.ts.map f) with
 | none=>show oh (L++[]) b;rw [Np];exact h
 | some bs =>
  have h2:vC b w (some bs)=ix b (cY w (bs.map (·.1))) (Xm w.nm bs):=rfl;rw [h2,OV,Option.toList_some];generalize cY w (bs.map (·.1))=n;unfold ix
  cases b with
  | none =>have h:L=[]:=h;subst h;exact ⟨Nf.mpr rfl,λm hm=>Int.le_of_eq (Nf.mp hm).symm⟩
  | some x =>
   dsimp only;have h:x.1 ∈ L/\∀ m ∈ L,x.1<=m:=h;split
   ·rename_i lt;refine ⟨NG _ (Nf.mpr rfl),λm hm=>?_⟩;rcases Nh.mp hm with hm | hm
    ·have:=h.2 m hm;show n<=m;omega
    ·exact Int.le_of_eq (Nf.mp hm).symm
   ·rename_i ge;refine ⟨Oa _ h.1,λm hm=>?_⟩;rcases Nh.mp hm with hm | hm
    ·exact h.2 m hm
    ·rw [Nf.mp hm];omega
theorem uE {f:Tr->T8}:∀ (ws:List Wy) (L:List Int) (b:T8),oh L b->oh (L++ws.filterMap (iO f)) (ws.foldl (gE f) b)
 | [],L,b,h=>by rw [P7,Np];exact h
 | w::ws,L,b,h=>by
  have ih:=uE (f:=f) ws _ _ (Ci (f:=f) w h);rw [OF];rw [NC] at ih
  have e:(w::ws).filterMap (iO f)=(iO f w).toList++ws.filterMap (iO f):=by rw [Ou];cases iO f w <;> rfl
  rw [e];exact ih
noncomputable def WN (b:T8):Option Int:=b.map (·.1)
theorem r6:∀ fb:List T8,(fb.map WN).any Option.isNone=(eT fb).isNone
 | []=>rfl
 | none::r=>rfl
 | some b::r=>by have ih:=r6 r;rw [Nb,Oi,ih];show (false || _)=((eT r).map (b::·)).isNone;cases eT r <;> rfl
theorem mh:∀ {fb:List T8} {bs:List (Int × D)},eT fb=some bs->(fb.map WN).map Wu=(bs.map (·.1)).map D.int
 | [],bs,h=>by cases h;rfl
 | none::r,bs,h=>by cases h
 | some b::r,bs,h=>by
  have h':(eT r).map (b::·)=some bs:=h
  cases e:eT r with
  | none=>rw [e] at h';cases h'
  | some q =>rw [e] at h';cases h';have ih:=mh e;rw [Nb,Nb,Nb,Nb,ih];rfl
theorem vV (hp:∀ p ∈ ps,ff p.pt=true) {a b c:Tr}:bM ps (.pick a b c)=vC none ⟨"pick",[],[a,b,c]⟩ (eT [bM ps a,bM ps b,bM ps c]):=by rw [jD hp];unfold kI;rw [qi,OF,List.foldl_nil];rfl
theorem Bz (w:Wy) (bs:List (Int × D)):Wu (WN (vC none w (some bs)))=.int (cY w (bs.map (·.1))):=rfl
theorem zu (a b c:Tr) (x y z:Int × D):cY ⟨"pick",[],[a,b,c]⟩ ([x,y,z].map (·.1))=x.1+fk (y.1+fk z.1)+(y.1+fk z.1)+z.1:=by unfold cY nO;rw [MW rfl];simp;unfold pE;omega
noncomputable def gu (n:Nat) (as:List Ar) (d:D):Prop:=∃ (ps:List Pc) (t:Tr),as=[.d (toD t),.l (ps.map SI)]/\iB ps/\RI t/\aS t<=n/\n<=8/\d=Wu (WN (bM ps t))
theorem zA (as:List Ar) (d:D):¬ gu 0 as d:=λ⟨ps,t,_,_,_,h,_⟩=>by
 have:1<=aS t:=by cases t <;> simp [aS]
 omega
theorem oM (ns:List Int):QG (ns.map D.int) []=ns.isEmpty:=by cases ns with | nil=>exact eO | cons n ns=>exact eK _ _
theorem qT:∀ l:List Int,Ql (l.map D.int)<=1
 | []=>by simp [Ql]
 | n::ns=>by have:=qT ns;simp only [Nb,Ql,fD];omega
theorem qy (T:Txt P w K mg) (IQ:Ok P w base k T.HY (UJ K (gu n))) (Lj:Ok P w base k T.J3 (QF K xB)) (KA:Ok P w base k T.Jd (kE K oL 3)):Ok P w base (k+1) T.HY (UJ K (gu (n+1))):=by
 refine T.HY.f.ok T6 (λvs H Q E h=>?_) (λcdv A outer s H vs Q E hr h=>?_)
 ·obtain ⟨as,d,hd,⟨ps,t,rfl,_⟩,_⟩:=h;exact hd.length.symm
 have nd:=T6.nd;obtain ⟨as,d,hd,⟨ps,t,rfl,TV,Sy,U4,n8,rfl⟩,post⟩:=h;obtain ⟨v0,v1,rfl,h0,h1⟩:=uh hd;have h0:Dat K H (toD t) v0:=h0;have h1:LD K H (ps.map SI) v1:=h1;refine ⟨_,(aC (bE (aN cA (aX aY (pv 0) aE) bC (aU _)) (aC (gP (i:=2) (own:=["_law_one"]) (fr:=[1]) (N':=["_law_one","_law_some"]) (h6 (i0 pX (pv 0) (iH aE) nW)) rfl (by show dW ["_law_tree_here","_law_some","_law_three","_law_last","_law_lengths","_law_piece","_law_found","_law_holes"] (λx=>(aJ ij).names.lookup x) _ _ _ _=true;decide +kernel) rfl (λ_ _ _ _ _=>(a7 (i:=0) (by show List.Nodup [("_law_one":Str),("_law_some":Str)];decide +kernel) rfl (Or.inl rfl))) (λ_ _ _ _ _=>cQ) (λ_ _ _ _ _=>(pc (D:=T.HY) IQ hr (aF (pv 0) (aF (pv 1) aB)))) nd rfl rfl rfl)
 (aC (bE (aN ir iQ (pv 2) (by with_unfolding_all rfl)) (aH (aL iQ)) aM)
 (aC (bO (i:=3) nd rfl (Or.inl rfl) (bK cJ (aX cE (pv 2) aE) (pc (D:=T.J3) Lj hr (aF (aX cE (pv 2) aE) aB))))
 (aH (aL (bK cJ (bK cJ (bK cJ (aX cE (pv 2) aE) (pc (D:=T.J3) Lj hr (aF (pv 3) aB))) (pv 3)) (aX cE (pv 2) aE))))))) aM)
 (aC (bO (i:=4) nd rfl (Or.inl rfl) (c7 aB))
 (aC (h7 NP rfl (fN (pv 1)) (a7 (i:=5) nd rfl (Or.inl rfl)) (aC (bO (i:=6) nd rfl (Or.inl rfl) (c7 (aF (c7 aB) (aF (c7 aB) (aF (c7 aB) aB)))))
 (aH (bE (bP (pc (D:=T.Jd) KA hr (aF (aX aY (pv 5) aE) (aF (pv 0) (aF (pv 6) aB)))) (λ_=>rfl)) (aC (gP (i:=7) (own:=["_law_one"]) (fr:=[1]) (N':=["_law_one","_law_some"]) (fN (aX cE (pv 6) aE)) rfl (by show dW ["_law_tree_here","_law_some","_law_three","_law_last","_law_lengths","_law_piece","_law_found","_law_holes"] (λx=>(aJ ij).names.lookup x) _ _ _ _=true;decide +kernel) rfl (λ_ _ _ _ _=>(a7 (i:=0) (by show List.Nodup [("_law_one":Str),("_law_some":Str)];decide +kernel) rfl (Or.inl rfl))) (λ_ _ _ _ _=>cQ) (λ_ _ _ _ _=>(pc (D:=T.HY) IQ hr (aF (pv 0) (aF (pv 1) aB)))) nd rfl rfl rfl)
 (aH (bE (aN lN iQ (pv 7) (by with_unfolding_all rfl)) (aH (bT (ic NF NT NV eJ (pv 4) (aF (bK cJ (aW aT rfl T.HW bV (aF (aX aY (pv 5) aE) aB)) (aW (um rfl) rfl T.Mw AF (aF (pv 7) aB))) aB)))) aM))) aM))))
 (aH (aL (g7 (aN (FH hr) (pv 4) (c7 aB) (aU _)) (aW (yU rfl) rfl T.MN E6 (aF (pv 4) aB)) iQ)))))),?_⟩
 obtain ⟨kd,r,ek,hpk,hcall,VZ⟩:=x8 t Sy;have h0':Dat K H (.tup (.str kd::r)) v0:=by rw [<- ek];exact h0
 have nh:=Bo TV;refine aO (K:=K) (b:=sL t) (RT.as (aK (bI (a6 (k:=0) (aA h0') aG rfl) aZ)) hpk) (λcp H1 s1=>?_) (λc H1 s1=>?_)
 ·cases t with
  | pick a b c =>
   have er:r=[toD a,toD b,toD c]:=VZ rfl;subst er;have da:aS a<=n:=by simp only [aS] at U4;omega
   have db:aS b<=n:=by simp only [aS] at U4;omega
   have dc:aS c<=n:=by simp only [aS] at U4;omega
   refine fQ (K:=K) (pJ (cs:=[toD a,toD b,toD c]) (j8 (aA (k:=0) (s1.dat h0'))) (by simp) [Wu (WN (bM ps a)),Wu (WN (bM ps b)),Wu (WN (bM ps c))] rfl rfl (λG1 j x v d s2 hc hd hv=>?_)) λl ys G2 hl s2 hy dy=>?_
   ·have hL:=(s1.trans s2).ld h1
    match j,hc,hd with
    | 0,hc,hd=>cases hc;cases hd;exact cU (R:=gu n) (fO (aA (k:=0) hv) (eY (bA (k:=1) hL) cK)) ⟨ps,a,rfl,TV,Sy.1,da,by omega,rfl⟩
    | 1,hc,hd=>cases hc;cases hd;exact cU (R:=gu n) (fO (aA (k:=0) hv) (eY (bA (k:=1) hL) cK)) ⟨ps,b,rfl,TV,Sy.2.1,db,by omega,rfl⟩
    | 2,hc,hd=>cases hc;cases hd;exact cU (R:=gu n) (fO (aA (k:=0) hv) (eY (bA (k:=1) hL) cK)) ⟨ps,c,rfl,TV,Sy.2.2,dc,by omega,rfl⟩
    | j+3,hc,hd=>cases hc
   have s12:=s1.trans s2;have Xn:LD K G2 (([bM ps a,bM ps b,bM ps c].map WN).map Wu) (.ref l):=LD.of hy dy;rw [vV nh] at post;refine aO (K:=K) (b:=(eT [bM ps a,bM ps b,bM ps c]).isNone) (RT.as (aK (F7 (bA (k:=2) Xn))) (r6 _)) (λcN G3 s3=>?_) (λcS G3 s3=>?_)
   ·have eN:eT [bM ps a,bM ps b,bM ps c]=none:=by cases e:eT [bM ps a,bM ps b,bM ps c] with | none=>rfl | some _=>rw [e] at cN;cases cN
    rw [eN] at post;exact bB (K:=K) (d:=.Qj) B4 λv G4 s4 q4=>post v G4 (s12.trans (s3.trans s4)) q4
   ·cases e:eT [bM ps a,bM ps b,bM ps c] with
    | none=>rw [e] at cS;cases cS
    | some bs =>
     have em:=kX (f:=bM ps) (ts:=[a,b,c]) e;have l3:bs.length=3:=by have:=Nq List.length em;simpa using this.symm
     rw [mh e] at Xn;rw [e] at post
     match bs,l3 with
     | [x,y,z],_ =>have Xo:=s3.ld Xn;rw [Bz,zu] at post;refine dR (K:=K) (d:=.int (y.1+fk z.1)) (dO (gB (k:=1) (bA (k:=2) Xo) aG rfl) (bF (R:=xB) (aD (gB (k:=2) (bA (k:=2) Xo) aG rfl) aP) ⟨z.1,rfl,rfl⟩)) λvl G4 s4 q4=>?_;have hL4:=s4.ld Xo;refine bB (K:=K) (d:=.int (x.1+fk (y.1+fk z.1)+(y.1+fk z.1)+z.1)) (dO (dO (dO (gB (k:=0) (bA (k:=2) hL4) aG rfl) (bF (R:=xB) (aD (aA (k:=3) q4) aP) ⟨_,rfl,rfl⟩)) (aA (k:=3) q4)) (gB (k:=2) (bA (k:=2) hL4) aG rfl)) λv G5 s5 q5=>post v G5 (s12.trans (s3.trans (s4.trans s5))) ?_;exact q5
  | _=>cases cp
 have ew:gH ps t=ps.filterMap (gJ t):=by unfold gH;rw [MR (by rw [c];exact MY)]
 have lm:=uE (f:=bM ps) (gH ps t) [] none rfl;rw [OG] at lm;have eb:(gH ps t).foldl (gE (bM ps)) none=bM ps t:=(jD nh t).symm;rw [eb,ew] at lm;obtain ⟨a,vs,rfl,ha,hda⟩:=h1;have la:=hda.length;rw [tB] at la;have hps:=TV.few;refine fw ⟨d8 (by decide),λll hll=>?_⟩;have s2:Qh H1 (upd H1 ll (.lst [])):=aV hll _;have s12:=s1.trans s2;have hln:H ll=none:=s1.free hll;refine eA ⟨_,rfl,a,rfl,⟨vs,(s12.Tq ha).UI⟩,oV (xs:=vs) (λi σ G=>∃ (z2 z3 z5 z6 z7:Option V) (ys:List V),σ=[some v0,some (.ref a),z2,z3,some (.ref ll),z5,z6,z7]/\Qh H G/\G ll=some (.lst ys)/\Qf K G ((((ps.take i).filterMap (gJ t)).filterMap (iO (bM ps))).map D.int) ys) ?_ (λi σ G _ ⟨_,_,_,_,_,_,_,p,_⟩=>(p.Tq ha).UI) ?_ ?_⟩
 ·exact ⟨none,none,none,none,none,[],rfl,s12,aI,by rw [Ow];exact Qf.nil⟩
 ·rintro i vx σ G hi ⟨z2,z3,z5,z6,z7,ys,rfl,sG,hlG,dy⟩;obtain ⟨dx,ex,hx⟩:=(sG.Qu hda).T9 hi;rw [MZ] at ex
  cases hp:ps[i]? with
  | none=>rw [hp] at ex;cases ex
  | some p =>
   rw [hp] at ex;cases ex;have UH:=TV.ok p (Nn hp);have et:ps.take (i+1)=ps.take i++[p]:=by rw [NR,hp];rfl
   have lys:ys.length<=100:=by have l1:=dy.length;rw [tB] at l1;have l2:=Pd (gJ t) (ps.take i);have l3:=Pd (iO (bM ps)) ((ps.take i).filterMap (gJ t));rw [NI] at l2;omega
   refine iJ ?_;dsimp only;refine fw (F1 λf l0 l1 l2 G1 N=>?_);have hx1:Dat K G1 (.tup [.str p.nm,U6 p.pt,.tup p.cs]) vx:=N.s.dat hx;refine GX (K:=K) (j:=6) N UH.ok Sy (by omega) UH.dp (a6 (k:=1) (aA (k:=5) hx1) aG rfl) (aA (k:=0) ((sG.trans N.s).dat h0)) λG2 s2 full=>?_;have sH2:=sG.trans s2;have hl2:=s2 _ _ hlG
   have same:∀ {G3:Hp} {z7:Option V},Qh G2 G3->((gJ t p).bind (iO (bM ps))=none)->∃ (z2' z3' z5' z6' z7':Option V) (ys:List V),[some v0,some (.ref a),z2,z3,some (.ref ll),some vx,some (.ref f),z7]=[some v0,some (.ref a),z2',z3',some (.ref ll),z5',z6',z7']/\Qh H G3/\G3 ll=some (.lst ys)/\Qf K G3 ((((ps.take (i+1)).filterMap (gJ t)).filterMap (iO (bM ps))).map D.int) ys:=λ{G3 z7} s3 e=>by
    refine ⟨_,_,_,_,_,ys,rfl,sH2.trans s3,s3 _ _ hl2,?_⟩;rw [et,Oo,Oo]
    have e2:([p].filterMap (gJ t)).filterMap (iO (bM ps))=[]:=by
     cases h1:gJ t p with
     | none=>simp [h1]
     | some w =>rw [h1] at e;have e:iO (bM ps) w=none:=e;simp [h1,e]
    rw [e2,Np];exact (s2.trans s3).Qu dy
   cases VP:cG p.pt t with
   | none =>
    have eW:gJ t p=none:=by unfold gJ;rw [VP];rfl
    exact ⟨_,rfl,mw (iK (same (Qh.refl _) (by rw [eW];rfl)))⟩
   | some fd =>
    have eW:gJ t p=some ⟨p.nm,p.cs,fd.1⟩:=by unfold gJ;rw [VP];rfl
    have F3:=full fd VP;have tail:=jF UH.nh VP
    have few:fd.1.length<=8:=by have hw:=mX (ps:=ps) (Nn hp) c VP;exact (CA TV.ok hw).1
    refine ⟨_,rfl,mx ?_⟩;refine fQ (K:=K) (iE (cs:=fd.1.map toD) (G8 (k:=6) (v:=0) F3.hf F3.h0 aG rfl) (by rw [tB];omega) (fd.1.map λx=>Wu (WN (bM ps x))) (by rw [tB,tB]) rfl (λG3 j x v d s3 hc hd hv=>?_)) λlh zs G3 hlh s3 hzs dzs=>?_
    ·rw [MZ] at hc hd
     cases hx:fd.1[j]? with
     | none=>rw [hx] at hc;cases hc
     | some y =>rw [hx] at hc hd;cases hc;cases hd;have hy:=tail y (Nn hx);have dy:=(gQ hy).2;exact cU (R:=gu n) (fO (aA (k:=0) hv) (eY (bA (k:=1) ((sH2.trans s3).ld ⟨a,vs,rfl,ha,hda⟩)) cK)) ⟨ps,y,rfl,TV,gz t y Sy (j9 hy),by omega,by omega,rfl⟩
    have eM:(fd.1.map λx=>Wu (WN (bM ps x)))=((fd.1.map (bM ps)).map WN).map Wu:=by rw [OB,OB];rfl
    have Xo:LD K G3 (((fd.1.map (bM ps)).map WN).map Wu) (.ref lh):=by rw [<- eM];exact LD.of hzs dzs
    refine g9 (b:=!(eT (fd.1.map (bM ps))).isNone) (RT.as (aK (zT (K:=K) (bA (k:=7) Xo))) (by rw [r6])) (λcS G4 s4=>?_) (λcN G4 s4=>iK ?_)
    ·cases ea:eT (fd.1.map (bM ps)) with
     | none=>rw [ea] at cS;cases cS
     | some bs =>
      rw [mh ea] at Xo;have hx4:=(s3.trans s4).dat (s2.dat hx);have hx4:Dat K G4 (.tup [.str p.nm,U6 p.pt,.tup p.cs]) vx:=hx4;have V9:=(s3.trans s4) _ _ hl2;refine tS (K:=K) (d:=.int ((p.cs.length:Int)+(bs.map (·.1)).sum)) (dO (eU (a6 (k:=2) (aA (k:=5) hx4) aG rfl)) (yC (bA (k:=7) (s4.ld Xo)))) V9 (by omega) λy G5 b5 WL q5=>?_;have g5:gW K G4 G5:=b5.grow V9 WL;refine ⟨_,_,_,_,_,ys++[y],rfl,λx o hx=>b5 x o (aQ hx hln) ((s3.trans s4) _ _ (sH2 _ _ hx)),WL,?_⟩
      have e2:([p].filterMap (gJ t)).filterMap (iO (bM ps))=[(p.cs.length:Int)+(bs.map (·.1)).sum]:=by have e3:iO (bM ps) ⟨p.nm,p.cs,fd.1⟩=some ((p.cs.length:Int)+(bs.map (·.1)).sum):=zt (w:=⟨p.nm,p.cs,fd.1⟩) ea UH.nm;simp [eW,e3]
      rw [et,Oo,Oo,e2,Nl];exact Qf.append (Qf.mono g5 _ ((s2.trans (s3.trans s4)).Qu dy)) (Qf.cons q5 Qf.nil)
    ·refine same (s3.trans s4) ?_;rw [eW]
     cases ea:eT (fd.1.map (bM ps)) with
     | none=>exact zr (w:=⟨p.nm,p.cs,fd.1⟩) ea
     | some bs=>rw [ea] at cN;cases cN
 ·rintro σ G ⟨z2,z3,z5,z6,z7,ys,rfl,sG,hlG,dy⟩;rw [<- la,N7] at dy;have hL:LD K G (((ps.filterMap (gJ t)).filterMap (iO (bM ps))).map D.int) (.ref ll):=LD.of hlG dy;dsimp only;generalize (ps.filterMap (gJ t)).filterMap (iO (bM ps))=ns at lm dy hL;refine bB (K:=K) (kx (b:=!ns.isEmpty) (RT.as (aK (B3 (k:=4) hlG dy (mE ns) (Nv (qT ns) (by decide)))) (by rw [oM])) (λcT=>?_) (λcF=>?_)) λv G2 s2 q2=>post v G2 (sG.trans s2) q2
  ·cases eb:bM ps t with
   | none =>rw [eb] at lm;have lm:ns=[]:=lm;subst lm;cases cT
   | some b =>rw [eb] at lm;exact DW (bA (k:=4) hL) lm.1 lm.2
  ·cases eb:bM ps t with
   | none=>exact B4
   | some b =>
    rw [eb] at lm
    cases ns with
    | nil=>exact absurd lm.1 (by simp)
    | cons x y=>cases cF
noncomputable def ml:D->Option (Str × List D)
 | .tup [.str nm,.tup cs]=>some (nm,cs)
 | _=>none
structure Fx (ps:List Pc):Prop where
 nd:(ps.map (·.nm)).Nodup
 nl:∀ p ∈ ps,Rr (SI p)=true/\fD (SI p)<=19
noncomputable def Dm (nm:Str):D->Bool
 | .tup (.str x::_)=>decide (x=nm)
 | _=>false
theorem qV:∀ {ps:List Pc},(∀ p ∈ ps,p.nm≠nm)->(ps.map SI).filter (Dm nm)=[]
 | [],_=>rfl
 | p::ps,h=>by
  rw [Nb,O3,MR]
  ·exact qV λq hq=>h q (Nj _ hq)
  ·show ¬ decide (p.nm=nm)=true;rw [MX (h p NB)];exact MY
theorem uB {p:Pc}:∀ {ps:List Pc},(ps.map (·.nm)).Nodup->p ∈ ps->(ps.map SI).filter (Dm p.nm)=[SI p]
 | [],_,h=>by cases h
 | q::ps,nd,h=>by
  rw [Nb,OS] at nd;rcases Na.mp h with rfl | h
  ·rw [Nb,O3,MW (show Dm p.nm (SI p)=true from M5 rfl),qV λx hx z=>nd.1 (N4.mpr ⟨x,hx,z⟩)]
  ·rw [Nb,O3,MR]
   ·exact uB nd.2 h
   ·show ¬ decide (q.nm=p.nm)=true;rw [MX λz=>nd.1 (N4.mpr ⟨p,h,z.symm⟩)];exact MY
theorem Bj {α:Type} {xss:List (List α)} (h:xss.flatten.length<=n):∀ {i:Nat} {x:List α},xss[i]?=some x->(xss.take i).flatten.length+x.length<=n:=by
 intro i x hx;have e:xss.take (i+1)=xss.take i++[x]:=by rw [NR,hx];rfl
 have l:(xss.take (i+1)).flatten.length<=xss.flatten.length:=by have z:xss=xss.take (i+1)++xss.drop (i+1):=(O1 _ _).symm;rw [Nq List.flatten z,PL,MQ];omega
 rw [e,PL,MQ] at l;simp only [NU,List.flatten_nil,Np] at l;omega
noncomputable def GA:D->Cl
 | .tup [.str k,.int j]=>if k="arg" then .arg j.toNat else if k="low" then .low j.toNat else .high j.toNat
 | .int i=>.n i
 | _=>.n 0
noncomputable def bW (p:Pc):List Cl:=p.cs.map GA
noncomputable def lA (nm:Str) (ps:List Pc):Option Pc:=ps.find? λp=>decide (p.nm=nm)
noncomputable def mf:List (Option (List D))->Option (List (List D))
 | []=>some []
 | none::_=>none
 | some x::r=>(mf r).map (x::·)
noncomputable def fV (f:Tr->D->Option (List D)) (ts:List Tr) (cs:List D):List (Option (List D)):=(ts.zip cs).map λp=>f p.1 p.2
noncomputable def Dk:List (List D)->Option (List D)
 | [a,b,c]=>some (e7 a b c)
 | _=>none
noncomputable def jH (f:Tr->D->Option (List D)) (t:Tr) (cs:List D):Option (List D):=match t with
 | .pick a b d=>if cs.length=3 then (mf (fV f [a,b,d] cs)).bind Dk else none
 | _=>none
noncomputable def iY (f:Tr->D->Option (List D)) (ps:List Pc) (t:Tr) (nm:Str) (cs:List D):Option (List D):=match lA nm ps with
 | none=>none
 | some p=>match cG p.pt t with
  | none=>none
  | some g=>if g.1.length=cs.length then (mf (fV f g.1 cs)).map λxss=>fe xss g (bW p) else none
noncomputable def dY (ps:List Pc):Nat->Tr->D->Option (List D)
 | 0,_,_=>none
 | n+1,t,c=>match ml c with
  | none=>none
  | some x=>if x.1="pick" then jH (dY ps n) t x.2 else iY (dY ps n) ps t x.1 x.2
theorem qH:∀ {os:List (Option (List D))},os.any Option.isNone=true->mf os=none
 | [],h=>by cases h
 | none::os,_=>rfl
 | some x::os,h=>by rw [Oi] at h;have ih:=qH (os:=os) (by simpa using h);show (mf os).map _=none;rw [ih];rfl
theorem ue:∀ Qq:List (List D),mf (Qq.map some)=some Qq
 | []=>rfl
 | x::Qq=>by show (mf (Qq.map some)).map _=_;rw [ue Qq];rfl
theorem zM {f:Tr->D->Option (List D)} {cs:List D} {k:Nat} {c:D} {o:Option (List D)} (h1:ts[k]?=some t) (h2:cs[k]?=some c) (h3:(fV f ts cs)[k]?=some o):o=f t c:=by unfold fV at h3;rw [MZ,(List.getElem?_zip_eq_some (z:=(t,c))).mpr ⟨h1,h2⟩] at h3;cases h3;rfl
theorem zN {f:Tr->D->Option (List D)} {cs:List D} (h:ts.length=cs.length):(fV f ts cs).length=ts.length:=by unfold fV;rw [tB,List.length_zip];omega
theorem rp {f:Tr->D->Option (List D)} (hf:∀ t c es,f t c=some es->es.length<=12 * a8 t):∀ {ts:List Tr} {cs:List D} {Qq:List (List D)},ts.length=cs.length->fV f ts cs=Qq.map some->Qq.flatten.length<=12 * (ts.map a8).sum
 | [],[],Qq,_,h=>by
  have:Qq=[]:=by cases Qq with | nil=>rfl | cons _ _=>cases h
  subst this;simp
 | t::ts,c::cs,Qq,hl,h=>by
  cases Qq with
  | nil=>cases h
  | cons x Qq =>have h':f t c::fV f ts cs=some x::Qq.map some:=h;injection h' with h1 h2;have i1:=hf t c x h1;have i2:=rp hf (ts:=ts) (cs:=cs) (by simpa using hl) h2;rw [NU,MQ,Nb,List.sum_cons];omega
 | [],c::cs,_,h,_=>by simp at h
 | t::ts,[],_,h,_=>by simp at h
structure sN (ps:List Pc):Prop where
 ls:Fx ps
 cl:∀ p ∈ ps,uc p (bW p)
theorem sy:∀ (p:Pa) (t:Tr) (f:Sx),cG p t=some f->(f.1.map a8).sum<=a8 t/\(ff p=true->(f.1.map a8).sum+1<=a8 t)
 | .hole i,t,f,h=>by cases h;exact ⟨by simp,λz=>nomatch z⟩
 | .gap i m,t,f,h=>by
  cases t with
  | num n =>
   have h':(if n<=m then some ([],[n],[]) else none:Option Sx)=some f:=h;by_cases z:n<=m
   ·rw [MW z] at h';cases h';exact ⟨by simp,λ_=>by simp [a8]⟩
   ·rw [MR z] at h';cases h'
  | _=>cases h
 | .slot i,t,f,h=>by
  cases t with
  | arg n=>cases h;exact ⟨by simp,λ_=>by simp [a8]⟩
  | _=>cases h
 | .num m,t,f,h=>by
  cases t with
  | num n =>
   have h':(if n=m then some ([],[],[]) else none:Option Sx)=some f:=h;by_cases z:n=m
   ·rw [MW z] at h';cases h';exact ⟨by simp,λ_=>by simp [a8]⟩
   ·rw [MR z] at h';cases h'
  | _=>cases h
 | .two o a b,t,f,h=>by
  cases t with
  | two o' u v =>
   obtain ⟨_,f1,f2,e1,e2,e3⟩:=eP h;subst e3;have h1:=(sy a u f1 e1).1;have h2:=(sy b v f2 e2).1;have e:((f1.1++f2.1).map a8).sum=(f1.1.map a8).sum+(f2.1.map a8).sum:=by simp
   refine ⟨?_,λ_=>?_⟩
   ·show ((f1.1++f2.1).map a8).sum<=_;simp only [a8];omega
   ·show ((f1.1++f2.1).map a8).sum+1<=_;simp only [a8];omega
  | _=>cases h
theorem gg {p:Pc} (h:lA nm ps=some p):p ∈ ps/\p.nm=nm:=by unfold lA at h;have h0:decide (p.nm=nm)=true:=List.find?_some (p:=λp:Pc=>decide (p.nm=nm)) h;exact ⟨List.mem_of_find?_eq_some h,M1 h0⟩
theorem vZ (h:lA nm ps=none):∀ p ∈ ps,p.nm≠nm:=λp hp e=>by unfold lA at h;rw [List.find?_eq_none] at h;exact absurd (M5 e) (h p hp)
theorem gL {f:Tr->D->Option (List D)} {cs:List D} (h:iY f ps t nm cs=some es):∃ p g Qq,lA nm ps=some p/\cG p.pt t=some g/\g.1.length=cs.length/\fV f g.1 cs=Qq.map some/\es=fe Qq g (bW p):=by
 unfold iY at h
 cases e1:lA nm ps with
 | none=>rw [e1] at h;cases h
 | some p =>
  rw [e1] at h;dsimp only at h
  cases e2:cG p.pt t with
  | none=>rw [e2] at h;cases h
  | some g =>
   rw [e2] at h;dsimp only at h;by_cases hl:g.1.length=cs.length
   ·rw [MW hl] at h
    cases ha:(fV f g.1 cs).any Option.isNone with
    | true=>rw [qH ha] at h;cases h
    | false =>obtain ⟨Qq,e⟩:=qI ha;rw [e,ue] at h;cases h;exact ⟨p,g,Qq,rfl,e2,hl,e,rfl⟩
   ·rw [MR hl] at h;cases h
theorem gM {f:Tr->D->Option (List D)} {cs:List D} (h:jH f t cs=some es):∃ a b d ca cb cd xa xb xd,t=.pick a b d/\cs=[ca,cb,cd]/\f a ca=some xa/\f b cb=some xb/\f d cd=some xd/\es=e7 xa xb xd:=by
 cases t with
 | pick a b d =>
  have h:(if cs.length=3 then (mf (fV f [a,b,d] cs)).bind Dk else none)=some es:=h;by_cases hl:cs.length=3
  ·rw [MW hl] at h
   match cs,hl with
   | [ca,cb,cd],_ =>
    have e:fV f [a,b,d] [ca,cb,cd]=[f a ca,f b cb,f d cd]:=rfl;rw [e] at h
    cases ea:f a ca with
    | none=>rw [ea] at h;cases h
    | some xa =>
     cases eb:f b cb with
     | none=>rw [ea,eb] at h;cases h
     | some xb =>
      cases ed:f d cd with
      | none=>rw [ea,eb,ed] at h;cases h
      | some xd =>rw [ea,eb,ed] at h;have h:some (e7 xa xb xd)=some es:=h;cases h;exact ⟨a,b,d,ca,cb,cd,xa,xb,xd,rfl,rfl,ea,eb,ed,rfl⟩
  ·rw [MR hl] at h;cases h
 | _=>cases h
theorem gZ (ok:∀ p ∈ ps,Dq p):∀ (n:Nat) (t:Tr) (c:D) (es:List D),dY ps n t c=some es->es.length<=12 * a8 t
 | 0,_,_,_,h=>by cases h
 | n+1,t,c,es,h=>by
  have h:(match ml c with | none=>none | some x=>if x.1="pick" then jH (dY ps n) t x.2 else iY (dY ps n) ps t x.1 x.2)=some es:=h
  cases ec:ml c with
  | none=>rw [ec] at h;cases h
  | some x =>
   rw [ec] at h;dsimp only at h;by_cases hp:x.1="pick"
   ·rw [MW hp] at h;obtain ⟨a,b,d,ca,cb,cd,xa,xb,xd,rfl,_,la,lb,ld,rfl⟩:=gM h;have h1:=gZ ok n a ca xa la;have h2:=gZ ok n b cb xb lb;have h3:=gZ ok n d cd xd ld;have k1:=lE 8 9 xd.length;have k2:=lE 10 11 (xb++kg 8 9 xd.length).length;have j1:=Be (xd.length:Int);have j2:=Be ((xb++kg 8 9 xd.length).length:Int);have ll:(e7 xa xb xd).length=xa.length+(kg 10 11 (xb++kg 8 9 xd.length).length).length+(xb.length+(kg 8 9 xd.length).length)+xd.length:=by unfold e7;simp only [MQ]
    simp only [a8];omega
   ·rw [MR hp] at h;obtain ⟨p,g,Qq,e1,e2,hl,e,rfl⟩:=gL h;have UH:=ok p (gg e1).1;have h1:=rp (gZ ok n) hl e;have h2:=(sy _ _ _ e2).2 UH.nh;have h3:=UH.cs;have z:(fe Qq g (bW p)).length=Qq.flatten.length+p.cs.length:=by unfold fe bW;rw [MQ,tB,tB]
    omega
theorem AX {p:Pa} (h:ff p=true) (a b c:Tr):cG p (.pick a b c)=none:=by
 cases p with
 | hole i=>cases h
 | _=>rfl
theorem yZ {c:D} {x:Str × List D} (h:ml c=some x):c=.tup [.str x.1,.tup x.2]:=by
 unfold ml at h;split at h
 ·cases h;rfl
 ·cases h
noncomputable def vP (ds:List D) (d:D):Prop:=∃ (c:Cl) (nums ks:List Int),ds=[Zz c,.tup (nums.map D.int),.tup (ks.map D.int)]/\Fc nums.length ks.length c=true/\d=.int (jq nums ks c)
theorem pw (T:Txt P w K mg)  : Ok P w base (k+1) T.JO (QF K vP):=by
 refine T.JO.f.ok Tw (λvs H Q E h=>?_) (λcdv A outer s H vs Q E hr h=>?_)
 ·obtain ⟨ds,d,hd,⟨c,nums,ks,rfl,_⟩,_⟩:=h;exact hd.length.symm
 have nd:=Tw.nd;obtain ⟨ds,d,hd,⟨c,nums,ks,rfl,VN,rfl⟩,post⟩:=h;obtain ⟨v0,v1,v2,rfl,h0,h1,h2⟩:=oI hd;refine ⟨_,(aC (bE (bP (aW (fC A8) rfl T.HV cO (cZ (pv 0) (cZ (gA (v:=.ty "int") rfl T.Mu AC rfl) aB))) (λ_=>rfl)) (aH (aL (pv 0))) aM)
 (aC (bE (aN cA (aX aY (pv 0) aE) bC (aU _)) (aH (aL (bK fg (aX aY (pv 1) (aX aY (pv 0) aE)) aE))) aM)
 (aC (bE (aN cA (aX aY (pv 0) aE) bC (aU _)) (aH (aL (bK jg (aX aY (pv 1) (aX aY (pv 0) aE)) aE))) aM)
 (aH (aL (aX aY (pv 2) (aX aY (pv 0) aE))))))),?_⟩
 cases c with
 | n j =>have h0:Dat K H (.int j) v0:=h0;refine aO (K:=K) (b:=true) (bL (cX (aA (k:=0) h0))) (λ_ H1 s1=>?_) (λc=>nomatch c);exact bB (K:=K) (d:=.int j) (aA (k:=0) (s1.dat h0)) λv H2 s2 q=>post v H2 (s1.trans s2) q
 | low j =>have h0:Dat K H (.tup [.str "low",.int j]) v0:=h0;have VN:=M1 VN;refine aO (K:=K) (b:=false) (bL (cX (aA (k:=0) h0))) (λc=>nomatch c) (λ_ H1 s1=>?_);refine aO (K:=K) (b:=true) (RT.as (aK (bI (a6 (k:=0) (aA (k:=0) (s1.dat h0)) aG rfl) aZ)) (M5 rfl)) (λ_ H2 s2=>?_) (λc=>nomatch c);have s12:=s1.trans s2;exact bB (K:=K) (d:=.int (nums.getD j 0 % 100)) (iS (a6 (k:=j) (aA (k:=1) (s12.dat h1)) (a6 (k:=1) (aA (k:=0) (s12.dat h0)) aG rfl) (sQ VN)) aG (by decide)) λv H3 s3 q=>post v H3 (s12.trans s3) q
 | high j =>have h0:Dat K H (.tup [.str "high",.int j]) v0:=h0;have VN:=M1 VN;refine aO (K:=K) (b:=false) (bL (cX (aA (k:=0) h0))) (λc=>nomatch c) (λ_ H1 s1=>?_);refine aO (K:=K) (b:=false) (RT.as (aK (bI (a6 (k:=0) (aA (k:=0) (s1.dat h0)) aG rfl) aZ)) (MX (by decide +kernel))) (λc=>nomatch c) (λ_ H2 s2=>?_);have s12:=s1.trans s2;refine aO (K:=K) (b:=true) (RT.as (aK (bI (a6 (k:=0) (aA (k:=0) (s12.dat h0)) aG rfl) aZ)) (M5 rfl)) (λ_ H3 s3=>?_) (λc=>nomatch c);have QV:=s12.trans s3;exact bB (K:=K) (d:=.int (nums.getD j 0 / 100)) (tM (a6 (k:=j) (aA (k:=1) (QV.dat h1)) (a6 (k:=1) (aA (k:=0) (QV.dat h0)) aG rfl) (sQ VN)) aG ⟨by decide,by decide⟩) λv H4 s4 q=>post v H4 (QV.trans s4) q
 | arg j =>have h0:Dat K H (.tup [.str "arg",.int j]) v0:=h0;have VN:=M1 VN;refine aO (K:=K) (b:=false) (bL (cX (aA (k:=0) h0))) (λc=>nomatch c) (λ_ H1 s1=>?_);refine aO (K:=K) (b:=false) (RT.as (aK (bI (a6 (k:=0) (aA (k:=0) (s1.dat h0)) aG rfl) aZ)) (MX (by decide +kernel))) (λc=>nomatch c) (λ_ H2 s2=>?_);have s12:=s1.trans s2;refine aO (K:=K) (b:=false) (RT.as (aK (bI (a6 (k:=0) (aA (k:=0) (s12.dat h0)) aG rfl) aZ)) (MX (by decide +kernel))) (λc=>nomatch c) (λ_ H3 s3=>?_);have QV:=s12.trans s3;exact bB (K:=K) (d:=.int (ks.getD j 0)) (a6 (k:=j) (aA (k:=2) (QV.dat h2)) (a6 (k:=1) (aA (k:=0) (QV.dat h0)) aG rfl) (sQ VN)) λv H4 s4 q=>post v H4 (QV.trans s4) q
noncomputable def jy (n:Nat) (as:List Ar) (es:List D):Prop:=∃ (ps:List Pc) (t:Tr) (c:D),as=[.d (toD t),.l (ps.map SI),.d c,.l []]/\iB ps/\sN ps/\RI t/\aS t<=n/\n<=8/\a8 t<=40/\dY ps n t c=some es
noncomputable def EO (n:Nat) (as:List Ar) (es:List D):Prop:=∃ (ps:List Pc) (a b d:Tr) (ca cb cd:D) (xa xb xd:List D),as=[.d (.tup [.str "pick",toD a,toD b,toD d]),.l (ps.map SI),.d (.tup [.str "pick",.tup [ca,cb,cd]]),.l []]/\iB ps/\sN ps/\(RI a/\RI b/\RI d)/\(aS a<=n/\aS b<=n/\aS d<=n)/\n<=8/\(a8 a<=40/\a8 b<=40/\a8 d<=40) /\
 dY ps n a ca=some xa/\dY ps n b cb=some xb/\dY ps n d cd=some xd/\es.length<=900/\es=e7 xa xb xd
noncomputable def EN (n:Nat) (as:List Ar) (es:List D):Prop:=∃ (ps:List Pc) (t:Tr) (p:Pc) (cv:List D) (g:Sx) (Qq:List (List D)),as=[.d (toD t),.l (ps.map SI),.d (.tup [.str p.nm,.tup cv]),.l []]/\iB ps/\sN ps/\RI t/\aS t<=n+1/\n+1<=8/\a8 t<=40/\p ∈ ps/\cG p.pt t=some g/\g.1.length=cv.length/\fV (dY ps n) g.1 cv=Qq.map some/\es.length<=900/\es=fe Qq g (bW p)
theorem uJ (x y z:List D):e7 x y z=x++(eX 10 11 ((y.length:Int)+fk z.length)).map D.int++y++(eX 8 9 z.length).map D.int++z:=by
 unfold e7 kg
 have e:((y++(eX 8 9 (z.length:Int)).map D.int).length:Int)=(y.length:Int)+fk z.length:=by rw [MQ,tB];have:=gY 8 9 z.length;omega
 rw [e];simp only [NC]
theorem sX (T:Txt P w K mg) (JA:Ok P w base k T.Ik (jT K (jy n))) (J7:Ok P w base k T.Iy (tZ K)):Ok P w base (k+1) T.Kt (jT K (EO n)):=by
 refine T.Kt.f.ok Uy (λvs H Q E h=>?_) (λcdv A outer s H vs Q E hr h=>?_)
 ·obtain ⟨as,es,hd,⟨ps,a,b,d,ca,cb,cd,xa,xb,xd,rfl,_⟩,_⟩:=h;exact hd.length.symm
 have nd:=Uy.nd;obtain ⟨as,es,hd,⟨ps,a,b,d,ca,cb,cd,xa,xb,xd,rfl,TV,Xp,⟨oa,ob,od⟩,⟨da,db,dd⟩,n8,⟨za,zb,zd⟩,la,lb,ld,We,rfl⟩,post⟩:=h;obtain ⟨v0,v1,v2,v3,rfl,h0,h1,h2,h3⟩:=CH hd;have h0:Dat K H (.tup [.str "pick",toD a,toD b,toD d]) v0:=h0;have h1:LD K H (ps.map SI) v1:=h1;have h2:Dat K H (.tup [.str "pick",.tup [ca,cb,cd]]) v2:=h2;have h3:LD K H [] v3:=h3;rw [uJ] at post We;refine ⟨_,(aC (fH (e8 (own:=["one","within"]) (fr:=[1,3]) (N':=["one","within","some","places"]) (BI rfl T.Mx (aF (i0 pX (pv 0) (iH aE) nW) (aF (aX aY (pv 2) aE) aB))) rfl (by show dW ["tree","some","cover","places","first","second","third","ahead","behind"] (λx=>(aJ jQ).names.lookup x) _ _ _ _=true;decide +kernel) rfl (λ_ _ _ _ _=>(yq (K:=K) (n:=2) rfl rfl (bJ (a7 (i:=0) (by show List.Nodup [("one":Str),("within":Str),("some":Str),("places":Str)];decide +kernel) rfl (Or.inl rfl)) (bJ (a7 (i:=1) (by show List.Nodup [("one":Str),("within":Str),("some":Str),("places":Str)];decide +kernel) rfl (Or.inl rfl)) eE)))) (λ_ _ _ _ _=>cQ) (λ_ _ _ _ _=>(pc (D:=T.Ik) JA hr (aF (pv 0) (aF (pv 2) (aF (pv 1) (aF (pv 3) aB))))))) (yr rfl (bJ (a7 (i:=4) nd rfl (Or.inl rfl)) (bJ (a7 (i:=5) nd rfl (Or.inl rfl)) (bJ (a7 (i:=6) nd rfl (Or.inl rfl)) eE)))))
 (aC (fH (pc (D:=T.Iy) J7 hr (aF (aW aT rfl T.HW bV (aF (pv 5) aB)) (aF (aW aT rfl T.HW bV (aF (pv 6) aB)) aB))) (f6 rfl (bJ (a7 (i:=7) nd rfl (Or.inl rfl)) (bJ (a7 (i:=8) nd rfl (Or.inl rfl)) eE))))
 (aH (aL (bK j5 (bK j5 (bK j5 (bK j5 (pv 4) (pv 7)) (pv 5)) (pv 8)) (pv 6)))))),?_⟩
 refine tT (Z9.use (K:=K) (DP (cs:=[toD a,toD b,toD d]) (ds:=[ca,cb,cd]) (aD (j8 (aA (k:=0) h0)) (aD (a6 (k:=1) (aA (k:=2) h2) aG rfl) aP)) rfl (by simp) [xa,xb,xd] rfl (by decide) rfl (λG j x y z v w sG hx hy hz hv hw=>?_)) λl ys H1 hl s1 hy dy=>?_)
 ·have hL:=sG.ld h1;have hP:=sG.ld h3
  match j,hx,hy,hz with
  | 0,hx,hy,hz=>cases hx;cases hy;cases hz;exact fK (R:=jy n) (fO (aA (k:=0) hv) (eY (bA (k:=2) hL) (fO (aA (k:=1) hw) (eY (bA (k:=3) hP) cK)))) ⟨ps,a,ca,rfl,TV,Xp,oa,da,n8,za,la⟩
  | 1,hx,hy,hz=>cases hx;cases hy;cases hz;exact fK (R:=jy n) (fO (aA (k:=0) hv) (eY (bA (k:=2) hL) (fO (aA (k:=1) hw) (eY (bA (k:=3) hP) cK)))) ⟨ps,b,cb,rfl,TV,Xp,ob,db,n8,zb,lb⟩
  | 2,hx,hy,hz=>cases hx;cases hy;cases hz;exact fK (R:=jy n) (fO (aA (k:=0) hv) (eY (bA (k:=2) hL) (fO (aA (k:=1) hw) (eY (bA (k:=3) hP) cK)))) ⟨ps,d,cd,rfl,TV,Xp,od,dd,n8,zd,ld⟩
  | j+3,hx,hy,hz=>cases hx
 obtain ⟨w4,w5,w6,rfl,k4,k5,k6⟩:∃ w4 w5 w6,ys=[w4,w5,w6]/\LD K H1 xa w4/\LD K H1 xb w5/\LD K H1 xd w6:=by
  cases dy with
  | cons k4 r =>
   cases r with
   | cons k5 r =>
    cases r with
    | cons k6 r =>cases r;exact ⟨_,_,_,rfl,k4,k5,k6⟩
 refine ⟨l,_,rfl,Qp.of hy,rfl,_,_,rfl,_,_,rfl,_,_,rfl,rfl,?_⟩
 try dsimp only
 refine tT (kQ (f7 (RE.use (K:=K) (d:=.int xb.length) (fP (bA (k:=5) k5)) λw1 H3 s3 q3=>f7 (RE.use (K:=K) (d:=.int xd.length) (fP (bA (k:=6) (s3.ld k6))) λw2 H4 s4 q4=>?_))));have e3:=q3.Qk;have e4:=q4.Qk;subst e3 e4;refine ⟨_,_,rfl,λp aa bb us ws H5 s5 hp ha hb _ _ _ Ww VY=>?_⟩;refine ⟨p,_,rfl,hp,rfl,_,_,rfl,_,_,rfl,rfl,?_⟩
 try dsimp only
 have Wv:=s3.trans (s4.trans s5);have kA:LD K H5 _ (.ref aa):=LD.of ha Ww;have kB:LD K H5 _ (.ref bb):=LD.of hb VY;have ll:(xa++(eX 10 11 ((xb.length:Int)+fk xd.length)).map D.int++xb++(eX 8 9 xd.length).map D.int++xd).length=xa.length+((eX 10 11 ((xb.length:Int)+fk xd.length)).map D.int).length+xb.length+((eX 8 9 (xd.length:Int)).map D.int).length+xd.length:=by simp only [MQ]
 generalize (eX 10 11 ((xb.length:Int)+fk xd.length)).map D.int=ja at kA post ll We;generalize (eX 8 9 (xd.length:Int)).map D.int=jb at kB post ll We;exact jr (RC.use (K:=K) (j6 (ky (j6 (ky (j6 (ky (j6 (bA (k:=4) (Wv.ld k4)) (bA (k:=7) kA) (by omega))) (bA (k:=5) (Wv.ld k5)) (by rw [MQ];omega))) (bA (k:=8) kB) (by rw [MQ,MQ];omega))) (bA (k:=6) (Wv.ld k6)) (by rw [MQ,MQ,MQ];omega)) λl3 us H7 hl3 s7 hu du=>post l3 us H7 (s1.trans (Wv.trans s7)) hu ((s1.trans Wv).free hl3) du)
theorem qD (T:Txt P w K mg) (JA:Ok P w base k T.Ik (jT K (jy n))) (K3:Ok P w base k T.JM (QF K oi)) (LB:Ok P w base k T.JO (QF K vP)):Ok P w base (k+1) T.Kb (jT K (EN n)):=by
 refine T.Kb.f.ok T3 (λvs H Q E h=>?_) (λcdv A outer s H vs Q E hr h=>?_)
 ·obtain ⟨as,es,hd,⟨ps,t,p,cv,g,Qq,rfl,_⟩,_⟩:=h;exact hd.length.symm
 have nd:=T3.nd;obtain ⟨as,es,hd,⟨ps,t,p,cv,g,Qq,rfl,TV,Xp,Sy,U4,n8,Yw,hp,VP,hlen,Wx,We,rfl⟩,post⟩:=h;obtain ⟨v0,v1,v2,v3,rfl,h0,h1,h2,h3⟩:=CH hd;have h0:Dat K H (toD t) v0:=h0;have h1:LD K H (ps.map SI) v1:=h1;have h2:Dat K H (.tup [.str p.nm,.tup cv]) v2:=h2;have h3:LD K H [] v3:=h3;have UH:=TV.ok p hp;have hcl:=Xp.cl p hp;have few:=TV.few;refine ⟨_,(aC (fH (pv 2) (f6 rfl (bJ (a7 (i:=4) nd rfl (Or.inr rfl)) (bJ (a7 (i:=5) nd rfl (Or.inl rfl)) eE))))
 (aC (bO (i:=6) nd rfl (Or.inl rfl) (aX cE (e8 (own:=["one"]) (fr:=[4]) (N':=["one","name"]) (fN (pv 1)) rfl (by show dW ["tree","some","cover","places","name","within","piece","holes","nums","ks","cells","hole","inner"] (λx=>(aJ ik).names.lookup x) _ _ _ _=true;decide +kernel) rfl (λ_ _ _ _ _=>(a7 (i:=0) (by show List.Nodup [("one":Str),("name":Str)];decide +kernel) rfl (Or.inl rfl))) (λ_ _ _ _ _=>(BN (aN cA (aX (r:=vh K) aY (pv 0) aE) (pv 1) (aU _)))) (λ_ _ _ _ _=>(pv 0))) aE))
 (aC (fH (pc (D:=T.JM) K3 hr (aF (pv 6) (aF (pv 0) aB))) (f6 rfl (bJ (a7 (i:=7) nd rfl (Or.inl rfl)) (bJ (a7 (i:=8) nd rfl (Or.inr rfl)) (bJ (a7 (i:=9) nd rfl (Or.inr rfl)) eE)))))
 (aC (bO (i:=10) nd rfl (Or.inl rfl) (c7 aB))
 (aC (h7 NP rfl (BI rfl T.Mx (aF (pv 7) (aF (pv 5) aB))) (f6 rfl (bJ (a7 (i:=11) nd rfl (Or.inl rfl)) (bJ (a7 (i:=12) nd rfl (Or.inl rfl)) eE))) (aH (bT (ic NF OT Pb j4 (pv 10) (aF (pc (D:=T.Ik) JA hr (aF (pv 11) (aF (pv 1) (aF (pv 12) (aF (pv 3) aB))))) aB)))))
 (aH (aL (bK j5 (pv 10) (e8 (own:=["cell"]) (fr:=[8,9]) (N':=["cell","nums","ks"]) (h6 (aX aY (pv 6) aE)) rfl (by show dW ["tree","some","cover","places","name","within","piece","holes","nums","ks","cells","hole","inner"] (λx=>(aJ ik).names.lookup x) _ _ _ _=true;decide +kernel) rfl (λ_ _ _ _ _=>(a7 (i:=0) (by show List.Nodup [("cell":Str),("nums":Str),("ks":Str)];decide +kernel) rfl (Or.inl rfl))) (λ_ _ _ _ _=>cQ) (λ_ _ _ _ _=>(pc (D:=T.JO) LB hr (aF (pv 0) (aF (pv 1) (aF (pv 2) aB)))))))))))))),?_⟩
 refine iL (K:=K) (aA (k:=2) h2) λv4 v5 H1 s1 q4 q5=>?_;refine dR (K:=K) (d:=SI p) (gB (k:=0) (ds:=[SI p]) (ky (RC.as (DM (bA (k:=1) (s1.ld h1)) (by rw [tB];omega) (Dm p.nm) rfl (λG j c v sG hc hv=>?_)) (uB Xp.ls.nd hp))) aG rfl) λv6 H2 s2 q6=>?_
 ·rw [MZ] at hc
  cases hq:ps[j]? with
  | none=>rw [hq] at hc;cases hc
  | some q =>rw [hq] at hc;cases hc;exact ⟨aK (bI (a6 (k:=0) (aA (k:=0) (show Dat K G (.tup [.str q.nm,U6 q.pt,.tup q.cs]) v from hv)) aG rfl) (aA (k:=1) (sG.dat q4))),aA (k:=0) hv⟩
 have s12:=s1.trans s2;have q6:Dat K H2 (.tup [.str p.nm,U6 p.pt,.tup p.cs]) v6:=q6;refine yF (K:=K) (RE.as (bF (R:=oi) (d:=Zr (cG p.pt t)) (aD (aA (k:=6) q6) (aD (aA (k:=0) (s12.dat h0)) aP)) ⟨.str p.nm,p.pt,.tup p.cs,t,rfl,UH.ok,Sy,by omega,UH.dp,rfl⟩) (by rw [VP];rfl)) λv7 v8 v9 H3 s3 q7 q8 q9=>?_;have QV:=s12.trans s3;refine fw ⟨d8 (by decide),λlc hlc=>?_⟩;have s4:Qh H3 (upd H3 lc (.lst [])):=aV hlc _;have RJ:=QV.trans s4;obtain ⟨ah,us,rfl,hah,Ww⟩:=(s4.dat q7).Qw;obtain ⟨aw,ws,rfl,haw,VY⟩:=((s2.trans (s3.trans s4)).dat q5).Qw;have lu:=Ww.length;have lw:=VY.length;rw [tB] at lu;have less:Qq.length=g.1.length:=by have:=Nq List.length Wx;rw [zN hlen,tB] at this;exact this.symm
 have hlcn:H lc=none:=QV.free hlc
 have lle:Qq.flatten.length+(bW p).length<=900:=by
  have z:(fe Qq g (bW p)).length=Qq.flatten.length+(bW p).length:=by unfold fe;rw [MQ,tB]
  omega
 have lfl:Qq.flatten.length<=900:=by omega
 generalize hG4:upd H3 lc (.lst [])=G4 at s4 RJ hah haw Ww VY;have hc4:G4 lc=some (.lst []):=by rw [<- hG4];exact aI
 refine eA ⟨_,rfl,_,rfl,ah,aw,us,ws,rfl,hah,haw,C2 (K:=K) (xs:=us) (ys:=ws) (λi σ G=>∃ (V1 z12:Option V) (zs:List V),σ=[some v0,some v1,some v2,some v3,some v4,some (.ref aw),some v6,some (.ref ah),some v8,some v9,some (.ref lc),V1,z12]/\Qh H3 G/\QH K G ah us/\QH K G aw ws/\Qf K G (g.1.map toD) us/\Qf K G cv ws/\G lc=some (.lst zs)/\Qf K G (Qq.take i).flatten zs) (by omega) ?_ (λi σ G _ ⟨_,_,_,_,_,p1,p2,_⟩=>⟨p1,p2⟩) ?_ ?_⟩
 ·exact ⟨none,none,[],rfl,s4,hah,haw,Ww,VY,hc4,by rw [Ow];exact Qf.nil⟩
 ·rintro i u w pp σ G hu hw hpp ⟨V1,z12,zs,rfl,sG,ZC,ZD,duG,dwG,hcG,dz⟩;have sn:Qh G (upd G pp (.tup [u,w])):=aV hpp _;obtain ⟨du,ZE,hdu⟩:=duG.T9 hu;obtain ⟨dw,edw,hdw⟩:=dwG.T9 hw;rw [MZ] at ZE
  cases hq:g.1[i]? with
  | none=>rw [hq] at ZE;cases ZE
  | some x =>
   rw [hq] at ZE;cases ZE;have hix:i < Qq.length:=by rw [less];exact (Nu.mp hq).1
   have hx:Qq[i]?=some Qq[i]:=MT hix;have lz:=Bj lfl hx;have hlx:dY ps n x dw=some Qq[i]:=(zM hq edw (by rw [Wx,MZ,hx];rfl)).symm;have tail:=jF UH.nh VP x (Nn hq);have dsm:=gQ tail;refine ⟨pp,_,rfl,QH.of aI,rfl,_,_,rfl,_,_,rfl,rfl,?_⟩;dsimp only;have Yu:=QV.trans (sG.trans sn);have lzs:=dz.length;refine D2 (K:=K) (fK (R:=jy n) (fO (aA (k:=11) (sn.dat hdu)) (eY (bA (k:=1) (Yu.ld h1)) (fO (aA (k:=12) (sn.dat hdw)) (eY (bA (k:=3) (Yu.ld h3)) cK)))) ⟨ps,x,dw,rfl,TV,Xp,gz t x Sy (j9 tail),by omega,by omega,by omega,hlx⟩) (sn _ _ hcG) (by omega) λys G2 b2 hc2 dy=>?_;have g2:gW K (upd G pp (.tup [u,w])) G2:=b2.grow (sn _ _ hcG) hc2;refine ⟨_,_,zs++ys,rfl,λa o ha=>b2 a o (aQ ha hlc) ((sG.trans sn) _ _ ha),g2.tup _ _ (sn.VW ZC),g2.tup _ _ (sn.VW ZD),Qf.mono g2 _ (sn.Qu duG),Qf.mono g2 _ (sn.Qu dwG),hc2,?_⟩;rw [NR,hx,PL];simp only [Option.toList_some,NU,List.flatten_nil,Np];exact Qf.append (Qf.mono g2 _ (sn.Qu dz)) dy
 ·rintro σ G ⟨V1,z12,zs,rfl,sG,ZC,ZD,duG,dwG,hcG,dz⟩;rw [<- lu,<- less,N7] at dz;dsimp only;have Yu:=QV.trans sG
  have q6G:Dat K G (.tup [.str p.nm,U6 p.pt,.tup ((bW p).map Zz)]) v6:=by have z:=(s3.trans sG).dat q6;rw [hcl.eq] at z;exact z
  obtain ⟨g1,g2⟩:=oP _ _ _ VP;have lcl:(bW p).length<=12:=by have:=UH.cs;rw [hcl.eq,tB] at this;exact this
  refine jr (RC.use (K:=K) (es:=fe Qq g (bW p)) (j6 (bA (k:=10) (LD.of hcG dz)) (ky (pJ (cs:=(bW p).map Zz) (a6 (k:=2) (aA (k:=6) q6G) aG rfl) (by rw [tB];omega) ((bW p).map λc=>D.int (jq g.2.1 g.2.2 c)) (by rw [tB,tB]) rfl (λG1 j c v d s1 hc hd hv=>?_))) (by rw [tB];omega)) λl3 vs G2 hl3 s2 hw dw=>post l3 vs G2 (Yu.trans s2) hw (Yu.free hl3) dw);rw [MZ] at hc hd
  cases hq:(bW p)[j]? with
  | none=>rw [hq] at hc;cases hc
  | some x =>rw [hq] at hc hd;cases hc;cases hd;refine bF (R:=vP) (aD (aA (k:=0) hv) (aD (aA (k:=1) ((sG.trans s1).dat q8)) (aD (aA (k:=2) ((sG.trans s1).dat q9)) aP))) ⟨x,g.2.1,g.2.2,rfl,?_,rfl⟩;rw [g1,g2];exact hcl.ok x (Nn hq)
theorem qC (T:Txt P w K mg) (LV:Ok P w base k T.Kt (jT K (EO n))) (LK:Ok P w base k T.Kb (jT K (EN n))):Ok P w base (k+1) T.Ik (jT K (jy (n+1))):=by
 refine T.Ik.f.ok T4 (λvs H Q E h=>?_) (λcdv A outer s H vs Q E hr h=>?_)
 ·obtain ⟨as,es,hd,⟨ps,t,c,rfl,_⟩,_⟩:=h;exact hd.length.symm
 have nd:=T4.nd;obtain ⟨as,es,hd,⟨ps,t,c,rfl,TV,Xp,Sy,U4,n8,Yw,hlay⟩,post⟩:=h;obtain ⟨v0,v1,v2,v3,rfl,h0,h1,h2,h3⟩:=CH hd;have h0:Dat K H (toD t) v0:=h0;have h1:LD K H (ps.map SI) v1:=h1;have h2:Dat K H c v2:=h2;have h3:LD K H [] v3:=h3;have We:es.length<=900:=by have:=gZ TV.ok (n+1) t c es hlay;omega
 refine ⟨_,(aC (bE (aN cA (aX aY (pv 0) aE) bC (aU _)) (aC (bO (i:=4) nd rfl (Or.inl rfl) (aX cE (pv 3) (aX aY (pv 0) aE)))
 (aH (aL (c7 (aF (bQ (v:=.int 15) rfl T.Lg ⟨_,rfl⟩) (aF (bK fg (pv 4) aE) (aF (bK jg (pv 4) aE) aB))))))) aM)
 (aC (bE (aN cA (aX aY (pv 0) aE) bC (aU _)) (aH (aL (pc (D:=T.Kt) LV hr (aF (pv 0) (aF (pv 1) (aF (pv 2) (aF (pv 3) aB))))))) aM)
 (aH (aL (pc (D:=T.Kb) LK hr (aF (pv 0) (aF (pv 1) (aF (pv 2) (aF (pv 3) aB))))))))),?_⟩
 obtain ⟨kd,r,ek,hpk,hcall,VZ⟩:=x8 t Sy;have h0':Dat K H (.tup (.str kd::r)) v0:=by rw [<- ek];exact h0
 refine aO (K:=K) (b:=false) (RT.as (aK (bI (a6 (k:=0) (aA (k:=0) h0') aG rfl) aZ)) (MX hcall)) (λc=>nomatch c) (λ_ H1 s1=>?_)
 obtain ⟨nm,cv,rfl⟩:∃ nm cv,c=.tup [.str nm,.tup cv]:=by
  cases e:ml c with
  | none =>have h:(match ml c with | none=>none | some x=>if x.1="pick" then jH (dY ps n) t x.2 else iY (dY ps n) ps t x.1 x.2)=some es:=hlay;rw [e] at h;cases h
  | some x=>exact ⟨x.1,x.2,yZ e⟩
 have hlay:(if nm="pick" then jH (dY ps n) t cv else iY (dY ps n) ps t nm cv)=some es:=hlay;refine aO (K:=K) (b:=sL t) (RT.as (aK (bI (a6 (k:=0) (aA (k:=0) (s1.dat h0')) aG rfl) aZ)) hpk) (λcp H2 s2=>?_) (λcp H2 s2=>?_)
 ·have s12:=s1.trans s2
  have hn:nm="pick":=by
   apply Classical.byContradiction;intro z;rw [MR z] at hlay;obtain ⟨p,g,Qq,e1,e2,_⟩:=gL hlay
   cases t with
   | pick a b d=>rw [AX (TV.ok p (gg e1).1).nh] at e2;cases e2
   | _=>cases cp
  subst hn;rw [MW rfl] at hlay;obtain ⟨a,b,d,ca,cb,cd,xa,xb,xd,rfl,rfl,la,lb,ld,rfl⟩:=gM hlay;simp only [aS] at U4;simp only [a8] at Yw;exact jr (RC.use (K:=K) (fK (R:=EO n) (fO (aA (k:=0) (s12.dat h0)) (eY (bA (k:=1) (s12.ld h1)) (fO (aA (k:=2) (s12.dat h2)) (eY (bA (k:=3) (s12.ld h3)) cK)))) ⟨ps,a,b,d,ca,cb,cd,xa,xb,xd,rfl,TV,Xp,⟨Sy.1,Sy.2.1,Sy.2.2⟩,⟨by omega,by omega,by omega⟩,by omega,⟨by omega,by omega,by omega⟩,la,lb,ld,We,rfl⟩) λl ys H3 hl s3 hy dy=>post l ys H3 (s12.trans s3) hy (s12.free hl) dy)
 ·have s12:=s1.trans s2
  have hn:¬ nm="pick":=by intro z;rw [MW z] at hlay;obtain ⟨a,b,d,_,_,_,_,_,_,e,_⟩:=gM hlay;subst e;cases cp
  rw [MR hn] at hlay;obtain ⟨p,g,Qq,e1,e2,hl,Wx,rfl⟩:=gL hlay;obtain ⟨hp,rfl⟩:=gg e1;exact jr (RC.use (K:=K) (fK (R:=EN n) (fO (aA (k:=0) (s12.dat h0)) (eY (bA (k:=1) (s12.ld h1)) (fO (aA (k:=2) (s12.dat h2)) (eY (bA (k:=3) (s12.ld h3)) cK)))) ⟨ps,t,p,cv,g,Qq,rfl,TV,Xp,Sy,U4,n8,Yw,hp,e2,hl,Wx,We,rfl⟩) λl ys H3 hl s3 hy dy=>post l ys H3 (s12.trans s3) hy (s12.free hl) dy)
theorem Er:∀ {ps:List Pc},(ps.map (·.nm)).Nodup->∀ p ∈ ps,∀ q ∈ ps,p.nm=q.nm->p=q
 | [],_,p,hp,_,_,_=>by cases hp
 | x::ps,nd,p,hp,q,hq,e=>by
  rw [Nb,OS] at nd;rcases Na.mp hp with e1 | h1
  ·rcases Na.mp hq with e2 | h2
   ·rw [e1,e2]
   ·exact absurd (N4.mpr ⟨q,h2,by rw [<- e,e1]⟩) nd.1
  ·rcases Na.mp hq with e2 | h2
   ·exact absurd (N4.mpr ⟨p,h1,by rw [e,e2]⟩) nd.1
   ·exact Er nd.2 p h1 q h2 e
theorem AN:∀ c:Cl,GA (Zz c)=c
 | .n i=>rfl
 | .arg k=>by kernel_rfl
 | .low k=>by kernel_rfl
 | .high k=>by kernel_rfl
theorem AM {p:Pc} {cl:List Cl} (h:uc p cl):bW p=cl:=by unfold bW;rw [h.eq,OB];exact (List.map_congr_left λc _=>AN c).trans (List.map_id cl)
theorem E1 (ih:∀ t c es,qm ps n t c es->dY ps n t c=some es) {cs:List D} {xss:List (List D)} (h:V0 (qm ps n) ts cs xss):mf (fV (dY ps n) ts cs)=some xss:=by
 induction h with
 | nil=>rfl
 | cons r _ ih2 =>rename_i t c es ts cs Qq _;show mf (dY ps n t c::fV (dY ps n) ts cs)=_;rw [ih t c es r];show (mf (fV (dY ps n) ts cs)).map (es::·)=_;rw [ih2];rfl
theorem mB (nd:(ps.map (·.nm)).Nodup) (np:∀ p ∈ ps,p.nm≠"pick"):∀ (n:Nat) (t:Tr) (c:D) (es:List D),qm ps n t c es->dY ps n t c=some es
 | 0,_,_,_,h=>h.elim
 | n+1,t,c,es,.inl ⟨a,b,d,ca,cb,cd,xa,xb,xd,e1,e2,ha,hb,hd,e3⟩=>by subst e1 e2 e3;have z:dY ps (n+1) (.pick a b d) (.tup [.str "pick",.tup [ca,cb,cd]])=(if ("pick":Str)="pick" then jH (dY ps n) (.pick a b d) [ca,cb,cd] else iY (dY ps n) ps (.pick a b d) "pick" [ca,cb,cd]):=rfl;rw [z,MW rfl];show (mf [dY ps n a ca,dY ps n b cb,dY ps n d cd]).bind Dk=_;rw [mB nd np n a ca xa ha,mB nd np n b cb xb hb,mB nd np n d cd xd hd];rfl
 | n+1,t,c,es,.inr ⟨p,f,cl,cs,xss,hpk,hp,hf,hc,e1,hall,e2⟩=>by
  subst e1 e2
  have e:lA p.nm ps=some p:=by
   cases e:lA p.nm ps with
   | none=>exact absurd rfl (vZ e p hp)
   | some q=>obtain ⟨hq,en⟩:=gg e;rw [Er nd q hq p hp en]
  have z:dY ps (n+1) t (.tup [.str p.nm,.tup cs])=(if p.nm="pick" then jH (dY ps n) t cs else iY (dY ps n) ps t p.nm cs):=rfl;rw [z,MR (np p hp)];unfold iY;rw [e];dsimp only;rw [hf];dsimp only;rw [MW hall.len.1,E1 (mB nd np n) hall,AM hc];rfl
theorem E3 (os:iB ps) (la:sN ps) {b:Int × D} (dp:aS t<=8) (hb:bM ps t=some b):∃ es,dY ps 8 t b.2=some es/\(es.length:Int)=b.1:=by obtain ⟨es,h1,h2⟩:=iV (λp hp=>⟨(os.ok p hp).nh,(os.ok p hp).nm,_,la.cl p hp⟩) 8 t b dp hb;exact ⟨es,mB la.ls.nd (λp hp=>(os.ok p hp).nm) 8 t b.2 es h1,h2⟩
noncomputable def kG (as:List Ar) (es:List D):Prop:=∃ (ps:List Pc) (t:Tr) (b:Int × D) (xs:List D),as=[.d (toD t),.l (ps.map SI)]/\vM ps t/\sN ps/\bM ps t=some b/\dY ps 8 t b.2=some xs/\es=xs++[.int 0]
theorem wC (T:Txt P w K mg) (J6:Ok P w base k T.Iw (UJ K Ao)) (JA:Ok P w base k T.Ik (jT K (jy 8))):Ok P w base (k+1) T.KQ (jT K kG):=by
 refine T.KQ.f.ok Vl (λvs H Q E h=>?_) (λcdv A outer s H vs Q E hr h=>?_)
 ·obtain ⟨as,es,hd,⟨ps,t,b,xs,rfl,_⟩,_⟩:=h;exact hd.length.symm
 have nd:=Vl.nd;obtain ⟨as,es,hd,⟨ps,t,b,xs,rfl,gi,la,hb,hl,rfl⟩,post⟩:=h;obtain ⟨v0,v1,rfl,h0,h1⟩:=uh hd;have h0:Dat K H (toD t) v0:=h0;have h1:LD K H (ps.map SI) v1:=h1;have sz:=gi.sz;have l9:=gZ gi.os.ok 8 t b.2 xs hl;refine ⟨_,(aC (fH (pc (D:=T.Iw) J6 hr (aF (pv 0) (aF (pv 1) aB))) (f6 rfl (bJ (a7 (i:=2) nd rfl (Or.inl rfl)) (bJ (a7 (i:=3) nd rfl (Or.inl rfl)) eE))))
 (aH (aL (bK j5 (pc (D:=T.Ik) JA hr (aF (pv 0) (aF (pv 1) (aF (pv 3) (aF (c7 aB) aB))))) (c7 (aF (bQ (v:=.int 0) rfl T.LH ⟨_,rfl⟩) aB)))))),?_⟩
 refine iL (K:=K) (d:=.int b.1) (e:=b.2) (cU (R:=Ao) (fO (aA (k:=0) h0) (eY (bA (k:=1) h1) cK)) ⟨ps,t,b,rfl,gi.os,gi.ot,gi.dp,by omega,hb,rfl⟩) λv2 v3 H1 s1 q2 q3=>?_;exact jr (RC.use (K:=K) (j6 (ky (fK (R:=jy 8) (fO (aA (k:=0) (s1.dat h0)) (eY (bA (k:=1) (s1.ld h1)) (fO (aA (k:=3) q3) (eY (ky (jk aP)) cK)))) ⟨ps,t,b.2,rfl,gi.os,la,gi.ot,gi.dp,by decide,gi.sz,hl⟩)) (ky (jk (aD aG aP))) (by show xs.length+1<=1000;omega)) λl ys H4 V9 s4 hy dy=>post l ys H4 (s1.trans s4) hy (s1.free V9) dy)
theorem FD (T:Txt P w K mg) (KH:Ok P w base k T.Jy (QF K xA)) (K4:Ok P w base k T.JN (UJ K om)) (Mh:Ok P w base k T.KQ (jT K kG)):Ok P w base (k+1) T.L7 (jT K kG):=by
 refine T.L7.f.ok W3 (λvs H Q E h=>?_) (λcdv A outer s H vs Q E hr h=>?_)
 ·obtain ⟨as,es,hd,⟨ps,t,b,xs,rfl,_⟩,_⟩:=h;exact hd.length.symm
 have nd:=W3.nd;obtain ⟨as,es,hd,⟨ps,t,b,xs,rfl,gi,la,hb,hl,rfl⟩,post⟩:=h;obtain ⟨v0,v1,rfl,h0,h1⟩:=uh hd;have h0:Dat K H (toD t) v0:=h0;have h1:LD K H (ps.map SI) v1:=h1;refine ⟨_,(aC (bT (pc (D:=T.Jy) KH hr (aF (pv 0) aB)))
 (aC (bT (pc (D:=T.JN) K4 hr (aF (pv 1) aB)))
 (aH (aL (pc (D:=T.KQ) Mh hr (aF (pv 0) (aF (pv 1) aB))))))),?_⟩
 refine gC (RE.use (bF (R:=xA) (d:=.Qj) (aD (aA (K:=K) (k:=0) h0) aP) ⟨toD t,rfl,yO gi.ot gi.dp gi.sz,rfl⟩) λv4 H1 s1 _=>?_);refine gC (RE.use (cU (R:=om) (d:=.Qj) (eY (bA (K:=K) (k:=1) (s1.ld h1)) cK) ⟨ps,rfl,gi.gs,rfl⟩) λv5 H2 s2 _=>?_);have s12:=s1.trans s2;exact jr (RC.use (K:=K) (fK (R:=kG) (fO (aA (k:=0) (s12.dat h0)) (eY (bA (k:=1) (s12.ld h1)) cK)) ⟨ps,t,b,xs,rfl,gi,la,hb,hl,rfl⟩) λl ys H4 V9 s4 hy dy=>post l ys H4 (s12.trans s4) hy (s12.free V9) dy)
noncomputable abbrev Xd:Pc:=⟨"wide",.slot 0,[.int 3,.tup [.str "arg",.int 0],.int 12,.int 0,.int 12,.int 0,.int 12,.int 0,.int 12,.int 0,.int 12,.int 0]⟩
noncomputable abbrev X4:Pc:=⟨"sub",.two "sub" (.hole 0) (.hole 1),[.int 5]⟩
noncomputable abbrev rW:List Pc:=BP++[Xd]
structure gdP (p:Pc):Prop where
 ok:Dq p
 pc:pF (SI p)=some true/\p.nm.length<=sizeLine
 nl:Rr (SI p)=true/\fD (SI p)<=19
 cl:uc p (bW p)
theorem Fh:∀ p ∈ rW,gdP p:=by intro p hp;simp only [rW,BP,Xd,List.cons_append,OG,Np,Na,Ny,NX] at hp;rcases hp with rfl | rfl | rfl | rfl | rfl | rfl | rfl | rfl | rfl <;> exact ⟨⟨by decide +kernel,by simp [wB,Xl],by decide,by decide,rfl⟩,⟨by decide +kernel,by decide⟩,⟨by decide +kernel,by decide +kernel⟩,by kernel_rfl,λc hc=>N6.mp (show List.all (bW _) (Fc _ _)=true by decide +kernel) c hc⟩
structure gdS (ps:List Pc):Prop where
 gs:lC ps
 ok:iB ps
 la:sN ps
 sb:∀ p ∈ ps,p ∈ rW
theorem A3 (lo:1<=ps.length) (hi:ps.length<=16) (nd:(ps.map (·.nm)).Nodup) (sb:∀ p ∈ ps,p ∈ rW):gdS ps:=by have g:∀ p ∈ ps,gdP p:=λp hp=>Fh p (sb p hp);exact ⟨⟨lo,hi,λp hp=>(g p hp).pc,nd⟩,⟨λp hp=>(g p hp).ok,by omega⟩,⟨⟨nd,λp hp=>(g p hp).nl⟩,λp hp=>(g p hp).cl⟩,sb⟩
theorem GE:gdS BP:=A3 (by decide) (by decide) (by decide +kernel) λp hp=>Oa _ hp
theorem GF:gdS [Xd,X4]:=A3 (by decide) (by decide) (by decide +kernel) λp hp=>by
 rcases Na.mp hp with rfl | hp
 ·simp [rW]
 ·rw [Nf.mp hp];simp [rW,BP]
noncomputable def two (o:Str) (x y b:Int):Int:=if o="less" then (if x < y then 1 else 0) else if o="add" then (x+y) % b else if o="sub" then (x - y) % b else x * y % b
theorem iU {x y b:Int} (hb:2<=b):0<=two o x y b/\two o x y b < b:=by
 unfold two;split
 ·split <;> omega
 ·split
  ·exact ⟨NO _ (by omega),NJ _ (by omega)⟩
  ·split
   ·exact ⟨NO _ (by omega),NJ _ (by omega)⟩
   ·exact ⟨NO _ (by omega),NJ _ (by omega)⟩
noncomputable def Aw (ds:List D) (d:D):Prop:=∃ s m,ds=[.int s,.int m]/\2<=s/\s<=m/\d=.Qj
noncomputable def Ak (ds:List D) (d:D):Prop:=∃ (as:List Int) (s:Int),ds=[.tup (as.map D.int),.int s]/\as.length=4/\(∀ x ∈ as,0<=x/\x < s)/\d=.Qj
noncomputable def Eh (ds:List D) (d:D):Prop:=∃ o x y b,ds=[.str o,.int x,.int y,.int b]/\2<=b/\b<=10000/\0<=x/\x < b/\0<=y/\y < b/\d=.int (two o x y b)
theorem Ek {K:W.Frag} {a b c:D} {vs:List V} (h:Qf K H [a,b,c,e] vs):∃ u v w x,vs=[u,v,w,x]/\Dat K H a u/\Dat K H b v/\Dat K H c w/\Dat K H e x:=by obtain ⟨u,r,e,h1,h⟩:=h.QN;obtain ⟨v,w,x,q,h2⟩:=oI h;subst q e;exact ⟨u,v,w,x,rfl,h1,h2⟩
theorem B1 {K:W.Frag} {R:List D->D->Prop} (h:RA K tA σ H ds) (hd:∀ H,Qf K H es Up) (e:R (ds++es) d):RE K (jV (QF K R) Up E tA) σ H d:=λH1 s Q q =>
 h H1 s _ λvs H2 s2 q2=>⟨ds++es,d,Qf.append q2 (hd _),e,λv H3 s3 q3=>q _ _ (s2.trans s3) q3⟩
theorem tq (T:Txt P w K mg) (HN:Ok P w base k T.HL (QF K fq)):QE P w K mg base Ur (k+1) T.JS T.JT ["size","most"] (QF K Aw):=by
 refine T.JU.ok Uz (λvs H Q E h=>?_) (λcdv A outer s H vs Q E hr h=>?_)
 ·obtain ⟨ds,d,hd,⟨s,m,rfl,_⟩,_⟩:=h;exact hd.length.symm
 have nd:=Uz.nd;obtain ⟨ds,d,hd,⟨s,m,rfl,h1,h2,rfl⟩,post⟩:=h;obtain ⟨v0,v1,rfl,q0,q1⟩:=gb hd;refine ⟨_,(aH (bE (cR (bP (pc (D:=T.HL) HN hr (aF (pv 0) (aF aE (aF (pv 1) aB)))) (λ_=>rfl))) (aH c8) aM)),?_⟩;refine g9 (b:=!dE (.int s) 2 m) (bS (bL (bF (aD (aA q0) (aD aG (aD (aA q1) aP))) ⟨_,_,_,rfl,rfl⟩))) (λc H1 s1=>?_) (λc H1 s1=>?_)
 ·simp [dE,h1,h2] at c
 ·exact post _ _ s1 Dat.VM
theorem tj (T:Txt P w K mg) (HN:Ok P w base k T.HL (QF K fq)):Ok P w base (k+1) T.Kw (QF K Ak):=by
 refine T.Kw.f.ok UA (λvs H Q E h=>?_) (λcdv A outer s H vs Q E hr h=>?_)
 ·obtain ⟨ds,d,hd,⟨as,s,rfl,_⟩,_⟩:=h;exact hd.length.symm
 have nd:=UA.nd;obtain ⟨ds,d,hd,⟨as,s,rfl,h1,h2,rfl⟩,post⟩:=h;obtain ⟨v0,v1,rfl,q0,q1⟩:=gb hd;refine ⟨_,(aC (bE (PW.pt (gq (cR (bP (aW (fC lD) rfl T.HV cO (cZ (pv 0) (cZ (gA (v:=.ty "tuple") rfl T.JC f9 rfl) aB))) (λ_=>rfl))) (fJ (aN jN (aW aT rfl T.HW bV (aF (pv 0) aB)) (bQ (v:=.int 4) rfl T.Jp ⟨_,rfl⟩) (aU _))))) (aH c8) aM)
 (aH (bE (cR (bP (aW (iy rfl) rfl T.Ln kJ (aF (e8 (own:=["number"]) (fr:=[1]) (N':=["number","size"]) (h6 (pv 0)) rfl (by show dW ["args","size"] (λx=>(aJ jR).names.lookup x) _ _ _ _=true;decide +kernel) rfl (λ_ _ _ _ _=>(a7 (i:=0) (by show List.Nodup [("number":Str),("size":Str)];decide +kernel) rfl (Or.inl rfl))) (λ_ _ _ _ _=>cQ) (λ_ _ _ _ _=>(pc (D:=T.HL) HN hr (aF (pv 0) (aF aE (aF (bK kP (pv 1) aE) aB)))))) aB)) (λ_=>rfl))) (aH c8) aM))),?_⟩
 refine aO (K:=K) (b:=false) ?_ (λc=>nomatch c) (λ_ H1 s1=>?_)
 ·refine RT.as (eR (bS (bL (cX (aA q0)))) λ_=>aK (jl (eU (aA q0)) aG)) ?_;rw [tB,h1];rfl
 have q0':=s1.dat q0;have q1':=s1.dat q1;refine g9 (b:=!(as.map λ_=>true).all id) (bS (bL (wU (aA q0') (by rw [tB];omega) (as.map λ_=>true) (by simp) rfl (λH2 i c v b s2 hc hb hv=>?_)))) (λc H2 s2=>?_) (λc H2 s2=>?_)
 ·rw [MZ] at hc hb
  cases hx:as[i]? with
  | none=>rw [hx] at hc;cases hc
  | some x =>
   rw [hx] at hc hb;cases hc;cases hb;have hb:=h2 x (Nn hx);refine RE.as (bF (R:=fq) (aD (aA hv) (aD aG (aD (kS (aA (s2.dat q1')) aG) aP))) ⟨_,_,_,rfl,rfl⟩) ?_;have h3:x<=s - 1:=by omega
   simp [dE,hb.1,h3]
 ·simp at c
 ·exact post _ _ (s1.trans s2) Dat.VM
theorem mK (T:Txt P w K mg)  : Ok P w base (k+1) T.Jn (QF K Eh):=by
 refine T.Jn.f.ok SH (λvs H Q E h=>?_) (λcdv A outer s H vs Q E hr h=>?_)
 ·obtain ⟨ds,d,hd,⟨o,x,y,b,rfl,_⟩,_⟩:=h;exact hd.length.symm
 have nd:=SH.nd;obtain ⟨ds,d,hd,⟨o,x,y,b,rfl,hb,hb2,hx,hx2,hy,YU,rfl⟩,post⟩:=h;obtain ⟨v0,v1,v2,v3,rfl,q0,q1,q2,q3⟩:=Ek hd;refine ⟨_,(aC (bE (aN cA (pv 0) bC (aU _)) (aH (aL (g7 (aN ni (pv 1) (pv 2) (aU _)) aE aE))) aM)
 (aC (bE (aN cA (pv 0) bC (aU _)) (aH (aL (bK fg (bK cJ (pv 1) (pv 2)) (pv 3)))) aM)
 (aC (bE (aN cA (pv 0) bC (aU _)) (aH (aL (bK fg (bK kP (pv 1) (pv 2)) (pv 3)))) aM)
 (aH (aL (bK fg (bK pC (pv 1) (pv 2)) (pv 3))))))),?_⟩
 refine aO (K:=K) (b:=decide (o="less")) (aK (bI (aA q0) aZ)) (λc H1 s1=>?_) (λc H1 s1=>?_)
 ·refine bB (K:=K) (d:=.int (two o x y b)) ?_ λv H' s q=>post v H' (s1.trans s) q;have e:two o x y b=if x < y then 1 else 0:=by unfold two;rw [MW (M1 c)]
  rw [e];refine kx (b:=decide (x < y)) (aK (d9 (p:=λi j=>decide (i < j)) (aA (s1.dat q1)) (aA (s1.dat q2)))) (λc2=>?_) (λc2=>?_)
  ·rw [MW (M1 c2)];exact aG
  ·rw [MR (Ng c2)];exact aG
 have q0:=s1.dat q0;have q1:=s1.dat q1;have q2:=s1.dat q2;have q3:=s1.dat q3;have n1:=Ng c;refine aO (K:=K) (b:=decide (o="add")) (aK (bI (aA q0) aZ)) (λc H2 s2=>?_) (λc H2 s2=>?_)
 ·refine bB (K:=K) (d:=.int (two o x y b)) ?_ λv H' s q=>post v H' (s1.trans (s2.trans s)) q;have e:two o x y b=(x+y) % b:=by unfold two;rw [MR n1,MW (M1 c)]
  rw [e];exact iS (dO (aA (s2.dat q1)) (aA (s2.dat q2))) (aA (s2.dat q3)) (by omega)
 have q0:=s2.dat q0;have q1:=s2.dat q1;have q2:=s2.dat q2;have q3:=s2.dat q3;have n2:=Ng c;refine aO (K:=K) (b:=decide (o="sub")) (aK (bI (aA q0) aZ)) (λc H3 s3=>?_) (λc H3 s3=>?_)
 ·refine bB (K:=K) (d:=.int (two o x y b)) ?_ λv H' s q=>post v H' (s1.trans (s2.trans (s3.trans s))) q;have e:two o x y b=(x - y) % b:=by unfold two;rw [MR n1,MR n2,MW (M1 c)]
  rw [e];exact iS (kS (aA (s3.dat q1)) (aA (s3.dat q2))) (aA (s3.dat q3)) (by omega)
 have n3:=Ng c;refine bB (K:=K) (d:=.int (two o x y b)) ?_ λv H' s q=>post v H' (s1.trans (s2.trans (s3.trans s))) q;have e:two o x y b=x * y % b:=by unfold two;rw [MR n1,MR n2,MR n3]
 rw [e];exact iS (wV (aA (s3.dat q1)) (aA (s3.dat q2)) (.inr ⟨by omega,by omega⟩)) (aA (s3.dat q3)) (by omega)
noncomputable def xH (d:D):Bool:=dE d 0 99
noncomputable def m5 (ds:List D):Bool:=(decide (1<=(ds.length:Int)) && decide ((ds.length:Int)<=1000)) && (ds.map xH).all id
noncomputable def An (as:List Ar) (d:D):Prop:=∃ ds,as=[.l ds]/\ds.length<=1000/\d=.bl (m5 ds)
theorem wF (T:Txt P w K mg) (HN:Ok P w base k T.HL (QF K fq)):Ok P w base (k+1) T.KS (UJ K An):=by
 refine T.KS.f.ok Vm (λvs H Q E h=>?_) (λcdv A outer s H vs Q E hr h=>?_)
 ·obtain ⟨as,d,hd,⟨ds,rfl,_⟩,_⟩:=h;exact hd.length.symm
 have nd:=Vm.nd;obtain ⟨as,d,hd,⟨ds,rfl,Xe,rfl⟩,post⟩:=h;obtain ⟨v0,rfl,h0⟩:=yQ hd;have h0:LD K H ds v0:=h0;refine ⟨_,(aC (bE (PW.pt (gq (cR (bP (aW (fC ya) rfl T.HV cO (cZ (pv 0) (cZ (gA (v:=.ty "list") rfl T.Li lj rfl) aB))) (λ_=>rfl))) (fJ (cR (lP ib ib aE (aW aT rfl T.HW bV (aF (pv 0) aB)) (bQ (v:=.int 1000) rfl T.Jf ⟨_,rfl⟩)))))) (aH (aL eH)) aM)
 (aH (aL (aW (iy rfl) rfl T.Ln kJ (aF (e8 (own:=["cell"]) (fr:=[]) (N':=["cell"]) (fN (pv 0)) rfl (by show dW ["thing"] (λx=>(aJ mQ).names.lookup x) _ _ _ _=true;decide +kernel) rfl (λ_ _ _ _ _=>(a7 (i:=0) (by show List.Nodup [("cell":Str)];decide +kernel) rfl (Or.inl rfl))) (λ_ _ _ _ _=>cQ) (λ_ _ _ _ _=>(pc (D:=T.HL) HN hr (aF (pv 0) (aF aE (aF (bQ (v:=.int 99) rfl T.IM ⟨_,rfl⟩) aB)))))) aB))))),?_⟩
 refine aO (K:=K) (b:=!(decide (1<=(ds.length:Int)) && decide ((ds.length:Int)<=1000))) ?_ (λc H1 s1=>?_) (λc H1 s1=>?_)
 ·exact RT.as (eR (b:=false) (RT.as (bS (bL (cX (aA h0.lst)))) rfl) λ_=>bS (aK (jO (p:=λi j=>decide (i<=j)) (r:=λi j=>decide (i<=j)) aG (fP (bA h0)) λ_=>aG))) (N9 _)
 ·refine bB (K:=K) (d:=.bl false) fM λv H2 s2 q=>post v H2 (s1.trans s2) ?_
  have e:m5 ds=false:=by unfold m5;have z:(decide (1<=(ds.length:Int)) && decide ((ds.length:Int)<=1000))=false:=(Bool.not_eq_true' _).mp c;rw [z];rfl
  rw [e];exact q
 ·have z:(decide (1<=(ds.length:Int)) && decide ((ds.length:Int)<=1000))=true:=(P6 _).mp c;have e:m5 ds=(ds.map xH).all id:=by unfold m5;rw [z];rfl
  rw [e] at post;refine bB (K:=K) (d:=.bl ((ds.map xH).all id)) (j7 (bs:=ds.map xH) (iE (bA (s1.ld h0)) Xe _ (by simp) rfl (λG j x v d s2 hc hd hv=>?_))) λv H2 s2 q=>post v H2 (s1.trans s2) q;rw [MZ,MZ,hc] at hd;cases hd;exact bF (R:=fq) (aD (aA (k:=0) hv) (aD aG (aD aG aP))) ⟨x,0,99,rfl,rfl⟩
noncomputable def oj (as:List Ar) (d:D):Prop:=∃ ds,as=[.l ds]/\ds.length<=1000/\m5 ds=true/\d=.Qj
theorem tm (T:Txt P w K mg) (Mj:Ok P w base k T.KS (UJ K An)):Ok P w base (k+1) T.Jx (UJ K oj):=by
 refine T.Jx.f.ok UB (λvs H Q E h=>?_) (λcdv A outer s H vs Q E hr h=>?_)
 ·obtain ⟨as,d,hd,⟨ds,rfl,_⟩,_⟩:=h;exact hd.length.symm
 have nd:=UB.nd;obtain ⟨as,d,hd,⟨ds,rfl,Xe,hB,rfl⟩,post⟩:=h;obtain ⟨v0,rfl,h0⟩:=yQ hd;have h0:LD K H ds v0:=h0;refine ⟨_,(aH (bE (cR (bP (pc (D:=T.KS) Mj hr (aF (pv 0) aB)) (λ_=>rfl))) (aH c8) aM)),?_⟩;exact g9 (b:=false) (RT.as (bS (bL (cU (K:=K) (R:=An) (eY (bA h0) cK) ⟨ds,rfl,Xe,rfl⟩))) (by rw [hB];rfl)) (λc=>nomatch c) (λ_ H1 s1=>post _ H1 s1 Dat.VM)
noncomputable abbrev NM:List Str:=["end","put","far","load","add","sub","mul","less","skip","jump","zero","none","more","twice","about","call","back"]
noncomputable def dJ (i:Int):Nat:=if i ∈ ([2,9,11,15]:List Int) then 2 else if i ∈ ([1,3,8,10,12]:List Int) then 1 else 0
structure X5 (cs:List Int):Prop where
 l0:1<=cs.length
 l1:cs.length<=900
 c:∀ (i:Nat) (c:Int),cs[i]?=some c->0<=c/\c<=99
noncomputable abbrev cD (cs:List Int):List D:=cs.map D.int
noncomputable def jw (cs:List Int) (p m:Nat):List D:=((cD cs).drop (p+1)).take m
noncomputable def Tt (c:Int):Str:=NM.getD c.toNat ""
noncomputable def vq (cs:List Int) (p:Nat) (c:Int):D:=.tup [.int p,.str (Tt c),.tup (jw cs p (dJ c))]
noncomputable def i8 (cs:List Int) (p:Nat) (c:Int):Bool:=decide (16 < c) || decide (cs.length<=p+dJ c)
noncomputable def gG (cs:List Int):Nat->Nat->List D × Option Nat
 | 0,_=>([],none)
 | n+1,p=>match cs[p]? with
  | none=>([],none)
  | some c=>if i8 cs p c=true then ([],some p) else (vq cs p c::(gG cs n (p+1+dJ c)).1,(gG cs n (p+1+dJ c)).2)
theorem Da:∀ i:Nat,i < 17->Yo[i]?=some (.tup [.str (NM.getD i ""),.int ((dJ i:Nat):Int)]):=by
 intro i hi
 match i,hi with
 | 0,_=>rfl
 | 1,_=>rfl
 | 2,_=>rfl
 | 3,_=>rfl
 | 4,_=>rfl
 | 5,_=>rfl
 | 6,_=>rfl
 | 7,_=>rfl
 | 8,_=>rfl
 | 9,_=>rfl
 | 10,_=>rfl
 | 11,_=>rfl
 | 12,_=>rfl
 | 13,_=>rfl
 | 14,_=>rfl
 | 15,_=>rfl
 | 16,_=>rfl
 | n+17,h=>omega
theorem CM (c:Int):dJ c<=2:=by
 unfold dJ;split
 ·exact M0 _
 ·split <;> omega
variable {cs:List Int}
theorem Gz (h:cs[p]?=some c):(cD cs)[p]?=some (.int c):=by rw [MZ,h];rfl
theorem oA {m:Nat}:(jw cs p m).length=min m (cs.length - (p+1)):=by unfold jw;rw [NI,OM,tB]
theorem xE (h:i8 cs p c=false):c<=16/\p+dJ c < cs.length:=by unfold i8 at h;rw [OJ] at h;have h1:=Ng h.1;have h2:=Ng h.2;omega
noncomputable def ud (as:List Ar) (d:D):Prop:=∃ (cs:List Int) (p:Nat) (c:Int),as=[.l (cD cs),.d (.int p)]/\X5 cs/\cs[p]?=some c/\i8 cs p c=false/\d=.tup [.str (Tt c),.tup (jw cs p (dJ c))]
noncomputable def yR (cs:List Int) (p:Nat):Bool:=match cs[p]? with
 | none=>true
 | some c=>i8 cs p c
theorem kO (T:Txt P w K mg)  : Ok P w base (k+1) T.HM (UJ K ud):=by
 refine T.HM.f.ok QO (λvs H Q E h=>?_) (λcdv A outer s H vs Q E hr h=>?_)
 ·obtain ⟨as,d,hd,⟨cs,p,c,rfl,_⟩,_⟩:=h;exact hd.length.symm
 have nd:=QO.nd;obtain ⟨as,d,hd,⟨cs,p,c,rfl,ok,hc,hb,rfl⟩,post⟩:=h;obtain ⟨v0,v1,rfl,h0,h1⟩:=uh hd;have h0:LD K H (cD cs) v0:=h0;have h1:Dat K H (.int (p:Int)) v1:=h1;obtain rfl:=h1.Qk;have hp:p < cs.length:=(Nu.mp hc).1;obtain ⟨c0,c99⟩:=ok.c p c hc;have ec:c=((c.toNat:Nat):Int):=by omega
 have hc':=Gz hc;refine ⟨_,(aC (bE (PW.pt (gq (aN rj (pv 1) (aW aT rfl T.HW bV (aF (pv 0) aB)) (aU _)) (fJ (aN rj (aX cE (pv 0) (pv 1)) (aW aT rfl T.HW bV (aF (bQ (v:=.ref T.Im) rfl T.HX rfl) aB)) (aU _))))) (aH c8) aM)
 (aC (fH (aX aY (bQ (v:=.ref T.Im) rfl T.HX rfl) (aX cE (pv 0) (pv 1))) (f6 rfl (bJ (a7 (i:=2) nd rfl (Or.inl rfl)) (bJ (a7 (i:=3) nd rfl (Or.inl rfl)) eE))))
 (aC (bO (i:=4) nd rfl (Or.inl rfl) (fh fu rfl T.JC f9 (aF (i0 D8 (pv 0) (iH (bK cJ (pv 1) aE)) (iH (bK cJ (bK cJ (pv 1) aE) (pv 3)))) aB)))
 (aC (bE (aN ni (aW aT rfl T.HW bV (aF (pv 4) aB)) (pv 3) (aU _)) (aH c8) aM)
 (aH (aL (bR (aF (pv 2) (aF (pv 4) aB))))))))),?_⟩
 obtain ⟨h16,hlt⟩:=xE hb;have lb:(jw cs p (dJ c)).length=dJ c:=by rw [oA];omega
 refine aO (K:=K) (b:=false) (RT.as (eR (b:=false) (c:=false) (RT.as (aK (d9 (p:=λi j=>decide (j<=i)) (aA h1) (fP (bA h0)))) (MX (by rw [tB];omega))) λ_=>RT.as (aK (d9 (p:=λi j=>decide (j<=i)) (gB (k:=p) (bA h0) (aA h1) hc') (eU (jP T.IZ)))) (MX (by show ¬ (17:Int)<=c;omega))) rfl) (λc=>nomatch c) (λ_ H1 s1=>?_);have h0:=s1.ld h0;have h1:=s1.dat h1;have hi:=Da c.toNat (by omega);rw [<- ec] at hi;refine iL (K:=K) (d:=.str (Tt c)) (e:=.int (dJ c)) (a6 (k:=c.toNat) (jP T.IZ) (RE.as (gB (k:=p) (bA h0) (aA h1) hc') (Nq D.int ec)) hi) λv2 v3 H2 s2 h2 h3=>?_;have h0:=s2.ld h0;have h1:=s2.dat h1;have el:(p:Int)+1=((p+1:Nat):Int):=by omega
 have eh:(p:Int)+1+(dJ c:Int)=((p+1+dJ c:Nat):Int):=by omega
 refine dR (K:=K) (d:=.tup (jw cs p (dJ c))) (RE.as (rE (DL (lo:=p+1) (hi:=p+1+dJ c) (bA h0) (RE.as (dO (aA h1) aG) (Nq D.int el)) (RE.as (dO (dO (aA h1) aG) (aA h3)) (Nq D.int eh)))) (by unfold jw;rw [show p+1+dJ c - (p+1)=dJ c by omega])) λv4 H3 s3 h4=>?_;refine aO (K:=K) (b:=false) (RT.as (aK (d9 (p:=λi j=>decide (i < j)) (eU (aA h4)) (aA (s3.dat h3)))) (MX (by rw [lb];omega))) (λc=>nomatch c) (λ_ H4 s4=>?_);exact bB (K:=K) (d:=.tup [.str (Tt c),.tup (jw cs p (dJ c))]) (bY (aD (aA (s4.dat (s3.dat h2))) (aD (aA (s4.dat h4)) aP))) λv H' s q=>post v H' (s1.trans (s2.trans (s3.trans (s4.trans s)))) q
noncomputable def gN (ns:List Int):Int:=ns.foldr (λc acc=>acc * 100+c) 0
noncomputable def Av (ds:List D) (d:D):Prop:=∃ ns:List Int,ds=[.tup (ns.map D.int)]/\ns.length<=2/\(∀ n ∈ ns,0<=n/\n<=99)/\d=.int (gN ns)
theorem Bw:ns.length<=2->(∀ n ∈ ns,0<=n/\n<=99)->0<=gN ns/\gN ns<=9999:=by
 intro h2 h
 match ns,h2 with
 | [],_=>exact ⟨PN _,by decide⟩
 | [a],_ =>have ha:=h a (by simp);show 0<=(0:Int) * 100+a/\(0:Int) * 100+a<=9999;omega
 | [a,b],_ =>have ha:=h a (by simp);have hb:=h b (by simp);show 0<=((0:Int) * 100+b) * 100+a/\((0:Int) * 100+b) * 100+a<=9999;omega
theorem pB (T:Txt P w K mg)  : Ok P w base (k+1) T.JQ (QF K Av):=by
 refine T.JQ.f.ok Tz (λvs H Q E h=>?_) (λcdv A outer s H vs Q E hr h=>?_)
 ·obtain ⟨ds,d,hd,⟨ns,rfl,_⟩,_⟩:=h;exact hd.length.symm
 have nd:=Tz.nd;obtain ⟨ds,d,hd,⟨ns,rfl,l2,hb,rfl⟩,post⟩:=h;obtain ⟨v0,rfl,h0⟩:=ia hd;refine ⟨_,(aC (bO (i:=1) nd rfl (Or.inl rfl) aE)
 (aC (h7 NP rfl (DC rfl T.K6 (aF (pv 0) aB)) (a7 (i:=2) nd rfl (Or.inl rfl)) (aH (bO (i:=1) nd rfl (Or.inl rfl) (bK cJ (bK pC (pv 1) aE) (pv 2)))))
 (aH (aL (pv 1))))),?_⟩
 refine dR (K:=K) (d:=.int 0) aG λv1 H1 s1 q1=>?_;obtain rfl:=q1.Qk;obtain ⟨a,vs,rfl,hq,hds⟩:=(s1.dat h0).Qw;have ev:=oH hds;have ll:=hds.length;rw [tB] at ll;refine eA ⟨_,rfl,a,vs,rfl,hq,AY (K:=K) (a:=a) (xs:=vs) (λi σ G=>∃ z:Option V,σ=[some (.ref a),some (.int (gN (ns.drop (ns.length - i)))),z]/\Qh H1 G) ?_ ?_ ?_ ?_⟩
 ·refine ⟨none,?_,Qh.refl _⟩;rw [Nat.sub_zero,List.drop_length];rfl
 ·rintro i σ G hi ⟨z,rfl,sG⟩;exact sG.VW hq
 ·rintro i x σ G hi hx ⟨z,rfl,sG⟩;refine iJ ?_;dsimp only;rw [ev,MZ,tB] at hx;obtain ⟨c,hc,rfl⟩:=Nm.mp hx;have hcb:=hb c (Nn hc);have nb:=Bw (ns:=ns.drop (ns.length - i)) (by rw [OM];omega) (λn hn=>hb n (List.mem_of_mem_drop hn))
  have e:ns.drop (ns.length - (i+1))=c::ns.drop (ns.length - i):=by
   have h1:ns.length - (i+1) < ns.length:=by omega
   rw [List.drop_eq_getElem_cons h1];have h2:ns.length - (i+1)+1=ns.length - i:=by omega
   rw [h2];congr 1;have h3:ns.length - 1 - i=ns.length - (i+1):=by omega
   rw [h3,MT h1] at hc;exact NK hc
  refine B8 (K:=K) (d:=.int (gN (ns.drop (ns.length - i)) * 100+c)) (dO (wV (aA (k:=1) (Dat.Qm _)) aG (.inr ⟨by omega,by omega⟩)) (aA (k:=2) (Dat.Qm c))) λv H' s d=>⟨some (.int c),?_,sG.trans s⟩
  rw [e,d.Qk];rfl
 ·rintro σ G ⟨z,rfl,sG⟩;have e:ns.drop (ns.length - vs.length)=ns:=by rw [<- ll,Qe];rfl
  rw [e];exact ⟨_,rfl,post _ _ (s1.trans sG) (Dat.Qm _)⟩
structure MS where
 pile:List Int
 place:Nat
 kept:List Nat
 ended:Bool
structure MC where
 cs:List Int
 as:List Int
 b:Int
structure zG (mc:MC):Prop where
 cs:X5 mc.cs
 as:mc.as.length=4
 ai:∀ x ∈ mc.as,0<=x/\x < mc.b
 b2:2<=mc.b
 b9:mc.b<=10000
structure jx (mc:MC) (st:MS):Prop where
 p:∀ x ∈ st.pile,0<=x/\x < mc.b
 l:st.pile.length<=64
 k:st.kept.length<=16
noncomputable def fW (st:MS):Option (Int × MS):=match st.pile with
 | []=>none
 | x::r=>some (x,{ st with pile:=r })
noncomputable def cV (mc:MC) (n:Int) (st:MS):Option MS:=if st.pile.length=64 then none else some { st with pile:=(n % mc.b)::st.pile }
noncomputable def km (nm:Str) (num on:Nat) (st:MS):Option (Nat × MS) :=
 if nm ∈ (["skip","jump"]:List Str) then some (on+num,st)
 else if nm ∈ (["zero","none"]:List Str) then (fW st).map λp=>(if p.1=0 then on+num else on,p.2)
 else if nm="call" then (if st.kept.length=16 then none else some (num,{ st with kept:=on::st.kept }))
 else match st.kept with
  | []=>none
  | k::r=>some (k,{ st with kept:=r })
noncomputable def jY (st:MS):Option MS:=if st.pile.length=1 then some { st with ended:=true } else none
noncomputable def eB (mc:MC) (nm:Str) (num:Nat) (st:MS):Option MS :=
 if nm ∈ (["put","far"]:List Str) then cV mc num st
 else if nm="load" then cV mc (mc.as.getD num 0) st
 else (fW st).bind λu =>
  if nm="more" then cV mc (u.1+num) u.2
  else if nm="twice" then (cV mc u.1 u.2).bind λs=>cV mc u.1 s
  else if nm="about" then (fW u.2).bind λl=>(cV mc u.1 l.2).bind λs=>cV mc l.1 s
  else (fW u.2).bind λl=>cV mc (two nm l.1 u.1 mc.b) l.2
structure MA where
 m:Addr
 dx:Addr
 lp:Addr
 lk:Addr
 lc:Addr
 vg:V
noncomputable def mF (A:MA) (mc:MC) (st:MS):List (Str × V):=[("cells",.ref A.lc),("given",A.vg),("size",.int mc.b),("pile",.ref A.lp),("place",.int st.place),("kept",.ref A.lk),("ended",.bl st.ended)]
noncomputable def pV (l:List Int):List V:=l.reverse.map V.int
noncomputable def Wf (l:List Nat):List V:=l.reverse.map λ(n:Nat)=>V.int n
theorem yl (x:Int) (l:List Int):pV (x::l)=pV l++[.int x]:=by unfold pV;rw [OZ,Nl];rfl
theorem uI (x:Nat) (l:List Nat):Wf (x::l)=Wf l++[.int x]:=by unfold Wf;rw [OZ,Nl];rfl
theorem FI (l:List Int):(pV l).length=l.length:=by unfold pV;rw [tB,N1]
theorem Di (l:List Nat):(Wf l).length=l.length:=by unfold Wf;rw [tB,N1]
structure Qo (K:W.Frag) (C:Addr) (A:MA) (mc:MC) (st:MS) (H:Hp):Prop where
 ins:H A.m=some (.ins C A.dx (mF A mc st))
 cells:H A.lc=some (.lst (mc.cs.map V.int))
 given:Dat K H (.tup (mc.as.map D.int)) A.vg
 pile:H A.lp=some (.lst (pV st.pile))
 kept:H A.lk=some (.lst (Wf st.kept))
 ne:A.lp≠A.lk
 c1:A.lc≠A.lp
 c2:A.lc≠A.lk
noncomputable def R4 (A:MA) (H H':Hp):Prop:=∀ x o,x≠A.m->x≠A.lp->x≠A.lk->H x=some o->H' x=some o
variable {A:MA}
theorem R4.trans {H1 H2:Hp} (a:R4 A H H1) (b:R4 A H1 H2):R4 A H H2:=λx o n1 n2 n3 e=>b x o n1 n2 n3 (a x o n1 n2 n3 e)
variable {H':Hp}
theorem h8 (s:Qh H H'):R4 A H H':=λx o _ _ _ e=>s x o e
theorem R4.lp {o:HO}:R4 A H (upd H A.lp o):=λx u _ n _ e=>by rw [aR n];exact e
theorem R4.lk {o:HO}:R4 A H (upd H A.lk o):=λx u _ _ n e=>by rw [aR n];exact e
theorem R4.m {o:HO}:R4 A H (upd H A.m o):=λx u n _ _ e=>by rw [aR n];exact e
section
variable {C:Addr} {A:MA} {mc:MC} {st:MS} {H H':Hp}
theorem Qo.same (M:Qo K C A mc st H) (s:Qh H H'):Qo K C A mc st H':=⟨s _ _ M.ins,s _ _ M.cells,s.dat M.given,s _ _ M.pile,s _ _ M.kept,M.ne,M.c1,M.c2⟩
theorem Qo.np (M:Qo K C A mc st H):A.m≠A.lp:=λz=>by have:=M.ins;rw [z,M.pile] at this;cases this
theorem Qo.nk (M:Qo K C A mc st H):A.m≠A.lk:=λz=>by have:=M.ins;rw [z,M.kept] at this;cases this
theorem oX {b:Addr} {o o':HO} (h:H b=some o) (ho:(∃ xs,o=.lst xs)\/∃ C dx fs,o=.ins C dx fs) (hl:∀ xs,o=.lst xs->∃ ys,o'=.lst ys):gW K H (upd H b o'):=by
 refine ⟨λa xs q=>?_,λa xs q=>?_⟩
 ·rcases q with (q | ⟨u,q⟩) | q
  ·refine .inl (.inl ?_);rw [aR (λz=>?_)]
   ·exact q
   ·rw [z,h] at q;rcases ho with ⟨_,rfl⟩ | ⟨_,_,_,rfl⟩ <;> cases q
  ·refine .inl (.inr ⟨u,?_⟩);rw [aR (λz=>?_)]
   ·exact q
   ·rw [z,h] at q;rcases ho with ⟨_,rfl⟩ | ⟨_,_,_,rfl⟩ <;> cases q
  ·exact .inr q
 ·by_cases hab:a=b
  ·subst hab;rcases q with (q | ⟨u,q⟩) | q
   ·rw [h] at q;cases q;obtain ⟨ys,rfl⟩:=hl _ rfl;exact ⟨ys,Qp.of aI⟩
   ·rw [h] at q;rcases ho with ⟨_,rfl⟩ | ⟨_,_,_,rfl⟩ <;> cases q
   ·exact ⟨xs,.inr q⟩
  ·rcases q with (q | ⟨u,q⟩) | q
   ·exact ⟨xs,.inl (.inl (by rw [aR hab];exact q))⟩
   ·exact ⟨xs,.inl (.inr ⟨u,by rw [aR hab];exact q⟩)⟩
   ·exact ⟨xs,.inr q⟩
theorem Qo.Wz (M:Qo K C A mc st H) (r:List Int):Qo K C A mc { st with pile:=r } (upd H A.lp (.lst (pV r))) :=
 ⟨by rw [aR M.np];exact M.ins,by rw [aR M.c1];exact M.cells,Dat.mono (oX M.pile (.inl ⟨_,rfl⟩) λ_ _=>⟨_,rfl⟩) _ M.given,aI,by rw [aR (Nz M.ne)];exact M.kept,M.ne,M.c1,M.c2⟩
theorem Qo.WA (M:Qo K C A mc st H) (r:List Nat):Qo K C A mc { st with kept:=r } (upd H A.lk (.lst (Wf r))) :=
 ⟨by rw [aR M.nk];exact M.ins,by rw [aR M.c2];exact M.cells,Dat.mono (oX M.kept (.inl ⟨_,rfl⟩) λ_ _=>⟨_,rfl⟩) _ M.given,by rw [aR M.ne];exact M.pile,aI,M.ne,M.c1,M.c2⟩
theorem Qo.nc (M:Qo K C A mc st H):A.m≠A.lc:=λz=>by have:=M.ins;rw [z,M.cells] at this;cases this
theorem Qo.setM (M:Qo K C A mc st H) {st':MS} {fs:List (Str × V)} (e:fs=mF A mc st') (hp:st'.pile=st.pile) (hk:st'.kept=st.kept):Qo K C A mc st' (upd H A.m (.ins C A.dx fs)):=by subst e;exact ⟨aI,by rw [aR (Nz M.nc)];exact M.cells,Dat.mono (oX M.ins (.inr ⟨_,_,_,rfl⟩) λ_ z=>by cases z) _ M.given,by rw [aR (Nz M.np),hp];exact M.pile,by rw [aR (Nz M.nk),hk];exact M.kept,M.ne,M.c1,M.c2⟩
theorem mM (p:Nat):ji "place" (.int p) (mF A mc st)=mF A mc { st with place:=p }:=by kernel_rfl
theorem zP (b:Bool):ji "ended" (.bl b) (mF A mc st)=mF A mc { st with ended:=b }:=by kernel_rfl
variable {i:Nat} {f:Str} {σ:L2.St}
theorem iA {v:V} {Q:VK} (M:Qo K C A mc st H) (c:Vw K C) (n:Qx K C f) (q:Q v H) (l:(mF A mc st).lookup f=some v:=by kernel_rfl) (e:σ[i]?=some (some (.ref A.m)):=by rfl):nP K (fB i) f σ H Q :=
 ⟨_,e,A.m,C,A.dx,_,v,rfl,M.ins,c,n,l,q⟩
theorem tN {z:Int} (M:Qo K C A mc st H) (c:Vw K C) (n:Qx K C f) (l:(mF A mc st).lookup f=some (.int z):=by kernel_rfl) (e:σ[i]?=some (some (.ref A.m)):=by rfl):RE K (nP K (fB i) f) σ H (.int z) :=
 λ_ s _ q=>iA (M.same s) c n (q _ _ (Qh.refl _) (Dat.Qm z)) l e
theorem tR (M:Qo K C A mc st H) (c:Vw K C) (n:Qx K C "pile") (e:σ[i]?=some (some (.ref A.m)):=by rfl):RL K (nP K (fB i) "pile") σ H (st.pile.reverse.map D.int) :=
 λ_ s _ q=>iA (M.same s) c n (q _ _ (Qh.refl _) (LD.of (M.same s).pile (gm _))) (by kernel_rfl) e
theorem DZ (M:Qo K C A mc st H) (c:Vw K C) (n:Qx K C "cells") (e:σ[i]?=some (some (.ref A.m)):=by rfl):RL K (nP K (fB i) "cells") σ H (cD mc.cs) :=
 λ_ s _ q=>iA (M.same s) c n (q _ _ (Qh.refl _) (LD.of (M.same s).cells (gm _))) (by kernel_rfl) e
theorem Dj (l:List Nat):Wf l=(l.reverse.map λ(n:Nat)=>(n:Int)).map V.int:=by unfold Wf;rw [OB];rfl
theorem D0 (M:Qo K C A mc st H) (c:Vw K C) (n:Qx K C "kept") (e:σ[i]?=some (some (.ref A.m)):=by rfl):RL K (nP K (fB i) "kept") σ H ((st.kept.reverse.map λ(n:Nat)=>(n:Int)).map D.int) :=
 λ_ s _ q=>iA (M.same s) c n (q _ _ (Qh.refl _) (LD.of ((M.same s).kept.trans (by rw [Dj])) (gm _))) (by kernel_rfl) e
theorem DT (M:Qo K C A mc st H) (c:Vw K C) (n:Qx K C "given") (e:σ[i]?=some (some (.ref A.m)):=by rfl):RE K (nP K (fB i) "given") σ H (.tup (mc.as.map D.int)) :=
 λ_ s _ q=>iA (M.same s) c n (q _ _ (Qh.refl _) (M.same s).given) (by kernel_rfl) e
theorem n6 {l:Addr} {xs:List V} (M:Qo K C A mc st H) (c:Vw K C) (n:Qx K C f) (hl:H l=some (.lst xs)) (lk:(mF A mc st).lookup f=some (.ref l):=by kernel_rfl) (e:σ[i]?=some (some (.ref A.m)):=by rfl):RT (λσ H Q=>nP K (fB i) f σ H λx H'=>∃ k,vR K x H' k/\Q k H') σ H (!xs.isEmpty) :=
 λH1 s Q q=>iA (v:=.ref l) (Q:=λx H'=>∃ k,vR K x H' k/\Q k H') (M.same s) c n ⟨_,.inl ⟨_,Qp.of (s _ _ hl),rfl⟩,q _ (Qh.refl _)⟩ lk e
noncomputable def QD (K:W.Frag) (N C:Addr) (A:MA) (mc:MC) (st:MS) (H:Hp) (Q:VK) (E:XK) (o:Option (V × MS)):Prop :=
 (∀ v st',o=some (v,st')->∀ H',R4 A H H'->Qo K C A mc st' H'->Q v H')/\o≠none
end
noncomputable def t7 (K:W.Frag) (N C:Addr):Sp:=λvs H Q E=>∃ A mc st,vs=[.ref A.m]/\Qo K C A mc st H/\QD K N C A mc st H Q E ((fW st).map λp=>(.int p.1,p.2))
noncomputable def xk (K:W.Frag) (N C:Addr):Sp:=λvs H Q E=>∃ A mc st n,vs=[.ref A.m,.int n]/\Qo K C A mc st H/\2<=mc.b/\st.pile.length<=64/\QD K N C A mc st H Q E ((cV mc n st).map λs=>(.Qj,s))
noncomputable def EF (K:W.Frag) (N C:Addr):Sp:=λvs H Q E=>∃ A mc st,vs=[.ref A.m]/\Qo K C A mc st H/\QD K N C A mc st H Q E ((jY st).map λs=>(.Qj,s))
noncomputable def EH (K:W.Frag) (N C:Addr):Sp:=λvs H Q E=>∃ A mc st nm num on,vs=[.ref A.m,.str nm,.int (num:Nat),.int (on:Nat)]/\Qo K C A mc st H/\st.kept.length<=16/\QD K N C A mc st H Q E ((km nm num on st).map λp=>(.int p.1,p.2))
theorem nL (T:Txt P w K mg)  : QE P w K mg base Ur (k+1) T.IF T.IJ ["self"] (t7 K T.HK T.HK):=by
 refine T.Kk.ok Tc (λvs H Q E h=>?_) (λcdv A outer s H vs Q E hr h=>?_)
 ·obtain ⟨A,mc,st,rfl,_⟩:=h;rfl
 have nd:=Tc.nd;obtain ⟨A,mc,st,rfl,M,ok,bad⟩:=h;refine ⟨_,(aC (bE (cR (bP (fG (pv 0) rfl) (λ_=>rfl))) (aH c8) aM)
 (aH (aL (wO NF Py F.type_list_pop wA (fG (pv 0) rfl))))),?_⟩
 obtain ⟨pile,place,kept,ended⟩:=st
 cases pile with
 | nil =>refine aO (K:=K) (b:=true) (bS (n6 M T.Qg T.QZ M.pile)) (λ_ H1 s1=>?_) (λc=>nomatch c);exact (bad rfl).elim
 | cons x r =>
  have e:pV (x::r)=pV r++[.int x]:=yl x r;refine aO (K:=K) (b:=false) (RT.as (bS (n6 M T.Qg T.QZ M.pile)) ?_) (λc=>nomatch c) (λ_ H1 s1=>?_)
  ·show (!!(pV (x::r)).isEmpty)=false;rw [e];cases pV r <;> rfl
  ·have M:=M.same s1;have hp:H1 A.lp=some (.lst (pV r++[.int x])):=by rw [<- e];exact M.pile
   refine iA (v:=.ref A.lp) (Q:=λx H1=>YM K "list" x H1/\DJ x [] H1 Q) M T.Qg T.QZ ⟨.inl ⟨rfl,_,Qp.of hp⟩,A.lp,_,.int x,rfl,rfl,hp,by simp,?_⟩;rw [PD];exact ok (.int x) _ rfl _ ((h8 s1).trans R4.lp) (M.Wz r)
section
variable {N C:Addr} {A:MA} {mc:MC} {st st1:MS} {H H1:Hp} {Q:VK} {E:XK} {o:Option (V × MS)}
theorem QD.on (h:QD K N C A mc st H Q E o) (b:R4 A H H1) (hp:st1.place=st.place):QD K N C A mc st1 H1 Q E o :=
 ⟨λv st' e H' b' M'=>h.1 v st' e H' (b.trans b') M',h.2⟩
variable {i:Nat} {σ:L2.St}
theorem tJ (M:Qo K C A mc st H) (h:QD K N C A mc st H Q E ((fW st).map λp=>(.int p.1,p.2))) (e:σ[i]?=some (some (.ref A.m)):=by rfl):yK C "take" (t7 K N C) [] E (fB i) eI σ H Q :=
 ⟨_,e,A.m,A.dx,_,rfl,M.ins,by kernel_rfl,A,mc,st,rfl,M,h⟩
variable {te:TE} {n:Int}
theorem kR (hn:RE K te σ H (.int n)) (M:Qo K C A mc st H) (b2:2<=mc.b) (l:st.pile.length<=64) (h:QD K N C A mc st H Q E ((cV mc n st).map λs=>(.Qj,s))) (e:σ[i]?=some (some (.ref A.m)):=by rfl) :
  yK C "push" (xk K N C) [] E (fB i) (cC te eI) σ H Q :=
 ⟨_,e,A.m,A.dx,_,rfl,M.ins,by kernel_rfl,hn.use λv H1 s q=>⟨A,mc,st,n,by rw [q.Qk];rfl,M.same s,b2,l,h.on (h8 s) rfl⟩⟩
variable {f:Str} {l:Addr} {xs:List V}
theorem xC {z:Int} (M:Qo K C A mc st H) (c:Vw K C) (n:Qx K C f) (hl:H l=some (.lst xs)) (hx:xs.length<=900) (h:RE K te σ H (.int z)) (q:∀ H',Qh H H'->Q .Qj (upd H' l (.lst (xs++[.int z]))))
  (lk:(mF A mc st).lookup f=some (.ref l):=by kernel_rfl) (e:σ[i]?=some (some (.ref A.m)):=by rfl):Yj K "list" lQ (nP K (fB i) f) (cC te eI) σ H Q :=
 iA (v:=.ref l) (Q:=λx H1=>YM K "list" x H1/\cC te eI σ H1 λxs H2=>lQ x xs H2 Q) M c n ⟨.inl ⟨rfl,_,Qp.of hl⟩,h.use λv H1 s q1=>⟨l,xs,_,rfl,rfl,s _ _ hl,dH (by omega),by rw [q1.Qk];exact q H1 s⟩⟩ lk e
theorem DE {z:V} (M:Qo K C A mc st H) (c:Vw K C) (n:Qx K C f) (hl:H l=some (.lst (xs++[z]))) (q:Q z (upd H l (.lst xs)))
  (lk:(mF A mc st).lookup f=some (.ref l):=by kernel_rfl) (e:σ[i]?=some (some (.ref A.m)):=by rfl):He K "list" DJ (nP K (fB i) f) σ H Q :=
 iA (v:=.ref l) (Q:=λx H1=>YM K "list" x H1/\DJ x [] H1 Q) M c n ⟨.inl ⟨rfl,_,Qp.of hl⟩,l,_,z,rfl,rfl,hl,by simp,by rw [PD];exact q⟩ lk e
theorem ke {p:Int × MS} (h:fW st=some p):p.2.place=st.place/\p.2.kept=st.kept/\st.pile=p.1::p.2.pile/\p.2.ended=st.ended:=by
 unfold fW at h;split at h
 ·cases h
 ·rename_i x r e;cases h;exact ⟨rfl,rfl,e,rfl⟩
theorem nX {s:MS} (h:cV mc n st=some s):s.place=st.place/\s.kept=st.kept/\s.pile=n % mc.b::st.pile/\st.pile.length≠64/\s.ended=st.ended:=by
 unfold cV at h;split at h
 ·cases h
 ·rename_i hl;cases h;exact ⟨rfl,rfl,rfl,hl,rfl⟩
end
theorem xM {p q:Prop} [Decidable p] [Decidable q] (h:p↔q):decide p=decide q:=decide_eq_decide.mpr h
theorem nJ (T:Txt P w K mg)  : QE P w K mg base Ur (k+1) T.IX T.Ja ["self","number"] (xk K T.HK T.HK):=by
 refine T.Ki.ok Td (λvs H Q E h=>?_) (λcdv A outer s H vs Q E hr h=>?_)
 ·obtain ⟨A,mc,st,n,rfl,_⟩:=h;rfl
 have nd:=Td.nd;obtain ⟨A,mc,st,n,rfl,M,b2,hl,ok,bad⟩:=h;refine ⟨_,(aC (bE (aN cA (aW aT rfl T.HW bV (aF (fG (pv 0) rfl) aB)) (bQ (v:=.int 64) rfl T.Jt ⟨_,rfl⟩) (aU _)) (aH c8) aM)
 (aH (bT (ic NF NT NV eJ (fG (pv 0) rfl) (aF (bK fg (pv 1) (fG (pv 0) rfl)) aB))))),?_⟩
 have ed:decide ((((st.pile.reverse.map D.int).length:Nat):Int)=64)=decide (st.pile.length=64):=xM (by rw [tB,N1];omega);refine aO (K:=K) (b:=decide (st.pile.length=64)) (RT.as (aK (iR (fP (tR M T.Qg T.QZ)) aG)) ed) (λc H1 s1=>?_) (λc H1 s1=>?_)
 ·exact (bad (by unfold cV;rw [MW (M1 c)];rfl)).elim
 ·have M:=M.same s1;have c:=Ng c;have lp:=FI st.pile;refine xC M T.Qg T.QZ M.pile (by omega) (iS (aA (k:=1) (Dat.Qm n)) (tN (z:=mc.b) M T.Qg T.Sw) (by omega)) λH2 s2=>?_;have e:=(M.same s2).Wz (n % mc.b::st.pile);rw [yl] at e;exact ok .Qj _ (by unfold cV;rw [MR c];rfl) _ ((h8 (s1.trans s2)).trans R4.lp) e
theorem lH (T:Txt P w K mg)  : QE P w K mg base Ur (k+1) T.IE T.II ["self"] (EF K T.HK T.HK):=by
 refine T.JJ.ok Sq (λvs H Q E h=>?_) (λcdv A outer s H vs Q E hr h=>?_)
 ·obtain ⟨A,mc,st,rfl,_⟩:=h;rfl
 have nd:=Sq.nd;obtain ⟨A,mc,st,rfl,M,ok,bad⟩:=h;refine ⟨_,(aC (bE (aN jN (aW aT rfl T.HW bV (aF (fG (pv 0) rfl) aB)) aE (aU _)) (aH c8) aM)
 (aH (jh (pv 0) eH rfl))),?_⟩
 have ed:(!decide ((((st.pile.reverse.map D.int).length:Nat):Int)=1))=!decide (st.pile.length=1):=Nq Bool.not (xM (by rw [tB,N1];omega));refine aO (K:=K) (b:=!decide (st.pile.length=1)) (RT.as (aK (jl (fP (tR M T.Qg T.QZ)) aG)) ed) (λc H1 s1=>?_) (λc H1 s1=>?_)
 ·have c:=Ng ((Bool.not_eq_true' _).mp c);exact (bad (by unfold jY;rw [MR c];rfl)).elim
 ·have M:=M.same s1;have c:=M1 ((P6 _).mp c);refine ⟨_,rfl,A.m,_,A.dx,_,rfl,M.ins,T.Qg,T.Rx,by show 7 < 1000;decide,?_⟩;exact ok .Qj { st with ended:=true } (by unfold jY;rw [MW c];rfl) _ ((h8 s1).trans R4.m) (M.setM (zP true) rfl rfl)
theorem pq (T:Txt P w K mg)  (IV:QE P w K mg base Ur k T.IF T.IJ ["self"] (t7 K T.HK T.HK)):QE P w K mg base Ur (k+1) T.Jj T.Jk ["self","name","number","onward"] (EH K T.HK T.HK):=by
 refine T.Ky.ok TH (λvs H Q E h=>?_) (λcdv A outer s H vs Q E hr h=>?_)
 ·obtain ⟨A,mc,st,nm,num,on,rfl,_⟩:=h;rfl
 have nd:=TH.nd;obtain ⟨A,mc,st,nm,num,on,rfl,M,hk,ok,bad⟩:=h;refine ⟨_,(aC (bE (aN ir (pv 1) (bR (aF bC (aF bC aB))) (by with_unfolding_all rfl)) (aH (aL (bK cJ (pv 3) (pv 2)))) aM)
 (aC (bE (aN ir (pv 1) (bR (aF bC (aF bC aB))) (by with_unfolding_all rfl)) (aH (aL (g7 (aN cA (iZ (pv 0) T.Qg T.QI IV hr (gv T) .nil gn) aE (aU _)) (bK cJ (pv 3) (pv 2)) (pv 3)))) aM)
 (aC (bE (aN cA (pv 1) bC (aU _)) (aC (bE (aN cA (aW aT rfl T.HW bV (aF (fG (pv 0) rfl) aB)) (bQ (v:=.int 16) rfl T.Jr ⟨_,rfl⟩) (aU _)) (aH c8) aM)
 (aC (bT (ic NF NT NV eJ (fG (pv 0) rfl) (aF (pv 3) aB)))
 (aH (aL (pv 2))))) aM)
 (aC (bE (cR (bP (fG (pv 0) rfl) (λ_=>rfl))) (aH c8) aM)
 (aH (aL (wO NF Py F.type_list_pop wA (fG (pv 0) rfl)))))))),?_⟩
 refine aO (K:=K) (b:=decide (nm ∈ (["skip","jump"]:List Str))) (aK (pL (ys:=["skip","jump"]) (aA (k:=1) (Dat.RK nm)) (bY (aD aZ (aD aZ aP))))) (λc H1 s1=>?_) (λc H1 s1=>?_)
 ·have c:=M1 c;refine bB (K:=K) (d:=.int ((on:Int)+num)) (dO (aA (k:=3) (Dat.Qm _)) (aA (k:=2) (Dat.Qm _))) λv H2 s2 q=>?_;rw [q.Qk];exact ok _ st (by unfold km;rw [MW c];show some (V.int ((on+num:Nat):Int),st)=_;rw [Int.natCast_add]) _ (h8 (s1.trans s2)) (M.same (s1.trans s2))
 have n1:=Ng c;have M:=M.same s1;refine aO (K:=K) (b:=decide (nm ∈ (["zero","none"]:List Str))) (aK (pL (ys:=["zero","none"]) (aA (k:=1) (Dat.RK nm)) (bY (aD aZ (aD aZ aP))))) (λc H2 s2=>?_) (λc H2 s2=>?_)
 ·have c:=M1 c;have M:=M.same s2;have s12:=s1.trans s2;have ew:km nm num on st=(fW st).map λp=>(if p.1=0 then on+num else on,p.2):=by unfold km;rw [MR n1,MW c]
  rw [ew] at ok bad;refine tJ M ⟨λv st' e H3 b3 M3=>?_,λe=>?_⟩
  ·obtain ⟨p,hp,e2⟩:=Nm.mp e;cases e2;refine ⟨rfl,_,rfl,?_⟩;have es:decide (V.int p.1=V.int 0)=decide (p.1=0):=xM ⟨λz=>V.int.inj z,λz=>by rw [z]⟩;rw [es];rw [hp] at ok;by_cases hz:p.1=0
   ·rw [M5 hz];refine mx ⟨_,rfl,_,rfl,on,num,rfl,rfl,?_⟩;exact ok _ p.2 (by show some (V.int ((if p.1=0 then on+num else on:Nat):Int),p.2)=_;rw [MW hz,Int.natCast_add]) _ ((h8 s12).trans b3) M3
   ·rw [MX hz];refine mw ⟨_,rfl,?_⟩;exact ok _ p.2 (by show some (V.int ((if p.1=0 then on+num else on:Nat):Int),p.2)=_;rw [MR hz]) _ ((h8 s12).trans b3) M3
  ·have e:fW st=none:=by simpa using e
   exact bad (by rw [e];rfl)
 have n2:=Ng c;have M:=M.same s2;have s12:=s1.trans s2;refine aO (K:=K) (b:=decide (nm="call")) (aK (bI (aA (K:=K) (k:=1) (Dat.RK nm)) aZ)) (λc H3 s3=>?_) (λc H3 s3=>?_)
 ·have c:=M1 c;have M:=M.same s3;have QV:=s12.trans s3;have ew:km nm num on st=if st.kept.length=16 then none else some (num,{ st with kept:=on::st.kept }):=by unfold km;rw [MR n1,MR n2,MW c]
  rw [ew] at ok bad;have ed:decide (((((st.kept.reverse.map λ(n:Nat)=>(n:Int)).map D.int).length:Nat):Int)=16)=decide (st.kept.length=16):=xM (by rw [tB,tB,N1];omega);refine aO (K:=K) (b:=decide (st.kept.length=16)) (RT.as (aK (iR (fP (D0 M T.Qg T.Rh)) aG)) ed) (λc H4 s4=>?_) (λc H4 s4=>?_)
  ·exact (bad (by rw [MW (M1 c)];rfl)).elim
  ·have M:=M.same s4;have c:=Ng c;have lk:=Di st.kept;refine gC (xC M T.Qg T.Rh M.kept (by omega) (aA (k:=3) (Dat.Qm _)) λH5 s5=>?_);have e:=(M.same s5).WA (on::st.kept);rw [uI] at e;exact ⟨_,rfl,ok _ _ (by rw [MR c];rfl) _ ((h8 (QV.trans (s4.trans s5))).trans R4.lk) e⟩
 have n3:=Ng c;have M:=M.same s3;have QV:=s12.trans s3;obtain ⟨pile,place,kept,ended⟩:=st
 cases kept with
 | nil =>refine aO (K:=K) (b:=true) (bS (n6 M T.Qg T.Rh M.kept)) (λ_ H4 s4=>?_) (λc=>nomatch c);exact (bad (by unfold km;rw [MR n1,MR n2,MR n3];rfl)).elim
 | cons x r =>
  have e:Wf (x::r)=Wf r++[.int x]:=uI x r;refine aO (K:=K) (b:=false) (RT.as (bS (n6 M T.Qg T.Rh M.kept)) ?_) (λc=>nomatch c) (λ_ H4 s4=>?_)
  ·show (!!(Wf (x::r)).isEmpty)=false;rw [e];cases Wf r <;> rfl
  ·have M:=M.same s4;have hp:H4 A.lk=some (.lst (Wf r++[.int x])):=by rw [<- e];exact M.kept
   exact DE M T.Qg T.Rh hp (ok (.int x) _ (by unfold km;rw [MR n1,MR n2,MR n3];rfl) _ ((h8 (QV.trans s4)).trans R4.lk) (M.WA r))
noncomputable def EE (K:W.Frag) (N C:Addr):Sp:=λvs H Q E=>∃ A mc st nm num,vs=[.ref A.m,.str nm,.int (num:Nat)]/\Qo K C A mc st H/\zG mc/\jx mc st/\(nm="load"->num<=3)/\QD K N C A mc st H Q E ((eB mc nm num st).map λs=>(.Qj,s))
section
variable {N C:Addr} {A:MA} {mc:MC} {st:MS} {H:Hp} {Q:VK} {E:XK} {n:Int} {k:MS->Option MS}
variable {Q1:VK}
theorem yw (h:QD K N C A mc st H Q E (((cV mc n st).bind k).map λs=>(.Qj,s))) (q:∀ s,cV mc n st=some s->∀ H',R4 A H H'->Qo K C A mc s H'->Q1 .Qj H'):QD K N C A mc st H Q1 E ((cV mc n st).map λs=>(.Qj,s)):=by
 refine ⟨λv st' e H' b M'=>?_,λe=>?_⟩
 ·obtain ⟨s,hs,e2⟩:=Nm.mp e;cases e2;exact q _ hs H' b M'
 ·have e:cV mc n st=none:=by simpa using e
  exact h.2 (by rw [e];rfl)
theorem ua {k:Int × MS->Option MS} (h:QD K N C A mc st H Q E (((fW st).bind k).map λs=>(.Qj,s))) (q:∀ p,fW st=some p->∀ H',R4 A H H'->Qo K C A mc p.2 H'->Q1 (.int p.1) H'):QD K N C A mc st H Q1 E ((fW st).map λp=>(.int p.1,p.2)):=by
 refine ⟨λv st' e H' b M'=>?_,λe=>?_⟩
 ·obtain ⟨p,hs,e2⟩:=Nm.mp e;cases e2;exact q _ hs H' b M'
 ·have e:fW st=none:=by simpa using e
  exact h.2 (by rw [e];rfl)
theorem lJ {p:Int × MS} (o:jx mc st) (h:fW st=some p):jx mc p.2/\0<=p.1/\p.1 < mc.b/\p.2.pile.length+1=st.pile.length:=by obtain ⟨_,hk,hp,_⟩:=ke h;have l:=o.l;rw [hp,Nd] at l;refine ⟨⟨λx hx=>o.p x (by rw [hp];exact Nj _ hx),by omega,by rw [hk];exact o.k⟩,?_⟩;have:=o.p p.1 (by rw [hp];exact NB);exact ⟨this.1,this.2,by rw [hp,Nd]⟩
theorem tw {s:MS} (b2:2<=mc.b) (o:jx mc st) (h:cV mc n st=some s):jx mc s:=by
 obtain ⟨_,hk,hp,hl,_⟩:=nX h;have l:=o.l;refine ⟨λx hx=>?_,by rw [hp,Nd];omega,by rw [hk];exact o.k⟩;rw [hp] at hx;rcases Na.mp hx with z | z
 ·rw [z];exact ⟨NO _ (by omega),NJ _ (by omega)⟩
 ·exact o.p x z
end
theorem lG (T:Txt P w K mg) (IV:QE P w K mg base Ur k T.IF T.IJ ["self"] (t7 K T.HK T.HK)) (Ie:QE P w K mg base Ur k T.IX T.Ja ["self","number"] (xk K T.HK T.HK)) (Lp:Ok P w base k T.Jn (QF K Eh)):QE P w K mg base Ur (k+1) T.ID T.IH ["self","name","number"] (EE K T.HK T.HK):=by
 refine T.JI.ok Ss (λvs H Q E h=>?_) (λcdv A outer s H vs Q E hr h=>?_)
 ·obtain ⟨A,mc,st,nm,num,rfl,_⟩:=h;rfl
 have nd:=Ss.nd;obtain ⟨A,mc,st,nm,num,rfl,M,oc,os,Zx,out⟩:=h;have b2:=oc.b2;refine ⟨_,(aC (bE (aN ir (pv 1) (bR (aF bC (aF bC aB))) (by with_unfolding_all rfl)) (aC (bT (gU (pv 0) T.Qg T.Qn Ie hr (dU T) .nil gn (aF (pv 2) aB)))
 (aH yu)) aM)
 (aC (bE (aN cA (pv 1) bC (aU _)) (aC (bT (gU (pv 0) T.Qg T.Qn Ie hr (dU T) .nil gn (aF (aX aY (fG (pv 0) rfl) (pv 2)) aB)))
 (aH yu)) aM)
 (aC (bO (i:=3) nd rfl (Or.inl rfl) (iZ (pv 0) T.Qg T.QI IV hr (gv T) .nil gn))
 (aH (bE (aN cA (pv 1) bC (aU _)) (aH (bT (gU (pv 0) T.Qg T.Qn Ie hr (dU T) .nil gn (aF (bK cJ (pv 3) (pv 2)) aB)))) (aH (bE (aN cA (pv 1) bC (aU _)) (aC (bT (gU (pv 0) T.Qg T.Qn Ie hr (dU T) .nil gn (aF (pv 3) aB)))
 (aH (bT (gU (pv 0) T.Qg T.Qn Ie hr (dU T) .nil gn (aF (pv 3) aB))))) (aH (bE (aN cA (pv 1) bC (aU _)) (aC (bO (i:=4) nd rfl (Or.inl rfl) (iZ (pv 0) T.Qg T.QI IV hr (gv T) .nil gn))
 (aC (bT (gU (pv 0) T.Qg T.Qn Ie hr (dU T) .nil gn (aF (pv 3) aB)))
 (aH (bT (gU (pv 0) T.Qg T.Qn Ie hr (dU T) .nil gn (aF (pv 4) aB)))))) (aH (bT (gU (pv 0) T.Qg T.Qn Ie hr (dU T) .nil gn (aF (pc (D:=T.Jn) Lp hr (aF (pv 1) (aF (iZ (pv 0) T.Qg T.QI IV hr (gv T) .nil gn) (aF (pv 3) (aF (fG (pv 0) rfl) aB))))) aB))))))))))))),?_⟩
 refine aO (K:=K) (b:=decide (nm ∈ (["put","far"]:List Str))) (aK (pL (ys:=["put","far"]) (aA (k:=1) (Dat.RK nm)) (bY (aD aZ (aD aZ aP))))) (λc H1 s1=>?_) (λc H1 s1=>?_)
 ·have ew:eB mc nm num st=cV mc num st:=by unfold eB;rw [MW (M1 c)]
  rw [ew] at out;have out:=QD.on (st1:=st) out (h8 s1) rfl;refine gC (kR (aA (k:=2) (Dat.Qm (num:Int))) (M.same s1) b2 os.l ⟨λv st' e H' b M'=>?_,out.2⟩);obtain ⟨s,hs,e2⟩:=Nm.mp e;cases e2;exact out.1 _ _ e H' b M'
 have n1:=Ng c;have M:=M.same s1;have out:=QD.on (st1:=st) out (h8 s1) rfl;refine aO (K:=K) (b:=decide (nm="load")) (aK (bI (aA (K:=K) (k:=1) (Dat.RK nm)) aZ)) (λc H2 s2=>?_) (λc H2 s2=>?_)
 ·have c:=M1 c;have ew:eB mc nm num st=cV mc (mc.as.getD num 0) st:=by unfold eB;rw [MR n1,MW c]
  rw [ew] at out;have out:=QD.on (st1:=st) out (h8 s2) rfl;have M:=M.same s2;have ln:=Zx c;have la:=oc.as
  have hg:(mc.as.map D.int)[num]?=some (.int (mc.as.getD num 0)):=by rw [MZ,MT (by omega:num < mc.as.length),Nt,MT (by omega:num < mc.as.length)];rfl
  refine gC (kR (a6 (k:=num) (DT M T.Qg T.R7) (aA (k:=2) (Dat.Qm (num:Int))) hg) M b2 os.l ⟨λv st' e H' b M'=>?_,out.2⟩);obtain ⟨s,hs,e2⟩:=Nm.mp e;cases e2;exact out.1 _ _ e H' b M'
 have n2:=Ng c;have M:=M.same s2;have out:=QD.on (st1:=st) out (h8 s2) rfl
 have ew:eB mc nm num st=(fW st).bind λu =>
  if nm="more" then cV mc (u.1+num) u.2
  else if nm="twice" then (cV mc u.1 u.2).bind λs=>cV mc u.1 s
  else if nm="about" then (fW u.2).bind λl=>(cV mc u.1 l.2).bind λs=>cV mc l.1 s
  else (fW u.2).bind λl=>cV mc (two nm l.1 u.1 mc.b) l.2:=by unfold eB;rw [MR n1,MR n2]
 rw [ew] at out;refine fw (tJ M (ua out λu hu H3 b3 M=>?_));obtain ⟨ou,u0,u1,ul⟩:=lJ os hu;have pu:=(ke hu).1;rw [hu] at out;have out:=QD.on (st1:=u.2) out b3 pu
 have out:QD K T.HK T.HK A mc u.2 H3 Q E ((if nm="more" then cV mc (u.1+num) u.2
  else if nm="twice" then (cV mc u.1 u.2).bind λs=>cV mc u.1 s
  else if nm="about" then (fW u.2).bind λl=>(cV mc u.1 l.2).bind λs=>cV mc l.1 s
  else (fW u.2).bind λl=>cV mc (two nm l.1 u.1 mc.b) l.2).map λs=>(.Qj,s)):=out
 refine g9 (b:=decide (nm="more")) (aK (bI (aA (K:=K) (k:=1) (Dat.RK nm)) aZ)) (λc H4 s4=>?_) (λc H4 s4=>?_)
 ·rw [MW (M1 c)] at out;have out:=QD.on (st1:=u.2) out (h8 s4) rfl;refine kR (dO (aA (k:=3) (Dat.Qm u.1)) (aA (k:=2) (Dat.Qm (num:Int)))) (M.same s4) b2 ou.l ⟨λv st' e H' b M'=>?_,out.2⟩;obtain ⟨s,hs,e2⟩:=Nm.mp e;cases e2;exact out.1 _ _ e H' b M'
 rw [MR (Ng c)] at out;have M:=M.same s4;have out:=QD.on (st1:=u.2) out (h8 s4) rfl;refine g9 (b:=decide (nm="twice")) (aK (bI (aA (K:=K) (k:=1) (Dat.RK nm)) aZ)) (λc H5 s5=>?_) (λc H5 s5=>?_)
 ·rw [MW (M1 c)] at out;have out:=QD.on (st1:=u.2) out (h8 s5) rfl;refine gC (kR (aA (k:=3) (Dat.Qm u.1)) (M.same s5) b2 ou.l (yw out λs hs H6 b6 M6=>?_));rw [hs] at out;have out:QD K T.HK T.HK A mc s H6 Q E ((cV mc u.1 s).map λs=>(.Qj,s)):=QD.on out b6 (nX hs).1;refine kR (aA (k:=3) (Dat.Qm u.1)) M6 b2 (tw b2 ou hs).l ⟨λv st' e H' b M'=>?_,out.2⟩;obtain ⟨s',hs',e2⟩:=Nm.mp e;cases e2;exact out.1 _ _ e H' b M'
 rw [MR (Ng c)] at out;have M:=M.same s5;have out:=QD.on (st1:=u.2) out (h8 s5) rfl;refine g9 (b:=decide (nm="about")) (aK (bI (aA (K:=K) (k:=1) (Dat.RK nm)) aZ)) (λc H6 s6=>?_) (λc H6 s6=>?_)
 ·rw [MW (M1 c)] at out;have out:=QD.on (st1:=u.2) out (h8 s6) rfl;refine fw (tJ (M.same s6) (ua out λl hl H7 b7 M7=>?_));obtain ⟨ol,l0,l1,ll⟩:=lJ ou hl;rw [hl] at out;have out:QD K T.HK T.HK A mc l.2 H7 Q E (((cV mc u.1 l.2).bind λs=>cV mc l.1 s).map λs=>(.Qj,s)):=QD.on out b7 (ke hl).1;refine gC (kR (aA (k:=3) (Dat.Qm u.1)) M7 b2 ol.l (yw out λs hs H8 b8 M8=>?_));rw [hs] at out;have out:QD K T.HK T.HK A mc s H8 Q E ((cV mc l.1 s).map λs=>(.Qj,s)):=QD.on out b8 (nX hs).1;refine kR (aA (k:=4) (Dat.Qm l.1)) M8 b2 (tw b2 ol hs).l ⟨λv st' e H' b M'=>?_,out.2⟩;obtain ⟨s',hs',e2⟩:=Nm.mp e;cases e2;exact out.1 _ _ e H' b M'
 ·rw [MR (Ng c)] at out;have M:=M.same s6;have out:=QD.on (st1:=u.2) out (h8 s6) rfl;refine ⟨_,rfl,A.m,A.dx,_,rfl,M.ins,by kernel_rfl,_,rfl,?_⟩;refine tJ M (ua out λl hl H7 b7 M7=>?_);obtain ⟨ol,l0,l1,ll⟩:=lJ ou hl;rw [hl] at out;have out:QD K T.HK T.HK A mc l.2 H7 Q E ((cV mc (two nm l.1 u.1 mc.b) l.2).map λs=>(.Qj,s)):=QD.on out b7 (ke hl).1;refine ⟨_,rfl,iA (v:=.int mc.b) M7 T.Qg T.Sw ?_⟩;refine ⟨[.str nm,.int l.1,.int u.1,.int mc.b],.int (two nm l.1 u.1 mc.b),Qf.cons (Dat.RK nm) (Qf.cons (Dat.Qm _) (Qf.cons (Dat.Qm _) (Qf.cons (Dat.Qm _) Qf.nil))),⟨nm,l.1,u.1,mc.b,rfl,b2,oc.b9,l0,l1,u0,u1,rfl⟩,λv H8 s8 q8=>?_⟩;have out:=QD.on (st1:=l.2) out (h8 s8) rfl;refine ⟨A,mc,l.2,_,by rw [q8.Qk];rfl,M7.same s8,b2,ol.l,⟨λv st' e H' b M'=>?_,out.2⟩⟩;obtain ⟨s',hs',e2⟩:=Nm.mp e;cases e2;exact out.1 _ _ e H' b M'
noncomputable def XH (cs:List Int) (p:Nat) (c:Int):List Int:=(cs.drop (p+1)).take (dJ c)
noncomputable def qw (cs:List Int) (p:Nat) (c:Int):Nat:=(gN (XH cs p c)).toNat
noncomputable def qc (nm:Str) (num:Nat):Bool:=decide (kl nm XG num < (num:Int))
noncomputable abbrev WS:List Str:=["skip","jump","zero","none","call","back"]
noncomputable def Vr (mc:MC) (nm:Str) (num on:Nat) (st:MS):Option MS :=
 if nm ∈ WS then (km nm num on st).map λp=>{ p.2 with place:=p.1 }
 else if nm="end" then (jY st).map λs=>{ s with place:=on }
 else (eB mc nm num st).map λs=>{ s with place:=on }
noncomputable def hE (mc:MC) (st:MS):Option MS:=match mc.cs[st.place]? with
 | none=>none
 | some c=>if i8 mc.cs st.place c=true then none else if qc (Tt c) (qw mc.cs st.place c)=true then none
  else Vr mc (Tt c) (qw mc.cs st.place c) (st.place+1+dJ c) st
theorem CK (cs:List Int) (p:Nat) (c:Int):jw cs p (dJ c)=(XH cs p c).map D.int:=by unfold jw XH;rw [List.map_take,List.map_drop]
theorem Es (ok:X5 cs):(XH cs p c).length<=2/\∀ n ∈ XH cs p c,0<=n/\n<=99:=by unfold XH;refine ⟨by rw [NI];have:=CM c;omega,λn hn=>?_⟩;obtain ⟨i,hi⟩:=List.mem_iff_getElem?.mp (List.mem_of_mem_drop (List.mem_of_mem_take hn));exact ok.c i n hi
theorem Do (ok:X5 cs):gN (XH cs p c)=((qw cs p c:Nat):Int)/\qw cs p c<=9999:=by obtain ⟨h1,h2⟩:=Es (p:=p) (c:=c) ok;have:=Bw h1 h2;unfold qw;omega
theorem CG:∀ p ∈ XG,∃ i,p.2=.flat (.int i):=by intro p hp;simp only [XG,Na,Ny,NX] at hp;rcases hp with rfl | rfl | rfl <;> exact ⟨_,rfl⟩
theorem Dl {num:Nat} (h:qc "load" num=false):num<=3:=by
 have h:=Ng h;have e:kl "load" XG num=3:=by kernel_rfl
 rw [e] at h;omega
variable {mc:MC} {st:MS}
theorem Cg (h:yR mc.cs st.place=true):hE mc st=none:=by
 unfold hE
 cases hc:mc.cs[st.place]? with
 | none=>rfl
 | some c =>
  have h':i8 mc.cs st.place c=true:=by unfold yR at h;rw [hc] at h;exact h
  exact MW h'
theorem Aa (h:yR mc.cs st.place=false):∃ c,mc.cs[st.place]?=some c/\i8 mc.cs st.place c=false:=by
 cases hc:mc.cs[st.place]? with
 | none =>
  have h':true=false:=by unfold yR at h;rw [hc] at h;exact h
  cases h'
 | some c=>exact ⟨c,rfl,by unfold yR at h;rw [hc] at h;exact h⟩
noncomputable def Cf (K:W.Frag) (N C:Addr):Sp:=λvs H Q E=>∃ A mc st,vs=[.ref A.m]/\Qo K C A mc st H/\zG mc/\jx mc st/\QD K N C A mc st H Q E ((hE mc st).map λs=>(.Qj,s))
theorem nK (T:Txt P w K mg) (IC:Ok P w base k T.HM (UJ K ud)) (LG:Ok P w base k T.JQ (QF K Av)) (LA:QE P w K mg base Ur k T.Jj T.Jk ["self","name","number","onward"] (EH K T.HK T.HK)) (Le:QE P w K mg base Ur k T.IE T.II ["self"] (EF K T.HK T.HK)) (Ld:QE P w K mg base Ur k T.ID T.IH ["self","name","number"] (EE K T.HK T.HK)):QE P w K mg base Ur (k+1) T.IY T.Jb ["self"] (Cf K T.HK T.HK):=by
 refine T.Kj.ok Te (λvs H Q E h=>?_) (λcdv A outer s H vs Q E hr h=>?_)
 ·obtain ⟨A,mc,st,rfl,_⟩:=h;rfl
 have nd:=Te.nd;obtain ⟨A,mc,st,rfl,M,oc,os,out⟩:=h;have VN:=oc.cs;refine ⟨_,(aC (fH (pc (D:=T.HM) IC hr (aF (fG (pv 0) rfl) (aF (fG (pv 0) rfl) aB))) (f6 rfl (bJ (a7 (i:=1) nd rfl (Or.inl rfl)) (bJ (a7 (i:=2) nd rfl (Or.inl rfl)) eE))))
 (aC (bO (i:=3) nd rfl (Or.inl rfl) (pc (D:=T.JQ) LG hr (aF (pv 2) aB)))
 (aC (bE (aN rl (pv 3) (rq (bQ (v:=.ref T.Kq) rfl T.Ju rfl) (pv 1) (pv 3) ⟨rfl,rfl,rfl,rfl⟩) (aU _)) (aH c8) aM)
 (aC (bO (i:=4) nd rfl (Or.inl rfl) (bK cJ (bK cJ (fG (pv 0) rfl) aE) (aW aT rfl T.HW bV (aF (pv 2) aB))))
 (aC (bE (aN ir (pv 1) (bQ (v:=.ref T.LL) rfl T.Lh rfl) (by with_unfolding_all rfl)) (aH (bO (i:=4) nd rfl (Or.inl rfl) (gU (pv 0) T.Qg T.TJ LA hr (qr T) .nil gn (aF (pv 1) (aF (pv 3) (aF (pv 4) aB)))))) (aH (bE (aN cA (pv 1) bC (aU _)) (aH (bT (iZ (pv 0) T.Qg T.Su Le hr (mj T) .nil gn))) (aH (bT (gU (pv 0) T.Qg T.Sv Ld hr (mi T) .nil gn (aF (pv 1) (aF (pv 3) aB))))))))
 (aH (jh (pv 0) (pv 4) rfl))))))),?_⟩
 have rA:RB K (cC (nP K (fB 0) "cells") (cC (nP K (fB 0) "place") eI)) (start ["self","name","behind","number","onward"] [.ref A.m]) H [.l (cD mc.cs),.d (.int st.place)]:=eY (DZ M T.Qg T.R6) (fO (tN (z:=st.place) M T.Qg T.QU) cK)
 cases hbp:yR mc.cs st.place with
 | true =>have e:hE mc st=none:=Cg hbp;exact (out.2 (by rw [e];rfl)).elim
 | false =>
  obtain ⟨c,hc,hb⟩:=Aa hbp;obtain ⟨h16,hlt⟩:=xE hb;obtain ⟨en,n9⟩:=Do (p:=st.place) (c:=c) VN;obtain ⟨l2,n2⟩:=Es (p:=st.place) (c:=c) VN;have lb:(jw mc.cs st.place (dJ c)).length=dJ c:=by rw [oA];omega
  have e:hE mc st=if qc (Tt c) (qw mc.cs st.place c)=true then none else Vr mc (Tt c) (qw mc.cs st.place c) (st.place+1+dJ c) st:=by unfold hE;rw [hc];dsimp only;rw [MR (by rw [hb];exact MY)]
  rw [e] at out;refine iL (K:=K) (d:=.str (Tt c)) (e:=.tup (jw mc.cs st.place (dJ c))) (cU (R:=ud) rA ⟨mc.cs,st.place,c,rfl,VN,hc,hb,rfl⟩) λv1 v2 H1 s1 h1 h2=>?_;obtain rfl:=h1.Qy;generalize Tt c=nm at *;generalize hnum:qw mc.cs st.place c=num at *;refine dR (K:=K) (d:=.int num) (RE.as (bF (R:=Av) (aD (aA (k:=2) h2) aP) ⟨XH mc.cs st.place c,by rw [CK],l2,n2,rfl⟩) (by rw [en])) λv3 H2 s2 h3=>?_;obtain rfl:=h3.Qk;have h2:=s2.dat h2;have s12:=s1.trans s2;have M:=M.same s12;have out:=QD.on (st1:=st) out (h8 s12) rfl;refine aO (K:=K) (b:=qc nm num) (aK (d9 (p:=λi j=>decide (j < i)) (aA (k:=3) (Dat.Qm (num:Int))) (rD T.Jv (aA (k:=1) (Dat.RK nm)) (aA (k:=3) (Dat.Qm (num:Int))) CG))) (λct H3 s3=>?_) (λct H3 s3=>?_)
  ·exact (out.2 (by rw [MW ct];rfl)).elim
  ·have M:=M.same s3;have out:=QD.on (st1:=st) out (h8 s3) rfl;rw [MR (by rw [ct];exact MY)] at out;have h2:=s3.dat h2;have eo:(st.place:Int)+1+((jw mc.cs st.place (dJ c)).length:Int)=((st.place+1+dJ c:Nat):Int):=by rw [lb];omega
   refine dR (K:=K) (d:=.int ((st.place+1+dJ c:Nat):Int)) (RE.as (dO (dO (tN (z:=st.place) M T.Qg T.QU) aG) (eU (aA (k:=2) h2))) (Nq D.int eo)) λv4 H4 s4 h4=>?_;obtain rfl:=h4.Qk;have M:=M.same s4;have out:=QD.on (st1:=st) out (h8 s4) rfl;generalize st.place+1+dJ c=on at *;refine eA (RT.use (b:=decide (nm ∈ WS)) (aK (pL (ys:=WS) (aA (K:=K) (k:=1) (Dat.RK nm)) (jP T.Ms))) λH5 s5=>?_);have M:=M.same s5;have out:=QD.on (st1:=st) out (h8 s5) rfl;by_cases hw:nm ∈ WS
   ·rw [M5 hw];refine mx ⟨_,rfl,A.m,A.dx,_,rfl,M.ins,by kernel_rfl,_,rfl,_,rfl,_,rfl,A,mc,st,nm,num,on,rfl,M,os.k,λv st' ew H6 b6 M6=>?_,λew=>?_⟩
    ·obtain ⟨p,hp,e2⟩:=Nm.mp ew;cases e2;refine ⟨_,rfl,_,rfl,A.m,_,A.dx,_,rfl,M6.ins,T.Qg,T.QU,by show 7 < 1000;decide,?_⟩;exact out.1 .Qj { p.2 with place:=p.1 } (by unfold Vr;rw [MW hw,hp];rfl) _ (b6.trans R4.m) (M6.setM (mM p.1) rfl rfl)
    ·have ew:km nm num on st=none:=by simpa using ew
     exact out.2 (by unfold Vr;rw [MW hw,ew];rfl)
   ·rw [MX hw];refine mw (RT.use (b:=decide (nm="end")) (aK (bI (aA (K:=K) (k:=1) (Dat.RK nm)) aZ)) λH6 s6=>?_);have M:=M.same s6;have out:=QD.on (st1:=st) out (h8 s6) rfl;by_cases he:nm="end"
    ·rw [M5 he];refine mx ⟨_,rfl,A.m,A.dx,_,rfl,M.ins,by kernel_rfl,A,mc,st,rfl,M,λv st' ew H7 b7 M7=>?_,λew=>?_⟩
     ·obtain ⟨s',hs',e2⟩:=Nm.mp ew;cases e2;refine ⟨_,rfl,_,rfl,A.m,_,A.dx,_,rfl,M7.ins,T.Qg,T.QU,by show 7 < 1000;decide,?_⟩;exact out.1 .Qj { st' with place:=on } (by unfold Vr;rw [MR hw,MW he,hs'];rfl) _ (b7.trans R4.m) (M7.setM (mM on) rfl rfl)
     ·have ew:jY st=none:=by simpa using ew
      exact out.2 (by unfold Vr;rw [MR hw,MW he,ew];rfl)
    ·rw [MX he];refine mw ⟨_,rfl,A.m,A.dx,_,rfl,M.ins,by kernel_rfl,_,rfl,_,rfl,A,mc,st,nm,num,rfl,M,oc,os,?_,λv st' ew H7 b7 M7=>?_,λew=>?_⟩
     ·rintro rfl;exact Dl ct
     ·obtain ⟨s',hs',e2⟩:=Nm.mp ew;cases e2;refine ⟨_,rfl,_,rfl,A.m,_,A.dx,_,rfl,M7.ins,T.Qg,T.QU,by show 7 < 1000;decide,?_⟩;exact out.1 .Qj { st' with place:=on } (by unfold Vr;rw [MR hw,MR he,hs'];rfl) _ (b7.trans R4.m) (M7.setM (mM on) rfl rfl)
     ·have ew:eB mc nm num st=none:=by simpa using ew
      exact out.2 (by unfold Vr;rw [MR hw,MR he,ew];rfl)
theorem uj {x:Addr} {C dx:Addr} {fs:List (Str × V)} (b:QY x H H') (h:H x=some (.ins C dx fs)):gW K H H':=by
 refine ⟨λa xs q=>?_,λa xs q=>⟨xs,?_⟩⟩
 ·rcases q with (q | ⟨u,q⟩) | q
  ·exact .inl (.inl (b _ _ (λz=>by rw [z,h] at q;cases q) q))
  ·exact .inl (.inr ⟨u,b _ _ (λz=>by rw [z,h] at q;cases q) q⟩)
  ·exact .inr q
 ·rcases q with (q | ⟨u,q⟩) | q
  ·exact .inl (.inl (b _ _ (λz=>by rw [z,h] at q;cases q) q))
  ·exact .inl (.inr ⟨u,b _ _ (λz=>by rw [z,h] at q;cases q) q⟩)
  ·exact .inr q
theorem D3 {tl:TE} {f:Str} {x:Addr} (h:RC K tl σ H es) (q:∀ l ys H',H l=none->Qh H H'->H' l=some (.lst ys)->Qf K H' es ys->∃ C dx fs,H' x=some (.ins C dx fs)/\Vw K C/\Qx K C f/\fs.length < 1000/\us En σ (upd H' x (.ins C dx (ji f (.ref l) fs))))
  (e:σ[i]?=some (some (.ref x)):=by rfl):l8 (G9 K (fB i) tl f) us En σ H :=
 h.use λl ys H' n s hy dy=>let ⟨C,dx,fs,a1,a2,a3,a4,a5⟩:=q l ys H' n s hy dy;⟨_,e,x,C,dx,fs,rfl,a1,a2,a3,a4,a5⟩
noncomputable def Hc (K:W.Frag) (C:Addr):Sp:=λvs H Q _=>∃ (x dx lc:Addr) (vg v4:V) (mc:MC) (r:List Int),vs=[.ref x,.ref lc,vg,.int mc.b,v4]/\H x=some (.ins C dx [])/\H lc=some (.lst (mc.cs.map V.int))/\Dat K H (.tup (mc.as.map D.int)) vg/\LD K H (r.reverse.map D.int) v4/\r.length<=900 /\
 ∀ (A:MA) (H':Hp),A.m=x->A.dx=dx->A.lc=lc->A.vg=vg->QY x H H'->H A.lp=none->H A.lk=none->Qo K C A mc ⟨r,0,[],false⟩ H'->Q .Qj H'
theorem ki (T:Txt P w K mg)  : QE P w K mg base Ur (k+1) T.Ip T.Iq ["self","cells","given","size","pile"] (Hc K T.HK):=by
 refine T.Jo.ok R3 (λvs H Q E h=>?_) (λcdv A outer s H vs Q E hr h=>?_)
 ·obtain ⟨x,dx,lc,vg,v4,mc,r,rfl,_⟩:=h;rfl
 have nd:=R3.nd;obtain ⟨x,dx,lc,vg,v4,mc,r,rfl,hx,hc,hg,hp,lr,post⟩:=h;refine ⟨_,(aC (jh (pv 0) (pv 1) rfl)
 (aC (jh (pv 0) (pv 2) rfl)
 (aC (jh (pv 0) (pv 3) rfl)
 (aC (jh (pv 0) (fh lq rfl T.Li lj (aF (pv 4) aB)) rfl)
 (aC (jh (pv 0) aE rfl)
 (aC (jh (pv 0) (c7 aB) rfl)
 (aH (jh (pv 0) eH rfl)))))))),?_⟩
 have ncx:lc≠x:=λz=>by rw [z,hx] at hc;cases hc
 refine ⟨_,rfl,_,rfl,x,_,dx,_,rfl,hx,T.Qg,T.R6,by show 0 < 1000;decide,?_⟩;refine ⟨_,rfl,_,rfl,x,_,dx,_,rfl,aI,T.Qg,T.R7,by show 1 < 1000;decide,?_⟩;refine ⟨_,rfl,_,rfl,x,_,dx,_,rfl,aI,T.Qg,T.Sw,by show 2 < 1000;decide,?_⟩;generalize e3:upd (upd (upd H x _) x _) x _=H3;have b3:QY x H H3:=by rw [<- e3];exact QY.upd (QY.upd (QY.upd (Qh.refl _).but))
 have x3:H3 x=some (.ins T.HK dx [("cells",.ref lc),("given",vg),("size",.int mc.b)]):=by rw [<- e3,aI];kernel_rfl
 have p3:LD K H3 (r.reverse.map D.int) v4:=by
  obtain ⟨l,vs,e,hq,hd⟩:=hp;refine ⟨l,vs,e,?_,Qf.mono (uj b3 hx) _ hd⟩;rcases hq with q | q
  ·exact .inl (b3 _ _ (λz=>by rw [z,hx] at q;cases q) q)
  ·exact .inr q
 refine D3 (K:=K) (x:=x) (pI (bA (k:=4) p3)) λlp ys H4 np s4 hy dy=>?_;obtain rfl:=oH dy;refine ⟨_,dx,_,s4 _ _ x3,T.Qg,T.QZ,by show 3 < 1000;decide,?_⟩;refine ⟨_,rfl,x,_,dx,_,rfl,aI,T.Qg,T.QU,by show 4 < 1000;decide,?_⟩;generalize e6:upd (upd H4 x _) x _=H6;have b6:QY x H H6:=by rw [<- e6];exact QY.upd (QY.upd (b3.trans s4.but))
 have npx:lp≠x:=λz=>by rw [z,x3] at np;cases np
 have p6:H6 lp=some (.lst (pV r)):=by rw [<- e6,aR npx,aR npx];exact hy
 have x6:H6 x=some (.ins T.HK dx [("cells",.ref lc),("given",vg),("size",.int mc.b),("pile",.ref lp),("place",.int 0)]):=by rw [<- e6,aI];kernel_rfl
 refine ⟨d8 (by decide),λlk nk=>?_⟩;have nkx:lk≠x:=λz=>by rw [z,x6] at nk;cases nk
 have nkp:lp≠lk:=λz=>by rw [<- z,p6] at nk;cases nk
 have c6:H6 lc=some (.lst (mc.cs.map V.int)):=b6 _ _ ncx hc;have nck:lc≠lk:=λz=>by rw [<- z,c6] at nk;cases nk
 have ncp:lc≠lp:=λz=>by rw [<- z,b3 _ _ ncx hc] at np;cases np
 refine ⟨_,rfl,x,_,dx,_,rfl,by rw [aR (Nz nkx)];exact x6,T.Qg,T.Rh,by show 5 < 1000;decide,?_⟩;refine ⟨_,rfl,x,_,dx,_,rfl,aI,T.Qg,T.Rx,by show 6 < 1000;decide,?_⟩;generalize e9:upd (upd (upd H6 lk _) x _) x _=H9;have b9:QY x H6 H9:=by rw [<- e9];exact QY.upd (QY.upd (aV nk _).but)
 have k9:H9 lk=some (.lst (Wf [])):=by rw [<- e9,aR nkx,aR nkx,aI];rfl
 have x9:H9 x=some (.ins T.HK dx (mF ⟨x,dx,lp,lk,lc,vg⟩ mc ⟨r,0,[],false⟩)):=by rw [<- e9,aI];kernel_rfl
 have nH:∀ b,b≠x->H6 b=none->H b=none:=λb z n=>by
  cases e:H b with
  | none=>rfl
  | some o=>rw [b6 _ _ z e] at n;cases n
 have nH3:∀ b,b≠x->H3 b=none->H b=none:=λb z n=>by
  cases e:H b with
  | none=>rfl
  | some o=>rw [b3 _ _ z e] at n;cases n
 exact post ⟨x,dx,lp,lk,lc,vg⟩ H9 rfl rfl rfl rfl (b6.trans b9) (nH3 _ npx np) (nH _ nkx nk) ⟨x9,b9 _ _ ncx c6,Dat.mono (uj (b6.trans b9) hx) _ hg,b9 _ _ npx p6,k9,nkp,ncp,nck⟩
theorem xI (ok:X5 cs):m5 (cD cs)=true:=by unfold m5;have l0:=ok.l0;have l1:=ok.l1;rw [M4,M4];refine ⟨⟨M5 (by rw [tB];omega),M5 (by rw [tB];omega)⟩,?_⟩;rw [N6];intro b hb;obtain ⟨d,hd,rfl⟩:=N4.mp hb;obtain ⟨c,hc,rfl⟩:=N4.mp hd;obtain ⟨i,hi⟩:=List.mem_iff_getElem?.mp hc;obtain ⟨c0,c9⟩:=ok.c i c hi;show (decide (0<=c) && decide (c<=99))=true;rw [M5 c0,M5 c9];rfl
section
variable {mc:MC} {st s:MS} {nm:Str} {num on:Nat}
theorem Gq {p:Nat × MS} (o:jx mc st) (h:km nm num on st=some p):jx mc p.2/\p.2.ended=st.ended:=by
 unfold km at h;split at h
 ·cases h;exact ⟨o,rfl⟩
 ·split at h
  ·obtain ⟨q,hq,e⟩:=Nm.mp h;cases e;exact ⟨(lJ o hq).1,(ke hq).2.2.2⟩
  ·split at h
   ·split at h
    ·cases h
    ·rename_i hl;cases h;have:=o.k;exact ⟨⟨o.p,o.l,by show st.kept.length+1<=16;omega⟩,rfl⟩
   ·split at h
    ·cases h
    ·rename_i k r e;cases h;have:=o.k;rw [e,Nd] at this;exact ⟨⟨o.p,o.l,by show r.length<=16;omega⟩,rfl⟩
theorem Fb (b2:2<=mc.b) (o:jx mc st) (h:eB mc nm num st=some s):jx mc s/\s.ended=st.ended:=by
 have pu:∀ {n:Int} {a b:MS},jx mc a->cV mc n a=some b->jx mc b/\b.ended=a.ended:=λoa hb=>⟨tw b2 oa hb,(nX hb).2.2.2.2⟩
 have tk:∀ {p:Int × MS} {a:MS},jx mc a->fW a=some p->jx mc p.2/\p.2.ended=a.ended:=λoa hb=>⟨(lJ oa hb).1,(ke hb).2.2.2⟩
 unfold eB at h;split at h
 ·exact pu o h
 ·split at h
  ·exact pu o h
  ·obtain ⟨u,hu,h⟩:=Ob.mp h;obtain ⟨ou,eu⟩:=tk o hu;split at h
   ·obtain ⟨a,b⟩:=pu ou h;exact ⟨a,b.trans eu⟩
   ·split at h
    ·obtain ⟨s1,h1,h2⟩:=Ob.mp h;obtain ⟨o1,e1⟩:=pu ou h1;obtain ⟨a,b⟩:=pu o1 h2;exact ⟨a,b.trans (e1.trans eu)⟩
    ·split at h
     ·obtain ⟨l,hl,h⟩:=Ob.mp h;obtain ⟨ol,el⟩:=tk ou hl;obtain ⟨s1,h1,h2⟩:=Ob.mp h;obtain ⟨o1,e1⟩:=pu ol h1;obtain ⟨a,b⟩:=pu o1 h2;exact ⟨a,b.trans (e1.trans (el.trans eu))⟩
     ·obtain ⟨l,hl,h⟩:=Ob.mp h;obtain ⟨ol,el⟩:=tk ou hl;obtain ⟨a,b⟩:=pu ol h;exact ⟨a,b.trans (el.trans eu)⟩
theorem D9 (oc:zG mc) (o:jx mc st) (h:hE mc st=some s):jx mc s/\(st.ended=false->s.ended=true->s.pile.length=1):=by
 unfold hE at h;split at h
 ·cases h
 ·split at h
  ·cases h
  ·split at h
   ·cases h
   ·unfold Vr at h;split at h
    ·obtain ⟨p,hp,e⟩:=Nm.mp h;cases e;obtain ⟨a,b⟩:=Gq o hp;exact ⟨⟨a.p,a.l,a.k⟩,λz w=>by rw [show p.2.ended=true from w,z] at b;cases b⟩
    ·split at h
     ·obtain ⟨p,hp,e⟩:=Nm.mp h;cases e;unfold jY at hp;split at hp
      ·rename_i hl;cases hp;exact ⟨⟨o.p,o.l,o.k⟩,λ_ _=>hl⟩
      ·cases hp
     ·obtain ⟨p,hp,e⟩:=Nm.mp h;cases e;obtain ⟨a,b⟩:=Fb oc.b2 o hp;exact ⟨⟨a.p,a.l,a.k⟩,λz w=>by rw [show p.ended=true from w,z] at b;cases b⟩
end
inductive Res where
 | ends (v:Int)
 | fault (p:Nat)
 | late
 deriving DecidableEq
noncomputable def pN (mc:MC):Nat->MS->Res
 | 0,_=>.late
 | n+1,st=>match hE mc st with
  | none=>.fault st.place
  | some s=>if s.ended=true then .ends (s.pile.headD 0) else pN mc n s
noncomputable abbrev YX:MS:=⟨[],0,[],false⟩
theorem FF:jx mc YX:=⟨(λ_ h=>by cases h),by show 0<=64;decide,by show 0<=16;decide⟩
noncomputable def yI (K:W.Frag) (C:Addr):Sp:=λvs H Q _=>∃ (lc:Addr) (vg:V) (mc:MC) (n:Nat),vs=[.ref lc,vg,.int mc.b,.int n]/\zG mc/\H lc=some (.lst (mc.cs.map V.int))/\Dat K H (.tup (mc.as.map D.int)) vg/\1<=n/\n<=100000 /\
 ∀ (A:MA) (H':Hp),Qh H H'->H A.m=none->H A.lp=none->H A.lk=none->Qo K C A mc YX H'->Q (.ref A.m) H'
theorem wL (T:Txt P w K mg) (KG:Ok P w base (k+1) T.Jx (UJ K oj)) (LZ:QE P w K mg base Ur (k+1) T.JS T.JT ["size","most"] (QF K Aw)) (LY:Ok P w base (k+1) T.Kw (QF K Ak)) (HN:Ok P w base (k+1) T.HL (QF K fq)) (K1:QE P w K mg base Ur k T.Ip T.Iq ["self","cells","given","size","pile"] (Hc K T.HK)):Ok P w base (k+1+1) T.KZ (yI K T.HK):=by
 refine T.KZ.f.ok Vn (λvs H Q E h=>?_) (λcdv A outer s H vs Q E hr h=>?_)
 ·obtain ⟨lc,vg,mc,n,rfl,_⟩:=h;rfl
 have nd:=Vn.nd;obtain ⟨lc,vg,mc,n,rfl,oc,hc,hg,n1,n9,post⟩:=h;refine ⟨_,(aC (bT (pc (D:=T.Jx) KG hr (aF (pv 0) aB)))
 (aC (bT (yo LZ hr rfl T.Lm T.JU.kp (ui T) (vH T) gn (aF (pv 2) aB)))
 (aC (bT (pc (D:=T.Kw) LY hr (aF (pv 1) (aF (pv 2) aB))))
 (aC (bE (cR (bP (pc (D:=T.HL) HN hr (aF (pv 3) (aF aE (aF (bQ (v:=.int 100000) rfl T.Jh ⟨_,rfl⟩) aB)))) (λ_=>rfl))) (aH c8) aM)
 (aH (aL (Dx T.Vo K1 hr rfl T.Kc (kH T) .nil gn (aF (pv 0) (aF (pv 1) (aF (pv 2) (aF (c7 aB) aB))))))))))),?_⟩
 have VN:=oc.cs;have l1:=VN.l1;have LC:LD K H (cD mc.cs) (.ref lc):=LD.of hc (gm _);refine gC (RE.use (cU (R:=oj) (d:=.Qj) (eY (bA (K:=K) (k:=0) LC) cK) ⟨cD mc.cs,rfl,by rw [tB];omega,xI VN,rfl⟩) λv5 H1 s1 _=>?_);refine gC (RE.use (B1 (R:=Aw) (d:=.Qj) (aD (aA (K:=K) (k:=2) (Dat.Qm mc.b)) aP) (λ_=>Qf.cons (Dat.Qm _) Qf.nil) ⟨mc.b,_,rfl,oc.b2,oc.b9,rfl⟩) λv6 H2 s2 _=>?_);have s12:=s1.trans s2;refine gC (RE.use (bF (R:=Ak) (d:=.Qj) (aD (aA (K:=K) (k:=1) (s12.dat hg)) (aD (aA (k:=2) (Dat.Qm mc.b)) aP)) ⟨mc.as,mc.b,rfl,oc.as,oc.ai,rfl⟩) λv7 H3 s3 _=>?_);have QV:=s12.trans s3
 have ew:dE (.int (n:Int)) 1 100000=true:=by show (decide ((1:Int)<=n) && decide ((n:Int)<=100000))=true;rw [M5 (by omega),M5 (by omega)];rfl
 refine aO (K:=K) (b:=false) (RT.as (bS (bL (bF (R:=fq) (aD (aA (k:=3) (Dat.Qm (n:Int))) (aD aG (aD aG aP))) ⟨_,_,_,rfl,rfl⟩))) (by rw [ew];rfl)) (λc=>nomatch c) (λ_ H4 s4=>?_);have RJ:=QV.trans s4;refine ⟨_,rfl,_,rfl,_,rfl,d8 (by decide),λl0 nl0 x dx nx ndx hne=>?_⟩;generalize e5:upd H4 l0 (.lst [])=H5 at nx ndx ⊢;have s5:Qh H4 H5:=by rw [<- e5];exact aV nl0 _
 have Wv:=RJ.trans s5;have s6:Qh H5 (upd (upd H5 dx (.own x)) x (.ins T.HK dx [])):=(aV ndx _).trans (aV (by rw [aR (Nz hne)];exact nx) _);have VO:=Wv.trans s6;have h5:H5 l0=some (.lst []):=by rw [<- e5];exact aI
 refine ⟨x,dx,lc,vg,.ref l0,mc,[],rfl,aI,VO _ _ hc,VO.dat hg,LD.of (s6 _ _ h5) (gm []),by decide,λA H' em edx elc evg b nlp nlk M=>⟨rfl,?_⟩⟩;subst em;refine post A H' (λb' o e=>?_) (Wv.free nx) (VO.free nlp) (VO.free nlk) M;exact b b' o (λz=>by rw [z,Wv.free nx] at e;cases e) (VO _ _ e)
noncomputable def EG (K:W.Frag):Sp:=λvs H Q _=>∃ (lc:Addr) (vg:V) (mc:MC) (n:Nat) (v:Int),vs=[.ref lc,vg,.int mc.b,.int n]/\zG mc/\H lc=some (.lst (mc.cs.map V.int))/\Dat K H (.tup (mc.as.map D.int)) vg/\1<=n/\n<=100000/\pN mc n YX=.ends v/\∀ H',Qh H H'->Q (.int v) H'
theorem yT (s:Qh H G) (b:R4 A G G') (h1:H A.m=none) (h2:H A.lp=none) (h3:H A.lk=none):Qh H G':=λx o e =>
 b x o (λz=>by rw [z,h1] at e;cases e) (λz=>by rw [z,h2] at e;cases e) (λz=>by rw [z,h3] at e;cases e) (s x o e)
theorem FE (T:Txt P w K mg) (Mo:Ok P w base k T.KZ (yI K T.HK)) (Ls:QE P w K mg base Ur k T.IY T.Jb ["self"] (Cf K T.HK T.HK)):QE P w K mg base Ur (k+1) T.L0 T.L3 ["code","args","size","steps"] (EG K):=by
 refine T.Mg.ok W4 (λvs H Q E h=>?_) (λcdv A outer s H vs Q E hr h=>?_)
 ·obtain ⟨lc,vg,mc,n,vv,rfl,_⟩:=h;rfl
 have nd:=W4.nd;obtain ⟨lc,vg,mc,n,vv,rfl,oc,hc,hg,n1,n9,ends,pe⟩:=h;refine ⟨_,(aC (bO (i:=4) nd rfl (Or.inl rfl) (pc (D:=T.KZ) Mo hr (aF (pv 0) (aF (pv 1) (aF (pv 2) (aF (pv 3) aB))))))
 (aC (h7 NP rfl (mL rfl T.La (aF (pv 3) aB)) (a7 (i:=5) nd rfl (Or.inl rfl)) (aC (bT (iZ (pv 4) T.Qg T.Tf Ls hr (oz T) .nil gn))
 (aH (bE (bP (fG (pv 4) rfl) (λ_=>rfl)) (aH (aL (aX cE (fG (pv 4) rfl) aE))) aM))))
 (aH c8))),?_⟩
 refine fw ⟨_,rfl,_,rfl,_,rfl,_,rfl,lc,vg,mc,n,rfl,oc,hc,hg,n1,n9,λA H1 s1 nm np nk M=>?_⟩;refine eA ⟨_,rfl,(n:Int),rfl,by omega,by omega,zi (n:=(n:Int).toNat) (λi σ G=>∃ (z:Option V) (st:MS),σ=[some (.ref lc),some vg,some (.int mc.b),some (.int n),some (.ref A.m),z]/\Qo K T.HK A mc st G/\jx mc st/\st.ended=false/\Qh H G/\pN mc n YX=pN mc (n - i) st) ?_ ?_ ?_⟩
 ·exact ⟨none,YX,rfl,M,FF,rfl,s1,rfl⟩
 ·rintro i σ G hi ⟨z,st,rfl,M,os,he,sG,hr2⟩;refine iJ ?_;dsimp only;obtain ⟨k',ek⟩:∃ k',n - i=k'+1:=⟨n - i - 1,by omega⟩
  have ek2:n - (i+1)=k':=by omega
  rw [ek] at hr2;refine gC ⟨_,rfl,A.m,A.dx,_,rfl,M.ins,by kernel_rfl,A,mc,st,rfl,M,oc,os,λv st' e H2 b2 M2=>?_,λe=>?_⟩
  ·obtain ⟨s',hs,e2⟩:=Nm.mp e;cases e2;obtain ⟨os2,one⟩:=D9 oc os hs;have s2:=yT sG b2 nm np nk;rw [pN,hs] at hr2;dsimp only at hr2;refine iA (v:=.bl st'.ended) M2 T.Qg T.Rx ⟨st'.ended,rfl,?_⟩
   cases hz:st'.ended with
   | true =>
    rw [MW hz] at hr2;have l1:=one he hz
    obtain ⟨x,hx⟩:∃ x,st'.pile=[x]:=by
     match hq:st'.pile,l1 with
     | [x],_=>exact ⟨x,rfl⟩
    refine mx (bB (K:=K) (d:=.int x) (gB (k:=0) (tR M2 T.Qg T.QZ) aG (by rw [hx];rfl)) λv H3 s3 q=>?_);rw [q.Qk];rw [ends,hx] at hr2;injection hr2 with hr2;have hr2:vv=x:=hr2;rw [<- hr2];exact pe H3 (s2.trans s3)
   | false =>rw [MR (by rw [hz];exact MY)] at hr2;exact mw ⟨_,st',rfl,M2,os2,hz,s2,by rw [hr2,ek2]⟩
  ·have e:hE mc st=none:=by simpa using e
   rw [pN,e] at hr2;rw [ends] at hr2;cases hr2
 rintro σ G ⟨z,st,rfl,M,os,he,sG,hr2⟩;have e0:n - (n:Int).toNat=0:=by omega
 rw [e0] at hr2;rw [ends] at hr2;cases hr2
noncomputable def bN (as:List Int) (b:Int):Tr->Int
 | .num n=>n % b
 | .arg k=>as.getD k.toNat 0
 | .two o x y=>two o (bN as b x) (bN as b y) b
 | .pick x y z=>if bN as b x=0 then bN as b z else bN as b y
inductive Go (mc:MC):Nat->MS->MS->Prop
 | nil {s:MS}:Go mc 0 s s
 | cons {n:Nat} {s s1 s2:MS}:hE mc s=some s1->s1.ended=false->Go mc n s1 s2->Go mc (n+1) s s2
variable {s1 s2:MS}
theorem Go.trans {m:Nat} {s3:MS} (a:Go mc n s1 s2) (b:Go mc m s2 s3):Go mc (n+m) s1 s3:=by
 induction a with
 | nil=>rw [Nat.zero_add];exact b
 | cons e d _ ih=>rw [Nat.succ_add];exact .cons e d (ih b)
variable {s':MS}
theorem Go.run {s:MS} (a:Go mc n s s') (k:Nat):pN mc (n+k) s=pN mc k s':=by
 induction a with
 | nil=>rw [Nat.zero_add]
 | cons e d _ ih =>rw [Nat.succ_add];show (match hE mc _ with | none=>_ | some s=>_)=_;rw [e];dsimp only;rw [d,MR MY];exact ih
noncomputable abbrev at_ (s:List Int) (p:Nat) (k:List Nat):MS:=⟨s,p,k,false⟩
variable {a b args s:List Int}
theorem fR {k:List Nat} (h:mc.cs=a++c::(args++b)) (hc:c<=16) (hl:args.length=dJ c) :
  hE mc (at_ s a.length k)=if qc (Tt c) (gN args).toNat=true then none else Vr mc (Tt c) (gN args).toNat (a.length+1+args.length) (at_ s a.length k):=by
 unfold hE
 have e1:mc.cs[(at_ s a.length k).place]?=some c:=by rw [h];show (a++c::(args++b))[a.length]?=some c;rw [NQ (M0 _),Qe];rfl
 rw [e1]
 have e2:i8 mc.cs (at_ s a.length k).place c=false:=by
  unfold i8
  rw [h,MX (by omega),MX (by
   show ¬ (a++c::(args++b)).length<=a.length+dJ c;rw [MQ,Nd,MQ];omega)]
  rfl
 have e3:qw mc.cs (at_ s a.length k).place c=(gN args).toNat:=by
  unfold qw XH;rw [h];show (gN (((a++c::(args++b)).drop (a.length+1)).take (dJ c))).toNat=_
  have e4:(a++c::(args++b)).drop (a.length+1)=args++b:=by rw [Pr,List.drop_eq_nil_of_le (by omega),OG,show a.length+1 - a.length=1 by omega];rfl
  rw [e4,<- hl,List.take_left'];rfl
 dsimp only;rw [e2,e3,MR MY,hl]
theorem Xq {s:MS} (h:hE mc s=some s1) (e:s1.ended=false):Go mc 1 s s1:=.cons h e .nil
theorem iI {n:Int} {k:List Nat} (hs:s.length<=63):cV mc n (at_ s p k)=some (at_ (n % mc.b::s) p k):=by unfold cV;rw [MR (show ¬ s.length=64 by omega)]
theorem iP (h1:¬ nm="load") (h2:¬ nm="skip") (h3:¬ nm="zero"):¬ qc nm n=true:=by
 unfold qc kl
 have e:KTD.datumAt nm XG=none:=by show (if decide (nm="load")=true then _ else if decide (nm="skip")=true then _ else if decide (nm="zero")=true then _ else _)=_;rw [MR (by simp [h1]),MR (by simp [h2]),MR (by simp [h3])];rfl
 rw [e];simp
theorem Hl (h:nm="skip"\/nm="zero") (hn:n<=9):¬ qc nm n=true:=by
 unfold qc;have e:kl nm XG n=9:=by rcases h with rfl | rfl <;> kernel_rfl
 rw [e];simp;omega
theorem HJ (hn:n<=3):¬ qc "load" n=true:=by
 unfold qc;have e:kl "load" XG n=3:=by kernel_rfl
 rw [e];simp;omega
theorem iF {x:Int} {k:List Nat}:fW (at_ (x::s) p k)=some (x,at_ s p k):=rfl
theorem Fl {n:Int} {k:List Nat} (h:mc.cs=a++1::n::b) (h0:0<=n) (hs:s.length<=63):Go mc 1 (at_ s a.length k) (at_ (n % mc.b::s) (a.length+2) k):=by
 refine Xq ?_ rfl;rw [fR (args:=[n]) h (by decide) rfl,show Tt 1="put" from rfl,MR (iP (by decide +kernel) (by decide +kernel) (by decide +kernel))];unfold Vr eB;rw [MR (by decide +kernel),MR (by decide +kernel),MW (by decide +kernel),iI hs];have e:(((gN [n]).toNat:Nat):Int)=n:=by simp [gN];omega
 rw [e];rfl
theorem Fj {n m:Int} {k:List Nat} (h:mc.cs=a++2::n::m::b) (h0:0<=n) (h1:0<=m) (hs:s.length<=63):Go mc 1 (at_ s a.length k) (at_ ((m * 100+n) % mc.b::s) (a.length+3) k):=by
 refine Xq ?_ rfl;rw [fR (args:=[n,m]) h (by decide) rfl,show Tt 2="far" from rfl,MR (iP (by decide +kernel) (by decide +kernel) (by decide +kernel))];unfold Vr eB;rw [MR (by decide +kernel),MR (by decide +kernel),MW (by decide +kernel),iI hs];have e:(((gN [n,m]).toNat:Nat):Int)=m * 100+n:=by simp [gN];omega
 rw [e];rfl
theorem xY {n:Int} {k:List Nat} (h:mc.cs=a++3::n::b) (h0:0<=n) (h1:n<=3) (hs:s.length<=63):Go mc 1 (at_ s a.length k) (at_ (mc.as.getD n.toNat 0 % mc.b::s) (a.length+2) k):=by
 refine Xq ?_ rfl;have e:(gN [n]).toNat=n.toNat:=by simp [gN]
 rw [fR (args:=[n]) h (by decide) rfl,show Tt 3="load" from rfl,e,MR (HJ (by omega))];unfold Vr eB;rw [MR (by decide +kernel),MR (by decide +kernel),MR (by decide +kernel),MW rfl,iI hs];rfl
theorem Fi {x y:Int} {k:List Nat} (h:mc.cs=a++4::b) (hb:2<=mc.b) (hs:s.length<=63):Go mc 1 (at_ (y::x::s) a.length k) (at_ (two "add" x y mc.b::s) (a.length+1) k):=by refine Xq ?_ rfl;rw [fR (args:=[]) h (by decide) rfl,show Tt 4="add" from rfl,MR (iP (by decide +kernel) (by decide +kernel) (by decide +kernel))];unfold Vr eB;rw [MR (by decide +kernel),MR (by decide +kernel),MR (by decide +kernel),MR (by decide +kernel),iF,N8];dsimp only;rw [MR (by decide +kernel),MR (by decide +kernel),MR (by decide +kernel),iF,N8];dsimp only;rw [iI hs,Od (iU hb).1 (iU hb).2];rfl
theorem Fn {x y:Int} {k:List Nat} (h:mc.cs=a++5::b) (hb:2<=mc.b) (hs:s.length<=63):Go mc 1 (at_ (y::x::s) a.length k) (at_ (two "sub" x y mc.b::s) (a.length+1) k):=by refine Xq ?_ rfl;rw [fR (args:=[]) h (by decide) rfl,show Tt 5="sub" from rfl,MR (iP (by decide +kernel) (by decide +kernel) (by decide +kernel))];unfold Vr eB;rw [MR (by decide +kernel),MR (by decide +kernel),MR (by decide +kernel),MR (by decide +kernel),iF,N8];dsimp only;rw [MR (by decide +kernel),MR (by decide +kernel),MR (by decide +kernel),iF,N8];dsimp only;rw [iI hs,Od (iU hb).1 (iU hb).2];rfl
theorem Fk {x y:Int} {k:List Nat} (h:mc.cs=a++6::b) (hb:2<=mc.b) (hs:s.length<=63):Go mc 1 (at_ (y::x::s) a.length k) (at_ (two "mul" x y mc.b::s) (a.length+1) k):=by refine Xq ?_ rfl;rw [fR (args:=[]) h (by decide) rfl,show Tt 6="mul" from rfl,MR (iP (by decide +kernel) (by decide +kernel) (by decide +kernel))];unfold Vr eB;rw [MR (by decide +kernel),MR (by decide +kernel),MR (by decide +kernel),MR (by decide +kernel),iF,N8];dsimp only;rw [MR (by decide +kernel),MR (by decide +kernel),MR (by decide +kernel),iF,N8];dsimp only;rw [iI hs,Od (iU hb).1 (iU hb).2];rfl
theorem C4 {x y:Int} {k:List Nat} (h:mc.cs=a++7::b) (hb:2<=mc.b) (hs:s.length<=63):Go mc 1 (at_ (y::x::s) a.length k) (at_ (two "less" x y mc.b::s) (a.length+1) k):=by refine Xq ?_ rfl;rw [fR (args:=[]) h (by decide) rfl,show Tt 7="less" from rfl,MR (iP (by decide +kernel) (by decide +kernel) (by decide +kernel))];unfold Vr eB;rw [MR (by decide +kernel),MR (by decide +kernel),MR (by decide +kernel),MR (by decide +kernel),iF,N8];dsimp only;rw [MR (by decide +kernel),MR (by decide +kernel),MR (by decide +kernel),iF,N8];dsimp only;rw [iI hs,Od (iU hb).1 (iU hb).2];rfl
theorem xZ {n x:Int} {k:List Nat} (h:mc.cs=a++12::n::b) (h0:0<=n) (hs:s.length<=63):Go mc 1 (at_ (x::s) a.length k) (at_ ((x+n) % mc.b::s) (a.length+2) k):=by
 refine Xq ?_ rfl;rw [fR (args:=[n]) h (by decide) rfl,show Tt 12="more" from rfl,MR (iP (by decide +kernel) (by decide +kernel) (by decide +kernel))];have e:(((gN [n]).toNat:Nat):Int)=n:=by simp [gN];omega
 unfold Vr eB;rw [MR (by decide +kernel),MR (by decide +kernel),MR (by decide +kernel),MR (by decide +kernel),iF,N8];dsimp only;rw [MW rfl,e,iI hs];rfl
theorem C5 {k:List Nat} (h:mc.cs=a++(eX 8 9 n++b)):Go mc 1 (at_ s a.length k) (at_ s (a.length+(eX 8 9 n).length+n) k):=by
 refine Xq (s1:=at_ s (a.length+(eX 8 9 n).length+n) k) ?_ rfl;unfold eX at h ⊢;by_cases c:(n:Int)<=9
 ·rw [MW c] at h ⊢;have e:(gN [(n:Int)]).toNat=n:=by simp [gN]
  rw [fR (args:=[(n:Int)]) h (by decide) rfl,show Tt 8="skip" from rfl,e,MR (Hl (.inl rfl) (by omega))];unfold Vr km;rw [MW (by decide +kernel),MW (by decide +kernel)];rfl
 ·rw [MR c] at h ⊢;have e:(gN [(n:Int) % 100,(n:Int) / 100]).toNat=n:=by simp [gN];omega
  rw [fR (args:=[(n:Int) % 100,(n:Int) / 100]) h (by decide) rfl,show Tt 9="jump" from rfl,e,MR (iP (by decide +kernel) (by decide +kernel) (by decide +kernel))];unfold Vr km;rw [MW (by decide +kernel),MW (by decide +kernel)];rfl
theorem C6 {x:Int} {k:List Nat} (h:mc.cs=a++(eX 10 11 n++b)):Go mc 1 (at_ (x::s) a.length k) (at_ s (a.length+(eX 10 11 n).length+if x=0 then n else 0) k):=by
 refine Xq (s1:=at_ s (a.length+(eX 10 11 n).length+if x=0 then n else 0) k) ?_ rfl;unfold eX at h ⊢;by_cases c:(n:Int)<=9
 ·rw [MW c] at h ⊢;have e:(gN [(n:Int)]).toNat=n:=by simp [gN]
  rw [fR (args:=[(n:Int)]) h (by decide) rfl,show Tt 10="zero" from rfl,e,MR (Hl (.inr rfl) (by omega))];unfold Vr km;rw [MW (by decide +kernel),MR (by decide +kernel),MW (by decide +kernel),iF];by_cases hx:x=0
  ·rw [MW hx];simp [hx]
  ·rw [MR hx];simp [hx]
 ·rw [MR c] at h ⊢;have e:(gN [(n:Int) % 100,(n:Int) / 100]).toNat=n:=by simp [gN];omega
  rw [fR (args:=[(n:Int) % 100,(n:Int) / 100]) h (by decide) rfl,show Tt 11="none" from rfl,e,MR (iP (by decide +kernel) (by decide +kernel) (by decide +kernel))];unfold Vr km;rw [MW (by decide +kernel),MR (by decide +kernel),MW (by decide +kernel),iF];by_cases hx:x=0
  ·rw [MW hx];simp [hx]
  ·rw [MR hx];simp [hx]
theorem nS {i m:Int} {f:Sx} (h:cG (.gap i m) t=some f):∃ n,t=.num n/\n<=m/\f=([],[n],[]):=by
 cases t with
 | num n =>
  have h:(if n<=m then some ([],[n],[]) else none:Option Sx)=some f:=h;by_cases c:n<=m
  ·rw [MW c] at h;cases h;exact ⟨n,rfl,c,rfl⟩
  ·rw [MR c] at h;cases h
 | _=>cases h
theorem oQ {i:Int} {f:Sx} (h:cG (.slot i) t=some f):∃ n,t=.arg n/\f=([],[],[n]):=by
 cases t with
 | arg n=>cases h;exact ⟨n,rfl,rfl⟩
 | _=>cases h
theorem C0 {m:Int} {f:Sx} (h:cG (.num m) t=some f):t=.num m/\f=([],[],[]):=by
 cases t with
 | num n =>
  have h:(if n=m then some ([],[],[]) else none:Option Sx)=some f:=h;by_cases c:n=m
  ·rw [MW c] at h;cases h;exact ⟨by rw [c],rfl⟩
  ·rw [MR c] at h;cases h
 | _=>cases h
theorem gw {i:Int} {f:Sx} (h:cG (.hole i) t=some f):f=([t],[],[]):=by cases h;rfl
theorem qW {a b:Pa} {f:Sx} (h:cG (.two o a b) t=some f):∃ x y f1 f2,t=.two o x y/\cG a x=some f1/\cG b y=some f2/\f=E9 f1 f2:=by
 cases t with
 | two o' x y=>obtain ⟨e,f1,f2,h1,h2,h3⟩:=eP h;subst e;exact ⟨x,y,f1,f2,rfl,h1,h2,h3⟩
 | _=>cases h
structure Xr (mc:MC):Prop where
 len:mc.as.length=4
 ar:∀ x ∈ mc.as,0<=x/\x < mc.b
 b2:2<=mc.b
theorem vT (h:Xr mc) {n:Int} (h0:0<=n) (h1:n<=3):mc.as.getD n.toNat 0 % mc.b=mc.as.getD n.toNat 0:=by
 have l:=h.len;have hn:n.toNat < mc.as.length:=by omega
 have e:mc.as.getD n.toNat 0=mc.as[n.toNat]:=by rw [Nt,MT hn];rfl
 have:=h.ar _ (List.getElem_mem hn);rw [e];exact Od this.1 this.2
theorem qk (h:Xr mc):∀ t:Tr,RI t->0<=bN mc.as mc.b t/\bN mc.as mc.b t < mc.b
 | .num n,_=>⟨NO _ (by have:=h.b2;omega),NJ _ (by have:=h.b2;omega)⟩
 | .arg k,ht=>by show 0<=mc.as.getD k.toNat 0/\mc.as.getD k.toNat 0 < mc.b;rw [<- vT h ht.1 ht.2];exact ⟨NO _ (by have:=h.b2;omega),NJ _ (by have:=h.b2;omega)⟩
 | .two o x y,_=>iU h.b2
 | .pick x y z,ht=>by
  show 0<=(if bN mc.as mc.b x=0 then bN mc.as mc.b z else bN mc.as mc.b y)/\(if bN mc.as mc.b x=0 then bN mc.as mc.b z else bN mc.as mc.b y) < mc.b;split
  ·exact qk h z ht.2.2
  ·exact qk h y ht.2.1
noncomputable def gc (p:Pc):Prop:=∀ (mc:MC) (t:Tr) (f:Sx) (a b s:List Int) (k:List Nat),Xr mc->RI t->cG p.pt t=some f->mc.cs=a++((bW p).map (jq f.2.1 f.2.2)++b)->s.length<=61 ->
 ∃ m,m<=(bW p).length/\Go mc m (at_ ((f.1.map (bN mc.as mc.b)).reverse++s) a.length k) (at_ (bN mc.as mc.b t::s) (a.length+(bW p).length) k)
theorem kq {s s2':MS} (h:Go mc n s s') (e1:s=s2) (e2:s'=s2'):Go mc n s2 s2':=by subst e1 e2;exact h
theorem iw {s':List Int} {p':Nat} {k:List Nat} (h1:s=s') (h2:p=p'):at_ s p k=at_ s' p' k:=by rw [h1,h2]
theorem Ee (x y b:Int):two "add" x y b=(x+y) % b:=by unfold two;rw [MR (by decide +kernel),MW rfl]
theorem FP:gc ⟨"one",.gap 0 99,[.int 1,.tup [.str "low",.int 0]]⟩:=by
 intro mc t f a b s k hA ht hf hc hs;have l3:s.length<=63:=by omega
 have l2:s.length<=62:=by omega
 obtain ⟨n,rfl,hn,rfl⟩:=nS hf;have hc:mc.cs=a++1::(n % 100)::b:=hc;have e:n % 100=n:=Od ht.1 (by omega);rw [e] at hc;exact ⟨1,by decide,Fl (s:=s) hc ht.1 l3⟩
theorem FQ:gc ⟨"two",.gap 0 9999,[.int 2,.tup [.str "low",.int 0],.tup [.str "high",.int 0]]⟩:=by
 intro mc t f a b s k hA ht hf hc hs;have l3:s.length<=63:=by omega
 have l2:s.length<=62:=by omega
 obtain ⟨n,rfl,hn,rfl⟩:=nS hf;have hc:mc.cs=a++2::(n % 100)::(n / 100)::b:=hc;have h0:=ht.1;exact ⟨1,by decide,kq (Fj (s:=s) hc (by omega) (by omega) l3) rfl (iw (Nq (· % mc.b::s) (by omega)) rfl)⟩
theorem DA:gc ⟨"slot",.slot 0,[.int 3,.tup [.str "arg",.int 0]]⟩:=by
 intro mc t f a b s k hA ht hf hc hs;have l3:s.length<=63:=by omega
 have l2:s.length<=62:=by omega
 obtain ⟨n,rfl,rfl⟩:=oQ hf;have hc:mc.cs=a++3::n::b:=hc;exact ⟨1,by decide,kq (xY (s:=s) hc ht.1 ht.2 l3) rfl (iw (Nq (·::s) (vT hA ht.1 ht.2)) rfl)⟩
theorem FN:gc ⟨"add",.two "add" (.hole 0) (.hole 1),[.int 4]⟩:=by
 intro mc t f a b s k hA ht hf hc hs;have l3:s.length<=63:=by omega
 have l2:s.length<=62:=by omega
 obtain ⟨x,y,f1,f2,rfl,h1,h2,rfl⟩:=qW hf;cases gw h1;cases gw h2;have hc:mc.cs=a++4::b:=hc;exact ⟨1,by decide,Fi (s:=s) hc hA.b2 l3⟩
theorem tF:gc ⟨"sub",.two "sub" (.hole 0) (.hole 1),[.int 5]⟩:=by
 intro mc t f a b s k hA ht hf hc hs;have l3:s.length<=63:=by omega
 have l2:s.length<=62:=by omega
 obtain ⟨x,y,f1,f2,rfl,h1,h2,rfl⟩:=qW hf;cases gw h1;cases gw h2;have hc:mc.cs=a++5::b:=hc;exact ⟨1,by decide,Fn (s:=s) hc hA.b2 l3⟩
theorem FO:gc ⟨"mul",.two "mul" (.hole 0) (.hole 1),[.int 6]⟩:=by
 intro mc t f a b s k hA ht hf hc hs;have l3:s.length<=63:=by omega
 have l2:s.length<=62:=by omega
 obtain ⟨x,y,f1,f2,rfl,h1,h2,rfl⟩:=qW hf;cases gw h1;cases gw h2;have hc:mc.cs=a++6::b:=hc;exact ⟨1,by decide,Fk (s:=s) hc hA.b2 l3⟩
theorem Dy:gc ⟨"less",.two "less" (.hole 0) (.hole 1),[.int 7]⟩:=by
 intro mc t f a b s k hA ht hf hc hs;have l3:s.length<=63:=by omega
 have l2:s.length<=62:=by omega
 obtain ⟨x,y,f1,f2,rfl,h1,h2,rfl⟩:=qW hf;cases gw h1;cases gw h2;have hc:mc.cs=a++7::b:=hc;exact ⟨1,by decide,C4 (s:=s) hc hA.b2 l3⟩
theorem Dz:gc ⟨"more",.two "add" (.hole 0) (.gap 0 99),[.int 12,.tup [.str "low",.int 0]]⟩:=by
 intro mc t f a b s k hA ht hf hc hs;have l3:s.length<=63:=by omega
 have l2:s.length<=62:=by omega
 obtain ⟨x,y,f1,f2,rfl,h1,h2,rfl⟩:=qW hf;cases gw h1;obtain ⟨n,rfl,hn,rfl⟩:=nS h2;have n0:0<=n:=ht.2.2.1;have e:n % 100=n:=Od n0 (by omega);have hc:mc.cs=a++12::(n % 100)::b:=hc;rw [e] at hc;exact ⟨1,by decide,kq (xZ (s:=s) hc n0 l3) rfl (iw (Nq (·::s) (by show (bN mc.as mc.b x+n) % mc.b=two "add" (bN mc.as mc.b x) (n % mc.b) mc.b;rw [Ee];simp [Int.add_emod])) rfl)⟩
noncomputable def Ub (mc:MC) (t:Tr) (ns:List Int) (d:Nat):Prop:=∀ (a b s:List Int) (k:List Nat),mc.cs=a++(ns++b)->s.length+d<=61->∃ m,m<=ns.length/\Go mc m (at_ s a.length k) (at_ (bN mc.as mc.b t::s) (a.length+ns.length) k)
theorem Ub.mono {d e:Nat} (h:Ub mc t ns d) (l:d<=e):Ub mc t ns e:=λa b s k hc hs=>h a b s k hc (by omega)
theorem Cb {d:Nat}:∀ (l:List (Tr × List Int)),(∀ x ∈ l,Ub mc x.1 x.2 d)->∀ (a b s:List Int) (k:List Nat),mc.cs=a++((l.map (·.2)).flatten++b)->s.length+l.length+d<=62 ->
  ∃ m,m<=(l.map (·.2)).flatten.length/\Go mc m (at_ s a.length k) (at_ ((l.map λx=>bN mc.as mc.b x.1).reverse++s) (a.length+(l.map (·.2)).flatten.length) k)
 | [],_,a,b,s,k,_,_=>⟨0,M0 _,.nil⟩
 | x::l,h,a,b,s,k,hc,hs=>by
  rw [Nb,NU,NC] at hc;rw [Nd] at hs;obtain ⟨m1,l1,g1⟩:=h x NB a _ s k hc (by omega);obtain ⟨m2,l2,g2⟩:=Cb l (λy hy=>h y (Nj _ hy)) (a++x.2) b (bN mc.as mc.b x.1::s) k (by rw [hc,NC]) (by rw [Nd];omega);refine ⟨m1+m2,by rw [Nb,NU,MQ];omega,g1.trans (kq g2 (iw rfl (by rw [MQ])) (iw ?_ ?_))⟩
  ·rw [Nb,OZ,NC];rfl
  ·rw [Nb,NU,MQ,MQ];omega
theorem ym {mc:MC} {d:Nat} {f:Tr->D->Option (List D)}:∀ {ts:List Tr} {cs:List D} {Qq:List (List D)},ts.length=cs.length->fV f ts cs=Qq.map some->(∀ t ∈ ts,∀ c es,f t c=some es->∃ ns:List Int,es=ns.map D.int/\Ub mc t ns d) ->
  ∃ l:List (Tr × List Int),l.map (·.1)=ts/\Qq.flatten=((l.map (·.2)).flatten).map D.int/\∀ x ∈ l,Ub mc x.1 x.2 d
 | [],[],Qq,_,h,_=>by
  have:Qq=[]:=by cases Qq with | nil=>rfl | cons _ _=>cases h
  subst this;exact ⟨[],rfl,rfl,λx hx=>(nomatch hx)⟩
 | [],c::cs,_,h,_,_=>by cases h
 | t::ts,[],_,h,_,_=>by cases h
 | t::ts,c::cs,Qq,hl,h,hf=>by
  cases Qq with
  | nil=>cases h
  | cons x Qq =>
   have h':f t c::fV f ts cs=some x::Qq.map some:=h;injection h' with h1 h2;obtain ⟨ns,e1,r1⟩:=hf t NB c x h1;obtain ⟨l,e2,e3,r2⟩:=ym (mc:=mc) (d:=d) (f:=f) (ts:=ts) (cs:=cs) (Qq:=Qq) (by simpa using hl) h2 λt ht=>hf t (Nj _ ht);refine ⟨(t,ns)::l,by rw [Nb,e2],by rw [NU,e1,e3,Nb,NU,Nl],λy hy=>?_⟩;rcases Na.mp hy with rfl | hy
   ·exact r1
   ·exact r2 y hy
theorem o6 {mc:MC} (hA:Xr mc) (hp:∀ p ∈ ps,ff p.pt=true/\gc p/\∀ t f,cG p.pt t=some f->f.1.length<=2):∀ (n:Nat) (t:Tr) (c:D) (es:List D),RI t->dY ps n t c=some es->∃ ns:List Int,es=ns.map D.int/\Ub mc t ns (2 * aS t)
 | 0,_,_,_,_,h=>by cases h
 | n+1,t,c,es,ok,h=>by
  have h:(match ml c with | none=>none | some x=>if x.1="pick" then jH (dY ps n) t x.2 else iY (dY ps n) ps t x.1 x.2)=some es:=h
  cases ec:ml c with
  | none=>rw [ec] at h;cases h
  | some x =>
   rw [ec] at h;dsimp only at h;by_cases hpk:x.1="pick"
   ·rw [MW hpk] at h;obtain ⟨t1,t2,t3,ca,cb,cd,xa,xb,xd,rfl,_,la,lb,ld,rfl⟩:=gM h;obtain ⟨n1,e1,r1⟩:=o6 hA hp n t1 ca xa ok.1 la;obtain ⟨n2,e2,r2⟩:=o6 hA hp n t2 cb xb ok.2.1 lb;obtain ⟨n3,e3,r3⟩:=o6 hA hp n t3 cd xd ok.2.2 ld;subst e1 e2 e3;have hj:=gY 8 9 (n3.length:Int);let L:=n2++eX 8 9 (n3.length:Int);refine ⟨n1++(eX 10 11 (L.length:Int)++(L++n3)),?_,?_⟩
    ·unfold e7 kg;have eL:((n2.map D.int++(eX 8 9 ((n3.map D.int).length:Int)).map D.int).length:Int)=(L.length:Int):=by simp [L]
     rw [eL,tB];simp [L]
    ·intro a b s k hc hs;have d1:aS t1+1<=aS (.pick t1 t2 t3):=by simp only [aS];omega
     have d2:aS t2+1<=aS (.pick t1 t2 t3):=by simp only [aS];omega
     have d3:aS t3+1<=aS (.pick t1 t2 t3):=by simp only [aS];omega
     obtain ⟨m1,l1,g1⟩:=r1 a (eX 10 11 (L.length:Int)++(L++n3)++b) s k (by rw [hc];simp) (by omega);have g2:=C6 (mc:=mc) (a:=a++n1) (b:=L++n3++b) (n:=L.length) (x:=bN mc.as mc.b t1) (s:=s) (k:=k) (by rw [hc];simp);have g12:=g1.trans (kq g2 (iw rfl (by rw [MQ])) rfl);by_cases hz:bN mc.as mc.b t1=0
     ·rw [MW hz] at g12;obtain ⟨m3,l3,g3⟩:=r3 (a++n1++eX 10 11 (L.length:Int)++L) b s k (by rw [hc];simp) (by omega);refine ⟨m1+1+m3,?_,g12.trans (kq g3 (iw rfl ?_) (iw ?_ ?_))⟩
      ·have:=gY 10 11 (L.length:Int);have j2:(2:Int)<=fk L.length:=by unfold fk;split <;> omega
       simp only [MQ];omega
      ·simp only [MQ]
      ·show bN mc.as mc.b t3::s=(if bN mc.as mc.b t1=0 then bN mc.as mc.b t3 else bN mc.as mc.b t2)::s;rw [MW hz]
      ·simp only [MQ];omega
     ·rw [MR hz] at g12;obtain ⟨m3,l3,g3⟩:=r2 (a++n1++eX 10 11 (L.length:Int)) (eX 8 9 (n3.length:Int)++n3++b) s k (by rw [hc];simp [L]) (by omega);have g4:=C5 (mc:=mc) (a:=a++n1++eX 10 11 (L.length:Int)++n2) (b:=n3++b) (n:=n3.length) (s:=bN mc.as mc.b t2::s) (k:=k) (by rw [hc];simp [L]);refine ⟨m1+1+(m3+1),?_,g12.trans ((kq g3 (iw rfl ?_) rfl).trans (kq g4 (iw rfl ?_) (iw ?_ ?_)))⟩
      ·have:=gY 10 11 (L.length:Int);have j2:(2:Int)<=fk L.length:=by unfold fk;split <;> omega
       have lL:L.length=n2.length+(eX 8 9 (n3.length:Int)).length:=MQ;simp only [MQ];omega
      ·simp only [MQ];omega
      ·simp only [MQ]
      ·show bN mc.as mc.b t2::s=(if bN mc.as mc.b t1=0 then bN mc.as mc.b t3 else bN mc.as mc.b t2)::s;rw [MR hz]
      ·have lL:L.length=n2.length+(eX 8 9 (n3.length:Int)).length:=MQ;simp only [MQ];omega
   ·rw [MR hpk] at h;obtain ⟨p,g,Qq,e1,e2,hl,e,rfl⟩:=gL h;have hpm:=(gg e1).1;obtain ⟨nh,pg,two⟩:=hp p hpm;have tail:=jF nh e2
    obtain ⟨l,f1,f2,r⟩:=ym (mc:=mc) (d:=2 * aS t - 2) (f:=dY ps n) hl e λx hx c es hq=>by have hs:=(gQ (tail x hx)).2;obtain ⟨ns,q1,q2⟩:=o6 hA hp n x c es (gz t x ok (j9 (tail x hx))) hq;exact ⟨ns,q1,q2.mono (by omega)⟩
    refine ⟨(l.map (·.2)).flatten++(bW p).map (jq g.2.1 g.2.2),?_,?_⟩
    ·unfold fe;rw [f2,Nl,OB];rfl
    ·intro a b s k hc hs
     have ll:l.length<=2:=by have:=Nq List.length f1;rw [tB] at this;have:=two t g e2;omega
     have dp:=iX t;obtain ⟨m1,l1,g1⟩:=Cb l r a ((bW p).map (jq g.2.1 g.2.2)++b) s k (by rw [hc,NC]) (by omega);obtain ⟨m2,l2,g2⟩:=pg mc t g (a++(l.map (·.2)).flatten) b s k hA ok e2 (by rw [hc];simp) (by omega);have el:(l.map λx=>bN mc.as mc.b x.1)=g.1.map (bN mc.as mc.b):=by rw [<- f1,OB];rfl
     rw [el] at g1;refine ⟨m1+m2,by rw [MQ,tB];omega,g1.trans (kq g2 (iw rfl (by rw [MQ])) (iw rfl ?_))⟩;rw [MQ,MQ,tB];omega
theorem CS {x:Int} (h:mc.cs=a++0::b):pN mc (n+1) (at_ [x] a.length [])=.ends x:=by
 have e:hE mc (at_ [x] a.length [])=some ⟨[x],a.length+1,[],true⟩:=by rw [fR (args:=[]) h (by decide) rfl,show Tt 0="end" from rfl,MR (iP (by decide +kernel) (by decide +kernel) (by decide +kernel))];unfold Vr;rw [MR (by decide +kernel),MW rfl];rfl
 show (match hE mc _ with | none=>_ | some s=>_)=_;rw [e];rfl
theorem yh (hA:Xr mc) (hp:∀ p ∈ ps,ff p.pt=true/\gc p/\∀ t f,cG p.pt t=some f->f.1.length<=2) {c:D} (ok:RI t) (dp:aS t<=8) (h:dY ps n t c=some es) (hc:mc.cs.map D.int=es++[.int 0]) {N:Nat} (hN:mc.cs.length<=N):pN mc N ⟨[],0,[],false⟩=.ends (bN mc.as mc.b t):=by
 obtain ⟨ns,rfl,r⟩:=o6 hA hp n t c es ok h
 have inj:∀ (u v:List Int),u.map D.int=v.map D.int->u=v:=by
  intro u
  induction u with
  | nil=>intro v e;cases v with | nil=>rfl | cons _ _=>cases e
  | cons x u ih =>
   intro v e
   cases v with
   | nil=>cases e
   | cons y v =>rw [Nb,Nb] at e;injection e with e1 e2;injection e1 with e1;rw [e1,ih v e2]
 have ec:mc.cs=ns++[0]:=inj _ _ (by rw [hc,Nl];rfl);obtain ⟨m,l,g⟩:=r [] [0] [] [] (by rw [ec];rfl) (by show 0+2 * aS t<=61;omega);rw [ec,MQ] at hN;have l1:([0]:List Int).length=1:=rfl;obtain ⟨j,rfl⟩:∃ j,N=m+(j+1):=⟨N - m - 1,by omega⟩
 have e2:=g.run (j+1);refine Eq.trans e2 ?_;have z:([]:List Int).length+ns.length=ns.length:=by simp
 rw [z];exact CS ec
theorem hl2 {p:Pc} (h:gK p.pt<=2):∀ t f,cG p.pt t=some f->f.1.length<=2:=λt f e=>by rw [jZ _ _ _ e];exact h
theorem DB:gc Xd:=by
 intro mc t f a b s k hA ht hf hc hs;have l3:s.length<=63:=by omega
 obtain ⟨n,rfl,rfl⟩:=oQ hf;have hc:mc.cs=a++3::n::(12::0::(12::0::(12::0::(12::0::(12::0::b))))):=hc;have g0:=xY (s:=s) (k:=k) hc ht.1 ht.2 l3;rw [vT hA ht.1 ht.2] at g0;have wi:0<=mc.as.getD n.toNat 0/\mc.as.getD n.toNat 0 < mc.b:=qk hA (.arg n) ht
 have mm:∀ (j:Nat) (a' b':List Int),mc.cs=a'++12::0::b'->a'.length=a.length+j->Go mc 1 (at_ (mc.as.getD n.toNat 0::s) (a.length+j) k) (at_ (mc.as.getD n.toNat 0::s) (a.length+j+2) k):=λj a' b' h e =>
  kq (xZ (s:=s) (k:=k) h (by decide) l3) (iw rfl e) (iw (by rw [Int.add_zero,Od wi.1 wi.2]) (by rw [e]))
 have g1:=mm 2 (a++[3,n]) _ (by rw [hc];simp;rfl) (by simp);have g2:=mm 4 (a++[3,n,12,0]) _ (by rw [hc];simp;rfl) (by simp);have g3:=mm 6 (a++[3,n,12,0,12,0]) _ (by rw [hc];simp;rfl) (by simp);have g4:=mm 8 (a++[3,n,12,0,12,0,12,0]) _ (by rw [hc];simp;rfl) (by simp);have g5:=mm 10 (a++[3,n,12,0,12,0,12,0,12,0]) b (by rw [hc];simp) (by simp);exact ⟨6,by decide,((((g0.trans g1).trans g2).trans g3).trans g4).trans g5⟩
noncomputable def argsOk (as:List Int) (b:Int):Prop:=as.length=4/\(∀ x ∈ as,0<=x/\x < b)/\2<=b/\b<=10000
noncomputable def okO (o:Str):Prop:=o="add"\/o="sub"\/o="mul"\/o="less"
theorem FB (h:okO o):¬ o="num"/\¬ o="arg"/\¬ o="pick":=by rcases h with rfl | rfl | rfl | rfl <;> decide +kernel
theorem Az {as:List Int} {b k:Int} (h:argsOk as b) (h0:0<=k) (h1:k<=3):as[k.toNat]?=some (as.getD k.toNat 0):=by
 have hl:=h.1;have hk:k.toNat < as.length:=by omega
 rw [Nt,MT hk];rfl
theorem md {as:List Int} {b:Int} (h:argsOk as b):∀ t:Tr,RI t->0<=bN as b t/\bN as b t < b
 | .num n,_=>⟨NO _ (by have:=h.2.2.1;omega),NJ _ (by have:=h.2.2.1;omega)⟩
 | .arg k,ht=>h.2.1 _ (Nn (Az h ht.1 ht.2))
 | .two o x y,_=>iU h.2.2.1
 | .pick x y z,ht=>by
  unfold bN;split
  ·exact md h z ht.2.2
  ·exact md h y ht.2.1
noncomputable def jA (n:Nat) (ds:List D) (d:D):Prop:=∃ t as b,ds=[toD t,.tup (as.map D.int),.int b]/\RI t/\aS t<=n/\argsOk as b/\d=.int (bN as b t)
theorem Co {x y:Str} (h:x=y):decide (x=y)=true:=M5 h
theorem qU {x y:Str} (h:¬ x=y):decide (x=y)=false:=MX h
noncomputable def EV (ds:List D) (d:D):Prop:=∃ o x y b,ds=[.str o,.int x,.int y,.int b]/\okO o/\2<=b/\b<=10000/\0<=x/\x < b/\0<=y/\y < b/\d=.int (two o x y b)
theorem uS (T:Txt P w K mg)  : Ok P w base (k+1) T.KC (QF K EV):=by
 refine T.KC.f.ok U1 (λvs H Q E h=>?_) (λcdv A outer s H vs Q E hr h=>?_)
 ·obtain ⟨ds,d,hd,⟨o,x,y,b,rfl,_⟩,_⟩:=h;exact hd.length.symm
 have nd:=U1.nd;obtain ⟨ds,d,hd,⟨o,x,y,b,rfl,ho,hb,hb2,hx,hx2,hy,YU,rfl⟩,post⟩:=h;obtain ⟨v0,v1,v2,v3,rfl,q0,q1,q2,q3⟩:=Ek hd;refine ⟨_,(aC (bE (aN cA (pv 0) bC (aU _)) (aH (aL (bK fg (bK cJ (pv 1) (pv 2)) (pv 3)))) aM)
 (aC (bE (aN cA (pv 0) bC (aU _)) (aH (aL (bK fg (bK kP (pv 1) (pv 2)) (pv 3)))) aM)
 (aC (bE (aN cA (pv 0) bC (aU _)) (aH (aL (bK fg (bK pC (pv 1) (pv 2)) (pv 3)))) aM)
 (aH (aL (g7 (aN ni (pv 1) (pv 2) (aU _)) aE aE)))))),?_⟩
 refine aO (K:=K) (b:=decide (o="add")) (aK (bI (aA q0) aZ)) (λc H1 s1=>?_) (λc H1 s1=>?_)
 ·refine bB (K:=K) (d:=.int (two o x y b)) ?_ λv H' s q=>post v H' (s1.trans s) q;have e:two o x y b=(x+y) % b:=by rw [M1 c];rfl
  rw [e];exact iS (dO (aA (s1.dat q1)) (aA (s1.dat q2))) (aA (s1.dat q3)) (by omega)
 have q0:=s1.dat q0;have q1:=s1.dat q1;have q2:=s1.dat q2;have q3:=s1.dat q3;have n1:=Ng c;refine aO (K:=K) (b:=decide (o="sub")) (aK (bI (aA q0) aZ)) (λc H2 s2=>?_) (λc H2 s2=>?_)
 ·refine bB (K:=K) (d:=.int (two o x y b)) ?_ λv H' s q=>post v H' (s1.trans (s2.trans s)) q;have e:two o x y b=(x - y) % b:=by rw [M1 c];rfl
  rw [e];exact iS (kS (aA (s2.dat q1)) (aA (s2.dat q2))) (aA (s2.dat q3)) (by omega)
 have q0:=s2.dat q0;have q1:=s2.dat q1;have q2:=s2.dat q2;have q3:=s2.dat q3;have n2:=Ng c;refine aO (K:=K) (b:=decide (o="mul")) (aK (bI (aA q0) aZ)) (λc H3 s3=>?_) (λc H3 s3=>?_)
 ·refine bB (K:=K) (d:=.int (two o x y b)) ?_ λv H' s q=>post v H' (s1.trans (s2.trans (s3.trans s))) q;have e:two o x y b=x * y % b:=by rw [M1 c];rfl
  rw [e];exact iS (wV (aA (s3.dat q1)) (aA (s3.dat q2)) (.inr ⟨by omega,by omega⟩)) (aA (s3.dat q3)) (by omega)
 have n3:=Ng c;refine bB (K:=K) (d:=.int (two o x y b)) ?_ λv H' s q=>post v H' (s1.trans (s2.trans (s3.trans s))) q
 have eo:o="less":=by
  rcases ho with h | h | h | h
  ·exact absurd h n1
  ·exact absurd h n2
  ·exact absurd h n3
  ·exact h
 have e:two o x y b=if x < y then 1 else 0:=by rw [eo];rfl
 rw [e];refine kx (b:=decide (x < y)) (aK (d9 (p:=λi j=>decide (i < j)) (aA (s3.dat q1)) (aA (s3.dat q2)))) (λc2=>?_) (λc2=>?_)
 ·rw [MW (M1 c2)];exact aG
 ·rw [MR (Ng c2)];exact aG
theorem qz (T:Txt P w K mg) (L8:Ok P w base k T.KC (QF K EV)) (IR:Ok P w base k T.HZ (QF K (jA n))):Ok P w base (k+1) T.HZ (QF K (jA (n+1))):=by
 refine T.HZ.f.ok T5 (λvs H Q E h=>?_) (λcdv A outer s H vs Q E hr h=>?_)
 ·obtain ⟨ds,d,hd,⟨t,as,b,rfl,_⟩,_⟩:=h;exact hd.length.symm
 have nd:=T5.nd;obtain ⟨ds,d,hd,⟨t,as,b,rfl,ht,hn,ha,rfl⟩,post⟩:=h;obtain ⟨v0,v1,v2,rfl,q0,q1,q2⟩:=oI hd;refine ⟨_,(aC (bE (aN cA (aX aY (pv 0) aE) bC (aU _)) (aH (aL (bK fg (aX aY (pv 0) aE) (pv 2)))) aM)
 (aC (bE (aN cA (aX aY (pv 0) aE) bC (aU _)) (aH (aL (aX aY (pv 1) (aX aY (pv 0) aE)))) aM)
 (aC (bE (aN cA (aX aY (pv 0) aE) bC (aU _)) (aH (aL (pc (D:=T.HZ) IR hr (aF (g7 (aN cA (pc (D:=T.HZ) IR hr (aF (aX aY (pv 0) aE) (aF (pv 1) (aF (pv 2) aB)))) aE (aU _)) (aX aY (pv 0) aE) (aX aY (pv 0) aE)) (aF (pv 1) (aF (pv 2) aB)))))) aM)
 (aH (aL (pc (D:=T.KC) L8 hr (aF (aX aY (pv 0) aE) (aF (pc (D:=T.HZ) IR hr (aF (aX aY (pv 0) aE) (aF (pv 1) (aF (pv 2) aB)))) (aF (pc (D:=T.HZ) IR hr (aF (aX aY (pv 0) aE) (aF (pv 1) (aF (pv 2) aB)))) (aF (pv 2) aB)))))))))),?_⟩
 have hb0:0 < b:=by have:=ha.2.2.1;omega
 cases t with
 | num m =>have q0:Dat K H (.tup [.str "num",.int m]) v0:=q0;refine aO (K:=K) (b:=true) (RT.as (aK (bI (a6 (k:=0) (aA q0) aG rfl) aZ)) (Co rfl)) (λc H2 s2=>?_) (λc=>nomatch c);exact bB (K:=K) (d:=.int (m % b)) (iS (a6 (k:=1) (aA (s2.dat q0)) aG rfl) (aA (s2.dat q2)) hb0) λv H' s q=>post v H' (s2.trans s) q
 | arg m =>
  have q0:Dat K H (.tup [.str "arg",.int m]) v0:=q0;refine aO (K:=K) (b:=false) (RT.as (aK (bI (a6 (k:=0) (aA q0) aG rfl) aZ)) (qU (by decide +kernel))) (λc=>nomatch c) (λc H2 s2=>?_);refine aO (K:=K) (b:=true) (RT.as (aK (bI (a6 (k:=0) (aA (s2.dat q0)) aG rfl) aZ)) (Co rfl)) (λc H3 s3=>?_) (λc=>nomatch c);have QV:=s2.trans s3;have em:m=((m.toNat:Nat):Int):=by have:=ht.1;omega
  refine bB (K:=K) (d:=.int (as.getD m.toNat 0)) (a6 (k:=m.toNat) (ds:=as.map D.int) (aA (QV.dat q1)) (RE.as (a6 (k:=1) (aA (QV.dat q0)) aG rfl) (Nq D.int em)) ?_) λv H' s q=>post v H' (QV.trans s) q;rw [MZ,Az ha ht.1 ht.2];rfl
 | two o x y =>
  have q0:Dat K H (.tup [.str o,toD x,toD y]) v0:=q0;obtain ⟨n1,n2,n3⟩:=FB ht.1;have dx:aS x<=n:=by simp only [aS] at hn;omega
  have dy:aS y<=n:=by simp only [aS] at hn;omega
  refine aO (K:=K) (b:=false) (RT.as (aK (bI (a6 (k:=0) (aA q0) aG rfl) aZ)) (qU n1)) (λc=>nomatch c) (λc H1 s1=>?_);refine aO (K:=K) (b:=false) (RT.as (aK (bI (a6 (k:=0) (aA (s1.dat q0)) aG rfl) aZ)) (qU n2)) (λc=>nomatch c) (λc H2 s2=>?_);have s12:=s1.trans s2;refine aO (K:=K) (b:=false) (RT.as (aK (bI (a6 (k:=0) (aA (s12.dat q0)) aG rfl) aZ)) (qU n3)) (λc=>nomatch c) (λc H3 s3=>?_);have QV:=s12.trans s3;have q0:=QV.dat q0;have q1:=QV.dat q1;have q2:=QV.dat q2;have wx:=md ha x ht.2.1;have wy:=md ha y ht.2.2;refine bB (K:=K) (d:=.int (two o (bN as b x) (bN as b y) b)) (bF (R:=EV) (aD (a6 (k:=0) (aA q0) aG rfl) (aD (bF (R:=jA n) (d:=.int (bN as b x)) (aD (a6 (k:=1) (aA q0) aG rfl) (aD (aA q1) (aD (aA q2) aP))) ⟨x,as,b,rfl,ht.2.1,dx,ha,rfl⟩) (aD (bF (R:=jA n) (d:=.int (bN as b y)) (aD (a6 (k:=2) (aA q0) aG rfl) (aD (aA q1) (aD (aA q2) aP))) ⟨y,as,b,rfl,ht.2.2,dy,ha,rfl⟩) (aD (aA q2) aP)))) ⟨o,_,_,b,rfl,ht.1,ha.2.2.1,ha.2.2.2,wx.1,wx.2,wy.1,wy.2,rfl⟩) λv H' s q=>post v H' (QV.trans s) q
 | pick x y z =>
  have q0:Dat K H (.tup [.str "pick",toD x,toD y,toD z]) v0:=q0;have dx:aS x<=n:=by simp only [aS] at hn;omega
  have dy:aS y<=n:=by simp only [aS] at hn;omega
  have dz:aS z<=n:=by simp only [aS] at hn;omega
  refine aO (K:=K) (b:=false) (RT.as (aK (bI (a6 (k:=0) (aA q0) aG rfl) aZ)) (qU (by decide +kernel))) (λc=>nomatch c) (λc H1 s1=>?_);refine aO (K:=K) (b:=false) (RT.as (aK (bI (a6 (k:=0) (aA (s1.dat q0)) aG rfl) aZ)) (qU (by decide +kernel))) (λc=>nomatch c) (λc H2 s2=>?_);have s12:=s1.trans s2;refine aO (K:=K) (b:=true) (RT.as (aK (bI (a6 (k:=0) (aA (s12.dat q0)) aG rfl) aZ)) (Co rfl)) (λc H3 s3=>?_) (λc=>nomatch c);have QV:=s12.trans s3;have q0:=QV.dat q0;have q1:=QV.dat q1;have q2:=QV.dat q2;refine bB (K:=K) (d:=.int (if bN as b x=0 then bN as b z else bN as b y)) (bF (R:=jA n) (ds:=[toD (if bN as b x=0 then z else y),.tup (as.map D.int),.int b]) (aD (kx (b:=decide (bN as b x=0)) (aK (iR (bF (R:=jA n) (d:=.int (bN as b x)) (aD (a6 (k:=1) (aA q0) aG rfl) (aD (aA q1) (aD (aA q2) aP))) ⟨x,as,b,rfl,ht.1,dx,ha,rfl⟩) aG)) (λc=>?_) (λc=>?_)) (aD (aA q1) (aD (aA q2) aP))) ?_) λv H' s q=>post v H' (QV.trans s) q
  ·rw [MW (M1 c)];exact a6 (k:=3) (aA q0) aG rfl
  ·rw [MR (Ng c)];exact a6 (k:=2) (aA q0) aG rfl
  ·by_cases hz:bN as b x=0
   ·rw [MW hz,MW hz];exact ⟨z,as,b,rfl,ht.2.2,dz,ha,rfl⟩
   ·rw [MR hz,MR hz];exact ⟨y,as,b,rfl,ht.2.1,dy,ha,rfl⟩
noncomputable abbrev qv (x:Int):Prop:=0<=x/\x<=99
theorem oS:∀ (p:Pa) (t:Tr) (f:Sx),RI t->cG p t=some f->(∀ x ∈ f.2.1,0<=x/\x<=9999)/\∀ x ∈ f.2.2,0<=x/\x<=3
 | .hole i,t,f,_,h=>by cases h;exact ⟨λx hx=>(nomatch hx),λx hx=>(nomatch hx)⟩
 | .gap i m,t,f,ok,h=>by obtain ⟨n,rfl,_,rfl⟩:=nS h;exact ⟨λx hx=>by rw [Nf.mp hx];exact ok,λx hx=>(nomatch hx)⟩
 | .slot i,t,f,ok,h=>by obtain ⟨n,rfl,rfl⟩:=oQ h;exact ⟨λx hx=>(nomatch hx),λx hx=>by rw [Nf.mp hx];exact ok⟩
 | .num m,t,f,ok,h=>by obtain ⟨rfl,rfl⟩:=C0 h;exact ⟨λx hx=>(nomatch hx),λx hx=>(nomatch hx)⟩
 | .two o a b,t,f,ok,h=>by obtain ⟨x,y,f1,f2,rfl,h1,h2,rfl⟩:=qW h;obtain ⟨a1,a2⟩:=oS a x f1 ok.2.1 h1;obtain ⟨b1,b2⟩:=oS b y f2 ok.2.2 h2;exact ⟨λz hz=>(Nh.mp hz).elim (a1 z) (b1 z),λz hz=>(Nh.mp hz).elim (a2 z) (b2 z)⟩
noncomputable def r9:Cl->Bool
 | .n i=>decide (0<=i) && decide (i<=99)
 | _=>true
theorem sA {l:List Int} {m:Int} (h:∀ x ∈ l,0<=x/\x<=m) (hm:0<=m) (k:Nat):0<=l.getD k 0/\l.getD k 0<=m:=by
 rw [Nt]
 cases e:l[k]? with
 | none=>exact ⟨PN _,hm⟩
 | some x=>exact h x (Nn e)
variable {nums ks:List Int}
theorem CY (h1:∀ x ∈ nums,0<=x/\x<=9999) (h2:∀ x ∈ ks,0<=x/\x<=3) {c:Cl} (hc:r9 c=true):qv (jq nums ks c):=by
 cases c with
 | n i=>simp only [r9,M4,NH] at hc;exact hc
 | arg k=>have:=sA h2 (by decide) k;exact ⟨this.1,by show ks.getD k 0<=99;omega⟩
 | low k=>have:=sA h1 (by decide) k;show 0<=nums.getD k 0 % 100/\nums.getD k 0 % 100<=99;omega
 | high k=>have:=sA h1 (by decide) k;show 0<=nums.getD k 0 / 100/\nums.getD k 0 / 100<=99;omega
theorem Fs {a f:Int} {m:Nat} (ha:qv a) (hf:qv f) (hm:m<=9999):∀ x ∈ eX a f m,qv x:=by
 unfold eX;intro x hx;split at hx
 ·simp only [Na,Ny,NX] at hx;rcases hx with rfl | rfl
  ·exact ha
  ·exact ⟨by omega,by omega⟩
 ·simp only [Na,Ny,NX] at hx;rcases hx with rfl | rfl | rfl
  ·exact hf
  ·exact ⟨by omega,by omega⟩
  ·exact ⟨by omega,by omega⟩
theorem yn {f:Tr->D->Option (List D)}:∀ {ts:List Tr} {cs:List D} {Qq:List (List D)},fV f ts cs=Qq.map some->(∀ t ∈ ts,∀ c es,f t c=some es->es.length<=999->∀ x,D.int x ∈ es->qv x)->Qq.flatten.length<=999->∀ x,D.int x ∈ Qq.flatten->qv x
 | [],cs,Qq,h,_,_=>by
  have:Qq=[]:=by cases Qq with | nil=>rfl | cons _ _=>cases h
  subst this;intro x hx;cases hx
 | t::ts,[],Qq,h,_,_=>by
  have:Qq=[]:=by cases Qq with | nil=>rfl | cons _ _=>cases h
  subst this;intro x hx;cases hx
 | t::ts,c::cs,Qq,h,hf,hl=>by
  cases Qq with
  | nil=>cases h
  | cons y Qq =>
   have h':f t c::fV f ts cs=some y::Qq.map some:=h;injection h' with h1 h2;rw [NU,MQ] at hl;intro x hx;rw [NU] at hx;rcases Nh.mp hx with hx | hx
   ·exact hf t NB c y h1 (by omega) x hx
   ·exact yn h2 (λt ht=>hf t (Nj _ ht)) (by omega) x hx
theorem o7 (hp:∀ p ∈ ps,ff p.pt=true/\(bW p).all r9=true):∀ (n:Nat) (t:Tr) (c:D) (es:List D),RI t->dY ps n t c=some es->es.length<=999->∀ x,D.int x ∈ es->qv x
 | 0,_,_,_,_,h,_=>by cases h
 | n+1,t,c,es,ok,h,hl=>by
  have h:(match ml c with | none=>none | some x=>if x.1="pick" then jH (dY ps n) t x.2 else iY (dY ps n) ps t x.1 x.2)=some es:=h
  cases ec:ml c with
  | none=>rw [ec] at h;cases h
  | some y =>
   rw [ec] at h;dsimp only at h;intro x hx;by_cases hpk:y.1="pick"
   ·rw [MW hpk] at h;obtain ⟨t1,t2,t3,ca,cb,cd,xa,xb,xd,rfl,_,la,lb,ld,rfl⟩:=gM h;unfold e7 kg at hx hl;simp only [MQ] at hl;have q1:=o7 hp n t1 ca xa ok.1 la (by omega) x;have q2:=o7 hp n t2 cb xb ok.2.1 lb (by omega) x;have q3:=o7 hp n t3 cd xd ok.2.2 ld (by omega) x
    have jm:∀ {a f:Int} {m:Nat},qv a->qv f->m<=9999->D.int x ∈ (eX a f m).map D.int->qv x:=λha hf hm h=>by obtain ⟨z,hz,e⟩:=N4.mp h;injection e with e;subst e;exact Fs ha hf hm z hz
    rcases Nh.mp hx with hx | hx
    ·rcases Nh.mp hx with hx | hx
     ·rcases Nh.mp hx with hx | hx
      ·exact q1 hx
      ·exact jm (by decide) (by decide) (by rw [MQ];omega) hx
     ·rcases Nh.mp hx with hx | hx
      ·exact q2 hx
      ·exact jm (by decide) (by decide) (by omega) hx
    ·exact q3 hx
   ·rw [MR hpk] at h;obtain ⟨p,g,Qq,e1,e2,hlen,e,rfl⟩:=gL h;obtain ⟨nh,ci⟩:=hp p (gg e1).1;have tail:=jF nh e2;unfold fe at hx hl;rw [MQ] at hl;rcases Nh.mp hx with hx | hx
    ·exact yn e (λu hu c es q l=>o7 hp n u c es (gz t u ok (j9 (tail u hu))) q l) (by omega) x hx
    ·obtain ⟨z,hz,ez⟩:=N4.mp hx;injection ez with ez;subst ez;obtain ⟨v1,v2⟩:=oS p.pt t g ok e2;exact CY v1 v2 (N6.mp ci z hz)
structure goP (p:Pc):Prop where
 nh:ff p.pt=true
 pg:gc p
 hl:∀ t f,cG p.pt t=some f->f.1.length<=2
 ci:(bW p).all r9=true
theorem jC:∀ p ∈ rW,goP p:=by
 intro p hp;simp only [rW,BP,List.cons_append,OG,Np,Na,Ny,NX] at hp;rcases hp with rfl | rfl | rfl | rfl | rfl | rfl | rfl | rfl | rfl
 ·exact ⟨rfl,FP,hl2 (by decide),by decide +kernel⟩
 ·exact ⟨rfl,FQ,hl2 (by decide),by decide +kernel⟩
 ·exact ⟨rfl,DA,hl2 (by decide),by decide +kernel⟩
 ·exact ⟨rfl,FN,hl2 (by decide),by decide +kernel⟩
 ·exact ⟨rfl,tF,hl2 (by decide),by decide +kernel⟩
 ·exact ⟨rfl,FO,hl2 (by decide),by decide +kernel⟩
 ·exact ⟨rfl,Dy,hl2 (by decide),by decide +kernel⟩
 ·exact ⟨rfl,Dz,hl2 (by decide),by decide +kernel⟩
 ·exact ⟨rfl,DB,hl2 (by decide),by decide +kernel⟩
noncomputable def nj (cs:List Int):List D:=(gG cs (cs.length+1) 0).1
noncomputable def kK (cs:List Int):Option Nat:=(gG cs (cs.length+1) 0).2
theorem vK (h:cs.length<=p):gG cs (n+1) p=([],none):=by unfold gG;rw [OD h]
theorem Cy (h:cs[p]?=some c) (hb:i8 cs p c=true):gG cs (n+1) p=([],some p):=by unfold gG;rw [h];dsimp only;rw [MW hb]
theorem ub (h:cs[p]?=some c) (hb:i8 cs p c=false):gG cs (n+1) p=(vq cs p c::(gG cs n (p+1+dJ c)).1,(gG cs n (p+1+dJ c)).2):=by rw [gG,h];dsimp only;rw [MR (by rw [hb];exact MY)]
structure Xf (cs:List Int) (p n:Nat) (rows:List D):Prop where
 hr:rows++(gG cs n p).1=nj cs
 hf:(gG cs n p).2=kK cs
 hp:p<=cs.length
 hn:cs.length+1<=n+p
 hl:rows.length<=p
theorem Xf.end {rows:List D} (S:Xf cs p n rows) (h:¬ p < cs.length):rows=nj cs/\kK cs=none:=by
 have hn:=S.hn;have hp:=S.hp;obtain ⟨n,rfl⟩:∃ m,n=m+1:=⟨n - 1,by omega⟩
 have r:=S.hr;have f:=S.hf;rw [vK (by omega)] at r f;rw [Np] at r;exact ⟨r,f.symm⟩
theorem Xf.bad {rows:List D} (S:Xf cs p n rows) (h:cs[p]?=some c) (hb:i8 cs p c=true):kK cs=some p:=by
 have hn:=S.hn;have hp:=S.hp;obtain ⟨n,rfl⟩:∃ m,n=m+1:=⟨n - 1,by omega⟩
 have f:=S.hf;rw [Cy h hb] at f;exact f.symm
theorem Xf.on {rows:List D} (S:Xf cs p n rows) (h:cs[p]?=some c) (hb:i8 cs p c=false):∃ m,Xf cs (p+1+dJ c) m (rows++[vq cs p c]):=by
 have hn:=S.hn;have hp:=S.hp;have hl:=S.hl;obtain ⟨n,rfl⟩:∃ m,n=m+1:=⟨n - 1,by omega⟩
 have r:=S.hr;have f:=S.hf;rw [ub h hb] at r f;obtain ⟨_,hlt⟩:=xE hb;refine ⟨n,⟨?_,f,by omega,by omega,?_⟩⟩
 ·rw [NC];exact r
 ·rw [MQ,Nd,List.length_nil];omega
theorem Xf.start (cs:List Int):Xf cs 0 (cs.length+1) []:=⟨rfl,rfl,NW _,M0 _,M0 _⟩
noncomputable def Ce (K:W.Frag):Sp:=λvs H Q _=>∃ cs,X5 cs/\Ws K H [.l (cD cs)] vs/\kK cs=none/\∀ r us H',Qh H H'->H' r=some (.lst us)->H r=none->Qf K H' (nj cs) us->Q (.ref r) H'
noncomputable def HE (σ:L2.St) (_:Hp):Nat:=match σ[2]? with
 | some (some (V.int p))=>(2000 - p).toNat
 | _=>0
theorem zJ (T:Txt P w K mg) (KG:Ok P w base k T.Jx (UJ K oj)) (IC:Ok P w base k T.HM (UJ K ud)):Ok P w base (k+1) T.Lc (Ce K):=by
 refine T.Lc.f.ok VH (λvs H Q E h=>?_) (λcdv A outer s H vs Q E hr h=>?_)
 ·obtain ⟨cs,ok,hd,_⟩:=h;exact hd.length.symm
 have nd:=VH.nd;obtain ⟨cs,ok,hd,nf,ZF⟩:=h;obtain ⟨v0,rfl,h0⟩:=yQ hd;have h0:LD K H (cD cs) v0:=h0;refine ⟨_,(aC (bT (pc (D:=T.Jx) KG hr (aF (pv 0) aB)))
 (aC (bO (i:=1) nd rfl (Or.inl rfl) (c7 aB))
 (aC (bO (i:=2) nd rfl (Or.inl rfl) aE)
 (aC (lO NP (aN ni (pv 2) (aW aT rfl T.HW bV (aF (pv 0) aB)) (aU _)) (aC (fH (pc (D:=T.HM) IC hr (aF (pv 0) (aF (pv 2) aB))) (f6 rfl (bJ (a7 (i:=3) nd rfl (Or.inl rfl)) (bJ (a7 (i:=4) nd rfl (Or.inl rfl)) eE))))
 (aC (bT (ic NF NT NV eJ (pv 1) (aF (bR (aF (pv 2) (aF (pv 3) (aF (pv 4) aB)))) aB)))
 (aH (tI (i:=2) nd rfl (Or.inl rfl) (bK cJ aE (aW aT rfl T.HW bV (aF (pv 4) aB))) sJ)))))
 (aH (aL (pv 1))))))),?_⟩
 have l1:=ok.l1;refine gC (RE.use (cU (R:=oj) (d:=.Qj) (eY (bA (K:=K) (k:=0) h0) cK) ⟨cD cs,rfl,by rw [tB];omega,xI ok,rfl⟩) λv4 H1 s1 _=>?_);refine fQ (K:=K) (es:=[]) (jk aP) λl ys H2 hl s2 hy dy=>?_;refine dR (K:=K) (d:=.int 0) aG λv2 H3 s3 q3=>?_;obtain rfl:=q3.Qk;have Vx:H l=none:=s1.free hl;refine eA (qj (λσ G=>∃ (p n:Nat) (z3 z4:Option V) (xs:List V) (rows:List D),σ=[some v0,some (.ref l),some (.int p),z3,z4]/\Qh H G/\G l=some (.lst xs)/\Qf K G rows xs/\Xf cs p n rows) HE ?_ ?_ ?_)
 ·exact ⟨0,_,none,none,ys,[],rfl,s1.trans (s2.trans s3),s3 _ _ hy,s3.Qu dy,Xf.start cs⟩
 ·rintro σ G ⟨p,n,z3,z4,xs,rows,rfl,sG,hG,dG,S⟩;have g0:=sG.ld h0;refine RT.use (b:=decide ((p:Int) < ((cD cs).length:Int))) (aK (d9 (p:=λi j=>decide (i < j)) (aA (K:=K) (Dat.Qm (p:Int))) (fP (bA g0)))) λG1 t1=>?_;by_cases hlt:p < cs.length
  ·rw [M5 (by rw [tB];omega:(p:Int) < ((cD cs).length:Int))];refine mx ?_;have hx:cs[p]?=some cs[p]:=MT hlt;generalize cs[p]=c at hx;have g0:=t1.ld g0;have rA:RB K (cC (fB 0) (cC (fB 2) eI)) [some v0,some (.ref l),some (.int (p:Int)),z3,z4] G1 [.l (cD cs),.d (.int p)]:=eY (bA (k:=0) g0) (fO (aA (k:=2) (Dat.Qm (p:Int))) cK)
   cases hb:i8 cs p c with
   | true =>have z:=S.bad hx hb;rw [nf] at z;cases z
   | false =>
    refine iL (K:=K) (d:=.str (Tt c)) (e:=.tup (jw cs p (dJ c))) (cU (R:=ud) rA ⟨cs,p,c,rfl,ok,hx,hb,rfl⟩) λv3 v4 G2 t2 g3 g4=>?_;have Xg:=t1.trans t2;have hG2:=Xg _ _ hG;have ll:=dG.length;have sl:=S.hl;refine yD (K:=K) (d:=vq cs p c) (bY (aD (aA (k:=2) (Dat.Qm (p:Int))) (aD (aA (k:=3) g3) (aD (aA (k:=4) g4) aP)))) hG2 (by omega) λy G3 b3 hG3 dy3=>?_;have gr:=b3.grow (K:=K) hG2 hG3;have g4:=Dat.mono gr _ g4;obtain ⟨h16,hlb⟩:=xE hb;have lb:(jw cs p (dJ c)).length=dJ c:=by rw [oA];omega
    refine ⟨_,rfl,RE.use (dO (K:=K) aG (eU (aA (k:=4) g4))) λv5 G4 t4 q5=>?_⟩;refine ⟨p,1+((jw cs p (dJ c)).length:Int),rfl,q5.Qk,?_⟩;have ep:(p:Int)+(1+((jw cs p (dJ c)).length:Int))=((p+1+dJ c:Nat):Int):=by rw [lb];omega
    obtain ⟨m,S'⟩:=S.on hx hb;have sH:Qh H G3:=λb o e=>b3 b o (λz=>by rw [z,Vx] at e;cases e) ((sG.trans Xg) b o e);refine ⟨⟨p+1+dJ c,m,some v3,some v4,xs++[y],rows++[vq cs p c],by rw [<- ep];rfl,sH.trans t4,t4 _ _ hG3,t4.Qu (Qf.append (Qf.mono gr _ (Xg.Qu dG)) (Qf.cons dy3 Qf.nil)),S'⟩,?_⟩;show (2000 - ((p:Int)+(1+((jw cs p (dJ c)).length:Int)))).toNat < (2000 - (p:Int)).toNat;omega
  ·rw [MX (by rw [tB];omega:¬ (p:Int) < ((cD cs).length:Int))];refine mw ?_;obtain ⟨e1,e2⟩:=S.end hlt;subst e1;exact ⟨_,rfl,ZF l xs G1 (sG.trans t1) (t1 _ _ hG) Vx (t1.Qu dG)⟩
 ·intro σ G Q1 Q2 hQ hc;obtain ⟨v,e,v',e',p,ys,e2,hq,i,j,e3,e4,b,e5,q⟩:=hc;exact ⟨v,e,v',e',p,ys,e2,hq,i,j,e3,e4,b,e5,hQ _ _ q⟩
noncomputable def rh:D->D
 | .tup [_,x,_]=>x
 | _=>.Qj
noncomputable def Gb (r:D):Prop:=∃ a b c,r=.tup [.int a,.str b,.tup c]
inductive Wk (cs:List Int):List Int->Nat->Nat->Prop
 | nil {p:Nat}:Wk cs [] p p
 | cons {os:List Int} {p q:Nat} {c:Int}:cs[p]?=some c->i8 cs p c=false->Wk cs os (p+1+dJ c) q->Wk cs (c::os) p q
variable {os:List Int} {q:Nat}
theorem Wk.trans {os':List Int} {r:Nat} (a:Wk cs os p q) (b:Wk cs os' q r):Wk cs (os++os') p r:=by
 induction a with
 | nil=>exact b
 | cons h1 h2 _ ih=>exact .cons h1 h2 (ih b)
theorem Wk.le (a:Wk cs os p q):p+os.length<=q:=by
 induction a with
 | nil=>exact M0 _
 | cons _ _ _ ih=>rw [Nd];omega
theorem Wk.rows (a:Wk cs os p q):∃ rows:List D,rows.map rh=os.map (λc=>D.str (Tt c))/\(∀ r ∈ rows,Gb r)/\∀ n,gG cs (n+os.length) p=(rows++(gG cs n q).1,(gG cs n q).2):=by
 induction a with
 | nil=>exact ⟨[],rfl,(λr hr=>by cases hr),λn=>rfl⟩
 | cons h1 h2 _ ih =>
  obtain ⟨rows,e,h3,h⟩:=ih;rename_i os p q c _;refine ⟨vq cs p c::rows,?_,?_,λn=>?_⟩
  ·rw [Nb,Nb,e];rfl
  ·intro r hr;rcases Na.mp hr with rfl | hr
   ·exact ⟨_,_,_,rfl⟩
   ·exact h3 r hr
  ·rw [Nd,<- Nat.add_assoc,ub h1 h2,h n];rfl
noncomputable def fz (ns os:List Int):Prop:=∀ cs a b:List Int,cs=a++(ns++b)->Wk cs os a.length (a.length+ns.length)
theorem gR {x y o1 o2:List Int} (hx:fz x o1) (hy:fz y o2):fz (x++y) (o1++o2):=λcs a b e=>by have w1:=hx cs a (y++b) (by rw [e,NC]);have w2:=hy cs (a++x) b (by rw [e,NC,NC]);rw [MQ] at w2;rw [MQ,<- Nat.add_assoc];exact w1.trans w2
theorem mV:fz [] []:=λ_ a _ _=>.nil
theorem mW (hc:c<=16) (hl:args.length=dJ c):fz (c::args) [c]:=λcs a b e=>by
 have e1:cs[a.length]?=some c:=by rw [e,NQ (M0 _),Qe];rfl
 refine .cons e1 ?_ ?_
 ·unfold i8;rw [MX (by omega),MX]
  ·rfl
  ·rw [e];simp only [MQ,Nd];omega
 ·rw [Nd,hl,Nat.add_assoc,Nat.add_comm 1];exact .nil
noncomputable def jW:Nat->List Cl->Bool
 | _,[]=>true
 | n+1,.n i::r=>(decide (i<=16) && decide (i≠8)) && decide (dJ i<=r.length) && jW n (r.drop (dJ i))
 | _,_=>false
theorem vL:∀ (n:Nat) (cl:List Cl),jW n cl=true->∃ os,fz (cl.map (jq nums ks)) os/\(8:Int) ∉ os
 | _,[],_=>⟨[],mV,λh=>by cases h⟩
 | 0,c::r,h=>by cases c <;> cases h
 | n+1,.n i::r,h=>by
  have h:((decide (i<=16) && decide (i≠8)) && decide (dJ i<=r.length) && jW n (r.drop (dJ i)))=true:=h;rw [M4,M4,M4] at h;have l:=M1 h.1.2
  have e:(Cl.n i::r).map (jq nums ks)=(i::(r.take (dJ i)).map (jq nums ks))++(r.drop (dJ i)).map (jq nums ks):=by rw [List.cons_append,<- Nl,O1];rfl
  obtain ⟨os,w,n8⟩:=vL n _ h.2;rw [e];refine ⟨[i]++os,gR (mW (M1 h.1.1.1) (by rw [tB,NI];omega)) w,λm=>?_⟩;rcases Nh.mp m with m | m
  ·exact M1 h.1.1.2 (Nf.mp m).symm
  ·exact n8 m
 | n+1,.arg _::r,h=>by cases h
 | n+1,.low _::r,h=>by cases h
 | n+1,.high _::r,h=>by cases h
theorem rV {a f:Int} {m:Int} (ha:a<=16/\dJ a=1) (hf:f<=16/\dJ f=2):fz (eX a f m) [if m<=9 then a else f]:=by
 unfold eX;split
 ·exact mW ha.1 ha.2.symm
 ·exact mW hf.1 hf.2.symm
noncomputable def kh:Tr->Bool
 | .two _ a b=>kh a && kh b
 | .pick _ _ _=>false
 | _=>true
theorem mG:∀ (t x:Tr),kh t=true->x ∈ a9 t->kh x=true
 | .num n,x,h,hx=>by simp [a9] at hx;rw [hx];exact h
 | .arg n,x,h,hx=>by simp [a9] at hx;rw [hx];exact h
 | .two o a b,x,h,hx=>by
  have h':(kh a && kh b)=true:=h;rw [M4] at h';simp only [a9,Na,Nh] at hx;rcases hx with rfl | hx | hx
  ·exact h
  ·exact mG a x h'.1 hx
  ·exact mG b x h'.2 hx
 | .pick a b c,x,h,_=>by cases h
noncomputable def vO (es:List D) (q:Prop):Prop:=∃ ns os:List Int,es=ns.map D.int/\fz ns os/\(q->(8:Int) ∉ os)
theorem pD {f:Tr->D->Option (List D)} {q:Prop}:∀ {ts:List Tr} {cs:List D} {Qq:List (List D)},(∀ t ∈ ts,∀ c es,f t c=some es->vO es q)->fV f ts cs=Qq.map some->vO Qq.flatten q
 | [],cs,Qq,_,e=>by
  have:Qq=[]:=by cases Qq with | nil=>rfl | cons _ _=>cases e
  subst this;exact ⟨[],[],rfl,mV,λ_ h=>by cases h⟩
 | t::ts,[],Qq,_,e=>by
  have:Qq=[]:=by cases Qq with | nil=>rfl | cons _ _=>cases e
  subst this;exact ⟨[],[],rfl,mV,λ_ h=>by cases h⟩
 | t::ts,c::cs,Qq,h,e=>by
  cases Qq with
  | nil=>cases e
  | cons y Qq =>have e':f t c::fV f ts cs=some y::Qq.map some:=e;injection e' with e1 e2;obtain ⟨n1,o1,rfl,w1,q1⟩:=h t NB c y e1;obtain ⟨n2,o2,e3,w2,q2⟩:=pD (λt ht=>h t (Nj _ ht)) e2;exact ⟨n1++n2,o1++o2,by rw [NU,e3,Nl],gR w1 w2,λz m=>(Nh.mp m).elim (q1 z) (q2 z)⟩
theorem qh {na nb nd oa ob od:List Int} (wa:fz na oa) (wb:fz nb ob) (wd:fz nd od):∃ ns j,e7 (na.map D.int) (nb.map D.int) (nd.map D.int)=ns.map D.int/\(j=10\/j=11)/\fz ns (oa++[j]++(ob++[if (nd.length:Int)<=9 then 8 else 9])++od):=by
 unfold e7 kg;have e:(nd.map D.int).length=nd.length:=tB ..;rw [e,<- Nl,<- Nl,<- Nl,<- Nl];refine ⟨_,_,rfl,?_,gR (gR (gR wa (rV (a:=10) (f:=11) (by decide) (by decide))) (gR wb (rV (a:=8) (f:=9) (by decide) (by decide)))) wd⟩;split
 ·exact .inl rfl
 ·exact .inr rfl
theorem ip (hp:∀ p ∈ ps,∃ n,jW n (bW p)=true):∀ (n:Nat) (t:Tr) (c:D) (es:List D),dY ps n t c=some es->vO es (kh t=true)
 | 0,_,_,_,h=>by cases h
 | n+1,t,c,es,h=>by
  have h:(match ml c with | none=>none | some x=>if x.1="pick" then jH (dY ps n) t x.2 else iY (dY ps n) ps t x.1 x.2)=some es:=h
  cases ec:ml c with
  | none=>rw [ec] at h;cases h
  | some y =>
   rw [ec] at h;dsimp only at h;by_cases hpk:y.1="pick"
   ·rw [MW hpk] at h;obtain ⟨t1,t2,t3,ca,cb,cd,xa,xb,xd,rfl,_,la,lb,ld,rfl⟩:=gM h;obtain ⟨na,oa,rfl,wa,_⟩:=ip hp n t1 ca xa la;obtain ⟨nb,ob,rfl,wb,_⟩:=ip hp n t2 cb xb lb;obtain ⟨nd,od,rfl,wd,_⟩:=ip hp n t3 cd xd ld;obtain ⟨ns,j,e,_,w⟩:=qh wa wb wd;exact ⟨ns,_,e,w,λz=>by cases z⟩
   ·rw [MR hpk] at h;obtain ⟨p,g,Qq,e1,e2,hlen,e,rfl⟩:=gL h;obtain ⟨k,hk⟩:=hp p (gg e1).1
    obtain ⟨ns,os,e3,w,q⟩:=pD (q:=kh t=true) (λx hx c es he=>by
     obtain ⟨ns,os,a,b,z⟩:=ip hp n x c es he;exact ⟨ns,os,a,b,λz2=>z (mG t x z2 (oO _ _ _ e2 x hx))⟩) e
    obtain ⟨o2,w2,q2⟩:=vL (nums:=g.2.1) (ks:=g.2.2) k _ hk;unfold fe;refine ⟨ns++(bW p).map (jq g.2.1 g.2.2),os++o2,?_,gR w w2,λz m=>(Nh.mp m).elim (q z) q2⟩;rw [e3,Nl,OB];rfl
theorem qL:∀ p ∈ rW,jW 12 (bW p)=true:=N6.mp (by decide +kernel)
theorem BG {nn:List Int} (w:fz nn os):kK (nn++[0])=none/\(∀ r ∈ nj (nn++[0]),Gb r)/\(nj (nn++[0])).map rh=(os++[0]).map (λc=>D.str (Tt c)):=by
 have wk:=w (nn++[0]) [] [0] rfl;have hm:=wk.le;obtain ⟨rows,en,h3,hr⟩:=wk.rows;have z:([]:List Int).length+nn.length=nn.length:=by simp
 rw [z] at hm hr;have l:(nn++[0]).length=nn.length+1:=by simp
 have e1:(nn++[0])[nn.length]?=some 0:=by rw [NQ (M0 _),Qe];rfl
 have hb:i8 (nn++[0]) nn.length 0=false:=by unfold i8;rw [l,MX (by decide),MX (show ¬ nn.length+1<=nn.length+dJ 0 by rw [show dJ 0=0 by decide];omega)];rfl
 obtain ⟨k,hk⟩:∃ k,nn.length+1+1=k+1+os.length:=⟨nn.length+1 - os.length,by simp at hm;omega⟩
 have ee:gG (nn++[0]) k (nn.length+1+dJ 0)=([],none):=by
  cases k with
  | zero=>rfl
  | succ k=>exact vK (by rw [l];exact M0 _)
 have hz:=hr (k+1);rw [ub e1 hb,ee] at hz;unfold kK nj;rw [l,hk];have hz:gG (nn++[0]) (k+1+os.length) 0=(rows++[vq (nn++[0]) nn.length 0],none):=hz;rw [hz];refine ⟨rfl,λr hr=>?_,?_⟩
 ·rcases Nh.mp hr with hr | hr
  ·exact h3 r hr
  ·rw [Nf.mp hr];exact ⟨_,_,_,rfl⟩
 ·show (rows++[vq (nn++[0]) nn.length 0]).map rh=_;rw [Nl,Nl,en];rfl
theorem Gg (h:Tt c="skip"):c=8:=by
 unfold Tt at h
 have key:∀ i:Nat,NM.getD i ""="skip"->i=8:=by
  intro i hi
  match i with
  | 0=>exact absurd hi (by decide +kernel)
  | 1=>exact absurd hi (by decide +kernel)
  | 2=>exact absurd hi (by decide +kernel)
  | 3=>exact absurd hi (by decide +kernel)
  | 4=>exact absurd hi (by decide +kernel)
  | 5=>exact absurd hi (by decide +kernel)
  | 6=>exact absurd hi (by decide +kernel)
  | 7=>exact absurd hi (by decide +kernel)
  | 8=>rfl
  | 9=>exact absurd hi (by decide +kernel)
  | 10=>exact absurd hi (by decide +kernel)
  | 11=>exact absurd hi (by decide +kernel)
  | 12=>exact absurd hi (by decide +kernel)
  | 13=>exact absurd hi (by decide +kernel)
  | 14=>exact absurd hi (by decide +kernel)
  | 15=>exact absurd hi (by decide +kernel)
  | 16=>exact absurd hi (by decide +kernel)
  | n+17=>exact absurd hi (by show ¬ ("":Str)="skip";decide +kernel)
 have:=key _ h;omega
noncomputable def xl (K:W.Frag):Sp:=λvs H Q _=>∃ (lc:Addr) (vg:V) (mc:MC) (n:Nat) (v:Int),vs=[.ref lc,vg,.int mc.b,.int n]/\zG mc/\H lc=some (.lst (mc.cs.map V.int))/\Dat K H (.tup (mc.as.map D.int)) vg/\1<=n/\n<=100000/\pN mc n YX=.ends v /\
 ∀ u H',Qh H H'->Dat K H' (.tup [.str "ends",.int v]) u->Q u H'
theorem sU (T:Txt P w K mg) (MP:QE P w K mg base Ur k T.L0 T.L3 ["code","args","size","steps"] (EG K)):Ok P w base (k+1) T.J4 (xl K):=by
 refine T.J4.f.ok UE (λvs H Q E h=>?_) (λcdv A outer s H vs Q E hr h=>?_)
 ·obtain ⟨lc,vg,mc,n,v,rfl,_⟩:=h;rfl
 have nd:=UE.nd;obtain ⟨lc,vg,mc,n,v,rfl,oc,hc,hg,n1,n9,ends,post⟩:=h;refine ⟨_,(aH (yv (aH (aL (bR (aF bC (aF (BH MP hr rfl T.ML T.Mg.kp (Gy T) gn (aF (pv 0) (aF (pv 1) aB)) (yt (pv 2) (yt (pv 3) FU))) aB))))))),?_⟩;refine ⟨_,rfl,_,rfl,_,rfl,_,rfl,lc,vg,mc,n,v,rfl,oc,hc,hg,n1,n9,ends,λH1 s1=>?_⟩;exact ⟨d8 (show 2<=1000 by decide),λp np=>post _ _ (s1.trans (aV np _)) (Dat.tupI (QH.of aI) (Qf.cons (Dat.RK _) (Qf.cons (Dat.Qm _) Qf.nil)))⟩
noncomputable def Vs:Nat->Nat->Tr
 | 0,_=>.arg 1
 | f+1,m=>if m=1 then .arg 1 else .two "sub" (Vs f (m / 2)) (Vs f (m - m / 2))
noncomputable def kF (f:Nat) (ds:List D) (d:D):Prop:=∃ m:Nat,ds=[.int m]/\1<=m/\m<=f/\d=toD (Vs f m)
theorem qx (T:Txt P w K mg) (J8:Ok P w base k T.Iz (QF K (kF n))):Ok P w base (k+1) T.Iz (QF K (kF (n+1))):=by
 refine T.Iz.f.ok T7 (λvs H Q E h=>?_) (λcdv A outer s H vs Q E hr h=>?_)
 ·obtain ⟨ds,d,hd,⟨m,rfl,_⟩,_⟩:=h;exact hd.length.symm
 have nd:=T7.nd;obtain ⟨ds,d,hd,⟨m,rfl,m1,m2,rfl⟩,post⟩:=h;obtain ⟨v0,rfl,h0⟩:=ia hd;refine ⟨_,(aC (bE (aN cA (pv 0) aE (aU _)) (aH (aL (bR (aF bC (aF aE aB))))) aM)
 (aH (aL (bR (aF bC (aF (pc (D:=T.Iz) J8 hr (aF (bK jg (pv 0) aE) aB)) (aF (pc (D:=T.Iz) J8 hr (aF (bK kP (pv 0) (bK jg (pv 0) aE)) aB)) aB))))))),?_⟩
 refine aO (K:=K) (b:=decide ((m:Int)=1)) (aK (iR (aA (k:=0) h0) aG)) (λc H1 s1=>?_) (λc H1 s1=>?_)
 ·have e:m=1:=by have:=M1 c;omega
  have ec:Vs (n+1) m=.arg 1:=by rw [Vs,MW e]
  rw [ec] at post;exact bB (K:=K) (d:=toD (.arg 1)) (bY (aD aZ (aD aG aP))) λv H' s q=>post v H' (s1.trans s) q
 ·have e:¬ m=1:=by have:=Ng c;omega
  have ec:Vs (n+1) m=.two "sub" (Vs n (m / 2)) (Vs n (m - m / 2)):=by rw [Vs,MR e]
  rw [ec] at post;have h0:=s1.dat h0;have hd2:(m:Int) / 2=((m / 2:Nat):Int):=by omega
  have hs2:(m:Int) - (m:Int) / 2=((m - m / 2:Nat):Int):=by omega
  have rd:∀ {σ:L2.St} {G:Hp},Qh H1 G->σ[0]?=some (some v0)->RE K (S5 (rI CC λi j=>.int (i / j)) (fB 0) (tC (.int 2))) σ G (.int ((m:Int) / 2)):=λsG ev=>tM (aA (k:=0) (sG.dat h0) ev) aG (by refine ⟨by decide,?_⟩;omega);exact bB (K:=K) (d:=toD (.two "sub" (Vs n (m / 2)) (Vs n (m - m / 2)))) (bY (aD aZ (aD (bF (R:=kF n) (aD (RE.as (rd (Qh.refl _) rfl) (Nq D.int hd2)) aP) ⟨m / 2,rfl,by omega,by omega,rfl⟩) (aD (bF (R:=kF n) (aD (RE.as (kS (aA (k:=0) h0) (rd (Qh.refl _) rfl)) (Nq D.int hs2)) aP) ⟨m - m / 2,rfl,by omega,by omega,rfl⟩) aP)))) λv H' s q=>post v H' (s1.trans s) q
theorem Cz {c:TT} (Pv:L2.St->Hp->Prop) (μ:L2.St->Hp->Nat) (h0:Pv σ H)
  (hs:∀ σ H,Pv σ H->∃ b,RT c σ H b/\∀ H1,Qh H H1->if b=true then tb { En with nx:=λσ' H'=>Pv σ' H'/\μ σ' H' < μ σ H,ct:=λσ' H'=>Pv σ' H'/\μ σ' H' < μ σ H,bk:=En.nx } σ H1 else En.nx σ H1):xp c tb En σ H:=by
 refine ⟨λm σ H=>m=μ σ H/\Pv σ H,⟨_,rfl,h0⟩,?_⟩;rintro m σ H ⟨rfl,p⟩;obtain ⟨b,hb,q⟩:=hs σ H p;refine hb H (Qh.refl _) _ λH1 s=>?_;have z:=q H1 s
 cases b with
 | true=>exact ⟨_,λσ' H' ⟨p',l⟩=>⟨_,l,rfl,p'⟩,z⟩
 | false=>exact z
noncomputable def Cd (K:W.Frag):Sp:=λvs H Q _=>∃ (a t:Addr) (ns:List Int) (many p q:Int) (rest:List V),vs=[.ref a,.ref t,.int many]/\WK K H a ns/\H t=some (.lst (.int p::.int q::rest))/\0<=p/\2<=many/\many<=17 /\
 ∀ (v:V) (H':Hp) (X:Tr) (p' q':Int),QY t H H'->H' t=some (.lst (.int p'::.int q'::rest))->0<=p'->RI X->kh X=true->aS X<=6->a8 X<=11->Dat K H' (toD X) v->Q v H'
noncomputable def mu4 (σ:L2.St) (_:Hp):Nat:=match σ[4]? with
 | some (some (V.int p))=>p.toNat
 | _=>0
theorem sS (T:Txt P w K mg) (IL:Ok P w base k T.Ih (xj K)):Ok P w base (k+1) T.Ks (Cd K):=by
 refine T.Ks.f.ok UG (λvs H Q E h=>?_) (λcdv A outer s H vs Q E hr h=>?_)
 ·obtain ⟨a,t,ns,many,p,q,rest,rfl,_⟩:=h;rfl
 have nd:=UG.nd;obtain ⟨a,t,ns,many,p,q,rest,rfl,hS,hT,hp,m2,m17,post⟩:=h;refine ⟨_,(aC (FV (i:=3) (j:=4) rfl nd rfl rfl (by decide) rfl rfl (aF (bR (aF bC (aF (pc (D:=T.Ih) IL hr (aF (pv 0) (aF (pv 1) (aF aE aB)))) aB))) (aF (bK kP (pv 2) aE) aB)) (by kernel_rfl))
 (aC (lO NP (aN rj (pv 4) aE (aU _)) (aC (bO (i:=3) nd rfl (Or.inl rfl) (bR (aF bC (aF (pv 3) (aF (bR (aF bC (aF (pc (D:=T.Ih) IL hr (aF (pv 0) (aF (pv 1) (aF aE aB)))) aB))) aB)))))
 (aH (tI (i:=4) nd rfl (Or.inl rfl) aE Fq))))
 (aH (aL (g7 (aN cA (pv 4) aE (aU _)) (bR (aF bC (aF (pv 3) (aF (bR (aF bC (aF aE aB))) aB)))) (pv 3)))))),?_⟩
 refine eA ⟨_,rfl,_,rfl,a,t,ns,4,p,q,rest,rfl,hS,hT,hp,by decide,by decide,λr1 H1 p1 q1 b1 t1 g1 r1a r1b=>⟨d8 (by simp),λl1 hl1=>?_⟩⟩;have s1:Qh H1 (upd H1 l1 (.tup [.str "arg",.int r1])):=aV hl1 _;refine RE.use (K:=K) (kS (aA (k:=2) (Dat.Qm many)) aG) λv4 H2 s2 q4=>⟨_,_,rfl,?_⟩
 obtain rfl:=q4.Qk;have s12:=s1.trans s2;dsimp only;refine eA (Cz (λσ G=>∃ (vm:V) (L:Tr) (left p q:Int),σ=[some (.ref a),some (.ref t),some (.int many),some vm,some (.int left)]/\QY t H G/\G t=some (.lst (.int p::.int q::rest))/\0<=p/\Dat K G (toD L) vm/\RI L/\kh L=true/\0<=left/\3 * (aS L:Int)+left<=18/\a8 L+1=2 * aS L) mu4 ?_ ?_)
 ·refine ⟨.ref l1,.arg r1,many - 2,p1,q1,rfl,b1.trans s12.but,s12 _ _ t1,g1,s2.dat (Dat.tupI (QH.of aI) (Qf.cons (Dat.RK _) (Qf.cons (Dat.Qm _) Qf.nil))),⟨r1a,by omega⟩,rfl,by omega,?_,rfl⟩;show 3 * ((1:Nat):Int)+(many - 2)<=18;omega
 ·rintro σ G ⟨vm,L,left,p3,q3,rfl,bG,tG,gp,dL,okL,npL,l0,l18,sz⟩;refine ⟨decide (3<=left),aK (d9 (K:=K) (p:=λi j=>decide (j<=i)) (aA (k:=4) (Dat.Qm left)) aG),λG1 Yz=>?_⟩;by_cases hl:3<=left
  ·rw [M5 hl];refine mx ?_;have ZG:=Yz _ _ tG;refine fw ⟨_,rfl,_,rfl,_,rfl,a,t,ns,4,p3,q3,rest,rfl,(hS.but bG hT).same Yz,ZG,gp,by decide,by decide,λr H2 p2 q2 b2 t2 g2 r0 r4=>⟨d8 (by simp),λl2 hl2=>⟨d8 (by simp),λl3 hl3=>?_⟩⟩⟩;have sa:Qh H2 (upd H2 l2 (.tup [.str "arg",.int r])):=aV hl2 _;have sb:=aV hl3 (.tup [.str "sub",vm,.ref l2]);have sab:=sa.trans sb;have dA:Dat K _ (.tup [.str "arg",.int r]) (.ref l2):=sb.dat (Dat.tupI (QH.of (show upd H2 l2 (.tup [.str "arg",.int r]) l2=some _ from aI)) (Qf.cons (Dat.RK _) (Qf.cons (Dat.Qm _) Qf.nil)));have dM:=sab.dat (Dat.mono (b2.grow ZG t2) _ (Yz.dat dL));have dN:Dat K _ (toD (.two "sub" L (.arg r))) (.ref l3):=Dat.tupI (QH.of aI) (Qf.cons (Dat.RK _) (Qf.cons dM (Qf.cons dA Qf.nil)));refine ⟨_,rfl,left,3,rfl,rfl,?_⟩;refine ⟨⟨.ref l3,.two "sub" L (.arg r),left - 3,p2,q2,rfl,(bG.trans Yz.but).trans (b2.trans sab.but),sab _ _ t2,g2,dN,⟨.inr (.inl rfl),okL,⟨r0,by omega⟩⟩,?_,by omega,?_,?_⟩,?_⟩
   ·show (kh L && true)=true;rw [npL];rfl
   ·have:1<=aS L:=by cases L <;> simp [aS]
    simp only [aS];omega
   ·have:1<=aS L:=by cases L <;> simp [aS]
    simp only [aS,a8];omega
   ·show (left - 3).toNat < left.toNat;omega
  ·rw [MX hl];refine mw ?_;have ZG:=Yz _ _ tG;have dL1:=Yz.dat dL;have bH:=bG.trans Yz.but;by_cases h2:left=2
   ·refine bB (K:=K) (d:=toD (.two "add" L (.num 5))) (kx (b:=true) (RT.as (aK (iR (aA (K:=K) (k:=4) (Dat.Qm left)) aG)) (M5 h2)) (λ_=>bY (aD aZ (aD (aA (k:=3) dL1) (aD (bY (aD aZ (aD aG aP))) aP)))) (λc=>nomatch c)) λv H' s q=>post v H' (.two "add" L (.num 5)) p3 q3 (bH.trans s.but) (s _ _ ZG) gp ⟨.inl rfl,okL,⟨by decide,by decide⟩⟩ ?_ ?_ ?_ q
    ·show (kh L && true)=true;rw [npL];rfl
    ·have:1<=aS L:=by cases L <;> simp [aS]
     simp only [aS];omega
    ·simp only [a8];omega
   ·exact bB (K:=K) (d:=toD L) (kx (b:=false) (RT.as (aK (iR (aA (K:=K) (k:=4) (Dat.Qm left)) aG)) (MX h2)) (λc=>nomatch c) (λ_=>aA (k:=3) dL1)) λv H' s q=>post v H' L p3 q3 (bH.trans s.but) (s _ _ ZG) gp okL npL (by omega) (by omega) q
theorem vU (nh:∀ p ∈ ps,ff p.pt=true) {a b d:Tr} {bb:Int × D} (h:bM ps (.pick a b d)=some bb):∃ x y z,bM ps a=some x/\bM ps b=some y/\bM ps d=some z/\bb.2=.tup [.str "pick",.tup [x.2,y.2,z.2]]:=by
 rw [jD nh] at h;rcases oU _ _ _ h with e | ⟨w,hw,bs,ea,e⟩
 ·cases e
 injection e with e;subst e;have em:=kX ea;unfold gH at hw;rw [MW (show sL (.pick a b d)=true from rfl)] at hw;have ew:=Nf.mp hw;subst ew;have l3:bs.length=3:=by have:=Nq List.length em;simpa [dI] using this.symm
 match bs,l3,em with
 | [b1,b2,b3],_,em =>have em:[bM ps a,bM ps b,bM ps d]=[some b1,some b2,some b3]:=em;injection em with m1 em;injection em with m2 em;injection em with m3 _;exact ⟨b1,b2,b3,m1,m2,m3,rfl⟩
theorem xF (os:iB ps) (la:sN ps) {b:Int × D} (dp:aS t<=n) (hb:bM ps t=some b):∃ es,dY ps n t b.2=some es/\(es.length:Int)=b.1:=by obtain ⟨es,h1,h2⟩:=iV (λp hp=>⟨(os.ok p hp).nh,(os.ok p hp).nm,_,la.cl p hp⟩) n t b dp hb;exact ⟨es,mB la.ls.nd (λp hp=>(os.ok p hp).nm) n t b.2 es h1,h2⟩
noncomputable def yP (ps:List Pc) (n:Nat) (t:Tr) (q:Prop):Prop:=∀ b,bM ps t=some b->∃ nn os:List Int,dY ps n t b.2=some (nn.map D.int)/\(nn.length:Int)=b.1/\fz nn os/\((8:Int) ∈ os↔q)
theorem tX (os:iB ps) (la:sN ps) (hp:∀ p ∈ ps,∃ n,jW n (bW p)=true) (dp:aS t<=n) (np:kh t=true):yP ps n t False:=λb hb=>by obtain ⟨es,e1,e2⟩:=xF os la dp hb;obtain ⟨nn,o,rfl,w,q⟩:=ip hp n t b.2 es e1;rw [tB] at e2;exact ⟨nn,o,e1,e2,w,λz=>q np z,λz=>z.elim⟩
theorem yH (os:iB ps) (la:sN ps) (hp:∀ p ∈ ps,∃ n,jW n (bW p)=true) {a b d:Tr} {q:Prop} {z:Int × D} (da:aS a<=n) (db:aS b<=n) (dd:aS d<=n) (na:kh a=true) (nb:kh b=true) (hz:bM ps d=some z) (sd:yP ps n d q):yP ps (n+1) (.pick a b d) (z.1<=9\/q):=λbb hb=>by
 obtain ⟨x,y,z',hx,hy,hz',e2⟩:=vU (λp h=>(os.ok p h).nh) hb;rw [hz] at hz';cases hz';obtain ⟨na',oa,la1,_,wa,qa⟩:=tX os la hp da na x hx;obtain ⟨nb',ob,lb1,_,wb,qb⟩:=tX os la hp db nb y hy;obtain ⟨nd,od,ld1,ll,wd,qd⟩:=sd z hz;obtain ⟨ns,j,ep,hj,w⟩:=qh wa wb wd
 have e:dY ps (n+1) (.pick a b d) bb.2=some (ns.map D.int):=by rw [e2];have z1:dY ps (n+1) (.pick a b d) (.tup [.str "pick",.tup [x.2,y.2,z.2]])=(if ("pick":Str)="pick" then jH (dY ps n) (.pick a b d) [x.2,y.2,z.2] else iY (dY ps n) ps (.pick a b d) "pick" [x.2,y.2,z.2]):=rfl;rw [z1,MW rfl];show (mf [dY ps n a x.2,dY ps n b y.2,dY ps n d z.2]).bind Dk=_;rw [la1,lb1,ld1];show some (e7 (na'.map D.int) (nb'.map D.int) (nd.map D.int))=_;rw [ep]
 obtain ⟨es,e1,el⟩:=xF os la (n:=n+1) (by simp only [aS];omega) hb;refine ⟨ns,_,e,?_,w,?_⟩
 ·rw [e] at e1;injection e1 with e1;rw [<- el,<- e1,tB]
 ·rw [<- ll];constructor
  ·intro m;rcases Nh.mp m with m | m
   ·rcases Nh.mp m with m | m
    ·rcases Nh.mp m with m | m
     ·exact (qa.mp m).elim
     ·rcases hj with rfl | rfl <;> exact absurd (Nf.mp m) (by decide)
    ·rcases Nh.mp m with m | m
     ·exact (qb.mp m).elim
     ·by_cases h9:(nd.length:Int)<=9
      ·exact .inl h9
      ·rw [MR h9] at m;exact absurd (Nf.mp m) (by decide)
   ·exact .inr (qd.mp m)
  ·intro m;rcases m with m | m
   ·rw [MW m];exact Oa _ (NG _ (NG _ (Nf.mpr rfl)))
   ·exact NG _ (qd.mpr m)
end
end My
namespace My
open PySem L2 PyProof.Rows PySem.Calls PySem.Spec
section
variable {P:Program} {w:World} {K:W.Frag} {mg:Str->Option Value} {base:Heap} {k:Nat}
theorem vF (l:Addr) (v w:Value) (n:Nat) (dd:Option Addr) (sl:Array (Option Value)) (u:Tok) :
  Meets (Builtin.«tuple.__mul__» ⟨[.ref l,.int 5 u],[]⟩) (λ_ R s=>s.heap.get? l=some { cls:=.type "tuple",dict:=dd,data:=.seq #[v,w] n,slots:=sl }/\R (.ok (.ret (Value.ref s.heap.objs.size))) { s with heap:=s.heap.push { cls:=.type "tuple",data:=.seq #[v,w,v,w,v,w,v,w,v,w] } }) :=
 .of_wp λ_ _ _ _ s q=>by
  obtain ⟨h0,g0,d0,t0,o0⟩:=s;obtain ⟨at_l,q⟩:=q
  wp_walk
  exact ⟨_,rfl,q⟩
noncomputable def BU (K:W.Frag):R2:=λx y H Q=>∃ a v w,x=.ref a/\y=.int 5/\QH K H a [v,w]/\∀ p,H p=none->Q (.ref p) (upd H p (.tup [v,w,v,w,v,w,v,w,v,w]))
theorem BF {X:Cx}:So X (binaryOp .Mult) (BU X.K):=by
 intro pins s σ H x y v u Q I rx ry h;obtain ⟨a,z,z2,rfl,rfl,ha,q⟩:=h;cases rx;obtain ⟨t,rfl⟩:=ry;obtain ⟨its,r,p,_⟩:=I.tuple ha
 cases r with
 | cons rz r =>
  cases r with
  | cons rw r =>
   cases r;rename_i z' w';obtain ⟨⟨cls,dd,data,sl⟩,ho,hc,n,hd⟩:=id p;simp only at hc hd;subst hc hd
   refine wpAny_binaryOp_repeat_ref (T:="tuple") (U:="int") (by decide) ⟨_,ho,rfl⟩ (λs'=>typeIs_int s' 5 t) mD F.fills_int_mul F.slot_int_rmul tQ F.slot_int_index.lookup
    (Px F.slot_int_rmul (typeIs_int s 5 t) F.entry_int_rmul (F.args_int_rmul_2 _ _) (oZ 5 t a _ n dd sl)
     ⟨ho,rfl,⟨_,ho,rfl⟩,Px F.slot_tuple_mul ⟨_,ho,rfl⟩ F.entry_tuple_mul (F.args_tuple_mul_2 _ _) (vF a z' w' n dd sl t) ⟨ho,?_⟩⟩)
   refine ⟨.ref s.heap.objs.size,_,I.laid (t':=s.toks) (o:=.tup [z,z2,z,z2,z,z2,z,z2,z,z2]) (λb ob q=>MU _ q) (M0 _) ?_,rfl,q _ (I.hok.fresh (M0 _))⟩;exact ⟨by rw [OW];simp,[z',w',z',w',z',w',z',w',z',w'],.cons rz (.cons rw (.cons rz (.cons rw (.cons rz (.cons rw (.cons rz (.cons rw (.cons rz (.cons rw .nil))))))))),PX _ _⟩
theorem B6 {σ:L2.St} {H:Hp} {ta:TE} {d e:D} (h:RE K ta σ H (.tup [d,e])):RE K (S5 (BU K) ta (tC (.int 5))) σ H (.tup [d,e,d,e,d,e,d,e,d,e]):=λH1 s Q q =>
 h H1 s _ λv H2 s2 q2=>by obtain ⟨a,vs,rfl,hq,hd⟩:=q2.Qw;obtain ⟨y,z,rfl,hy,hz⟩:=gb hd;refine ⟨a,y,z,rfl,rfl,hq,λp hp=>q _ _ (s2.trans (aV hp _)) (Dat.tupI (QH.of aI) ?_)⟩;have hy':=(aV hp (.tup [y,z,y,z,y,z,y,z,y,z])).dat hy;have hz':=(aV hp (.tup [y,z,y,z,y,z,y,z,y,z])).dat hz;exact Qf.cons hy' (Qf.cons hz' (Qf.cons hy' (Qf.cons hz' (Qf.cons hy' (Qf.cons hz' (Qf.cons hy' (Qf.cons hz' (Qf.cons hy' (Qf.cons hz' Qf.nil)))))))))
end
end My
namespace My
open PySem L2 PyProof.Rows
section
variable {P:Program} {w:World} {K:W.Frag} {mg:Str->Option Value} {base:Heap} {k:Nat}
variable {σ:L2.St} {H:Hp}
theorem DO {tl:TE} {mk:L2.St->L2.St} {cs:List D} (h:RL K tl σ H cs) (hc:cs.length<=1000) (hm:mk σ=[none,none,none]) (h3:∀ c ∈ cs,Gb c):RC K (iM (ra K tl) mk (zj K 3 (jG (d6 0) (jG (d6 1) (jG (d6 2) AZ)))) hU (fB 1)) σ H (cs.map rh):=λH1 s Q q=>by
 refine h H1 s _ λvs H2 s2 q2=>?_;obtain ⟨a,us,rfl,ha,da⟩:=q2;have lu:=da.length;refine ⟨a,rfl,⟨us,ha.UI⟩,λl hl2=>?_⟩;refine ⟨λn m σ' G=>m=us.length - n/\n<=us.length/\(∃ z0 z1 z2,σ'=[z0,z1,z2])/\Qh H2 G/\∃ ys,G l=some (.lst ys)/\Qf K G ((cs.map rh).take n) ys,⟨_,rfl,NW _,⟨none,none,none,hm⟩,aV hl2 _,[],aI,Qf.nil⟩,?_⟩;rintro n m σ' G ⟨rfl,hn,⟨z0,z1,z2,rfl⟩,sG,ys,hy,dy⟩;have hG:=(sG.Tq ha).UI;by_cases hlt:n < us.length
 ·obtain ⟨hgo,hyld⟩:=sC n G hG hlt;refine .inr ⟨hgo,λσ'' G'=>(∃ z0 z1 z2,σ''=[z0,z1,z2])/\Qh H2 G'/\∃ ys,G' l=some (.lst ys)/\Qf K G' ((cs.map rh).take (n+1)) ys,λσ'' G' ⟨a1,a2,a3⟩=>⟨us.length - (n+1),by omega,rfl,by omega,a1,a2,a3⟩,λx Q0 hx=>?_⟩;obtain ⟨rfl,rfl⟩:=hyld x Q0 hx;have hnc:n < cs.length:=by omega
  have ec:=MT hnc;obtain ⟨vz,ez,hz⟩:=(sG.Qu da).get ec;obtain ⟨x1,x2,x3,e3⟩:=h3 cs[n] (List.getElem_mem hnc);rw [Nt,ez];rw [e3] at hz;obtain ⟨pa,xs,rfl,hq,hd⟩:=hz.Qw;obtain ⟨w0,w1,w2,rfl,k0,k1,k2⟩:=oI hd;refine ⟨pa,_,rfl,hq,rfl,_,_,rfl,_,_,rfl,_,_,rfl,rfl,?_⟩;simp only [hU,O6];have ly:=dy.length;rw [NI,tB] at ly;refine ⟨_,rfl,ys,hy,dH (by omega),⟨_,_,_,rfl⟩,λb o hb=>?_,ys++[w1],aI,?_⟩
  ·rw [aR (aQ hb hl2)];exact sG _ _ hb
  ·have g:gW K Q0 (upd Q0 l (.lst (ys++[w1]))):=QY.grow (t:=l) (QY.upd (Qh.refl _).but) hy aI;rw [NR,MZ,ec,e3];exact Qf.append (Qf.mono g _ dy) (Qf.cons (Dat.mono g _ k1) Qf.nil)
 ·have e:n=us.length:=by omega
  subst e;refine .inl ⟨⟨us,hG,M0 _⟩,?_⟩;rw [OX (by rw [tB];omega)] at dy;exact q l ys G (s2.free hl2) (s2.trans sG) hy dy
theorem yg {ps:List Pc} (hp:∀ p ∈ ps,goP p) {n:Nat} {t:Tr} {c:D} {nn:List Int} (ok:RI t) (h:dY ps n t c=some (nn.map D.int)) (l:nn.length<=800):X5 (nn++[0]):=by
 refine ⟨by simp,by simp;omega,λi x hx=>?_⟩;rcases Nh.mp (Nn hx) with hm | hm
 ·exact o7 (λp h=>⟨(hp p h).nh,(hp p h).ci⟩) n t c _ ok h (by rw [tB];omega) x (N4.mpr ⟨x,hm,rfl⟩)
 ·rw [Nf.mp hm];decide
variable {v:V}
theorem zW {k:Nat} {cs:List Int} {E:XK} (ok:X5 cs) (nf:kK cs=none) (h:LD K H (cD cs) v) (e:σ[k]?=some (some v):=by rfl):RC K (jV (Ce K) [] E (cC (fB k) eI)) σ H (nj cs):=λH1 s Q q =>
 RB.use (K:=K) (eY (bA (k:=k) (s.ld h) e) cK) λvs H2 s2 q2=>⟨cs,ok,by rw [Np];exact q2,nf,λr us H' s' hr hr0 hd=>q r us H' (s2.free hr0) (s2.trans s') hr hd⟩
theorem F8 {ta tb:TE} {b c:Bool} (h1:RE K ta σ H (.bl b)) (h2:RE K tb σ H (.bl c)):RE K (S5 ZY ta tb) σ H (.bl (!decide (b=c))):=λH1 s Q q =>
 h1 H1 s _ λv H2 s2 q2=>h2 H2 (s.trans s2) _ λw H3 s3 q3=>by
  rw [q2.Tp,q3.Tp];refine ⟨rfl,?_⟩;have e:decide (V.bl b=V.bl c)=decide (b=c):=by cases b <;> cases c <;> rfl
  rw [e];exact q _ _ (s2.trans s3) (Dat.To _)
theorem LD.but {K:W.Frag} {H':Hp} {ds:List D} {t:Addr} {zs zs':List V} (h:LD K H ds v) (n:v≠.ref t) (e:QY t H H') (h1:H t=some (.lst zs)) (h2:H' t=some (.lst zs')):LD K H' ds v:=by obtain ⟨a,vs,rfl,ha,hd⟩:=h;have na:a≠t:=λz=>n (by rw [z]);exact ⟨a,vs,rfl,ha.elim (λz=>.inl (e _ _ na z)) .inr,Qf.mono (e.grow h1 h2) _ hd⟩
noncomputable def vB (K:W.Frag):Sp:=λvs H Q _=>∃ (a:Addr) (ns:List Int),vs=[.ref a]/\WK K H a ns/\∀ H',Q (.bl true) H'
noncomputable def Hm (K:W.Frag) (f:Tr->Prop) (i:Nat) (G:Hp) (zs:List V):Prop:=∃ Ts:List Tr,Ts.length=i/\(∀ x ∈ Ts,f x)/\Qf K G (Ts.map toD) zs
theorem Cc {os:List Int}:(((os++[0]).map λc=>D.str (Tt c)).any λe=>Qs e (.str "skip"))=decide ((8:Int) ∈ os):=by
 rw [List.any_map];by_cases h:(8:Int) ∈ os
 ·rw [M5 h,List.any_eq_true];exact ⟨8,Oa _ h,by show Qs (.str (Tt 8)) (.str "skip")=true;exact iz _ rfl⟩
 ·rw [MX h,List.any_eq_false];intro c hc e;have e:Qs (.str (Tt c)) (.str "skip")=true:=e;have e:Tt c="skip":=by simpa [Qs] using e
  have e:=Gg e;subst e;rcases Nh.mp hc with hc | hc
  ·exact h hc
  ·exact absurd (Nf.mp hc) (by decide)
theorem Ab (os:List Int):QB (os.map λc=>D.str (Tt c))=true/\Ql (os.map λc=>D.str (Tt c))<=20:=by
 induction os with
 | nil=>exact ⟨rfl,by simp [Ql]⟩
 | cons c os ih =>
  rw [Nb];refine ⟨?_,?_⟩
  ·simp only [QB,Rr,ih.1,NS]
  ·have:=ih.2;simp only [Ql,fD];omega
noncomputable def asT:Tr->Prop
 | .arg _=>True
 | .two o a b=>o="sub"/\asT a/\asT b
 | _=>False
theorem qQ:∀ f m:Nat,asT (Vs f m)/\RI (Vs f m)
 | 0,m=>⟨trivial,by decide,by decide⟩
 | f+1,m=>by
  rw [Vs];split
  ·exact ⟨trivial,by decide,by decide⟩
  ·exact ⟨⟨rfl,(qQ f _).1,(qQ f _).1⟩,.inr (.inl rfl),(qQ f _).2,(qQ f _).2⟩
theorem ur:∀ m,m < 11->1<=m->aS (Vs 10 m)<=5/\a8 (Vs 10 m)<=19:=by decide +kernel
theorem oy:∀ t:Tr,asT t->∃ m,VI [Xd,X4] t m
 | .arg k,_=>⟨_,VI.intro (mX (t:=.arg k) (p:=Xd) (f:=([],[],[k])) (by simp) rfl rfl) .nil⟩
 | .two o a b,h=>by obtain ⟨rfl,ha,hb⟩:=h;obtain ⟨m,hm⟩:=oy a ha;obtain ⟨n,hn⟩:=oy b hb;exact ⟨_,VI.intro (mX (t:=.two "sub" a b) (p:=X4) (by simp) rfl (AW "sub" a b)) (.cons hm (.cons hn .nil))⟩
 | .num _,h=>h.elim
 | .pick _ _ _,h=>h.elim
noncomputable abbrev gT (X:Tr):Prop:=∃ m:Nat,m < 11/\1<=m/\X=Vs 10 m
noncomputable abbrev fT (X:Tr):Prop:=RI X/\kh X=true/\aS X<=6/\a8 X<=11
theorem FC (T:Txt P w K mg) (IL:Ok P w base k T.Ih (xj K)) (LU:Ok P w base k T.Ks (Cd K)) (MK:Ok P w base k T.L7 (jT K kG)) (LX:Ok P w base k T.Kv (UJ K rZ)) (IQ:Ok P w base k T.HY (UJ K (gu 8))) (Mr:Ok P w base k T.Lc (Ce K)) (Lk:Ok P w base k T.J4 (xl K)) (IR:Ok P w base k T.HZ (QF K (jA 8))) (J8:Ok P w base k T.Iz (QF K (kF 10))):Ok P w base (k+1) T.L6 (vB K):=by
 refine T.L6.f.ok W5 (λvs H Q E h=>?_) (λcdv A outer s H vs Q E hr h=>?_)
 ·obtain ⟨a,ns,rfl,_⟩:=h;rfl
 have nd:=W5.nd;obtain ⟨a,ns,rfl,hS,post⟩:=h;refine' ⟨_,?Xb,?Zs⟩
 case' Xb=>refine' aC ?a ?b
 case a=>exact (bO (i:=1) nd rfl (Or.inr rfl) (c7 (aF aE (aF aE (aF aE aB)))))
 case' b=>refine' aC ?c ?d
 case c=>exact (bO (i:=2) nd rfl (Or.inl rfl) (fh lq rfl T.Li lj (aF (bQ (v:=.ref T.Lr) rfl T.KP rfl) aB)))
 case' d=>refine' aC ?e ?f
 case e=>exact (fH (e8 (own:=["_law_k"]) (fr:=[0,1]) (N':=["_law_k","_law_script","_law_town"]) (mL rfl T.La (aF aE aB)) rfl (by show dW ["_law_script","_law_town","_law_basic","_law_first","_law_last","_law_tree_here","_law_code","_law_names","_law_near","_law_number","_law_other","_law_args_here","_law_wide","_law_three"] (λx=>(aJ vt).names.lookup x) _ _ _ _=true;decide +kernel) rfl (λ_ _ _ _ _=>(a7 (i:=0) (by show List.Nodup [("_law_k":Str),("_law_script":Str),("_law_town":Str)];decide +kernel) rfl (Or.inl rfl))) (λ_ _ _ _ _=>cQ) (λ_ _ _ _ _=>(pc (D:=T.Ks) LU hr (aF (pv 1) (aF (pv 2) (aF (bK cJ aE (pc (D:=T.Ih) IL hr (aF (pv 1) (aF (pv 2) (aF aE aB))))) aB)))))) (yr rfl (bJ (a7 (i:=3) nd rfl (Or.inl rfl)) (bJ (a7 (i:=4) nd rfl (Or.inl rfl)) eE))))
 case' f=>refine' aC ?g ?h
 case' g=>refine' bO (i:=5) ?i ?j ?k ?l
 case i=>exact nd
 case j=>exact rfl
 case k=>exact Or.inl rfl
 case' l=>refine' bR ?m
 case' m=>refine' aF ?n ?o
 case n=>exact bC
 case' o=>refine' aF ?p ?q
 case p=>exact (bR (aF bC (aF aE aB)))
 case' q=>refine' aF ?r ?s
 case r=>exact (pv 3)
 case' s=>refine' aF ?t ?u
 case t=>exact (pv 4)
 case u=>exact aB
 case' h=>refine' aC ?v ?w
 case' v=>refine' bE ?x ?y ?z
 case x=>exact (aN cA (pc (D:=T.Ih) IL hr (aF (pv 0) (aF (pv 1) (aF aE aB)))) aE (aU _))
 case' y=>refine' aH ?aa
 case' aa=>refine' bO (i:=5) ?ab ?ac ?ad ?ae
 case ab=>exact nd
 case ac=>exact rfl
 case ad=>exact Or.inl rfl
 case' ae=>refine' bR ?af
 case' af=>refine' aF ?ag ?ah
 case ag=>exact bC
 case' ah=>refine' aF ?ai ?aj
 case ai=>exact (bR (aF bC (aF aE aB)))
 case' aj=>refine' aF ?ak ?al
 case ak=>exact (bR (aF bC (aF aE aB)))
 case' al=>refine' aF ?am ?an
 case am=>exact (pv 5)
 case an=>exact aB
 case z=>exact aM
 case' w=>refine' aC ?ao ?ap
 case ao=>exact (bO (i:=6) nd rfl (Or.inl rfl) (pc (D:=T.L7) MK hr (aF (pv 5) (aF (pv 2) aB))))
 case' ap=>refine' aC ?aq ?ar
 case' aq=>refine' bE ?au ?av ?aw
 case au=>exact (PW.pt (gq (aN jN (aW aT rfl T.HW bV (aF (pv 6) aB)) (bK cJ (pc (D:=T.HY) IQ hr (aF (pv 5) (aF (pv 2) aB))) aE) (aU _)) (fJ (aN jN (pc (D:=T.Kv) LX hr (aF (pv 5) (aF (pv 2) aB))) (bK kP (aW aT rfl T.HW bV (aF (pv 6) aB)) aE) (aU _)))))
 case' av=>refine' aH ?ax
 case ax=>exact (aL eH)
 case aw=>exact aM
 case' ar=>refine' aC ?ay ?az
 case ay=>exact (gP (i:=7) (own:=["_law_place","_law_name","_law_cells"]) (fr:=[]) (N':=["_law_place","_law_name","_law_cells"]) (fN (pc (D:=T.Lc) Mr hr (aF (pv 6) aB))) rfl (by show dW ["_law_script","_law_town","_law_basic","_law_first","_law_last","_law_tree_here","_law_code","_law_names","_law_near","_law_number","_law_other","_law_args_here","_law_wide","_law_three"] (λx=>(aJ vt).names.lookup x) _ _ _ _=true;decide +kernel) rfl (λ_ _ _ _ _=>(yq (K:=K) (n:=3) rfl rfl (bJ (a7 (i:=0) (by show List.Nodup [("_law_place":Str),("_law_name":Str),("_law_cells":Str)];decide +kernel) rfl (Or.inl rfl)) (bJ (a7 (i:=1) (by show List.Nodup [("_law_place":Str),("_law_name":Str),("_law_cells":Str)];decide +kernel) rfl (Or.inl rfl)) (bJ (a7 (i:=2) (by show List.Nodup [("_law_place":Str),("_law_name":Str),("_law_cells":Str)];decide +kernel) rfl (Or.inl rfl)) eE))))) (λ_ _ _ _ _=>cQ) (λ_ _ _ _ _=>(pv 1)) nd rfl rfl rfl)
 case' az=>refine' aC ?ba ?bb
 case ba=>exact (bO (i:=8) nd rfl (Or.inl rfl) (dP ib (pc (D:=T.HY) IQ hr (aF (pv 4) (aF (pv 2) aB))) aE (aU _)))
 case' bb=>refine' aC ?bc ?bd
 case' bc=>refine' bE ?be ?bf ?bg
 case be=>exact (aN jN (dP (show So _ _ (FY K false) from FG hr) bC (pv 7) (by with_unfolding_all rfl)) (yp (pv 8) (gO (hZ (dP (BA hr) (aX aY (pv 5) aE) (bR (aF bC (aF aE aB))) (aU _)) (gO (dP ib (pc (D:=T.HY) IQ hr (aF (aX aY (pv 5) aE) (aF (pv 2) aB))) aE (aU _)))))) (aU _))
 case' bf=>refine' aH ?bh
 case bh=>exact (aL eH)
 case bg=>exact aM
 case' bd=>refine' aC ?bi ?bj
 case' bi=>refine' h7 ?bk ?bl ?bm ?bn ?bo
 case bk=>exact NP
 case bl=>exact rfl
 case bm=>exact (h6 (bR (aF aE (aF aE aB))))
 case bn=>exact (a7 (i:=9) nd rfl (Or.inl rfl))
 case' bo=>refine' aH ?bp
 case' bp=>refine' h7 ?bq ?br ?bs ?bt ?bu
 case bq=>exact NP
 case br=>exact rfl
 case bs=>exact (h6 (bR (aF aE (aF aE aB))))
 case bt=>exact (a7 (i:=10) nd rfl (Or.inl rfl))
 case' bu=>refine' aC ?bv ?bw
 case bv=>exact (bO (i:=11) nd rfl (Or.inl rfl) (bR (aF (pv 9) (aF (pv 10) (aF (pc (D:=T.Ih) IL hr (aF (pv 0) (aF (pv 1) (aF aE aB)))) (aF (pc (D:=T.Ih) IL hr (aF (pv 0) (aF (pv 1) (aF aE aB)))) aB))))))
 case' bw=>refine' aH ?bx
 case' bx=>refine' bE ?bz ?ca ?cb
 case bz=>exact (aN (BD hr) (pc (D:=T.J4) Lk hr (aF (pv 6) (aF (pv 11) (aF aE (aF aE aB))))) (bR (aF bC (aF (pc (D:=T.HZ) IR hr (aF (pv 5) (aF (pv 11) (aF aE aB)))) aB))) (aU _))
 case' ca=>refine' aH ?cc
 case cc=>exact (aL eH)
 case cb=>exact aM
 case' bj=>refine' aC ?cd ?ce
 case' cd=>refine' bO (i:=12) ?cf ?cg ?ch ?ci
 case cf=>exact nd
 case cg=>exact rfl
 case ch=>exact Or.inl rfl
 case' ci=>refine' c7 ?cj
 case' cj=>refine' aF ?ck ?cl
 case' ck=>refine' bR ?cm
 case' cm=>refine' aF ?cn ?co
 case cn=>exact bC
 case' co=>refine' aF ?cp ?cq
 case cp=>exact (bR (aF bC (aF aE aB)))
 case' cq=>refine' aF ?cr ?cs
 case cr=>exact (bK Dt (bR (aF aE (aF (bR (aF bC (aF aE aB))) aB))) (bK BF (bR (aF aE (aF aE aB))) aE))
 case cs=>exact aB
 case' cl=>refine' aF ?ct ?cu
 case ct=>exact (aX cE (pv 2) aE)
 case cu=>exact aB
 case' ce=>refine' aC ?cv ?cw
 case cv=>exact (gP (i:=13) (own:=["_law_k"]) (fr:=[0,1]) (N':=["_law_k","_law_script","_law_town"]) (mL rfl T.La (aF aE aB)) rfl (by show dW ["_law_script","_law_town","_law_basic","_law_first","_law_last","_law_tree_here","_law_code","_law_names","_law_near","_law_number","_law_other","_law_args_here","_law_wide","_law_three"] (λx=>(aJ vt).names.lookup x) _ _ _ _=true;decide +kernel) rfl (λ_ _ _ _ _=>(a7 (i:=0) (by show List.Nodup [("_law_k":Str),("_law_script":Str),("_law_town":Str)];decide +kernel) rfl (Or.inl rfl))) (λ_ _ _ _ _=>cQ) (λ_ _ _ _ _=>(pc (D:=T.Iz) J8 hr (aF (bK cJ aE (pc (D:=T.Ih) IL hr (aF (pv 1) (aF (pv 2) (aF aE aB))))) aB))) nd rfl rfl rfl)
 case' cw=>refine' aC ?cx ?cy
 case' cx=>refine' bO (i:=5) ?cz ?da ?db ?dc
 case cz=>exact nd
 case da=>exact rfl
 case db=>exact Or.inl rfl
 case' dc=>refine' bR ?dd
 case' dd=>refine' aF ?de ?df
 case de=>exact bC
 case' df=>refine' aF ?dg ?dh
 case dg=>exact (bR (aF bC (aF aE aB)))
 case' dh=>refine' aF ?di ?dj
 case di=>exact (aX cE (pv 13) aE)
 case' dj=>refine' aF ?dk ?dl
 case dk=>exact (aX cE (pv 13) aE)
 case dl=>exact aB
 case' cy=>refine' aC ?dm ?dn
 case dm=>exact (bO (i:=6) nd rfl (Or.inl rfl) (pc (D:=T.L7) MK hr (aF (pv 5) (aF (pv 12) aB))))
 case' dn=>refine' aC ?dp ?dq
 case' dp=>refine' bE ?dr ?ds ?dt
 case dr=>exact (aN jN (aW aT rfl T.HW bV (aF (pv 6) aB)) (bK cJ (pc (D:=T.HY) IQ hr (aF (pv 5) (aF (pv 12) aB))) aE) (aU _))
 case' ds=>refine' aH ?du
 case du=>exact (aL eH)
 case dt=>exact aM
 case' dq=>refine' aC ?dv ?dw
 case' dv=>refine' h7 ?dx ?dy ?dz ?ea ?eb
 case dx=>exact NP
 case dy=>exact rfl
 case dz=>exact (h6 (bR (aF aE (aF aE aB))))
 case ea=>exact (a7 (i:=9) nd rfl (Or.inl rfl))
 case' eb=>refine' aC ?ec ?ed
 case ec=>exact (bO (i:=11) nd rfl (Or.inl rfl) (bR (aF (pv 9) (aF aE (aF aE (aF aE aB))))))
 case' ed=>refine' aH ?ee
 case' ee=>refine' bE ?ef ?eg ?eh
 case ef=>exact (aN (BD hr) (pc (D:=T.J4) Lk hr (aF (pv 6) (aF (pv 11) (aF aE (aF aE aB))))) (bR (aF bC (aF (pc (D:=T.HZ) IR hr (aF (pv 5) (aF (pv 11) (aF aE aB)))) aB))) (aU _))
 case' eg=>refine' aH ?ei
 case ei=>exact (aL eH)
 case eh=>exact aM
 case' dw=>refine' aH ?ej
 case ej=>exact (aL eH)
 refine fw ⟨d8 (by decide),λt ht=>?_⟩;have hS0:=hS.same (aV ht (.lst [.int 0,.int 0,.int 0]));refine fQ (K:=K) (es:=BP.map SI) (pI (Ga T.Mf)) λl2 y2 H2 hl2 s2 YU d2=>?_;have Xn:LD K H2 (BP.map SI) (.ref l2):=LD.of YU d2;have hS2:=hS0.same s2;have t2:=s2 _ _ (show upd H t (.lst [.int 0,.int 0,.int 0]) t=some (.lst [.int 0,.int 0,.int 0]) from aI);have nv2:V.ref l2≠.ref t:=λz=>by injection z with z;rw [z,aI] at hl2;cases hl2
 refine eA ?_
 refine pK 2 (λR hR=>hR) (by decide) rfl
  (λl i G'=>∃ (zs:List V) (p' q':Int),QY t H2 G'/\G' t=some (.lst [.int p',.int q',.int 0])/\0<=p'/\G' l=some (.lst zs)/\Hm K fT i G' zs) (λl hl=>?_) (λl i G' hl hi pn=>?_) (λl G' hl pn=>?_)
 ·exact ⟨[],0,0,(aV hl _).but,(aV hl _) _ _ t2,by decide,aI,[],rfl,(λx hx=>by cases hx),Qf.nil⟩
 ·obtain ⟨zs,p',q',bt,tt,gp,hl',Ts,lT,YA,dT⟩:=pn;have nl:l≠t:=λz=>by rw [z,t2] at hl;cases hl
  refine ⟨_,rfl,_,rfl,_,rfl,_,rfl,a,t,ns,16,p',q',[.int 0],rfl,hS2.but bt t2,tt,gp,by decide,by decide,λr H3 p3 q3 b3 t3 g3 r0 r1=>⟨2,r,rfl,rfl,?_⟩⟩;refine ⟨a,t,ns,2+r,p3,q3,[.int 0],rfl,(hS2.but bt t2).but b3 tt,t3,g3,by omega,by omega,λv H4 X p4 q4 b4 t4 g4 XI npX X6 szX dX=>?_⟩;have bt4:=(bt.trans b3).trans b4;have V9:=b4 l _ nl (b3 l _ nl hl');have ll:=dT.length;rw [tB] at ll;have g34:gW K G' H4:=(b3.trans b4).grow tt t4;have b5:QY l H4 (upd H4 l (.lst (zs++[v]))):=QY.upd (Qh.refl _).but;have g5:=b5.grow (K:=K) V9 aI;refine ⟨zs,V9,dH (by omega),⟨_,rfl⟩,zs++[v],p4,q4,?_,?_,g4,aI,Ts++[X],by rw [MQ,lT];rfl,λx hx=>?_,?_⟩
  ·intro c o hc hco;rw [aR (aQ hco hl)];exact bt4 c o hc hco
  ·rw [aR (Nz nl)];exact t4
  ·rcases Nh.mp hx with hx | hx
   ·exact YA x hx
   ·rw [Nf.mp hx];exact ⟨XI,npX,X6,szX⟩
  ·rw [Nl];exact Qf.append (Qf.mono g5 _ (Qf.mono g34 _ dT)) (Qf.cons (Dat.mono g5 _ dX) Qf.nil)
 obtain ⟨zs,p4,q4,bt,t4,g4,V9,Ts,lT,Wg,dT⟩:=pn;obtain ⟨F,L,rfl⟩:∃ F L,Ts=[F,L]:=by match Ts,lT with | [F,L],_=>exact ⟨F,L,rfl⟩
 obtain ⟨v3,v4,rfl,d3,d4⟩:=gb dT;have fF:=Wg F (by simp);have fL:=Wg L (by simp);clear Wg lT;refine ⟨l,_,rfl,Qp.of V9,rfl,v3,_,rfl,v4,_,rfl,rfl,?_⟩;dsimp only;refine dR (K:=K) (d:=toD (.pick (.arg 0) F L)) (bY (aD aZ (aD (bY (aD aZ (aD aG aP))) (aD (aA (k:=3) d3) (aD (aA (k:=4) d4) aP))))) λv5 H5 s5 d5=>?_;have t5:=s5 _ _ t4;have bt5:=bt.trans s5.but;have d4:=s5.dat d4;refine yE (λσ G=>∃ (v:V) (X:Tr) (p q:Int),σ=[some (.ref a),some (.ref t),some (.ref l2),some v3,some v4,some v,none,none,none,none,none,none,none,none]/\QY t H2 G/\G t=some (.lst [.int p,.int q,.int 0])/\0<=p/\Dat K G (toD X) v/\Dat K G (toD L) v4/\(X=.pick (.arg 0) F L\/X=.pick (.arg 1) (.num 3) (.pick (.arg 0) F L))) ?_ (λrest=>?_)
 ·rintro σ G ⟨v5,X,p,q,rfl,btG,tG,gp,dX,dL,hX⟩;have hB:LD K G (BP.map SI) (.ref l2):=LD.but Xn nv2 btG t2 tG;have W:=GE;have nh:∀ p ∈ BP,ff p.pt=true:=λp hp=>(W.ok.ok p hp).nh;have wh:∀ p ∈ BP,∃ n,jW n (bW p)=true:=λp hp=>⟨12,qL p (W.sb p hp)⟩
  have Xr:RI (.pick (.arg 0) F L):=⟨⟨by decide,by decide⟩,fF.1,fL.1⟩
  have f3:=fF.2.2;have l3:=fL.2.2;obtain ⟨zL,hzL,_⟩:=jX nh (gX (λp hp=>hp) L fL.1);obtain ⟨zI,hzI,_⟩:=jX nh (gX (λp hp=>hp) (.pick (.arg 0) F L) Xr);have skL:∀ {n:Nat},6<=n->yP BP n L False:=λh=>tX W.ok W.la wh (by omega) fL.2.1;have skI:∀ {n:Nat},6<=n->yP BP (n+1) (.pick (.arg 0) F L) (zL.1<=9\/False):=λh=>yH W.ok W.la wh (by simp only [aS];omega) (by omega) (by omega) rfl fF.2.1 hzL (skL h)
  obtain ⟨k1,k2,k3,tb,z3,rfl,etb,ok3,dp3,hz3,XI,X6,szX,skX⟩:∃ (k1 k2 k3:Tr) (tb:Bool) (z3:Int × D),X=.pick k1 k2 k3/\Qs (toD k1) (.tup [.str "arg",.int 1])=tb/\RI k3/\aS k3<=8/\bM BP k3=some z3/\RI X/\aS X<=8/\a8 X<=40/\yP BP 8 X (zL.1<=9\/(tb=true/\z3.1<=9)):=by
   rcases hX with rfl | rfl
   ·refine ⟨.arg 0,F,L,false,zL,rfl,by kernel_rfl,fL.1,by omega,hzL,Xr,by simp only [aS];omega,by simp only [a8];omega,λb hb=>?_⟩;obtain ⟨nn,os,h1,h2,h3,h4⟩:=skI (n:=7) (by decide) b hb;exact ⟨nn,os,h1,h2,h3,h4.trans ⟨λz=>z.elim .inl False.elim,λz=>z.elim .inl λy=>by cases y.1⟩⟩
   ·refine ⟨.arg 1,.num 3,.pick (.arg 0) F L,true,zI,rfl,by kernel_rfl,Xr,by simp only [aS];omega,hzI,⟨⟨by decide,by decide⟩,⟨by decide,by decide⟩,Xr⟩,by simp only [aS];omega,by simp only [a8];omega,λb hb=>?_⟩;obtain ⟨nn,os,h1,h2,h3,h4⟩:=yH W.ok W.la wh (n:=7) (a:=.arg 1) (b:=.num 3) (by simp only [aS];omega) (by simp only [aS];omega) (by simp only [aS];omega) rfl rfl hzI (skI (n:=6) (by decide)) b hb;exact ⟨nn,os,h1,h2,h3,h4.trans ⟨λz=>z.elim (λy=>.inr ⟨rfl,y⟩) λy=>y.elim .inl False.elim,λz=>z.elim (λy=>.inr (.inl y)) λy=>.inl y.2⟩⟩
  clear hX;have gi:vM BP (.pick k1 k2 k3):=⟨W.ok,W.gs,XI,X6,szX⟩
  obtain ⟨b,hb,_⟩:=jX nh (gX (λp hp=>hp) (.pick k1 k2 k3) XI);obtain ⟨nn,os,eS,eL,wk,sk⟩:=skX b hb;have l5:nn.length<=500:=by have:=gZ W.ok.ok 8 _ b.2 _ eS;rw [tB] at this;omega
  have VN:=yg (λp hp=>jC p (W.sb p hp)) XI eS (by omega);obtain ⟨nf,r3,er⟩:=BG wk;have ec:(nn++[0]).map D.int=nn.map D.int++[D.int 0]:=by simp
  refine fQ (K:=K) (fK (R:=kG) (fO (aA (k:=5) dX) (eY (bA (k:=2) hB) cK)) ⟨BP,_,b,_,rfl,gi,W.la,hb,eS,rfl⟩) λl6 y6 H6 hl6 s6 hy6 dy6=>?_;rw [<- ec] at dy6;have LC:LD K H6 (cD (nn++[0])) (.ref l6):=LD.of hy6 dy6;have y6e:=oH dy6;subst y6e;have nl6:l6≠t:=Nz (aQ tG hl6);have dX6:=s6.dat dX;have hB6:=s6.ld hB;have lc6:(cD (nn++[0])).length=nn.length+1:=by simp
  refine aO (K:=K) (b:=false) (RT.as (eR (b:=false) (c:=false) (RT.as (aK (jl (fP (bA (k:=6) LC)) (dO (cU (R:=gu 8) (d:=.int b.1) (fO (aA (k:=5) dX6) (eY (bA (k:=2) hB6) cK)) ⟨BP,_,rfl,W.ok,XI,X6,by decide,by rw [hb];rfl⟩) aG))) (by rw [lc6,M5 (by omega)];rfl)) λ_=>RT.as (aK (jl (cU (R:=rZ) (d:=.int b.1) (fO (aA (k:=5) dX6) (eY (bA (k:=2) hB6) cK)) ⟨BP,_,b,rfl,W.gs,W.ok,XI,X6,szX,hb,rfl⟩) (kS (fP (bA (k:=6) LC)) aG))) (by rw [lc6,M5 (by omega)];rfl)) rfl) (λc=>nomatch c) (λ_ H7 s7=>?_)
  have lr:(nj (nn++[0])).length<=1000:=by have:=Nq List.length er;rw [tB,tB,MQ] at this;have wl:=(wk (nn++[0]) [] [0] rfl).le;simp at wl this;omega
  refine fQ (K:=K) (DO (ky (zW (k:=6) VN nf (s7.ld LC))) lr rfl r3) λl7 y7 H8 hl7 s8 hy7 d7=>?_;have LN:LD K H8 ((os++[0]).map λc=>D.str (Tt c)) (.ref l7):=LD.of hy7 (by rw [<- er];exact d7);have s68:=s6.trans (s7.trans s8);refine dR (K:=K) (d:=.bl (decide (zL.1<=9))) (d9 (p:=λi j=>decide (i<=j)) (cU (R:=gu 8) (d:=.int zL.1) (fO (aA (k:=4) (s68.dat dL)) (eY (bA (k:=2) (s68.ld hB)) cK)) ⟨BP,L,rfl,W.ok,fL.1,by omega,by decide,by rw [hzL];rfl⟩) aG) λv8 H9 s9 q8=>?_;have s69:=s68.trans s9;have fl:=Ab (os++[0]);refine aO (K:=K) (b:=false) (RT.as (aK (F8 (RE.as (F6 (neg:=false) aZ (bA (k:=7) (s9.ld LN)) fl.1 rfl fl.2) (Nq D.bl Cc)) (vn (aA (k:=8) q8) λ_=>eF (DS (a6 (k:=1) (aA (k:=5) (s69.dat dX)) aG rfl) (bY (aD aZ (aD aG aP))) (gF k1) rfl (by rw [hV];simp only [aS] at X6;omega)) λ_=>d9 (p:=λi j=>decide (i<=j)) (cU (R:=gu 8) (d:=.int z3.1) (fO (a6 (k:=3) (aA (k:=5) (s69.dat dX)) aG rfl) (eY (bA (k:=2) (s69.ld hB)) cK)) ⟨BP,k3,rfl,W.ok,ok3,dp3,by decide,by rw [hz3];rfl⟩) aG))) ?_) (λc=>nomatch c) (λ_ H10 s10=>?_)
  ·have e:decide ((8:Int) ∈ os)=(decide (zL.1<=9) || (Qs (toD k1) (.tup [.str "arg",.int 1]) && decide (z3.1<=9))):=by
    rw [etb,O7];simp [sk]
   rw [e,M5 rfl];rfl
  have told:∀ {σ:L2.St} {G:Hp} {tA:TA} {E:XK} {vg:V} {as:List Int},G l6=some (.lst ((nn++[0]).map V.int))->Dat K G (.tup (as.map D.int)) vg->argsOk as 10->(∀ H1 Q,Q [V.ref l6,vg,V.int 10,V.int 1000] H1->tA σ H1 Q)->RE K (jV (xl K) [] E tA) σ G (.tup [.str "ends",.int (bN as 10 (.pick k1 k2 k3))]):=λ{σ G tA E vg as} hc hg ha hA H1 s Q q =>
   hA H1 _ ⟨l6,vg,⟨nn++[0],as,10⟩,1000,_,rfl,⟨VN,ha.1,ha.2.1,ha.2.2.1,ha.2.2.2⟩,s _ _ hc,s.dat hg,by decide,by decide,yh (mc:=⟨nn++[0],as,10⟩) ⟨ha.1,ha.2.1,ha.2.2.1⟩ (λp hp=>⟨(jC p (W.sb p hp)).nh,(jC p (W.sb p hp)).pg,(jC p (W.sb p hp)).hl⟩) XI X6 eS ec (by show (nn++[0]).length<=1000;rw [MQ];show nn.length+1<=1000;omega),λu H' s' d=>q u H' s' d⟩
  have XJ:=s69.trans s10;have h610:H10 l6=some (.lst ((nn++[0]).map V.int)):=(s7.trans (s8.trans (s9.trans s10))) _ _ hy6;have t10:=XJ _ _ tG;have dX10:=XJ.dat dX;have sc10:=(hS2.but btG t2).same XJ;have hB10:=XJ.ld hB;refine eA (RE.use (K:=K) (d:=.tup [.int 0,.int 1]) (bY (aD aG (aD aG aP))) λva H11 ZH qa=>?_);obtain ⟨ta,xa,rfl,hxa,dxa⟩:=qa.Qw;obtain ⟨n0,n1,rfl,e0,e1⟩:=gb dxa;obtain rfl:=e0.Qk;obtain rfl:=e1.Qk;have YB:=ZH _ _ t10;have h611:=ZH _ _ h610;have YC:=sc10.same ZH;have dX11:=ZH.dat dX10;have hB11:=ZH.ld hB10
  have XE:∀ {i:Nat} {x:V},([V.int 0,V.int 1]:List V)[i]?=some x->∃ n:Int,x=.int n/\0<=n/\n < 10:=λ{i x} h=>by
   have:=Nn h;simp only [Na,Ny,NX] at this;rcases this with rfl | rfl
   ·exact ⟨0,rfl,by decide,by decide⟩
   ·exact ⟨1,rfl,by decide,by decide⟩
  refine ⟨ta,rfl,⟨_,hxa⟩,lB (xs:=[.int 0,.int 1]) (λ_ σ G2=>∃ (z9 XM V1:Option V) (p q:Int),σ=[some (.ref a),some (.ref t),some (.ref l2),some v3,some v4,some v5,some (.ref l6),some (.ref l7),some v8,z9,XM,V1,none,none]/\QY t H11 G2/\G2 t=some (.lst [.int p,.int q,.int 0])/\0<=p) ⟨none,none,none,p,q,rfl,(Qh.refl _).but,YB,gp⟩ (λi σ G2 _ ⟨_,_,_,_,_,_,b,_⟩=>b.VW YB hxa) ?_ ?_⟩
  ·rintro i x σ G2 hx ⟨z9,XM,V1,p2,q2,rfl,b2,ZI,g2⟩;obtain ⟨n,rfl,n0,WM⟩:=XE hx;refine iJ ?_;dsimp only;refine RE.use (K:=K) (d:=.tup [.int 0,.int 1]) (bY (aD aG (aD aG aP))) λvb H12 s12 qb=>?_;obtain ⟨tb',xb,rfl,hxb,dxb⟩:=qb.Qw;obtain ⟨m0,m1,rfl,e0,e1⟩:=gb dxb;obtain rfl:=e0.Qk;obtain rfl:=e1.Qk;have Xg:=s12 _ _ ZI;refine ⟨tb',rfl,⟨_,hxb⟩,lB (xs:=[.int 0,.int 1]) (λ_ σ G3=>∃ (XM V1:Option V) (p q:Int),σ=[some (.ref a),some (.ref t),some (.ref l2),some v3,some v4,some v5,some (.ref l6),some (.ref l7),some v8,some (.int n),XM,V1,none,none]/\QY t H12 G3/\G3 t=some (.lst [.int p,.int q,.int 0])/\0<=p) ⟨XM,V1,p2,q2,rfl,(Qh.refl _).but,Xg,g2⟩ (λi σ G3 _ ⟨_,_,_,_,_,b,_⟩=>b.VW Xg hxb) ?_ ?_⟩
   ·rintro j y σ G3 hy ⟨XM,V1,p3,q3,rfl,b3,t3,g3⟩;obtain ⟨o,rfl,o0,o10⟩:=XE hy;have bG3:=(b2.trans s12.but).trans b3;refine iJ ?_;dsimp only;refine fw ⟨_,rfl,_,rfl,_,rfl,_,rfl,a,t,ns,10,p3,q3,[.int 0],rfl,YC.but bG3 YB,t3,g3,by decide,by decide,λr1 G4 p4' q4' b4 t4' g4' r10 r11=>⟨_,rfl,_,rfl,a,t,ns,10,p4',q4',[.int 0],rfl,(YC.but bG3 YB).but b4 t3,t4',g4',by decide,by decide,λr2 G5 p5 q5 b5 t5' g5 r20 r21=>⟨d8 (by simp),λu hu=>?_⟩⟩⟩;have su:Qh G5 (upd G5 u (.tup [.int n,.int o,.int r1,.int r2])):=aV hu _;have bG5:=(bG3.trans b4).trans b5;have bU:=bG5.trans su.but;have tU:=su _ _ t5';have dA:Dat K (upd G5 u (.tup [.int n,.int o,.int r1,.int r2])) (.tup (([n,o,r1,r2]:List Int).map D.int)) (.ref u):=Dat.tupI (QH.of aI) (gm [n,o,r1,r2])
    have ha:argsOk [n,o,r1,r2] 10:=⟨rfl,λx hx=>by
     simp only [Na,Ny,NX] at hx;rcases hx with rfl | rfl | rfl | rfl <;> omega,by decide,by decide⟩
    have dXU:=Dat.mono (bU.grow YB tU) _ dX11;have h6U:=bU l6 _ nl6 h611;refine g9 (b:=false) (RT.as (aK (yA (K:=K) (d:=.tup [.str "ends",.int (bN [n,o,r1,r2] 10 (.pick k1 k2 k3))]) (e:=.tup [.str "ends",.int (bN [n,o,r1,r2] 10 (.pick k1 k2 k3))]) (told h6U dA ha (λ_ _ q=>⟨_,rfl,_,rfl,q⟩)) (bY (aD aZ (aD (bF (R:=jA 8) (aD (aA (k:=5) dXU) (aD (aA (k:=11) dA) (aD aG aP))) ⟨_,_,10,rfl,XI,X6,ha,rfl⟩) aP))) rfl rfl (show 1<=20 by decide))) (by rw [iz _ rfl];rfl)) (λc=>nomatch c) (λ_ G6 s6'=>iK ⟨_,_,p5,q5,rfl,((b3.trans b4).trans b5).trans (su.trans s6').but,s6' _ _ tU,g5⟩)
   ·rintro σ G3 ⟨XM,V1,p3,q3,rfl,b3,t3,g3⟩;exact ⟨_,_,_,p3,q3,rfl,(b2.trans s12.but).trans b3,t3,g3⟩
  rintro σ G2 ⟨z9,XM,V1,p2,q2,rfl,b2,ZI,g2⟩;dsimp only;have hB2:=LD.but hB11 nv2 b2 YB ZI;have sc2:=YC.but b2 YB;refine fQ (K:=K) (es:=[Xd,X4].map SI) (jk (aD (bY (aD aZ (aD (bY (aD aZ (aD aG aP))) (aD (DR (bY (aD aG (aD (bY (aD aZ (aD aG aP))) aP))) (B6 (bY (aD aG (aD aG aP)))) (by decide)) aP)))) (aD (gB (k:=4) (bA (k:=2) hB2) aG rfl) aP))) λl12 y12 H12 ZJ s12 hy12 d12=>?_;have hW:LD K H12 ([Xd,X4].map SI) (.ref l12):=LD.of hy12 d12;have Xg:=s12 _ _ ZI;have sc12:=sc2.same s12;have nv12:V.ref l12≠.ref t:=λz=>by injection z with z;rw [z,ZI] at ZJ;cases ZJ
  refine eA ?_
  refine pK 2 (λR hR=>hR) (by decide) rfl
   (λl i G'=>∃ (zs:List V) (p' q':Int),QY t H12 G'/\G' t=some (.lst [.int p',.int q',.int 0])/\0<=p'/\G' l=some (.lst zs)/\Hm K gT i G' zs) (λl hl=>?_) (λl i G' hl hi pn=>?_) (λl G' hl pn=>?_)
  ·exact ⟨[],p2,q2,(aV hl _).but,(aV hl _) _ _ Xg,g2,aI,[],rfl,(λx hx=>by cases hx),Qf.nil⟩
  ·obtain ⟨zs,p',q',bt',tt',gp',hl',Ts,lT,YA,dT⟩:=pn;have nl:l≠t:=λz=>by rw [z,Xg] at hl;cases hl
   refine ⟨_,rfl,_,rfl,a,t,ns,10,p',q',[.int 0],rfl,sc12.but bt' Xg,tt',gp',by decide,by decide,λr H3 p3 q3 b3 t3 g3 r0 r1=>⟨1,r,rfl,rfl,?_⟩⟩;refine ⟨[.int (1+r)],toD (Vs 10 (1+r).toNat),Qf.cons (Dat.Qm _) Qf.nil,⟨(1+r).toNat,by rw [Int.toNat_of_nonneg (by omega)],by omega,by omega,rfl⟩,λv H4 s4 dX=>?_⟩;have bt4:=(bt'.trans b3).trans s4.but;have t4:=s4 _ _ t3;have V9:=s4 _ _ (b3 l _ nl hl');have ll:=dT.length;rw [tB] at ll;have g34:gW K G' H4:=(b3.trans s4.but).grow tt' t4;have b5:QY l H4 (upd H4 l (.lst (zs++[v]))):=QY.upd (Qh.refl _).but;have g5:=b5.grow (K:=K) V9 aI;refine ⟨zs,V9,dH (by omega),⟨_,rfl⟩,zs++[v],p3,q3,?_,?_,g3,aI,Ts++[Vs 10 (1+r).toNat],by rw [MQ,lT];rfl,λx hx=>?_,?_⟩
   ·intro c o hc hco;rw [aR (aQ hco hl)];exact bt4 c o hc hco
   ·rw [aR (Nz nl)];exact t4
   ·rcases Nh.mp hx with hx | hx
    ·exact YA x hx
    ·exact ⟨(1+r).toNat,by omega,by omega,Nf.mp hx⟩
   ·rw [Nl];exact Qf.append (Qf.mono g5 _ (Qf.mono g34 _ dT)) (Qf.cons (Dat.mono g5 _ dX) Qf.nil)
  obtain ⟨zs,p4',q4',bt',t4',g4',hl4',Ts,lT,Wg,dT⟩:=pn;obtain ⟨A1,A2,rfl⟩:∃ A1 A2,Ts=[A1,A2]:=by match Ts,lT with | [A1,A2],_=>exact ⟨A1,A2,rfl⟩
  obtain ⟨m1,hm1,h1m,rfl⟩:=Wg A1 (by simp);obtain ⟨m2,hm2,h2m,rfl⟩:=Wg A2 (by simp);clear Wg lT;have L13:LD K G' ([Vs 10 m1,Vs 10 m2].map toD) (.ref l):=LD.of hl4' dT;have hW4:=LD.but hW nv12 bt' Xg t4';have c1:=qQ 10 m1;have c2:=qQ 10 m2;have z1:=ur m1 hm1 h1m;have z2:=ur m2 hm2 h2m;generalize Vs 10 m1=A1 at L13 c1 z1 dT;generalize Vs 10 m2=A2 at L13 c2 z2 dT;dsimp only;refine dR (K:=K) (d:=toD (.pick (.arg 0) A1 A2)) (bY (aD aZ (aD (bY (aD aZ (aD aG aP))) (aD (gB (k:=0) (bA (k:=13) L13) aG rfl) (aD (gB (k:=1) (bA (k:=13) L13) aG rfl) aP))))) λw5 H5' s5' d5'=>?_;have W2:=GF;have Xh:RI (.pick (.arg 0) A1 A2):=⟨⟨by decide,by decide⟩,c1.2,c2.2⟩
  have Xi:aS (.pick (.arg 0) A1 A2)<=8:=by simp only [aS];omega
  have szX2:a8 (.pick (.arg 0) A1 A2)<=40:=by simp only [a8];omega
  have gi2:vM [Xd,X4] (.pick (.arg 0) A1 A2):=⟨W2.ok,W2.gs,Xh,Xi,szX2⟩
  obtain ⟨e1,he1⟩:=oy A1 c1.1;obtain ⟨e2,he2⟩:=oy A2 c2.1;obtain ⟨e0,Z5⟩:=oy (.arg 0) trivial;obtain ⟨b',hb',_⟩:=jX (λp hp=>(W2.ok.ok p hp).nh) (t:=.pick (.arg 0) A1 A2) ⟨_,VI.intro (w:=⟨"pick",[],[.arg 0,A1,A2]⟩) (by rw [qi];exact Nf.mpr rfl) (.cons Z5 (.cons he1 (.cons he2 .nil)))⟩;obtain ⟨es',ZK,eL'⟩:=E3 W2.ok W2.la Xi hb';obtain ⟨mm,_,rfl,_⟩:=ip (λp hp=>⟨12,qL p (W2.sb p hp)⟩) 8 _ b'.2 es' ZK;rw [tB] at eL';have l5':mm.length<=500:=by have:=gZ W2.ok.ok 8 _ b'.2 _ ZK;rw [tB] at this;omega
  have okc':=yg (λp hp=>jC p (W2.sb p hp)) Xh ZK (by omega);have ec':(mm++[0]).map D.int=mm.map D.int++[D.int 0]:=by simp
  refine fQ (K:=K) (fK (R:=kG) (fO (aA (k:=5) d5') (eY (bA (k:=12) (s5'.ld hW4)) cK)) ⟨[Xd,X4],_,b',_,rfl,gi2,W2.la,hb',ZK,rfl⟩) λl9 y9 H9' hl9 s9' hy9 dy9=>?_;rw [<- ec'] at dy9;have LC':LD K H9' (cD (mm++[0])) (.ref l9):=LD.of hy9 dy9;have y9e:=oH dy9;subst y9e;have lc9:(cD (mm++[0])).length=mm.length+1:=by simp
  refine aO (K:=K) (b:=false) (RT.as (aK (jl (fP (bA (k:=6) LC')) (dO (cU (R:=gu 8) (d:=.int b'.1) (fO (aA (k:=5) (s9'.dat d5')) (eY (bA (k:=12) ((s5'.trans s9').ld hW4)) cK)) ⟨[Xd,X4],_,rfl,W2.ok,Xh,Xi,by decide,by rw [hb'];rfl⟩) aG))) (by rw [lc9,M5 (by omega)];rfl)) (λc=>nomatch c) (λ_ H13 QV=>?_);have h913:=QV _ _ hy9;have d513:=(s9'.trans QV).dat d5';refine eA (RE.use (K:=K) (d:=.tup [.int 0,.int 3]) (bY (aD aG (aD aG aP))) λva H14 RJ qa=>?_);obtain ⟨tc,xc,rfl,hxc,dxc⟩:=qa.Qw;obtain ⟨n0,n1,rfl,e0,e1⟩:=gb dxc;obtain rfl:=e0.Qk;obtain rfl:=e1.Qk;have h914:=RJ _ _ h913;have d514:=RJ.dat d513;refine ⟨tc,rfl,⟨_,hxc⟩,lB (xs:=[.int 0,.int 3]) (λ_ σ G5=>∃ (z9 V1:Option V),σ=[some (.ref a),some (.ref t),some (.ref l2),some v3,some v4,some w5,some (.ref l9),some (.ref l7),some v8,z9,XM,V1,some (.ref l12),some (.ref l)]/\Qh H14 G5) ⟨z9,V1,rfl,Qh.refl _⟩ (λi σ G5 _ ⟨_,_,_,s⟩=>s.VW hxc) ?_ ?_⟩
  ·rintro i x σ G5 hx ⟨z9,V1,rfl,sG5⟩
   obtain ⟨n,rfl,n0,WM⟩:∃ n:Int,x=.int n/\0<=n/\n < 10:=by
    have:=Nn hx;simp only [Na,Ny,NX] at this;rcases this with rfl | rfl
    ·exact ⟨0,rfl,by decide,by decide⟩
    ·exact ⟨3,rfl,by decide,by decide⟩
   refine iJ ?_;dsimp only;refine dR (K:=K) (d:=.tup (([n,5,1,2]:List Int).map D.int)) (bY (aD (aA (k:=9) (Dat.Qm n)) (aD aG (aD aG (aD aG aP))))) λvg H15 Wv dA=>?_
   have ha:argsOk [n,5,1,2] 10:=⟨rfl,λx hx=>by
    simp only [Na,Ny,NX] at hx;rcases hx with rfl | rfl | rfl | rfl <;> omega,by decide,by decide⟩
   have YD:=sG5.trans Wv;have run':=yh (mc:=⟨mm++[0],[n,5,1,2],10⟩) ⟨ha.1,ha.2.1,ha.2.2.1⟩ (λp hp=>⟨(jC p (W2.sb p hp)).nh,(jC p (W2.sb p hp)).pg,(jC p (W2.sb p hp)).hl⟩) Xh Xi ZK ec' (N:=1000) (by show (mm++[0]).length<=1000;rw [MQ];show mm.length+1<=1000;omega);refine g9 (b:=false) (RT.as (aK (yA (K:=K) (d:=.tup [.str "ends",.int (bN [n,5,1,2] 10 (.pick (.arg 0) A1 A2))]) (e:=.tup [.str "ends",.int (bN [n,5,1,2] 10 (.pick (.arg 0) A1 A2))]) (λH1 s Q q=>⟨_,rfl,_,rfl,l9,vg,⟨mm++[0],[n,5,1,2],10⟩,1000,_,rfl,⟨okc',ha.1,ha.2.1,ha.2.2.1,ha.2.2.2⟩,s _ _ (YD _ _ h914),s.dat dA,by decide,by decide,run',λu H' s' d=>q u H' s' d⟩) (bY (aD aZ (aD (bF (R:=jA 8) (aD (aA (k:=5) (YD.dat d514)) (aD (aA (k:=11) dA) (aD aG aP))) ⟨_,_,10,rfl,Xh,Xi,ha,rfl⟩) aP))) rfl rfl (show 1<=20 by decide))) (by rw [iz _ rfl];rfl)) (λc=>nomatch c) (λ_ H16 VO=>iK ⟨_,_,rfl,YD.trans VO⟩)
  rintro σ G5 ⟨z9,V1,rfl,_⟩;exact post G5
 ·refine ⟨_,rfl,_,rfl,a,t,ns,2,p4,q4,[.int 0],rfl,hS2.but bt5 t2,t5,g4,by decide,by decide,λr4 G4 p6 q6 b6 t6 g6 r4a r4b=>?_⟩;refine ⟨rfl,_,rfl,?_⟩;have gr:gW K H5 G4:=b6.grow t5 t6;have d5:=Dat.mono gr _ d5;have d4:=Dat.mono gr _ d4;refine Bc (λc=>?_) (λc=>iK (rest _ _ ⟨v5,_,p6,q6,rfl,bt5.trans b6,t6,g6,d5,d4,.inl rfl⟩));refine B8 (K:=K) (d:=toD (.pick (.arg 1) (.num 3) (.pick (.arg 0) F L))) (bY (aD aZ (aD (bY (aD aZ (aD aG aP))) (aD (bY (aD aZ (aD aG aP))) (aD (aA (k:=5) d5) aP))))) λv H' s d=>rest _ _ ⟨v,_,p6,q6,rfl,(bt5.trans b6).trans s.but,s _ _ t6,g6,d,s.dat d4,.inr rfl⟩
end
end My
end
namespace My
open PySem L2 PyProof.Rows
section
variable {P:Program} {w:World} {K:W.Frag} {mg:Str->Option Value} {base:Heap} {k:Nat}
theorem zC (vs:List V) (H:Hp) (Q:VK) (E:XK):¬ lZ K (jz 0) vs H Q E:=λ⟨ds,es,_,⟨x,k,_,_,h,_⟩,_⟩=>nomatch h
theorem Bq (vs:List V) (H:Hp) (Q:VK) (E:XK):¬ QF K (Ej 0) vs H Q E:=λ⟨ds,es,_,h,_⟩=>h
theorem zD (vs:List V) (H:Hp) (Q:VK) (E:XK):¬ lZ K (me 0) vs H Q E:=λ⟨ds,es,_,⟨t,_,_,h,_⟩,_⟩=>by have:=iX t;omega
theorem zB (vs:List V) (H:Hp) (Q:VK) (E:XK):¬ UJ K (gu 0) vs H Q E:=λ⟨as,d,_,h,_⟩=>zA as d h
theorem Bp (vs:List V) (H:Hp) (Q:VK) (E:XK):¬ jT K (jy 0) vs H Q E:=λ⟨as,es,_,⟨ps,t,c,_,_,_,_,h,_⟩,_⟩=>by
 have:1<=aS t:=by cases t <;> simp [aS]
 omega
theorem Br (vs:List V) (H:Hp) (Q:VK) (E:XK):¬ QF K (jA 0) vs H Q E:=λ⟨ds,es,_,⟨t,_,_,_,_,h,_⟩,_⟩=>by have:=iX t;omega
theorem FA (vs:List V) (H:Hp) (Q:VK) (E:XK):¬ QF K (kF 0) vs H Q E:=λ⟨ds,es,_,⟨m,_,h1,h2,_⟩,_⟩=>by omega
theorem chain (T:Txt P w K mg):Ok P w base 25 T.L6 (vB K):=by
 have w1:=uV (P:=P) (w:=w) (base:=base) (k:=0) T;have g1:=sV (P:=P) (w:=w) (base:=base) (k:=0) T;have n2:=wI (k:=1) T g1 w1;have wi:=nN (P:=P) (w:=w) (base:=base) (k:=0) T;have it:=wJ (k:=2) T n2 (wi.mono (by decide));have nt:=tu (k:=3) T it
 have wk:∀ n:Nat,Ok P w base (n+1) T.Ko (lZ K (me n)):=by
  intro n
  induction n with
  | zero=>exact gx zD
  | succ n ih=>exact zK (k:=n+1) T (wi.mono (by omega)) ih
 have nm:=wH (P:=P) (w:=w) (base:=base) (k:=0) T;have mk:=wG (k:=1) T g1 w1
 have pp:∀ n:Nat,Ok P w base (n+3) T.Ia (QF K (Yq n)):=by
  intro n
  induction n with
  | zero=>exact iC (k:=2) (n:=0) T mk n2 (wi.mono (by decide)) (gx Bq)
  | succ n ih=>exact iC (k:=n+3) (n:=n+1) T (mk.mono (by omega)) (n2.mono (by omega)) (wi.mono (by omega)) ih
 have ma:∀ n:Nat,Ok P w base (n+1) T.IT (lZ K (jz n)):=by
  intro n
  induction n with
  | zero=>exact gx zC
  | succ n ih=>exact uW (k:=n+1) T (wi.mono (by omega)) ih
 have nu:=pA (k:=4) T (ma 3);have pa:=qB (k:=6) T (pp 3) (nu.mono (by decide));have fi:=qA (k:=4) T (g1.mono (by decide)) (ma 3) (w1.mono (by decide));have ce:=wD (k:=5) T (w1.mono (by decide)) fi;have ins:=lI (P:=P) (w:=w) (base:=base) (k:=0) T;have ai:=kj (k:=6) T (w1.mono (by decide)) (ins.mono (by decide)) ce;have pc:=uU (k:=7) T (nm.mono (by decide)) pa ai;have ms:=mJ (P:=P) (w:=w) (base:=base) (k:=0) T
 have mt:∀ n:Nat,Ok P w base (n+1) T.Jw (kE K oD n):=by
  intro n
  induction n with
  | zero=>exact gx yi
  | succ n ih=>exact wK (k:=n+1) T (ms.mono (by omega)) ih
 have fo:=uT (k:=4) T (mt 3)
 have lf:∀ n:Nat,Ok P w base n T.Jd (kE K oL n):=by
  intro n
  induction n with
  | zero=>exact gx yi
  | succ n ih=>exact uR (k:=n) T ih
 have jo:=sW (P:=P) (w:=w) (base:=base) (k:=0) T;have jp:=mI (k:=1) T jo;have wo:=wM (k:=5) T fo;have lb:=sY (k:=2) T jp;have bw:=nM (k:=6) T wo (lb.mono (by decide));have bc:=mH (k:=9) T (wk 8) (bw.mono (by decide));have st:=zH (k:=9) T (pc.mono (by decide));have ns:=uX (k:=10) T st;have lo:=sZ (k:=11) T (nt.mono (by decide)) ns (bc.mono (by decide));have fc:=pw (P:=P) (w:=w) (base:=base) (k:=0) T
 have lc:∀ n:Nat,Ok P w base (2 * n+6) T.Ik (jT K (jy n)):=by
  intro n
  induction n with
  | zero=>exact gx Bp
  | succ n ih =>have pk:=sX (k:=2 * n+6) T ih (jp.mono (by omega));have pp:=qD (k:=2 * n+6) T ih (fo.mono (by omega)) (fc.mono (by omega));exact qC (k:=2 * n+7) T pk pp
 have co:=wC (k:=22) T (bc.mono (by decide)) (lc 8);have ly:=FD (k:=23) T (nt.mono (by decide)) (ns.mono (by decide)) co;have ov:=sT (P:=P) (w:=w) (base:=base) (k:=0) T
 have le:∀ n:Nat,Ok P w base (n+3) T.HY (UJ K (gu n)):=by
  intro n
  induction n with
  | zero=>exact gx zB
  | succ n ih=>exact qy (k:=n+3) T ih (ov.mono (by omega)) ((lf 3).mono (by omega))
 have dr:=sR (P:=P) (w:=w) (base:=base) (k:=0) T;have ltw:=uS (P:=P) (w:=w) (base:=base) (k:=0) T
 have lw:∀ n:Nat,Ok P w base (n+1) T.HZ (QF K (jA n)):=by
  intro n
  induction n with
  | zero=>exact gx Br
  | succ n ih=>exact qz (k:=n+1) T (ltw.mono (by omega)) ih
 have lch:∀ n:Nat,Ok P w base (n+1) T.Iz (QF K (kF n)):=by
  intro n
  induction n with
  | zero=>exact gx FA
  | succ n ih=>exact qx (k:=n+1) T ih
 have lg:=sS (k:=1) T dr;have mns:=tq (k:=1) T w1;have mna:=tj (k:=1) T w1;have mwb:=mK (P:=P) (w:=w) (base:=base) (k:=0) T;have mic:=wF (k:=1) T w1;have mnc:=tm (k:=2) T mic;have mia:=kO (P:=P) (w:=w) (base:=base) (k:=0) T;have mnt:=pB (P:=P) (w:=w) (base:=base) (k:=0) T;have mmi:=ki (P:=P) (w:=w) (base:=base) (k:=0) T;have mtk:=nL (P:=P) (w:=w) (base:=base) (k:=0) T;have mpu:=nJ (P:=P) (w:=w) (base:=base) (k:=0) T;have mfn:=lH (P:=P) (w:=w) (base:=base) (k:=0) T;have mwy:=pq (k:=1) T mtk;have mch:=lG (k:=1) T mtk mpu mwb;have mst:=nK (k:=2) T (mia.mono (by decide)) (mnt.mono (by decide)) mwy (mfn.mono (by decide)) mch;have msd:=wL (k:=2) T mnc (mns.mono (by decide)) (mna.mono (by decide)) (w1.mono (by decide)) (mmi.mono (by decide));have mrn:=FE (k:=4) T msd (mst.mono (by decide));have mli:=zJ (k:=3) T mnc (mia.mono (by decide));have lto:=sU (k:=5) T mrn;exact FC (k:=24) T (dr.mono (by decide)) (lg.mono (by decide)) ly (lo.mono (by decide)) ((le 8).mono (by decide)) (mli.mono (by decide)) (lto.mono (by decide)) ((lw 8).mono (by decide)) ((lch 10).mono (by decide))
end
noncomputable def ZL {K:W.Frag} {h:Heap} {mg:Str->Option Value} {n:Str} {st:Stmt} {ps:List Str} {f:Addr} {oc:Value} {od an:Option Addr} {osl:Array (Option Value)} {kV doc pm cdv ct:Value} (X:K.In h) (G:h.Ns mainGlobals mg) (a:W.nsIn K mainGlobals n=some (some (.ref f))) (l:K.lookup f=some ⟨oc,od,.func (W.fnOf n n (cW st) (cM st) (aJ st) .none kV doc pm an cdv ct),osl⟩) (c:W.codeIn K cdv n=true) (k:W.keepIn K (.ref f)=true)
  (hb:∀ us:List Value,us.length=ps.length->bindArgs (W.fnOf n n (cW st) (cM st) (aJ st) .none kV doc pm an cdv ct) ⟨us,[]⟩=pure (ps.zip us)):Df K mg n st ps:=⟨f,_,je l c k,W.mg_of X G a,.all hb⟩
noncomputable abbrev NsD (K:W.Frag) (n:Str) (f:Addr):Prop:=W.nsIn K mainGlobals n=some (some (.ref f))
noncomputable abbrev LkD (K:W.Frag) (n:Str) (st:Stmt) (f:Addr) (oc:Value) (od:Option Addr) (sl:Array (Option Value)) (kV dc pm:Value) (an:Option Addr) (cd ct:Value):Prop:=K.lookup f=some ⟨oc,od,.func (W.fnOf n n (cW st) (cM st) (aJ st) .none kV dc pm an cd ct),sl⟩
variable {l:W.OpenLaw}
theorem all_mk {w:World} {K:W.Frag} {h:Heap} {mg:Str->Option Value} {fa:Addr} (X:K.In h) (G:h.Ns mainGlobals mg) (WG:mg "law"=some (.ref fa)) (DD:Dfs K mg) {v37:Addr} {q37:Tok} {vc37:Value} {vd37:Option Addr} {vs37:Array (Option Value)} {vn37:Nat} {f37 f44:Addr} {od37 od44 ZM an44:Option Addr} {sl37 sl44:Array (Option Value)} {oc37 oc44 ZN kV44 ZO dc44 ZP pm44 YE ZQ ZR ct44:Value} {HQ:Addr} {Qv:Addr} {TN Ry:Option Addr} {TQ:Array (Option Value)} {TR Rz RD RG QW RH:Value} {QJ:Addr} {UM SK:Option Addr} {UN:Array (Option Value)} {UO SM SN SO Rt SQ:Value} {QK:Addr} {UP SR:Option Addr} {UQ:Array (Option Value)} {UR SV SW SX Ru SY:Value} {QX:Addr} {U7 Tg:Option Addr} {U8:Array (Option Value)} {U9 Th Ti Tj RM Tn:Value} {Qz:Addr} {Uc R9:Option Addr} {Ud:Array (Option Value)} {Ue Sa Sb Sd Rc Se:Value} {QA:Addr} {Ug Sf:Option Addr} {Uh:Array (Option Value)} {Ui Sg Sh Si Rf Sj:Value} {QL:Addr} {US S0:Option Addr} {UT:Array (Option Value)} {UU S1 S2 S3 Rv S4:Value} {JF:Tok} {JY:Tok} {Jc:Tok} {JX:Tok} {Ij:Tok} {Kn:Tok} {Iv:Tok} {Jl:Tok} {J0:Tok} {JD:Tok} {L5:Tok} {Ly:Tok} {JE:Tok} {JW:Tok} {J2:Tok} {JG:Tok} {J1:Tok} {JZ:Tok} {Kg:Addr} {JB:Addr} {IG:Addr} {Kx:Addr} {KI:Addr} {Kf:Addr} {K5:Addr} {LM:Addr} {Lx:Addr} {Ma:Addr} {LO:Addr} {Va:Obj}
  (a37:NsD K "need_size" f37) (l37:K.lookup f37=some ⟨oc37,od37,.func (W.fnOf "need_size" "need_size" (cW fm) (cM fm) (aJ fm) (.ref v37) ZN ZO ZP ZM YE ZR),sl37⟩) (c37:W.codeIn K YE "need_size"=true) (k37:W.keepIn K (.ref f37)=true)
  (a44:NsD K "run" f44) (l44:LkD K "run" yG f44 oc44 od44 sl44 kV44 dc44 pm44 an44 ZQ ct44) (c44:W.codeIn K ZQ "run"=true) (k44:W.keepIn K (.ref f44)=true)
  (e37:K.lookup v37=some ⟨vc37,vd37,.seq #[.int 10000 q37] vn37,vs37⟩)
  (Kc:W.nsIn K mainGlobals "Machine"=some (some (.ref HQ)))
  (Q3:W.findIn K (.ref HQ) "__init__"=some (some (.ref Qv))) (Q4:K.lookup Qv=some ⟨TR,TN,.func (W.fnOf "__init__" "Machine.__init__" (cW bZ) (cM bZ) (aJ bZ) .none Rz RD RG Ry QW RH),TQ⟩) (Q5:W.codeIn K QW "Machine.__init__"=true) (Q6:W.keepIn K (.ref Qv)=true) (Q7:W.isFn K (.ref Qv)=true)
  (Uj:W.makesIn K HQ=true) (Uk:W.keepIn K (.ref HQ)=true)
  (RN:W.findIn K (.ref HQ) "take"=some (some (.ref QJ))) (RO:K.lookup QJ=some ⟨UO,UM,.func (W.fnOf "take" "Machine.take" (cW dD) (cM dD) (aJ dD) .none SM SN SO SK Rt SQ),UN⟩) (RP:W.codeIn K Rt "Machine.take"=true) (Q9:W.keepIn K (.ref QJ)=true) (RQ:W.isFn K (.ref QJ)=true)
  (RS:W.findIn K (.ref HQ) "push"=some (some (.ref QK))) (RU:K.lookup QK=some ⟨UR,UP,.func (W.fnOf "push" "Machine.push" (cW dB) (cM dB) (aJ dB) .none SV SW SX SR Ru SY),UQ⟩) (RV:W.codeIn K Ru "Machine.push"=true) (Ra:W.keepIn K (.ref QK)=true) (RW:W.isFn K (.ref QK)=true)
  (Sk:W.findIn K (.ref HQ) "way"=some (some (.ref QX))) (Sl:K.lookup QX=some ⟨U9,U7,.func (W.fnOf "way" "Machine.way" (cW dS) (cM dS) (aJ dS) .none Th Ti Tj Tg RM Tn),U8⟩) (Sm:W.codeIn K RM "Machine.way"=true) (Ri:W.keepIn K (.ref QX)=true) (Sn:W.isFn K (.ref QX)=true)
  (Rj:W.findIn K (.ref HQ) "finish"=some (some (.ref Qz))) (Rk:K.lookup Qz=some ⟨Ue,Uc,.func (W.fnOf "finish" "Machine.finish" (cW cI) (cM cI) (aJ cI) .none Sa Sb Sd R9 Rc Se),Ud⟩) (Rl:W.codeIn K Rc "Machine.finish"=true) (QS:W.keepIn K (.ref Qz)=true) (Rm:W.isFn K (.ref Qz)=true)
  (Rn:W.findIn K (.ref HQ) "change"=some (some (.ref QA))) (Ro:K.lookup QA=some ⟨Ui,Ug,.func (W.fnOf "change" "Machine.change" (cW cH) (cM cH) (aJ cH) .none Sg Sh Si Sf Rf Sj),Uh⟩) (Rp:W.codeIn K Rf "Machine.change"=true) (QT:W.keepIn K (.ref QA)=true) (Rq:W.isFn K (.ref QA)=true)
  (RX:W.findIn K (.ref HQ) "step"=some (some (.ref QL))) (RY:K.lookup QL=some ⟨UU,US,.func (W.fnOf "step" "Machine.step" (cW dC) (cM dC) (aJ dC) .none S1 S2 S3 S0 Rv S4),UT⟩) (RZ:W.codeIn K Rv "Machine.step"=true) (Rb:W.keepIn K (.ref QL)=true) (R0:W.isFn K (.ref QL)=true)
  (Qg:Vw K HQ)
  (R6:W.findIn K (.ref HQ) "cells"=some none)
  (R7:W.findIn K (.ref HQ) "given"=some none)
  (Sw:W.findIn K (.ref HQ) "size"=some none)
  (QZ:W.findIn K (.ref HQ) "pile"=some none)
  (QU:W.findIn K (.ref HQ) "place"=some none)
  (Rh:W.findIn K (.ref HQ) "kept"=some none)
  (Rx:W.findIn K (.ref HQ) "ended"=some none)
  (Jg:W.nsIn K mainGlobals "MOST_PARTS"=some (some (.int 40 JF)))
  (Jq:W.nsIn K mainGlobals "MOST_DEEP"=some (some (.int 8 JY)))
  (IK:W.nsIn K mainGlobals "LONGEST_NAME"=some (some (.int 8 Jc)))
  (IM:W.nsIn K mainGlobals "MOST_CELL"=some (some (.int 99 JX)))
  (Ib:W.nsIn K mainGlobals "MOST_PATTERN_DEEP"=some (some (.int 3 Ij)))
  (JK:W.nsIn K mainGlobals "MOST_GAP"=some (some (.int 9999 Kn)))
  (Ic:W.nsIn K mainGlobals "MOST_PIECE_CELLS"=some (some (.int 12 Iv)))
  (IU:W.nsIn K mainGlobals "MOST_PIECES"=some (some (.int 16 Jl)))
  (Js:W.nsIn K mainGlobals "MOST_NEAR"=some (some (.int 9 J0)))
  (Je:W.nsIn K mainGlobals "CALL_CELLS"=some (some (.int 3 JD)))
  (LH:W.nsIn K mainGlobals "END"=some (some (.int 0 L5)))
  (Lg:W.nsIn K mainGlobals "CALL"=some (some (.int 15 Ly)))
  (Jf:W.nsIn K mainGlobals "MOST_CELLS"=some (some (.int 1000 JE)))
  (Jp:W.nsIn K mainGlobals "MANY_ARGS"=some (some (.int 4 JW)))
  (JV:W.nsIn K mainGlobals "MOST_SIZE"=some (some (.int 10000 J2)))
  (Jh:W.nsIn K mainGlobals "MOST_STEPS"=some (some (.int 100000 JG)))
  (Jt:W.nsIn K mainGlobals "MOST_PILE"=some (some (.int 64 J1)))
  (Jr:W.nsIn K mainGlobals "MOST_KEPT"=some (some (.int 16 JZ)))
  (Ir:W.nsIn K mainGlobals "MOST_IN_LEAF"=some (some (.ref Kg))) (Iu:KTD.tabLook (KTD.datLooks λb=>K.lookup b) (λb=>K.lookup b) Kg TL=true)
  (HR:W.nsIn K mainGlobals "TREES_IN_BRANCH"=some (some (.ref JB))) (HS:KTD.tabLook (KTD.datLooks λb=>K.lookup b) (λb=>K.lookup b) JB TB=true)
  (Ig:W.nsIn K mainGlobals "MARK_LENGTHS"=some (some (.ref IG))) (HP:KTD.tabLook (KTD.datLooks λb=>K.lookup b) (λb=>K.lookup b) IG TM=true)
  (IA:W.nsIn K mainGlobals "FILLED_FROM"=some (some (.ref Kx))) (IB:KTD.tabLook (KTD.datLooks λb=>K.lookup b) (λb=>K.lookup b) Kx TF=true)
  (Ju:W.nsIn K mainGlobals "MOST_TOLD"=some (some (.ref KI))) (Jv:KTD.tabLook (KTD.datLooks λb=>K.lookup b) (λb=>K.lookup b) KI XG=true)
  (HX:W.nsIn K mainGlobals "INSTRUCTIONS"=some (some (.ref Kf))) (Kp:gk K (.tup Yo) (.ref Kf)=true)
  (JL:W.nsIn K mainGlobals "STRAIGHT"=some (some (.ref K5))) (K7:gk K (.tup STR) (.ref K5)=true)
  (KO:W.nsIn K mainGlobals "AHEAD"=some (some (.ref LM))) (LP:gk K (.tup AHE) (.ref LM)=true)
  (Kz:W.nsIn K mainGlobals "BEHIND"=some (some (.ref Lx))) (Lz:gk K (.tup BEH) (.ref Lx)=true)
  (Lh:W.nsIn K mainGlobals "WAYS"=some (some (.ref Ma))) (Mb:gk K (.tup WAY) (.ref Ma)=true)
  (KP:W.nsIn K mainGlobals "BASIC"=some (some (.ref LO))) (LQ:o8 K BAS LO=true)
  (Kl:K.lookup IG=some Va) (Kh:KTD.tabLook KTD.flatLooks (λb=>K.lookup b) IG ([("hole",.int 2),("gap",.int 3),("slot",.int 2)]:List (Str × PyData))=true) (Km:KTD.hashesOf (λb=>K.lookup b) IG=([("hole",.int 2),("gap",.int 3),("slot",.int 2)]:List (Str × PyData)).map λp=>(PySem.strKind l.prog w).hash p.1)
  (ME:W.nsIn K mainGlobals "len"=some none)
  (KF:W.nsIn K mainGlobals "isinstance"=some none)
  (MD:W.nsIn K mainGlobals "int"=some none)
  (Mc:W.nsIn K mainGlobals "bool"=some none)
  (MH:W.nsIn K mainGlobals "str"=some none)
  (LS:W.nsIn K mainGlobals "tuple"=some none)
  (Md:W.nsIn K mainGlobals "list"=some none)
  (LR:W.nsIn K mainGlobals "range"=some none)
  (Mz:W.nsIn K mainGlobals "all"=some none)
  (MB:W.nsIn K mainGlobals "any"=some none)
  (MG:W.nsIn K mainGlobals "set"=some none)
  (MI:W.nsIn K mainGlobals "sum"=some none)
  (K8:W.nsIn K mainGlobals "reversed"=some none)
  (MJ:W.nsIn K mainGlobals "zip"=some none)
  (KM:W.nsIn K mainGlobals "enumerate"=some none)
  (MF:W.nsIn K mainGlobals "min"=some none) :
  ∃ fd:FuncData,(∀ (s:Shared) (v:Value),BindsTo s fd ⟨[v],[]⟩ [("_law_script",v)])/\∀ base:Heap,K.In base->base.Ns mainGlobals mg->QE l.prog w K mg base Ur 25 fa fd ["_law_script"] (vB K):=by
 have M:∀ {n:Str} {v:Value},W.nsIn K mainGlobals n=some (some v)->mg n=some v:=W.mg_of X G;have N:∀ {n:Str},W.nsIn K mainGlobals n=some none->mg n=none:=W.mg_none_of X G;have e:=WG.symm.trans DD.L6.m;cases e
 let T:Txt l.prog w K mg :=
  {toDfs:=DD,
   JS:=f37,JT:=W.fnOf "need_size" "need_size" (cW fm) (cM fm) (aJ fm) (.ref v37) ZN ZO ZP ZM YE ZR,KL:=v37,Kr:=q37,JU:=⟨⟨_,_,_,_,_,_,_,_,_,rfl,l37,c37⟩,k37,⟨_,_,e37,rfl⟩⟩,Lm:=M a37,
   L0:=f44,L3:=_,Mg:=je (st:=yG) l44 c44 k44,ML:=M a44,
   HK:=HQ,Kc:=M Kc,
   Ip:=Qv,Iq:=W.fnOf "__init__" "Machine.__init__" (cW bZ) (cM bZ) (aJ bZ) .none Rz RD RG Ry QW RH,Jo:=je (st:=bZ) Q4 Q5 Q6,
   Vo:=⟨Uj,Q3,Q7,Uk⟩,
   IF:=QJ,IJ:=W.fnOf "take" "Machine.take" (cW dD) (cM dD) (aJ dD) .none SM SN SO SK Rt SQ,Kk:=je (st:=dD) RO RP Q9,
   QI:=⟨RN,RQ,Q9⟩,
   IX:=QK,Ja:=W.fnOf "push" "Machine.push" (cW dB) (cM dB) (aJ dB) .none SV SW SX SR Ru SY,Ki:=je (st:=dB) RU RV Ra,
   Qn:=⟨RS,RW,Ra⟩,
   Jj:=QX,Jk:=W.fnOf "way" "Machine.way" (cW dS) (cM dS) (aJ dS) .none Th Ti Tj Tg RM Tn,Ky:=je (st:=dS) Sl Sm Ri,
   TJ:=⟨Sk,Sn,Ri⟩,
   IE:=Qz,II:=W.fnOf "finish" "Machine.finish" (cW cI) (cM cI) (aJ cI) .none Sa Sb Sd R9 Rc Se,JJ:=je (st:=cI) Rk Rl QS,
   Su:=⟨Rj,Rm,QS⟩,
   ID:=QA,IH:=W.fnOf "change" "Machine.change" (cW cH) (cM cH) (aJ cH) .none Sg Sh Si Sf Rf Sj,JI:=je (st:=cH) Ro Rp QT,
   Sv:=⟨Rn,Rq,QT⟩,
   IY:=QL,Jb:=W.fnOf "step" "Machine.step" (cW dC) (cM dC) (aJ dC) .none S1 S2 S3 S0 Rv S4,Kj:=je (st:=dC) RY RZ Rb,
   Tf:=⟨RX,R0,Rb⟩,
   Qg:=Qg,
   R6:=R6,
   R7:=R7,
   Sw:=Sw,
   QZ:=QZ,
   QU:=QU,
   Rh:=Rh,
   Rx:=Rx,
   JF:=JF,Jg:=M Jg,
   JY:=JY,Jq:=M Jq,
   Jc:=Jc,IK:=M IK,
   JX:=JX,IM:=M IM,
   Ij:=Ij,Ib:=M Ib,
   Kn:=Kn,JK:=M JK,
   Iv:=Iv,Ic:=M Ic,
   Jl:=Jl,IU:=M IU,
   J0:=J0,Js:=M Js,
   JD:=JD,Je:=M Je,
   L5:=L5,LH:=M LH,
   Ly:=Ly,Lg:=M Lg,
   JE:=JE,Jf:=M Jf,
   JW:=JW,Jp:=M Jp,
   J2:=J2,JV:=M JV,
   JG:=JG,Jh:=M Jh,
   J1:=J1,Jt:=M Jt,
   JZ:=JZ,Jr:=M Jr,
   IW:=Kg,Ir:=M Ir,Iu:=λh x=>PJ x Iu,
   Ii:=JB,HR:=M HR,HS:=λh x=>PJ x HS,
   Io:=IG,Ig:=M Ig,HP:=λh x=>PJ x HP,
   Ji:=Kx,IA:=M IA,IB:=λh x=>PJ x IB,
   Kq:=KI,Ju:=M Ju,Jv:=λh x=>PJ x Jv,
   Im:=Kf,HX:=M HX,IZ:=Kp,
   KB:=K5,JL:=M JL,Lw:=K7,
   Lq:=LM,KO:=M KO,Me:=LP,
   K9:=Lx,Kz:=M Kz,L1:=Lz,
   LL:=Ma,Lh:=M Lh,Ms:=Mb,
   Lr:=LO,KP:=M KP,Mf:=LQ,
   KJ:=⟨⟨_,Kl⟩,λh x=>⟨_,W.kt_tab_in l.prog w x Kh (by decide +kernel) Km,rfl⟩⟩,
   HW:=N ME,
   HV:=N KF,
   Mu:=N MD,
   Mt:=N Mc,
   Mv:=N MH,
   JC:=N LS,
   Li:=N Md,
   La:=N LR,
   Ln:=N Mz,
   MM:=N MB,
   MO:=N MG,
   Mw:=N MI,
   K6:=N K8,
   Mx:=N MJ,
   L4:=N KM,
   MN:=N MF }
 obtain ⟨_,_,_,_,_,_,_,_,_,e,_⟩:=DD.L6.f.ex;exact ⟨_,λs v=>by rw [e];exact .of_eq rfl,λbase _ _=>chain T⟩
theorem walk {q:Program} {loose:List Str} {XP:(Str->Option Value)->Heap->Prop} {YP:World->Heap->Prop} {d:DefRec} {K:Params->W.Frag} (hn:l.most=some 63) (hdf:d.params.defaults=[])
  (hY:∀ (w:World) (h:Heap),YP w h->(K w.params).In h)
  (F:∀ (w:World) (mg:Str->Option Value) (fa:Addr) (h:Heap),(K w.params).In h->h.Ns mainGlobals mg->mg d.name=some (.ref fa) ->
   ∃ fd:FuncData,(∀ (s:Shared) (u:Value),BindsTo s fd ⟨[u],[]⟩ [("_law_script",u)])/\∀ base:Heap,(K w.params).In base->base.Ns mainGlobals mg->QE l.prog w (K w.params) mg base Ur 25 fa fd ["_law_script"] (vB (K w.params))) :
  W.WalkO q loose XP YP l.row.toRowW d [] (λf vs=>PySem.call f vs) :=
 L2.XA (n:=63) (k:=25) (x:="_law_script") (CX:=λ_=>Ur) (sp:=λw=>vB (K w.params)) hn (by decide) hdf ⟨rfl,by decide,by decide⟩ hY F (λ_ _ a ns hl hO hS=>⟨a,ns,rfl,Gd hO hS,λ_=>rfl⟩) λ_ _ _ _ _ z=>z
end My
open PySem PySem.W PyProof.Rows
set_option maxRecDepth 100000 in
set_option maxHeartbeats 0 in
theorem PySem.Challenge.cw_piecelay_k17_whole_far_jumps_holds : PySem.Challenge.rw_piecelay_k17_whole_far_jumps.Holds := by
 w_on;refine holds_law My.said λsaid=>?_
 refine holds_open (q:=My.view) (loose:=My.loose) (Xt:=My.xt) (XP:=XL My.view []) (Yf:=Hook.obs (kHook My.k0.heap_1 My.kas My.kas_ok)) (Ya:=Hook.val (kHook My.k0.heap_1 My.kas My.kas_ok)) (YP:=Hook.says (kHook My.k0.heap_1 My.kas My.kas_ok)) (N:=My.NN) My.left (Hook.of (kHook My.k0.heap_1 My.kas My.kas_ok)) (Hook.keeps (kHook My.k0.heap_1 My.kas My.kas_ok)) (λs e=>xl_of s (Bool.and_eq_true_iff.mp e).1) XL.keeps (by rfl) (by rfl) (by rfl) (λs e=>recFacts_of (Bool.and_eq_true_iff.mp e).2) (by rfl) (by first | assumption | decide +kernel) (by decide +kernel) ⟨rfl,rfl,rfl,rfl,rfl,by decide +kernel⟩ ?hw ?hc
 case hw=>w_witness2
 k_fill
 refine My.walk (l:=PySem.Challenge.rw_piecelay_k17_whole_far_jumps) rfl rfl (λw h Y=>PySem.W.kIn_of Y) ?F
 case F =>
  intro w mg fa h KX G hmg;refine' My.all_mk KX G hmg ?DD ?a37 ?l37 ?c37 ?k37 ?a44 ?l44 ?c44 ?k44 ?e37 ?Kc ?Q3 ?Q4 ?Q5 ?Q6 ?Q7 ?Uj ?Uk ?RN ?RO ?RP ?Q9 ?RQ ?RS ?RU ?RV ?Ra ?RW ?Sk ?Sl ?Sm ?Ri ?Sn ?Rj ?Rk ?Rl ?QS ?Rm ?Rn ?Ro ?Rp ?QT ?Rq ?RX ?RY ?RZ ?Rb ?R0 ?Qg ?R6 ?R7 ?Sw ?QZ ?QU ?Rh ?Rx ?Jg ?Jq ?IK ?IM ?Ib ?JK ?Ic ?IU ?Js ?Je ?LH ?Lg ?Jf ?Jp ?JV ?Jh ?Jt ?Jr ?Ir ?Iu ?HR ?HS ?Ig ?HP ?IA ?IB ?Ju ?Jv ?HX ?Kp ?JL ?K7 ?KO ?LP ?Kz ?Lz ?Lh ?Mb ?KP ?LQ ?Kl ?Kh ?Km ?ME ?KF ?MD ?Mc ?MH ?LS ?Md ?LR ?Mz ?MB ?MG ?MI ?K8 ?MJ ?KM ?MF
  case DD =>
   constructor
   all_goals
    refine' My.ZL KX G ?a ?l ?c ?k ?b
    case a=>k_is
    case l=>change _=_;k_is
    case c=>k_is
    case k=>k_is
    case b=>exact λus hl=>by first | (match us,hl with | [],_=>rfl) | (match us,hl with | [_],_=>rfl) | (match us,hl with | [_,_],_=>rfl) | (match us,hl with | [_,_,_],_=>rfl) | (match us,hl with | [_,_,_,_],_=>rfl) | (match us,hl with | [_,_,_,_,_],_=>rfl) | (match us,hl with | [_,_,_,_,_,_],_=>rfl)
  case a37 | a44=>change _=_;k_is
  case l37 | l44=>change _=_;k_is
  case c37 | c44 | k37 | k44=>k_is
  case e37 | Kc | Q3 | Q4 | Q5 | Q6 | RN | RO | RP | Q9 | RS | RU | RV | Ra | Sk | Sl | Sm | Ri | Rj | Rk | Rl | QS | Rn | Ro | Rp | QT | RX | RY | RZ | Rb | Jg | Jq | IK | IM | Ib | JK | Ic | IU | Js | Je | LH | Lg | Jf | Jp | JV | Jh | Jt | Jr | Ir | HR | Ig | IA | Ju | HX | JL | KO | Kz | Lh | KP | Kl | ME | KF | MD | Mc | MH | LS | Md | LR | Mz | MB | MG | MI | K8 | MJ | KM | MF=>k_is
  case Q7 | Uj | Uk | RQ | RW | Sn | Rm | Rq | R0 | R6 | R7 | Sw | QZ | QU | Rh | Rx | Km=>first | rfl | kernel_rfl | decide +kernel
  case Qg=>refine ⟨?_,?_,?_,?_⟩ <;> (first | rfl | kernel_rfl | decide +kernel)
  case Iu | HS | HP | IB | Jv | Kp | K7 | LP | Lz | Mb | LQ | Kh=>first | rfl | decide +kernel
