import PyProof.Rows.All
import Wide.All
import OpenK.AllK
import Wide.FinOn
import Lean
import PyProof.EqAt
import PyProof.EqKinds
import PyProof.TupleCall
import PyProof.NeKinds
import KE.KTab
import KE.KTops
import PyProof.FString5
import PyProof.ListRange
import KE.KRevIter
import PyProof.Rows.SumAny
import PyProof.Rows.SetFrom
import KE.KRevSl
import KE.KTryMore
import PyProof.ExcAttrAll.ValueError
import PyProof.Rows.CountFlat
import PyProof.ExcInit
import PyProof.InstStoreFacts
import PyProof.Draws
import PyProof.EnumMake
import PyProof.ZipIter
import PyProof.WalkInts
import PyProof.Rows.MinMaxN
import KE.KUnpack
import PyProof.StationsW
import PySem.Challenge.RW_piecelay_k16_whole_lay
set_option Elab.async false
set_option linter.all false
set_option maxRecDepth 100000
set_option maxHeartbeats 4000000
abbrev tB:=@List.length_append
abbrev M1:=@if_neg
abbrev Pd:=@List.length_map
abbrev Pe:=@List.getElem?_eq_getElem
abbrev Pf:=@PySem.Heap.get?_push_of_some
abbrev Pg:=@PySem.wpAny_bind
abbrev Ph:=@if_pos
abbrev Pj:=@decide_eq_false
abbrev Pk:=@Bool.false_ne_true
abbrev Po:=@of_decide_eq_true
abbrev Pp:=@List.length_cons
abbrev Pq:=@Nat.le_refl
abbrev Pr:=@List.getElem?_map
abbrev Pu:=@of_decide_eq_false
abbrev Pw:=@decide_eq_true
abbrev Px:=@Bool.and_eq_true
abbrev Py:=@List.mem_cons
abbrev Pz:=@List.size_toArray
abbrev PB:=@List.map_cons
abbrev PC:=@PySem.wpAny_pure
abbrev PD:=@PySem.F.plainAttrs_list
abbrev PF:=@PySem.Heap.lt_size
abbrev PJ:=@List.mem_of_getElem?
abbrev PL:=@Ne.symm
abbrev PM:=@List.append_nil
abbrev PN:=@List.mem_singleton
abbrev PR:=@List.mem_cons_of_mem
abbrev PU:=@Option.map_eq_some_iff
abbrev PV:=@Nat.lt_of_lt_of_le
abbrev PX:=@List.getD_eq_getElem?_getD
abbrev PY:=@List.map_append
abbrev PZ:=@congrArg
abbrev P0:=@List.mem_cons_self
abbrev P1:=@List.getElem?_eq_some_iff
abbrev P4:=@PySem.Heap.get?_push_size
abbrev P5:=@PySem.F.slot_list_append
abbrev P6:=@Option.bind_some
abbrev P7:=@PySem.F.type_list_append
abbrev P8:=@List.not_mem_nil
abbrev P9:=@List.mem_append
abbrev Qa:=@List.append_assoc
abbrev Qc:=@Nat.ne_of_lt
abbrev Qd:=@Nat.le_trans
abbrev Qe:=@List.length_take
abbrev Qf:=@Option.some.inj
abbrev Qg:=@decide_eq_true_eq
abbrev Qh:=@Int.emod_lt_of_pos
abbrev Qi:=@Int.emod_eq_of_lt
abbrev Qj:=@List.length_reverse
abbrev Qk:=@List.length_nil
abbrev Ql:=@Option.bind_eq_some_iff
abbrev Qm:=@Bool.and_false
abbrev Qn:=@Int.emod_nonneg
abbrev Qo:=@List.take_add_one
abbrev Qp:=@List.getElem?_append_right
abbrev Qq:=@List.mem_append_right
abbrev Qs:=@PySem.Heap.size_push
abbrev Qt:=@PySem.PassesOwn.never
abbrev Qu:=@Bool.and_true
abbrev Qv:=@PySem.Heap.get?_push_at
abbrev Qw:=@List.flatten_cons
abbrev Qx:=@or_false
abbrev Qy:=@Nat.zero_le
abbrev Qz:=@List.mem_map
abbrev QA:=@Nat.pow_le_pow_right
abbrev QB:=@PySem.wpAny_truthy_bool
abbrev QC:=@Bool.false_or
abbrev QD:=@PyProof.Rows.callWith_type1
abbrev QE:=@PySem.wpAny_callSpecial?_slot
abbrev QF:=@List.all_eq_true
abbrev QG:=@Bool.or_eq_false_iff
abbrev QH:=@Bool.true_and
abbrev QI:=@List.take_length
abbrev QJ:=@List.any_cons
abbrev QK:=@PySem.F.slot_list_pop
abbrev QL:=@PySem.mem_of_lookup
abbrev QM:=@Nat.le_of_lt
abbrev QN:=@Nat.ne_of_gt
abbrev QO:=@Nat.lt_irrefl
abbrev QS:=@PySem.wpAny_call_entry
abbrev QT:=@List.lookup_cons
abbrev QU:=@List.take_zero
abbrev QV:=@PySem.wpAny_setField_rec
abbrev QW:=@List.filterMap_append
abbrev QX:=@List.getElem?_append_left
abbrev QY:=@PySem.wpAny_field
abbrev QZ:=@PySem.F.type_list_pop
abbrev Q0:=@List.dropLast_concat
abbrev Q3:=@List.filterMap_cons
abbrev Q4:=@Array.length_toList
abbrev Q5:=@List.length_drop
abbrev Q6:=@List.mem_filterMap
abbrev Q7:=@PySem.wpAny_Call_Name_kw
abbrev Q8:=@PySem.F.slot_list_extend
abbrev Q9:=@PyProof.Rows.F.plain_set_update_loop
abbrev Ra:=@List.map_map
abbrev Rb:=@PySem.wpAny_passesOwn
abbrev Rc:=@PySem.builtinLookup_eq_fast
abbrev Rf:=@List.foldl_cons
abbrev Rg:=@List.nil_append
abbrev Rh:=@PySem.F.slot_tuple_iterator_next
abbrev Ri:=@PySem.wpAny_newObj_type
abbrev Rj:=@PySem.wpAny_pyIter_list
abbrev Rk:=@List.mem_append_left
abbrev Rl:=@Bool.false_and
abbrev Rm:=@PySem.F.called_set
abbrev Rn:=@beq_eq_false_iff_ne
abbrev Ro:=@PyProof.Rows.slot_tuple_getitem
abbrev Rp:=@PySem.wpAny_holding
abbrev Rq:=@List.nodup_cons
abbrev Rr:=@List.find?_cons
abbrev Rt:=@Option.map_some
abbrev Ru:=@PySem.F.type_list_extend
abbrev Rv:=@PySem.sizeLine_eq
abbrev Rw:=@List.take_of_length_le
abbrev Rx:=@List.drop_append_of_le_length
abbrev Ry:=@List.reverse_cons
abbrev Rz:=@PySem.codeAny_mono
abbrev RD:=@List.getElem?_eq_none
abbrev RG:=@List.take_append_drop
abbrev RH:=@PySem.wpAny_mono
abbrev RI:=@Nat.lt_succ_self
abbrev RJ:=@List.filter_cons
abbrev RK:=@PySem.wpAny_standAt
abbrev RM:=@if_true
abbrev RN:=@Int.le_refl
abbrev RO:=@PySem.typeLookup_type
abbrev RP:=@PyProof.Rows.F.entry_set_update_loop
abbrev RQ:=@Bool.not_eq_false'
abbrev RS:=@List.length_filterMap_le
abbrev RU:=@PySem.wpAny_seqItems
abbrev RV:=@Int.toNat_natCast
abbrev RW:=@Bool.eq_false_iff
abbrev RX:=@Nat.le_succ
abbrev RY:=@PySem.Calls.callWith_builtin
abbrev RZ:=@List.drop_of_length_le
abbrev R0:=@PySem.wpAny_attempt
abbrev R1:=@Prod.ext
abbrev R3:=@Nat.le_add_right
abbrev R4:=@List.drop_append
abbrev R5:=@List.length_singleton
abbrev R6:=@PySem.wpAny_execs_nil
abbrev R7:=@Bool.eq_iff_iff
abbrev R8:=@Nat.le_of_eq
abbrev R9:=@List.forIn_cons
abbrev Sa:=@Nat.le_max_left
abbrev Sb:=@PySem.F.slot_zip_next
abbrev Sd:=@Nat.pow_succ
abbrev Se:=@Int.natCast_add
abbrev Sf:=@PySem.W.kt_text_in
abbrev Sg:=@List.flatten_append
abbrev Sh:=@PySem.isSubtype_type
abbrev Si:=@PySem.SeqAt.EqAt.int_str
abbrev Sj:=@PySem.SeqAt.EqAt.str_int
abbrev Sk:=@PyProof.Rows.assignInOrder_cons
abbrev Sl:=@PyProof.Rows.IsTup.new
abbrev Sm:=@PySem.wpAny_pyIter_tuple
abbrev Sn:=@PySem.Calls.spliced_cons
abbrev So:=@Nat.lt_of_le_of_lt
abbrev Sq:=@Bool.false_eq_true
abbrev Ss:=@PySem.W.kia_one
abbrev Su:=@List.filterMap_nil
abbrev Sv:=@Nat.lt_succ_of_lt
abbrev Sw:=@List.Sublist.refl
abbrev Sx:=@Bool.not_eq_true'
abbrev Sy:=@beq_iff_eq
abbrev Sz:=@if_false
abbrev SA:=@List.map_nil
abbrev SD:=@Nat.lt_trans
abbrev SE:=@Nat.sub_self
section
namespace LT
open PySem PySem.W PyProof.Rows
noncomputable def ran (p:Program) (w:World) (n₀:Nat) (ann:Option Value):Nat->SharedT->Thread->Option SharedT
 | 0,_,_=>none
 | k+1,s,t=>bif through t then some s else bif Fast.tw6613529449190102663 n₀ ann t then
   (Fast.tw10156331382660048174 (Fast.tw11892475500146522536 Fast.tw14364793385576792824) p w s t).bind λx=>ran p w n₀ ann k x.1 x.2
  else none
variable {p:Program}
theorem FC {w:World} {n₀:Nat} {ann:Option Value} (k:Nat):∀ {s s':SharedT} {t:Thread},ran p w n₀ ann k s t=some s'->topRun treeTable p w n₀ ann k s.abs t=some s'.abs:=by
 induction k with
 | zero=>intro s s' t h;cases h
 | succ k ih =>
  intro s s' t h;unfold ran at h;rw [<- Fast.te6613529449190102663,<- Fast.te10156331382660048174,<- Fast.te11892475500146522536,<- Fast.te14364793385576792824] at h;unfold topRun;cases c1:through t
  ·cases c2:stepOk n₀ ann t
   ·rw [c1,c2] at h;cases h
   ·rw [c1,c2] at h;obtain ⟨x,hx,hr⟩:=Ql.mp (show (stepT (denote treeTable) p w s t).bind _=some s' from h);rw [stepT_spec (s':=x.1) (t':=x.2) hx];exact ih hr
  ·rw [c1] at h;cases h;rfl
noncomputable def Ck (P:Params):BT:=((boot_heap P).objs.toList.foldl (λ(x:BT × Nat) o=>(x.1.ins x.2 o,x.2+1)) (BT.nil,0)).1
theorem Cm:∀ P,absHeap (Ck P) 11 {}=boot_heap P:=λP=>by kernel_rfl
noncomputable abbrev boot (P:Params) (os:OsState):SharedT:=⟨Ck P,11,{},#[],boot_drawn,boot_toks,os⟩
theorem Cn (P:Params) (os:OsState):(boot P os).abs=⟨boot_heap P,#[],boot_drawn,boot_toks,os⟩:=by show (⟨absHeap (Ck P) 11 {},#[],boot_drawn,boot_toks,os⟩:Shared)=_;rw [Cm]
noncomputable def Gv (p q:Program) (loose:List Str) (Xt:Shared->Bool) (P:Params) (s:Shared) :=
 (staticsOk (Fast.tw5923862056798008813 p.main.body) (boot_heap P) s.heap && namesBound p s.heap && gensDone s && laidKept (boot_heap P) s.heap,Fast.tw4187177175401517315 q loose (Fast.tw5923862056798008813 p.main.body) Xt true s)
theorem FZ:∀ P:Params,((boot_heap P).isNs mainGlobals && (#[]:Array GenState).size == 0,(boot_heap P).objs.size,(boot_heap P).nsMap mainGlobals "__annotations__")=(true,11,some (.ref 6)):=λP=>by kernel_rfl
theorem left {q:Program} {loose:List Str} {Xt:Shared->Bool} {α:Type} {Yf:Shared->α} {Ya:World->α} {N:Nat} (e:opening p=plainProg p.main.scope.names) (hN:Nat.ble 600 N=true) (f:∀ s,fenceModules? p s=some s)
  (h:∀ (w:World) (os:OsState),(ran p w 11 (some (.ref 6)) N (boot w.params os) (topStub p)).map (λs=>(Gv p q loose Xt w.params s.abs,Yf s.abs))=some ((true,openGood q loose),Ya w)):LeftO p q loose Xt Yf Ya N:=λw=>by
 obtain ⟨⟨h0,gs,d,k,os⟩,e,e'⟩:=PU.mp (boot_open e hN f w);obtain ⟨rfl,rfl,rfl,rfl⟩:h0=boot_heap w.params/\gs=Array.mk []/\d=boot_drawn/\k=boot_toks:=by simpa using e'
 obtain ⟨s1,hr,hs⟩:=PU.mp (h w os);have r:=FC N hr;rw [Cn] at r;obtain ⟨hs,hy⟩:=Prod.mk.inj hs;unfold Gv at hs;rw [<- Fast.te4187177175401517315,<- Fast.te5923862056798008813] at hs;obtain ⟨hl,hg⟩:=Prod.mk.inj (show (staticsOk (importedModules p.main.body) (boot_heap w.params) s1.abs.heap && namesBound p s1.abs.heap && gensDone s1.abs && laidKept (boot_heap w.params) s1.abs.heap,openSeen q loose (importedModules p.main.body) Xt true s1.abs)=(true,openGood q loose) from hs);obtain ⟨z1,z2,z3⟩:_/\_/\_:=by simpa only [Prod.mk.injEq] using FZ w.params
 have t:topFrom treeTable p w N ⟨boot_heap w.params,Array.mk [],boot_drawn,boot_toks,os⟩=some s1.abs:=by unfold topFrom;dsimp only;rw [z1,z2,z3,r];show (match staticsOk (importedModules p.main.body) (boot_heap w.params) s1.abs.heap && namesBound p s1.abs.heap && gensDone s1.abs && laidKept (boot_heap w.params) s1.abs.heap with | true=>_ | false=>_)=_;rw [hl]
 unfold openEnds;rw [e];show (topFrom treeTable p w N _).map _=_;rw [t];exact PZ some (R1 hg hy)
end LT
namespace LT
section
universe u1 u2 u3 u4 u5 u6 u7 u8 u9
variable {S:Type u1} {A:Type u2} {B:Type u3} {C:Type u4} {D:Type u5} {E:Type u6} {F:Type u7} {R:Type u8} {V:Type u9}
noncomputable def lot1 (x:A × B × C × D × E × F × R):A × B × C:=match x with | (a,b,c,_)=>(a,b,c)
noncomputable def lot2 (x:A × B × C × D × E × F × R):D × E × R:=match x with | (_,_,_,d,e,_,r)=>(d,e,r)
noncomputable def lot3 (x:A × B × C × D × E × F × R):F:=match x with | (_,_,_,_,_,f,_)=>f
theorem lots {o:Option S} {f:S->A × B × C × D × E × F × R} {y:A × B × C × D × E × F × R} {st:S->Bool} {ob:S->V} {v:V} (h1:o.map (λs=>lot1 (f s))=some (y.1,y.2.1,y.2.2.1)) (h2:o.map (λs=>lot2 (f s))=some (y.2.2.2.1,y.2.2.2.2.1,y.2.2.2.2.2.2))
  (h3:o.map (λs=>lot3 (f s))=some y.2.2.2.2.2.1) (h4:o.map (λs=>(st s,ob s))=some (true,v)):o.map (λs=>((st s,f s),ob s))=some ((true,y),v):=by
 cases o with
 | none=>cases h1
 | some s =>have k1:((f s).1,(f s).2.1,(f s).2.2.1)=(y.1,y.2.1,y.2.2.1):=Qf h1;have k2:((f s).2.2.2.1,(f s).2.2.2.2.1,(f s).2.2.2.2.2.2)=(y.2.2.2.1,y.2.2.2.2.1,y.2.2.2.2.2.2):=Qf h2;have k3:(f s).2.2.2.2.2.1=y.2.2.2.2.2.1:=Qf h3;have k4:(st s,ob s)=(true,v):=Qf h4;have ef:f s=y:=R1 (PZ (λz=>z.1) k1) (R1 (PZ (λz=>z.2.1) k1) (R1 (PZ (λz=>z.2.2) k1) (R1 (PZ (λz=>z.1) k2) (R1 (PZ (λz=>z.2.1) k2) (R1 k3 (PZ (λz=>z.2.2) k2))))));have e1:st s=true:=PZ (λz=>z.1) k4;have e2:ob s=v:=PZ (λz=>z.2) k4;show some ((st s,f s),ob s)=some ((true,y),v);rw [e1,e2,ef]
end
end LT
namespace My
open PySem
noncomputable def top (i:Nat):Stmt:=PySem.Challenge.pw_piecelay_k16_whole_lay.main.body.getD i (.Pass ⟨0,0,0,0⟩)
end My
section
open PySem PySem.W PyProof.Rows
set_option maxRecDepth 100000 in
set_option maxHeartbeats 0 in
theorem My.said:OpenLaw.wellSaid PySem.Challenge.rw_piecelay_k16_whole_lay=true:=by kernel_rfl
end
end
section
open PySem PySem.W PyProof.Rows
section
local macro_rules | `(tactic| o_head $H:term)=>`(tactic| (have _hook:=$H;assumption))
theorem My.k0 (h:PySem.Challenge.rw_piecelay_k16_whole_lay.row.Holds):PySem.Challenge.rw_piecelay_k16_whole_lay.row.Holds:=by
 k_head
end
namespace My
noncomputable def view:Program:={ PySem.Challenge.pw_piecelay_k16_whole_lay with main:={ PySem.Challenge.pw_piecelay_k16_whole_lay.main with body:=[top 1,top 2,top 3,top 4,top 5,top 6,top 7,top 8,top 9,top 10,top 12,top 13,top 14,top 15,top 16,top 17,top 19,top 21,top 22,top 23,top 24,top 25,top 26,top 27,top 28,top 29,top 30,top 32,top 33,top 34,top 35,top 36,top 37,top 38,top 39,top 40,top 41,top 42,top 43,top 44,top 45,top 47,top 49,top 50,top 51,top 52,top 53,top 54,top 55,top 56,top 57,top 58,top 59,top 60,top 61,top 62,top 63,top 64,top 65,top 66,top 67,top 68,top 69,top 70,top 71,top 73,top 74,top 75,top 76,top 77,top 78,top 79,top 80,top 81,top 82,top 84,top 85,top 86,top 87,top 88,top 89,top 90,top 92,top 93,top 94,top 95,top 96,top 97,top 98,top 99,top 100,top 101,top 102,top 103,top 104,top 105,top 106,top 107,top 108,top 109,top 110,top 111,top 112,top 113] } }
noncomputable abbrev PRG:Program:=PySem.Challenge.pw_piecelay_k16_whole_lay
noncomputable abbrev loose:List Str:=["need_size","MOST_IN_LEAF","TREES_IN_BRANCH","MOST_TOLD","run","MARK_LENGTHS","FILLED_FROM","BASIC"]
noncomputable abbrev xt (s:Shared):Bool:=xlAt view [] s && recOk (RowW.records (OpenRow.toRowW (OpenLaw.row PySem.Challenge.rw_piecelay_k16_whole_lay))) s
noncomputable abbrev kas:List Addr:=[2,3,15,22,23,24,25,28,35,36,37,40,47,48,49,52,59,60,61,64,71,72,73,76,83,84,85,88,95,96,97,100,107,108,109,112,119,120,121,124,131,133,134,136,137,138,139,140,143,145,146,148,149,150,152,153,155,156,157,160,161,162,163,165,166,168,169,170,173,174,175,176,177,179,180,182,183,184,186,187,189,190,191,194,195,196,198,199,201,202,203,205,206,208,209,210,212,213,215,216,217,218,219,220,221,222,223,224,225,226,227,228,229,230,231,232,233,234,235,236,237,240,241,242,244,245,247,248,249,251,252,254,255,256,258,259,261,262,270,272,273,275,276,277,279,280,282,283,284,286,287,289,290,291,293,294,296,297,298,300,301,303,304,305,307,308,310,311,312,314,315,317,318,319,320,321,322,323,326,328,329,331,332,333,334,336,337,339,340,341,343,344,346,347,348,349,350,351,352,353,354,355,356,357,358,359,360,361,362,363,364,365,366,367,368,369,370,371,372,373,374,375,376,377,378,379,380,381,382,383,384,385,386,387,388,389,390,391,393,394,396,397,398,401,402,403,405,406,408,409,410,413,414,415,418,419,420,422,423,425,426,427,429,430,432,433,434,437,438,439,441,442,444,445,446,449,450,451,453,454,456,457,458,460,461,463,464,465,467,468,470,471,472,474,475,477,478,479,481,482,484,485,486,487,488,490,491,493,494,495,497,498,500,501,502,504,505,507,508,509,511,512,514,515,516,519,520,521,523,524,526,527,528,531,532,533,536,537,538,540,541,543,544,545,547,548,550,551,552,554,555,557,558,559,561,562,564,565,566,568,569,571,572,573,576,577,578,581,582,583,585,586,588,589,590,592,593,595,596,597,599,600,602,603,604,606,607,609,610,611,613,614,616,617,618,620,621,623,624,625,627,628,630,631,632,634,635,637,638,639,642,643,644,646,647,649,650,651,654,655,656,658,659,661,662,663,665,666,668,669,670,673,674,694,696,697,699,700]
theorem kas_ok:∀ P,kas=(My.k0.heap_1 P).map (·.1):=λ_=>by kernel_rfl
noncomputable abbrev hk:Hook:=kHook My.k0.heap_1 kas kas_ok
noncomputable abbrev NN:Nat:=9000
noncomputable abbrev E1 (w:World) (os:OsState):=LT.ran PRG w 11 (some (.ref 6)) NN (LT.boot w.params os) (topStub PRG)
noncomputable abbrev wg (P:Params) (s:SharedT):Bool:=staticsOk (Fast.tw5923862056798008813 PRG.main.body) (boot_heap P) s.abs.heap && namesBound PRG s.abs.heap && gensDone s.abs && laidKept (boot_heap P) s.abs.heap
noncomputable abbrev Im (s:SharedT):=Fast.tw4187177175401517315 view loose (Fast.tw5923862056798008813 PRG.main.body) xt true s.abs
noncomputable abbrev yD:=openGood view loose
abbrev DG (w:World) (os:OsState):Prop:=(E1 w os).map (λs=>LT.lot1 (Im s))=some (yD.1,yD.2.1,yD.2.2.1)
abbrev DH (w:World) (os:OsState):Prop:=(E1 w os).map (λs=>LT.lot2 (Im s))=some (yD.2.2.2.1,yD.2.2.2.2.1,yD.2.2.2.2.2.2)
abbrev DI (w:World) (os:OsState):Prop:=(E1 w os).map (λs=>LT.lot3 (Im s))=some yD.2.2.2.2.2.1
abbrev DJ (w:World) (os:OsState):Prop:=(E1 w os).map (λs=>(wg w.params s,Hook.obs hk s.abs))=some (true,Hook.val hk w)
set_option maxHeartbeats 0 in
theorem ra1:∀ (w:World) (os:OsState),DG (w.withFollow "special-get-raises" false) os:=λw os=>by unfold DG;kernel_rfl
set_option maxHeartbeats 0 in
theorem rb1:∀ (w:World) (os:OsState),DG (w.withFollow "special-get-raises" true) os:=λw os=>by unfold DG;kernel_rfl
set_option maxHeartbeats 0 in
theorem ra2:∀ (w:World) (os:OsState),DH (w.withFollow "special-get-raises" false) os:=λw os=>by unfold DH;kernel_rfl
set_option maxHeartbeats 0 in
theorem rb2:∀ (w:World) (os:OsState),DH (w.withFollow "special-get-raises" true) os:=λw os=>by unfold DH;kernel_rfl
set_option maxHeartbeats 0 in
theorem ra3:∀ (w:World) (os:OsState),DI (w.withFollow "special-get-raises" false) os:=λw os=>by unfold DI;kernel_rfl
set_option maxHeartbeats 0 in
theorem rb3:∀ (w:World) (os:OsState),DI (w.withFollow "special-get-raises" true) os:=λw os=>by unfold DI;kernel_rfl
set_option maxHeartbeats 0 in
theorem ra4:∀ (w:World) (os:OsState),DJ (w.withFollow "special-get-raises" false) os:=λw os=>by unfold DJ;kernel_rfl
set_option maxHeartbeats 0 in
theorem rb4:∀ (w:World) (os:OsState),DJ (w.withFollow "special-get-raises" true) os:=λw os=>by unfold DJ;kernel_rfl
theorem left:LeftO PRG view loose xt (Hook.obs hk) (Hook.val hk) NN :=
 LT.left (by rfl) (by decide) (λs=>by rfl) λw os=>LT.lots (byRow2 "special-get-raises" (P:=λw=>DG w os) (λw=>ra1 w os) (λw=>rb1 w os) w) (byRow2 "special-get-raises" (P:=λw=>DH w os) (λw=>ra2 w os) (λw=>rb2 w os) w) (byRow2 "special-get-raises" (P:=λw=>DI w os) (λw=>ra3 w os) (λw=>rb3 w os) w) (byRow2 "special-get-raises" (P:=λw=>DJ w os) (λw=>ra4 w os) (λw=>rb4 w os) w)
end My
end
section
namespace L2
open PySem PySem.Spec PyProof.Rows
noncomputable abbrev Key:=Sum Int Str
noncomputable def tF:Key->Value->Bool
 | .inl k,v=>Value.isInt k v
 | .inr x,v=>Value.isStrOf x v
noncomputable def JK (w:World):Key->Int
 | .inl k=>hashInt k
 | .inr x=>hashStr w x
theorem fE:∀ {k:Key} {v:Value},tF k v=true->(∃ i t,k=Sum.inl i/\v=Value.int i t)\/(∃ x t,k=Sum.inr x/\v=Value.str x t)
 | .inl i,v,h=>by obtain ⟨t,e⟩:=Value.isInt_shape (k:=i) (v:=v) h;exact .inl ⟨i,t,rfl,e⟩
 | .inr x,v,h=>by obtain ⟨t,e⟩:=Value.isStrOf_shape (x:=x) (v:=v) h;exact .inr ⟨x,t,rfl,e⟩
theorem Bb (i:Int) (t:Tok):tF (.inl i) (.int i t)=true:=by simp [tF,Value.isInt]
theorem Bc (x:Str) (t:Tok):tF (.inr x) (.str x t)=true:=by simp [tF,Value.isStrOf]
theorem Hs (a b:Int):decide ((Sum.inl a:Key)=Sum.inl b)=(a == b):=by
 by_cases e:a=b
 ·subst e;simp
 ·have h:¬ (Sum.inl a:Key)=Sum.inl b:=λq=>e (Sum.inl.inj q);rw [Pj h];exact (Rn.mpr e).symm
theorem Hv (a b:Str):decide ((Sum.inr a:Key)=Sum.inr b)=decide (a=b):=by
 by_cases e:a=b
 ·subst e;simp
 ·have h:¬ (Sum.inr a:Key)=Sum.inr b:=λq=>e (Sum.inr.inj q);rw [Pj h,Pj e]
theorem Ht (a:Int) (b:Str):decide ((Sum.inl a:Key)=Sum.inr b)=false:=Pj (λq=>nomatch q)
theorem Hu (a:Str) (b:Int):decide ((Sum.inr a:Key)=Sum.inl b)=false:=Pj (λq=>nomatch q)
noncomputable def fX (prog:Program) (w:World):PySem.KeyKind prog w Key where
 is:=tF
 hash:=JK w
 inj:=λv a b ha hb=>by
  rcases fE ha with ⟨i,t,rfl,rfl⟩ | ⟨x,t,rfl,rfl⟩
  ·rcases fE hb with ⟨j,u,rfl,e⟩ | ⟨y,u,rfl,e⟩
   ·injection e with e1 _;rw [e1]
   ·exact nomatch e
  ·rcases fE hb with ⟨j,u,rfl,e⟩ | ⟨y,u,rfl,e⟩
   ·exact nomatch e
   ·injection e with e1 _;rw [e1]
 byValue:=λk v h=>by rcases fE h with ⟨i,t,rfl,rfl⟩ | ⟨x,t,rfl,rfl⟩ <;> rfl
 pyHash:=λhv h=>by
  rcases fE hv with ⟨i,t,rfl,rfl⟩ | ⟨x,t,rfl,rfl⟩
  ·exact wpAny_pyHash_int h
  ·exact wpAny_pyHash_str h
 eqBool:=λhu hv h=>by
  rcases fE hu with ⟨i,t,rfl,rfl⟩ | ⟨x,t,rfl,rfl⟩
  ·rcases fE hv with ⟨j,u,rfl,rfl⟩ | ⟨y,u,rfl,rfl⟩
   ·rw [Hs] at h;exact wpAny_eqBool_int h
   ·rw [Ht] at h;exact Si i t y u _ _ _ _ h
  ·rcases fE hv with ⟨j,u,rfl,rfl⟩ | ⟨y,u,rfl,rfl⟩
   ·rw [Hu] at h;exact Sj x t j u _ _ _ _ h
   ·rw [Hv] at h;exact wpAny_eqBool_str h
 «strs»:=λk x t v h=>by
  rcases fE h with ⟨i,u,rfl,e⟩ | ⟨y,u,rfl,e⟩
  ·exact nomatch e
  ·injection e with e1 _;subst e1;cases v <;> rfl
theorem xp (prog:Program) (w:World) (i:Int) (t:Tok):(fX prog w).is (.inl i) (.int i t)=true:=Bb i t
theorem xq (prog:Program) (w:World) (x:Str) (t:Tok):(fX prog w).is (.inr x) (.str x t)=true:=Bc x t
inductive V where
 | SM | bl (b:Bool) | int (i:Int) | str (x:Str) | YS (b:Array UInt8) | flt (b:UInt64) | ref (a:Addr) | ty (n:String)
 deriving DecidableEq
def RelV:V->Value->Prop
 | .SM,u=>u=Value.none
 | .bl b,u=>u=Value.bool b
 | .int i,u=>∃ t,u=Value.int i t
 | .str x,u=>∃ t,u=Value.str x t
 | .YS b,u=>∃ t,u=Value.bytes b t
 | .flt b,u=>∃ t,u=Value.float b t
 | .ref a,u=>u=Value.ref a
 | .ty n,u=>u=Value.type n
abbrev Vals:List V->List Value->Prop:=Paired RelV
variable {xs:List V} {us:List Value}
theorem Vals.length (r:Vals xs us):xs.length=us.length:=Paired.length r
theorem Vals.get:∀ {xs:List V} {us:List Value} {i:Nat} {x:V},Vals xs us->xs[i]?=some x->∃ u,us[i]?=some u/\RelV x u
 | _,_,_,_,.nil,e=>by simp at e
 | _,_,0,_,.cons r _,e=>by simp at e;subst e;exact ⟨_,rfl,r⟩
 | _,_,i+1,x,.cons _ t,e=>by obtain ⟨u,h1,h2⟩:=Vals.get (i:=i) (x:=x) t (by simpa using e);exact ⟨u,by simpa using h1,h2⟩
variable {u:Value}
theorem Vals.set {x:V} (r:RelV x u):∀ {xs:List V} {us:List Value} (i:Nat),Vals xs us->Vals (xs.set i x) (us.set i u)
 | _,_,_,.nil=>.nil
 | _,_,0,.cons _ t=>.cons r t
 | _,_,i+1,.cons q t=>.cons q (Vals.set r i t)
theorem Vals.append:∀ {xs ys:List V} {us ws:List Value},Vals xs us->Vals ys ws->Vals (xs++ys) (us++ws)
 | _,_,_,_,.nil,s=>s
 | _,_,_,_,.cons r t,s=>.cons r (Vals.append t s)
theorem Vals.take:∀ {xs:List V} {us:List Value} (n:Nat),Vals xs us->Vals (xs.take n) (us.take n)
 | _,_,0,_=>.nil
 | _,_,_+1,.nil=>.nil
 | _,_,n+1,.cons r t=>.cons r (Vals.take n t)
theorem Vals.drop:∀ {xs:List V} {us:List Value} (n:Nat),Vals xs us->Vals (xs.drop n) (us.drop n)
 | _,_,0,r=>r
 | _,_,_+1,.nil=>.nil
 | _,_,n+1,.cons _ t=>Vals.drop n t
def WB:Option V->Option Value->Prop
 | some v,some u=>RelV v u
 | none,none=>True
 | _,_=>False
def KV {κ:Type}:List (κ × V)->List (κ × Value)->Prop:=Paired λ(p:κ × V) (q:κ × Value)=>p.1=q.1/\RelV p.2 q.2
noncomputable def kV:Key->V
 | .inl i=>.int i
 | .inr x=>.str x
inductive HO where
 | lst (xs:List V)
 | tup (xs:List V)
 | dK (kvs:List (Key × V)) | dT (kvs:List (List Key × V))
 | set (S:Int->Bool) (n:Nat)
 | ins (C dx:Addr) (fs:List (Str × V))
 | own (x:Addr)
 | xd (fs:List (Str × V))
 | met (f x:Addr)
 | Zn (lo hi:Int)
 | Zo (o:Obj) (u:HO)
 | tbl (ps:Array Value)
 | ext (φ:Heap->Prop)
noncomputable abbrev Hp:=Addr->Option HO
noncomputable def upd (H:Hp) (a:Addr) (o:HO):Hp:=λb=>if b=a then some o else H b
variable {H:Hp} {a:Addr}
theorem aI {o:HO}:upd H a o a=some o:=by unfold upd;rw [Ph rfl]
variable {b:Addr}
theorem aS {o:HO} (h:b≠a):upd H a o b=H b:=by unfold upd;rw [M1 h]
theorem aU {o:HO} (h:H a=some o) (h':H b=none):a≠b:=by intro e;subst e;rw [h] at h';cases h'
section
variable (P:Program) (w:World)
def S9 (H:Hp) (h:Heap) (a:Addr):HO->Prop
 | .lst xs=>xs.length<=sizeLine/\∃ (its:List Value) (n:Nat),Vals xs its/\h.get? a=some { cls:=.type "list",data:=.seq its.toArray n }
 | .tup xs=>xs.length<=sizeLine/\∃ its:List Value,Vals xs its/\IsTup h a its.toArray
 | .dK kvs=>kvs.length<=sizeLine/\(a == sysModules)=false/\∃ vs,KV kvs vs/\h.DictOf (fX P w) a vs
 | .dT kvs=>kvs.length<=sizeLine/\(a == sysModules)=false/\∃ xs:List (List Key × Addr × Value),
   Paired (λ(p:List Key × V) (q:List Key × Addr × Value)=>p.1=q.1/\H q.2.1=some (.tup (p.1.map kV))/\RelV p.2 q.2.2) kvs xs /\
   ∃ o es ep,h.get? a=some o/\o.ExactDict/\o.data=.dict es ep/\es.toList=xs.map (entryOfKey (tupleKind (fX P w)))/\(xs.map (·.1)).Nodup
 | .set S n=>h.SetOf (intKind P w) a S n
 | .ins C dx fs=>H dx=some (.own a)/\fs.length<=1000/\dx≠a/\h.get? a=some (W.instObj C dx) /\
   ∃ mA,h.Ns1 dx mA/\(∀ f,WB (fs.lookup f) (mA f))/\PySem.Within mA (fs.map (·.1))
 | .own _=>∃ o,h.get? a=some o
 | .xd fs=>∃ mA,h.Ns1 a mA/\∀ f,WB (fs.lookup f) (mA f)
 | .Zn lo hi=>∃ t u v,h.get? a=some { cls:=.type "range",data:=.fields #[.int lo t,.int hi u,.int 1 v] }
 | .Zo o u=>h.get? a=some o/\S9 H h a u
 | .tbl ps=>h.get? a=some { cls:=.none,data:=.fields ps }
 | .met f x=>h.get? a=some (W.methodObj (.ref f) (.ref x))
 | .ext φ=>φ h/\(∃ o,h.get? a=some o)/\∀ h1 h2:Heap,φ h1->(∀ o,h1.get? a=some o->h2.get? a=some o)->φ h2
def WC (H:Hp) (h:Heap):Prop:=∀ a o,H a=some o->S9 P w H h a o
end
section
variable {P:Program} {w:World} {H H':Hp} {h h':Heap} {a:Addr} {o:HO}
theorem S9.lt (x:S9 P w H h a o):a < h.objs.size:=by
 cases o with
 | lst xs=>obtain ⟨_,_,_,_,e⟩:=x;exact PF e
 | tup xs=>obtain ⟨_,_,_,p⟩:=x;exact p.lt
 | dK kvs=>obtain ⟨_,_,_,_,o,_,_,e,_⟩:=x;exact PF e
 | dT kvs=>obtain ⟨_,_,_,_,o,_,_,e,_⟩:=x;exact PF e
 | set S n=>obtain ⟨o,_,_,_,e,_⟩:=x;exact PF e
 | ins C dx fs=>obtain ⟨_,_,_,e,_⟩:=x;exact PF e
 | own y=>obtain ⟨_,e⟩:=x;exact PF e
 | xd fs=>obtain ⟨_,⟨_,_,_,e,_⟩,_⟩:=x;exact PF e
 | Zn lo hi=>obtain ⟨_,_,_,e⟩:=x;exact PF e
 | Zo ob u=>obtain ⟨e,_⟩:=x;exact PF e
 | tbl ps=>exact PF (show h.get? a=some _ from x)
 | met f y=>exact PF (show h.get? a=some _ from x)
 | ext φ=>obtain ⟨_,⟨_,e⟩,_⟩:=x;exact PF e
theorem Paired.mapP {α β:Type} {F G:α->β->Prop}:∀ {l₁:List α} {l₂:List β},Paired F l₁ l₂->(∀ a b,F a b->G a b)->Paired G l₁ l₂
 | _,_,.nil,_=>.nil
 | _,_,.cons r t,f=>.cons (f _ _ r) (Paired.mapP t f)
theorem S9.stay (x:S9 P w H h a o) (k:∀ b u,(b=a\/H b=some (.own a))->h.get? b=some u->h'.get? b=some u)
  (ho:∀ b,H b=some (.own a)->H' b=some (.own a)) (ht:∀ b xs,H b=some (.tup xs)->H' b=some (.tup xs)):S9 P w H' h' a o:=by
 induction o with
 | lst xs=>obtain ⟨z,its,n,r,e⟩:=x;exact ⟨z,its,n,r,k _ _ (.inl rfl) e⟩
 | tup xs=>obtain ⟨z,its,r,ob,e,c⟩:=x;exact ⟨z,its,r,ob,k _ _ (.inl rfl) e,c⟩
 | dK kvs=>obtain ⟨z,y,vs,r,ob,es,ep,e,c⟩:=x;exact ⟨z,y,vs,r,ob,es,ep,k _ _ (.inl rfl) e,c⟩
 | dT kvs =>obtain ⟨z,y,xs,r,ob,es,ep,e,c⟩:=x;exact ⟨z,y,xs,Paired.mapP r λp q z=>⟨z.1,ht _ _ z.2.1,z.2.2⟩,ob,es,ep,k _ _ (.inl rfl) e,c⟩
 | set S n=>obtain ⟨ob,es,ep,t,e,c⟩:=x;exact ⟨ob,es,ep,t,k _ _ (.inl rfl) e,c⟩
 | ins C dx fs =>obtain ⟨d,z,ne,e,mA,⟨od,es,ep,e2,c⟩,r⟩:=x;exact ⟨ho _ d,z,ne,k _ _ (.inl rfl) e,mA,⟨od,es,ep,k _ _ (.inr d) e2,c⟩,r⟩
 | own y=>obtain ⟨ob,e⟩:=x;exact ⟨ob,k _ _ (.inl rfl) e⟩
 | xd fs=>obtain ⟨mA,⟨od,es,ep,e,c⟩,r⟩:=x;exact ⟨mA,⟨od,es,ep,k _ _ (.inl rfl) e,c⟩,r⟩
 | Zn lo hi=>obtain ⟨t,u,v,e⟩:=x;exact ⟨t,u,v,k _ _ (.inl rfl) e⟩
 | Zo ob u ih=>obtain ⟨e,q⟩:=x;exact ⟨k _ _ (.inl rfl) e,ih q⟩
 | tbl ps =>have e:h.get? a=some { cls:=.none,data:=.fields ps }:=x;show h'.get? a=some { cls:=.none,data:=.fields ps };exact k a _ (.inl rfl) e
 | met f y =>have e:h.get? a=some (W.methodObj (.ref f) (.ref y)):=x;show h'.get? a=some (W.methodObj (.ref f) (.ref y));exact k a _ (.inl rfl) e
 | ext φ=>obtain ⟨p,⟨o,e⟩,st⟩:=x;exact ⟨st _ _ p λo q=>k _ _ (.inl rfl) q,⟨o,k _ _ (.inl rfl) e⟩,st⟩
theorem WC.lt (x:WC P w H h) (e:H a=some o):a < h.objs.size:=(x a o e).lt
theorem WC.fresh (x:WC P w H h) (e:h.objs.size<=a):H a=none:=by
 cases q:H a with
 | none=>rfl
 | some u=>exact absurd (PV (x.lt q) e) (QO _)
theorem WC.kept (x:WC P w H h) (k:∀ b u,h.get? b=some u->h'.get? b=some u):WC P w H h':=λa o e =>
 (x a o e).stay (λb u _ q=>k b u q) (λ_ q=>q) λ_ _ q=>q
theorem WC.laid (x:WC P w H h) (k:∀ b u,h.get? b=some u->h'.get? b=some u) (hp:h.objs.size<=a) (new:S9 P w (upd H a o) h' a o):WC P w (upd H a o) h':=λb u e=>by
 have hn:=x.fresh hp;by_cases hb:b=a
 ·subst hb;rw [aI] at e;cases e;exact new
 ·rw [aS hb] at e;exact (x b u e).stay (λc v _ q=>k c v q) (λc q=>by rw [aS (aU q hn)];exact q) λc xs q=>by rw [aS (aU q hn)];exact q
end
def Rd (H:Hp) (a:Addr) (u:HO):Prop:=H a=some u\/∃ o,H a=some (.Zo o u)
variable {P:Program} {w:World} {h:Heap}
theorem Rd.ok {u:HO} (r:Rd H a u) (x:WC P w H h):S9 P w H h a u:=by
 rcases r with r | ⟨o,r⟩
 ·exact x a u r
 ·obtain ⟨_,q⟩:=x a _ r;exact q
def Mut:Option HO->Prop
 | some (.lst _)=>True
 | some (.dK _)=>True
 | some (.dT _)=>True
 | some (.set _ _)=>True
 | some (.ins _ _ _)=>True
 | some (.ext _)=>True
 | _=>False
section
variable {P:Program} {w:World} {H:Hp} {h h':Heap} {x e:Addr} {o':HO}
theorem WC.write (ok:WC P w H h) (mu:Mut (H x)) (he:e=x\/H e=some (.own x)) (k:∀ b u,b≠e->h.get? b=some u->h'.get? b=some u) (heo:∃ u,h'.get? e=some u)
  (new:S9 P w (upd H x o') h' x o'):WC P w (upd H x o') h':=λb u q=>by
 have nown:∀ c y,H c=some (.own y)->c≠x:=λc y r z=>by subst z;rw [r] at mu;exact mu
 have ntup:∀ c xs,H c=some (.tup xs)->c≠x:=λc xs r z=>by subst z;rw [r] at mu;exact mu
 by_cases hb:b=x
 ·subst hb;rw [aI] at q;cases q;exact new
 ·rw [aS hb] at q;by_cases hbe:b=e
  ·have q':H b=some (.own x):=by
    rcases he with z | z
    ·exact absurd (hbe.trans z) hb
    ·rw [hbe];exact z
   rw [q] at q';cases q';obtain ⟨v,hv⟩:=heo;exact ⟨v,by rw [hbe];exact hv⟩
  ·refine (ok b u q).stay (λc v hc r=>k c v ?_ r) (λc r=>by rw [aS (nown c b r)];exact r) λc xs r=>by rw [aS (ntup c xs r)];exact r
   rcases hc with rfl | hc
   ·exact hbe
   ·rintro rfl;rcases he with z | z
    ·exact nown c b hc z
    ·rw [hc] at z;cases z;exact hb rfl
end
structure Un (fs ex:List Addr) (H H':Hp) (h h':Heap):Prop where
 keep:∀ b o,h.get? b=some o->H b=none->b ∉ fs->b ∉ ex->h'.get? b=some o
 slot:∀ b o,h.get? b=some o->H b=none->b ∈ fs->b ∉ ex->∃ sl,h'.get? b=some { o with slots:=sl }
 free:∀ b o,h.get? b=some o->H b=none->b ∉ ex->H' b=none
 there:∀ b o,h.get? b=some o->b ∉ ex->∃ o',h'.get? b=some o'
 tups:∀ b xs,H b=some (.tup xs)->H' b=some (.tup xs)
 Yl:∀ b o u,H b=some (.Zo o u)->H' b=some (.Zo o u)
 Yq:∀ b ps,H b=some (.tbl ps)->∃ more,H' b=some (.tbl (ps++more))
section
variable {fs fs' ex ex':List Addr} {H H1 H2:Hp} {h h1 h2 h':Heap} {a x e:Addr} {o:HO}
theorem Un.any (u:Un fs ex H H1 h h1) {b:Addr} {ob:Obj} (q:h.get? b=some ob) (n:H b=none) (hx:b ∉ ex):∃ sl,h1.get? b=some { ob with slots:=sl }:=by
 by_cases hb:b ∈ fs
 ·exact u.slot b ob q n hb hx
 ·exact ⟨ob.slots,u.keep b ob q n hb hx⟩
theorem Un.kept (k:∀ b u,h.get? b=some u->h'.get? b=some u):Un fs ex H H h h' :=
 ⟨λb ob q _ _ _=>k b ob q,λb ob q _ _ _=>⟨ob.slots,k b ob q⟩,λ_ _ _ n _=>n,λb ob q _=>⟨ob,k b ob q⟩,λ_ _ q=>q,λ_ _ _ q=>q,λ_ ps q=>⟨#[],by rw [q];simp⟩⟩
theorem Un.refl:Un fs ex H H h h:=Un.kept λ_ _ q=>q
theorem Un.laid (k:∀ b u,h.get? b=some u->h'.get? b=some u) (hp:h.objs.size<=a) (hn:H a=none):Un fs ex H (upd H a o) h h' where
 keep:=λb u q _ _ _=>k b u q
 slot:=λb u q _ _ _=>⟨u.slots,k b u q⟩
 free:=λb u q n _=>by rw [aS (Qc (PV (PF q) hp))];exact n
 there:=λb u q _=>⟨u,k b u q⟩
 tups:=λb xs q=>by rw [aS (aU q hn)];exact q
 Yl:=λb u xs q=>by rw [aS (aU q hn)];exact q
 Yq:=λb ps q=>⟨#[],by rw [aS (aU q hn),q];simp⟩
theorem Un.write (mu:Mut (H x)) (he:e=x\/H e=some (.own x)) (k:∀ b u,b≠e->h.get? b=some u->h'.get? b=some u) (heo:∃ u,h'.get? e=some u):Un fs ex H (upd H x o) h h':=by
 have hx:∀ b,H b=none->b≠x:=λb n z=>by subst z;rw [n] at mu;exact mu
 have hb:∀ b,H b=none->b≠e:=λb n z=>by
  subst z;rcases he with r | r
  ·exact hx b n r
  ·rw [n] at r;cases r
 have hm:∀ b u,H b=some u->¬ Mut (some u)->b≠x:=λb u q nm z=>by subst z;rw [q] at mu;exact nm mu
 refine ⟨λb u q n _ _=>k b u (hb b n) q,λb u q n _ _=>⟨u.slots,k b u (hb b n) q⟩,λb u q n _=>by rw [aS (hx b n)];exact n,λb u q _=>?_,
  λb xs q=>by rw [aS (hm b _ q λz=>z)];exact q,λb u xs q=>by rw [aS (hm b _ q λz=>z)];exact q,λb ps q=>⟨#[],by rw [aS (hm b _ q λz=>z),q];simp⟩⟩
 by_cases hbe:b=e
 ·subst hbe;exact heo
 ·exact ⟨u,k b u hbe q⟩
end
noncomputable def trk (h:Heap) (H:Hp):List Addr:=(List.range h.objs.size).filter λa=>(H a).isSome
noncomputable def uJ (h:Heap) (H:Hp):Heap:=W.hideAll h (trk h H)
theorem A9 (h:Heap) (H:Hp):(uJ h H).objs.size=h.objs.size:=W.hideAll_size _ _
variable {o:Obj}
theorem CP (e:h.get? b=some o) (n:H b=none):(uJ h H).get? b=some o :=
 W.hideAll_get _ e λhm=>by have q:(H b).isSome=true:=(List.mem_filter.mp hm).2;rw [n] at q;simp at q
theorem Fh (e:(uJ h H).get? b=some o):h.get? b=some o/\H b=none:=by
 have e':h.get? b=some o:=W.of_hideAll (trk h H) e;refine ⟨e',?_⟩
 cases q:H b with
 | none=>rfl
 | some x =>have hm:b ∈ trk h H:=List.mem_filter.mpr ⟨List.mem_range.mpr (PF e'),by simp [q]⟩;have z:(uJ h H).get? b=none:=W.hideAll_none (trk h H) hm;rw [z] at e;cases e
structure Mod (K:W.Frag) (mg:Str->Option Value) (base:Heap):Prop where
 kin:K.In base
 glob:base.Ns mainGlobals mg
 blt:∃ mb,base.Ns builtinsNs mb/\∀ x:Str,x≠"__name__"->mb x=bootBuiltins x
 nolimit:base.NoLimit
structure Cx where
 prog:Program
 w:World
 K:W.Frag
 mg:Str->Option Value
 base:Heap
 A:Around
 N:List Str
 s₀:Shared
 H₀:Hp
 env:Env
 outer:List Env
 stack:List Env
 ex:List Addr
 fn:Str->Bool
 calm:Bool
 pn:List (Addr × Obj)
 xe:Value->Shared->Prop
noncomputable def frs (l:List Env):List Addr:=l.filterMap (·.frame)
noncomputable abbrev Cx.fs (X:Cx):List Addr:=frs X.outer
def Vis (sc:Scope) (x:Str):Prop:=sc.names.lookup x=some .local\/sc.names.lookup x=some .cell\/sc.names.lookup x=some .free
def Loc (sc:Scope) (x:Str):Prop:=sc.names.lookup x=some .local\/sc.names.lookup x=some .cell
def JC (env:Env) (h:Heap) (m:Str->Option Value) (x:Str) (u:Value):Prop :=
 (env.kindOf x=some .local/\m x=some u)\/((env.kindOf x=some .cell\/env.kindOf x=some .free)/\∃ c,env.cells.lookup x=some c/\h.IsCell c (some u))
structure Cx.Ok (X:Cx):Prop where
 mod:Mod X.K X.mg X.base
 kind:X.env.scope.kind=.function
 glob:X.env.globals=mainGlobals
 blt:X.env.builtins=builtinsNs
 above:X.s₀.heap.objs.size<=X.env.locals
 inj:∀ x y c,X.env.cells.lookup x=some c->X.env.cells.lookup y=some c->x=y
 has:∀ x,(X.env.kindOf x=some .cell\/X.env.kindOf x=some .free)->∃ c,X.env.cells.lookup x=some c
 cab:∀ x c,X.fn x=true->X.env.cells.lookup x=some c->X.s₀.heap.objs.size<=c
 hd:X.calm=true->X.A.handled=none
 frames:X.A.frames=some X.stack
 stk:X.stack=X.outer\/(X.stack=X.env::X.outer/\X.env.frame=some X.env.locals)
 exf:∀ b ∈ X.ex,b≠X.env.locals/\∀ x c,X.env.cells.lookup x=some c->c≠b
 bs:∀ b o,X.base.get? b=some o->X.s₀.heap.get? b=some o/\X.H₀ b=none
 ZW:X.base.objs.size<=X.s₀.heap.objs.size
 Zp:∀ b o,X.base.get? b=some o->b ∉ X.ex
 ZX:∀ b ∈ X.ex,b ∉ X.fs
 Xp:X.s₀.heap.FunFrames X.base X.outer
 frf:∀ b ∈ X.fs,X.H₀ b=none
structure Inv (X:Cx) (pins:List (Addr × Obj)) (σ:List (Option V)) (H:Hp) (s:Shared):Prop where
 ok:X.Ok
 os:s.os=X.s₀.os
 bare:AllBare s.gens
 base:Un X.fs X.ex X.H₀ H X.s₀.heap s.heap
 loc:∃ m,s.heap.Ns X.env.locals m/\∀ (i:Nat) (x:Str) (v:V),X.N[i]?=some x->σ[i]?=some (some v)->Vis X.env.scope x->∃ u,RelV v u/\JC X.env s.heap m x u
 cell:∀ x c,X.env.cells.lookup x=some c->∃ v,s.heap.IsCell c v
 free:H X.env.locals=none
 Wc:∀ x c,X.env.cells.lookup x=some c->H c=none
 pin:∀ p ∈ X.pn++pins,s.heap.get? p.1=some p.2/\H p.1=none/\p.1≠X.env.locals/\p.1 ∉ X.fs/\∀ v,p.2.data≠.cell v
 hok:WC X.prog X.w H s.heap
 len:σ.length=X.N.length
section
variable {X:Cx} {pins:List (Addr × Obj)} {σ:List (Option V)} {H H':Hp} {s:Shared} {h':Heap}
theorem Cx.Ok.nofr (ok:X.Ok) {b:Addr} {o:Obj} (e:X.base.get? b=some o):b ∉ X.fs:=λhb=>by have:=(ok.Xp.mem hb).1;rw [e] at this;cases this
theorem Inv.bs (I:Inv X pins σ H s):∀ b o,X.base.get? b=some o->s.heap.get? b=some o/\H b=none:=λb o e =>
 ⟨I.base.keep b o (I.ok.bs b o e).1 (I.ok.bs b o e).2 (I.ok.nofr e) (I.ok.Zp b o e),I.base.free b o (I.ok.bs b o e).1 (I.ok.bs b o e).2 (I.ok.Zp b o e)⟩
theorem Inv.bk (I:Inv X pins σ H s):∀ b o,X.base.get? b=some o->s.heap.get? b=some o:=λb o e=>(I.bs b o e).1
theorem Inv.mod (I:Inv X pins σ H s):Mod X.K X.mg X.base:=I.ok.mod
theorem Inv.Wa (I:Inv X pins σ H s):X.K.In s.heap:=I.ok.mod.kin.keeps I.bk
theorem Inv.lt (I:Inv X pins σ H s):X.env.locals < s.heap.objs.size:=let ⟨_,hn,_⟩:=I.loc;hn.lt
theorem Inv.sz (I:Inv X pins σ H s):X.s₀.heap.objs.size<=s.heap.objs.size:=Qd I.ok.above (QM I.lt)
variable {a:Addr}
theorem Inv.nofs (I:Inv X pins σ H s) (h:s.heap.objs.size<=a):a ∉ X.fs:=λhb=>by obtain ⟨_,o,ho,_⟩:=I.ok.Xp.mem hb;exact absurd (PV (PF ho) (Qd I.sz h)) (QO _)
theorem Inv.cne (I:Inv X pins σ H s):∀ x c,X.env.cells.lookup x=some c->c≠X.env.locals:=λx c e z=>by obtain ⟨v,o,ho,hd⟩:=I.cell x c e;obtain ⟨m,⟨o',es,ep,ho',hd',_⟩,_⟩:=I.loc;rw [z,ho'] at ho;cases ho;rw [hd'] at hd;cases hd
theorem Inv.Xp (I:Inv X pins σ H s):s.heap.FunFrames X.base X.outer:=by
 have all:∀ (l:List Env),(∀ b ∈ frs l,b ∈ X.fs)->X.s₀.heap.FunFrames X.base l->s.heap.FunFrames X.base l:=by
  intro l
  induction l with
  | nil=>intro _ _;trivial
  | cons env r ih =>intro hs hl;obtain ⟨hk,⟨L,o,hf,hn,ho,hd⟩,hr⟩:=hl;have hL:L ∈ X.fs:=hs L (by unfold frs;rw [Q3,hf];exact P0);obtain ⟨sl,e⟩:=I.base.slot L o ho (I.ok.frf L hL) hL λz=>I.ok.ZX L z hL;exact ⟨hk,⟨L,_,hf,hn,e,hd⟩,ih (λb hb=>hs b (by unfold frs;rw [Q3,hf];exact PR _ hb)) hr⟩
 exact all X.outer (λ_ hb=>hb) I.ok.Xp
theorem Inv.stack (I:Inv X pins σ H s):s.heap.FunFrames X.base X.stack:=by
 rcases I.ok.stk with e | ⟨e,hf⟩
 ·rw [e];exact I.Xp
 ·rw [e];obtain ⟨m,hn,_⟩:=I.loc;refine .cons (by rw [I.ok.kind];decide) hf hn ?_ I.Xp;exact Heap.get?_none_of_le (Qd I.ok.ZW I.ok.above)
theorem Inv.Ym (I:Inv X pins σ H s):∀ b ∈ frs X.stack,b ∈ X.env.locals::X.fs:=λb hb=>by
 rcases I.ok.stk with e | ⟨e,hf⟩
 ·rw [e] at hb;exact PR _ hb
 ·rw [e] at hb;unfold frs at hb;rw [Q3,hf] at hb;exact hb
theorem Inv.YT (I:Inv X pins σ H s):∀ b ∈ frs X.stack,H b=none:=λb hb=>by
 rcases Py.mp (I.Ym b hb) with e | hb
 ·rw [e];exact I.free
 ·obtain ⟨_,o,ho,_⟩:=I.ok.Xp.mem hb;exact I.base.free b o ho (I.ok.frf b hb) λz=>I.ok.ZX b z hb
variable {g':Array GenState} {t':Nat} {d':Drawn} {ch:List Addr}
theorem Inv.step (I:Inv X pins σ H s)
  (hch:∀ b ∈ ch,(b ∈ X.ex\/X.s₀.heap.objs.size<=b)/\b≠X.env.locals/\(∀ x c,X.env.cells.lookup x=some c->c≠b)/\∀ p ∈ X.pn++pins,p.1≠b)
  (keep:∀ b o,b≠X.env.locals->b ∉ X.fs->b ∉ ch->s.heap.get? b=some o->H b=none->h'.get? b=some o)
  (slot:∀ b o,b≠X.env.locals->b ∈ X.fs->b ∉ ch->s.heap.get? b=some o->H b=none->∃ sl,h'.get? b=some { o with slots:=sl }) (free:∀ b o,b ∉ ch->s.heap.get? b=some o->H b=none->H' b=none)
  (there:∀ b o,b ∉ ch->s.heap.get? b=some o->∃ o',h'.get? b=some o')
  (tups:∀ b xs,H b=some (.tup xs)->H' b=some (.tup xs)) (Yl:∀ b o u,H b=some (.Zo o u)->H' b=some (.Zo o u)) (Yq:∀ b ps,H b=some (.tbl ps)->∃ more,H' b=some (.tbl (ps++more)))
  (ns:∀ m,s.heap.Ns X.env.locals m->h'.Ns X.env.locals m) (hok:WC X.prog X.w H' h') (hg:AllBare g') :
  Inv X pins σ H' { s with heap:=h',gens:=g',drawn:=d',toks:=t' }:=by
 have neL:∀ b o,X.s₀.heap.get? b=some o->b≠X.env.locals:=λb o e=>Qc (PV (PF e) I.ok.above)
 have neC:∀ b o,X.s₀.heap.get? b=some o->b ∉ X.ex->b ∉ ch:=λb o e hx hb=>by
  rcases (hch b hb).1 with z | z
  ·exact hx z
  ·exact absurd (PV (PF e) z) (QO _)
 have cellK:∀ x c,X.env.cells.lookup x=some c->∀ v,s.heap.IsCell c v->h'.IsCell c v:=λx c e v ⟨o,ho,hd⟩=>by
  have nch:c ∉ ch:=λz=>(hch c z).2.2.1 x c e rfl;by_cases hc:c ∈ X.fs
  ·obtain ⟨sl,q⟩:=slot c o (I.cne x c e) hc nch ho (I.Wc x c e);exact ⟨_,q,hd⟩
  ·exact ⟨o,keep c o (I.cne x c e) hc nch ho (I.Wc x c e),hd⟩
 refine ⟨I.ok,I.os,hg,⟨λb o e n hb hx=>?_,λb o e n hb hx=>?_,λb o e n hx=>?_,λb o e hx=>?_,λb xs e=>tups b xs (I.base.tups b xs e),λb o xs e=>Yl b o xs (I.base.Yl b o xs e),λb ps e=>?_⟩,?_,λx c e=>?_,?_,λx c e=>?_,λp hp=>?_,hok,I.len⟩
 ·exact keep b o (neL b o e) hb (neC b o e hx) (I.base.keep b o e n hb hx) (I.base.free b o e n hx)
 ·obtain ⟨sl,e1⟩:=I.base.slot b o e n hb hx;obtain ⟨sl',e2⟩:=slot b _ (neL b o e) hb (neC b o e hx) e1 (I.base.free b o e n hx);exact ⟨sl',e2⟩
 ·obtain ⟨o',e1⟩:=I.base.there b o e hx;exact free b o' (neC b o e hx) e1 (I.base.free b o e n hx)
 ·obtain ⟨o',e1⟩:=I.base.there b o e hx;exact there b o' (neC b o e hx) e1
 ·obtain ⟨m1,e1⟩:=I.base.Yq b ps e;obtain ⟨m2,e2⟩:=Yq b _ e1;exact ⟨m1++m2,by rw [e2,Array.append_assoc]⟩
 ·obtain ⟨m,hn,hl⟩:=I.loc;refine ⟨m,ns m hn,λi x v e1 e2 e3=>?_⟩;obtain ⟨u,r,l⟩:=hl i x v e1 e2 e3;refine ⟨u,r,?_⟩;rcases l with l | ⟨k,c,e,z⟩
  ·exact .inl l
  ·exact .inr ⟨k,c,e,cellK x c e _ z⟩
 ·obtain ⟨v,z⟩:=I.cell x c e;exact ⟨v,cellK x c e v z⟩
 ·obtain ⟨m,⟨o,_,_,ho,_⟩,_⟩:=I.loc;exact free _ o (λz=>(hch _ z).2.1 rfl) ho I.free
 ·obtain ⟨v,o,ho,hd⟩:=I.cell x c e;exact free c o (λz=>(hch c z).2.2.1 x c e rfl) ho (I.Wc x c e)
 ·obtain ⟨e,n,ne,nf,d⟩:=I.pin p hp;have nch:p.1 ∉ ch:=λz=>(hch p.1 z).2.2.2 p hp rfl;exact ⟨keep p.1 p.2 ne nf nch e n,free p.1 p.2 nch e n,ne,nf,d⟩
theorem Inv.un (I:Inv X pins σ H s) (u:Un X.fs [] H H' s.heap h') (hok:WC X.prog X.w H' h'):Inv X pins σ H' { s with heap:=h',toks:=t' }:=by
 obtain ⟨m,⟨o,es,ep,ho,r⟩,_⟩:=id I.loc;obtain ⟨sl,hL⟩:=u.any ho I.free (by simp)
 exact I.step (g':=s.gens) (d':=s.drawn) (ch:=[]) (λ_ z=>nomatch z) (λb o _ hb _ e n=>u.keep b o e n hb (by simp)) (λb o _ hb _ e n=>u.slot b o e n hb (by simp)) (λb o _ e n=>u.free b o e n (by simp)) (λb o _ e=>u.there b o e (by simp)) u.tups u.Yl u.Yq (λm' hm=>by
  obtain ⟨o',es',ep',ho',r'⟩:=hm;rw [ho] at ho';cases ho';exact ⟨_,es',ep',hL,r'⟩) hok I.bare
theorem Inv.call (I:Inv X pins σ H s) (u:Un (frs X.stack) ch H H' s.heap h') (hok:WC X.prog X.w H' h') (hg:AllBare g')
  (hch:∀ b ∈ ch,(b ∈ X.ex\/X.s₀.heap.objs.size<=b)/\b≠X.env.locals/\(∀ x c,X.env.cells.lookup x=some c->c≠b)/\∀ p ∈ X.pn++pins,p.1≠b) :
  Inv X pins σ H' { s with heap:=h',gens:=g',drawn:=d',toks:=t' }:=by
 obtain ⟨m,⟨o,es,ep,ho,r⟩,_⟩:=id I.loc;obtain ⟨sl,hL⟩:=u.any ho I.free λz=>(hch _ z).2.1 rfl
 exact I.step (ch:=ch) hch (λb o hL hb hc e n=>u.keep b o e n (λz=>(Py.mp (I.Ym b z)).elim hL hb) hc) (λb o _ _ hc e n=>u.any e n hc) (λb o hc e n=>u.free b o e n hc) (λb o hc e=>u.there b o e hc) u.tups u.Yl u.Yq (λm' hm=>by
  obtain ⟨o',es',ep',ho',r'⟩:=hm;rw [ho] at ho';cases ho';exact ⟨_,es',ep',hL,r'⟩) hok hg
theorem Inv.turned {it:Addr} (I:Inv X pins σ H s) (k:∀ b o,b≠it->s.heap.get? b=some o->h'.get? b=some o) (hn:H it=none) (hL:it≠X.env.locals)
  (h1:it ∈ X.ex\/X.s₀.heap.objs.size<=it) (h2:∀ x c,X.env.cells.lookup x=some c->c≠it) (h3:∀ p ∈ X.pn++pins,p.1≠it):Inv X pins σ H { s with heap:=h',toks:=t' }:=by
 have nit:∀ b u,H b=some u->b≠it:=λb u e z=>by rw [z,hn] at e;cases e
 refine I.step (g':=s.gens) (d':=s.drawn) (ch:=[it]) (λb hb=>?_) (λb o _ _ hc e _=>k b o (λz=>hc (by simp [z])) e) (λb o _ _ hc e _=>⟨o.slots,k b o (λz=>hc (by simp [z])) e⟩) (λ_ _ _ _ n=>n)
  (λb o hc e=>⟨o,k b o (λz=>hc (by simp [z])) e⟩) (λ_ _ e=>e) (λ_ _ _ e=>e) (λb ps e=>⟨#[],by rw [e];simp⟩) (λm hm=>?_) (λb u e=>?_) I.bare
 ·have e:b=it:=by simpa using hb
  subst e;exact ⟨h1,hL,h2,h3⟩
 ·obtain ⟨o,es,ep,ho,r⟩:=hm;exact ⟨o,es,ep,k _ o (PL hL) ho,r⟩
 ·refine (I.hok b u e).stay (λc v hc q=>k c v ?_ q) (λ_ q=>q) λ_ _ q=>q;rcases hc with z | z
  ·rw [z];exact nit b u e
  ·exact nit c _ z
theorem Inv.tok (I:Inv X pins σ H s) (t:Nat):Inv X pins σ H { s with toks:=t }:=I.un (h':=s.heap) (t':=t) Un.refl I.hok
theorem Inv.kept (I:Inv X pins σ H s) (k:∀ b u,s.heap.get? b=some u->h'.get? b=some u):Inv X pins σ H { s with heap:=h',toks:=t' }:=I.un (Un.kept k) (I.hok.kept k)
variable {o:HO}
theorem Inv.laid (I:Inv X pins σ H s) (k:∀ b u,s.heap.get? b=some u->h'.get? b=some u) (hp:s.heap.objs.size<=a) (new:S9 X.prog X.w (upd H a o) h' a o) :
  Inv X pins σ (upd H a o) { s with heap:=h',toks:=t' }:=I.un (Un.laid k hp (I.hok.fresh hp)) (I.hok.laid k hp new)
theorem Inv.write {x e:Addr} (I:Inv X pins σ H s) (mu:Mut (H x)) (he:e=x\/H e=some (.own x)) (k:∀ b u,b≠e->s.heap.get? b=some u->h'.get? b=some u) (heo:∃ u,h'.get? e=some u)
  (new:S9 X.prog X.w (upd H x o) h' x o):Inv X pins σ (upd H x o) { s with heap:=h',toks:=t' }:=I.un (Un.write mu he k heo) (I.hok.write mu he k heo new)
theorem Inv.YU {Yb:List (Addr × Obj)} (I:Inv X pins σ H s) (h:∀ p ∈ Yb,s.heap.get? p.1=some p.2/\H p.1=none/\p.1≠X.env.locals/\p.1 ∉ X.fs/\∀ v,p.2.data≠.cell v):Inv X Yb σ H s :=
 ⟨I.ok,I.os,I.bare,I.base,I.loc,I.cell,I.free,I.Wc,λp hp=>(P9.mp hp).elim (λz=>I.pin p (Rk _ z)) (h p),I.hok,I.len⟩
variable {i:Nat} {x:Str}
theorem xu {N:List Str} (hN:N.Nodup) {j:Nat} (a:N[i]?=some x) (b:N[j]?=some x):i=j:=by obtain ⟨h1,e1⟩:=P1.mp a;obtain ⟨h2,e2⟩:=P1.mp b;exact (List.getElem_inj hN).mp (e1.trans e2.symm)
variable {M:Model} {A:Around} {v:V} {u:Value}
theorem tZ {E:Value->Shared->Prop} {Q:Unit->Shared->Prop} (I:Inv X pins σ H s) (hN:X.N.Nodup) (hi:X.N[i]?=some x) (hx:Loc X.env.scope x) (r:RelV v u)
  (h:∀ s',Inv X pins (σ.set i (some v)) H s'->(∃ a,Heap.SameBut a s.heap s'.heap/\(a=X.env.locals\/X.env.cells.lookup x=some a))->Q () s') (hf:X.fn x=true\/X.env.scope.names.lookup x=some .local:=by first | exact .inl rfl | exact .inr rfl | assumption):wpAny M A (storeName X.env x u) Q E s:=by
 obtain ⟨m,hn,hl⟩:=id I.loc;have hcls:(X.env.scope.kind == .class || (X.env.scope.kind == .module && X.env.locals != X.env.globals))=false:=by rw [I.ok.kind];rfl
 have hiσ:i < σ.length:=by rw [I.len];exact (P1.mp hi).1
 have cne:=I.cne
 have tracked:∀ {a:Addr} {h':Heap},(∃ o,s.heap.get? a=some o/\H a=none)->Heap.SameBut a s.heap h'->WC X.prog X.w H h':=λ{a h'} ha hs b ob e=>by
  obtain ⟨_,_,hfree⟩:=ha;refine (I.hok b ob e).stay (λc w' hc q=>(hs.2 c ?_).trans q) (λ_ q=>q) λ_ _ q=>q;rintro rfl;rcases hc with rfl | hc
  ·rw [hfree] at e;cases e
  ·rw [hfree] at hc;cases hc
 rcases hx with hk | hk
 ·refine wpAny_storeName_local hk hn (λh' hn' hs=>?_) hcls;obtain ⟨oL,_,_,hoL,_⟩:=id hn;refine h _ ⟨I.ok,I.os,I.bare,⟨λb o e n hb hx=>?_,λb o e n hb hx=>?_,I.base.free,λb o e hx=>?_,I.base.tups,I.base.Yl,I.base.Yq⟩,⟨_,hn',λj y v' e1 e2 e3=>?_⟩,λy c e=>?_,I.free,I.Wc,λp hp=>?_,tracked ⟨oL,hoL,I.free⟩ hs,by simpa using I.len⟩ ⟨_,hs,.inl rfl⟩
  ·exact (hs.2 b (Qc (PV (PF e) I.ok.above))).trans (I.base.keep b o e n hb hx)
  ·obtain ⟨sl,e1⟩:=I.base.slot b o e n hb hx;exact ⟨sl,(hs.2 b (Qc (PV (PF e) I.ok.above))).trans e1⟩
  ·obtain ⟨o',e1⟩:=I.base.there b o e hx;exact ⟨o',(hs.2 b (Qc (PV (PF e) I.ok.above))).trans e1⟩
  ·by_cases hj:j=i
   ·subst hj;rw [hi] at e1;cases e1;rw [List.getElem?_set_self hiσ] at e2;cases e2;exact ⟨u,r,.inl ⟨hk,by simp⟩⟩
   ·rw [List.getElem?_set_ne (PL hj)] at e2;obtain ⟨u',r',q⟩:=hl j y v' e1 e2 e3;refine ⟨u',r',?_⟩;rcases q with ⟨k,e⟩ | ⟨k,c,e,z⟩
    ·refine .inl ⟨k,?_⟩;have:y≠x:=λe=>hj (xu hN e1 (e ▸ hi));simp [this,e]
    ·exact .inr ⟨k,c,e,z.sameBut hs (cne y c e)⟩
  ·obtain ⟨w',z⟩:=I.cell y c e;exact ⟨w',z.sameBut hs (cne y c e)⟩
  ·obtain ⟨e,n,ne,nf,d⟩:=I.pin p hp;exact ⟨(hs.2 p.1 ne).trans e,n,ne,nf,d⟩
 ·have hfn:X.fn x=true:=by
   rcases hf with z | z
   ·exact z
   ·rw [z] at hk;cases hk
  obtain ⟨c,hc⟩:=I.ok.has x (.inl hk);obtain ⟨w',z⟩:=I.cell x c hc;refine wpAny_storeName_cell I.ok.kind hk hc z (λh' hc' hs=>?_);obtain ⟨oc,hoc,hocd⟩:=id z;refine h { s with heap:=h' } ⟨I.ok,I.os,I.bare,⟨λb o e n hb hx=>?_,λb o e n hb hx=>?_,I.base.free,λb o e hx=>?_,I.base.tups,I.base.Yl,I.base.Yq⟩,⟨m,hn.sameBut hs (PL (cne x c hc)),λj y v' e1 e2 e3=>?_⟩,λy c' e=>?_,I.free,I.Wc,λp hp=>?_,tracked ⟨oc,hoc,I.Wc x c hc⟩ hs,by simpa using I.len⟩ ⟨c,hs,.inr hc⟩
  ·exact (hs.2 b (Qc (PV (PF e) (I.ok.cab x c hfn hc)))).trans (I.base.keep b o e n hb hx)
  ·obtain ⟨sl,e1⟩:=I.base.slot b o e n hb hx;exact ⟨sl,(hs.2 b (Qc (PV (PF e) (I.ok.cab x c hfn hc)))).trans e1⟩
  ·obtain ⟨o',e1⟩:=I.base.there b o e hx;exact ⟨o',(hs.2 b (Qc (PV (PF e) (I.ok.cab x c hfn hc)))).trans e1⟩
  ·by_cases hj:j=i
   ·subst hj;rw [hi] at e1;cases e1;rw [List.getElem?_set_self hiσ] at e2;cases e2;exact ⟨u,r,.inr ⟨.inl hk,c,hc,hc'⟩⟩
   ·rw [List.getElem?_set_ne (PL hj)] at e2;obtain ⟨u',r',q⟩:=hl j y v' e1 e2 e3;refine ⟨u',r',?_⟩;rcases q with q | ⟨k,c',e,z'⟩
    ·exact .inl q
    ·refine .inr ⟨k,c',e,z'.sameBut hs ?_⟩;rintro rfl;exact hj (xu hN e1 (I.ok.inj _ _ _ e hc ▸ hi))
  ·by_cases hcc:c'=c
   ·subst hcc;exact ⟨_,hc'⟩
   ·obtain ⟨w2,z2⟩:=I.cell y c' e;exact ⟨w2,z2.sameBut hs hcc⟩
  ·obtain ⟨e,n,ne,nf,d⟩:=I.pin p hp;refine ⟨(hs.2 p.1 ?_).trans e,n,ne,nf,d⟩;intro q;rw [q,hoc] at e;have q':oc=p.2:=Qf e;exact d w' (by rw [<- q'];exact hocd)
theorem lW {E:Value->Shared->Prop} {Q:Unit->Shared->Prop} (I:Inv X pins σ H s) (hN:X.N.Nodup) (hi:X.N[i]?=some x) (hx:Loc X.env.scope x) (r:RelV v u)
  (h:∀ s',Inv X pins (σ.set i (some v)) H s'->Q () s') (hf:X.fn x=true\/X.env.scope.names.lookup x=some .local:=by first | exact .inl rfl | exact .inr rfl | assumption):wpAny M A (storeName X.env x u) Q E s :=
 tZ I hN hi hx r (λs' I' _=>h s' I') hf
theorem Inv.call' {s':Shared} (I:Inv X pins σ H s) (ho:s'.os=s.os) (u:Un (frs X.stack) ch H H' s.heap s'.heap) (hok:WC X.prog X.w H' s'.heap) (hg:AllBare s'.gens)
  (hch:∀ b ∈ ch,(b ∈ X.ex\/X.s₀.heap.objs.size<=b)/\b≠X.env.locals/\(∀ x c,X.env.cells.lookup x=some c->c≠b)/\∀ p ∈ X.pn++pins,p.1≠b):Inv X pins σ H' s':=by
 obtain ⟨h',g',d',t',o'⟩:=s';have e:o'=s.os:=ho;subst e;exact I.call (g':=g') (t':=t') (d':=d') u hok hg hch
end
abbrev XK:=Value->Option Addr->Hp->Prop
noncomputable abbrev St:=List (Option V)
abbrev VK:=V->Hp->Prop
abbrev TE:=St->Hp->VK->Prop
abbrev TT:=St->Hp->(Bool->Hp->Prop)->Prop
abbrev TA:=St->Hp->(List V->Hp->Prop)->Prop
structure kx where
 nx:St->Hp->Prop
 rt:VK
 bk:St->Hp->Prop:=λ_ _=>False
 ct:St->Hp->Prop:=λ_ _=>False
abbrev TS:=kx->St->Hp->Prop
def EP (X:Cx) (pins:List (Addr × Obj)) (σ:St) (Q:VK) (u:Value) (s':Shared):Prop:=∃ v H',Inv X pins σ H' s'/\RelV v u/\Q v H'
def TP (X:Cx) (pins:List (Addr × Obj)) (σ:St) (Q:Bool->Hp->Prop) (b:Bool) (s':Shared):Prop:=∃ H',Inv X pins σ H' s'/\Q b H'
def AP (X:Cx) (pins:List (Addr × Obj)) (σ:St) (Q:List V->Hp->Prop) (us:List Value) (s':Shared):Prop:=∃ vs H',Inv X pins σ H' s'/\Vals vs us/\Q vs H'
def SP (X:Cx) (pins:List (Addr × Obj)) (D:kx) (f:Flow) (s':Shared):Prop :=
 match f with
 | .next=>∃ σ' H',Inv X pins σ' H' s'/\D.nx σ' H'
 | .brk=>∃ σ' H',Inv X pins σ' H' s'/\D.bk σ' H'
 | .cont=>∃ σ' H',Inv X pins σ' H' s'/\D.ct σ' H'
 | .ret u=>∃ v σ' H',Inv X pins σ' H' s'/\RelV v u/\D.rt v H'
def PE (X:Cx) (e:Expr) (t:TE):Prop :=
 ∀ (pins:List (Addr × Obj)) (s:Shared) (σ:St) (H:Hp) (Q:VK),Inv X pins σ H s->t σ H Q->wpAny (model X.prog X.w) X.A (eval e X.env) (EP X pins σ Q) X.xe s
def PT (X:Cx) (e:Expr) (t:TT):Prop :=
 ∀ (pins:List (Addr × Obj)) (s:Shared) (σ:St) (H:Hp) (Q:Bool->Hp->Prop),Inv X pins σ H s->t σ H Q->wpAny (model X.prog X.w) X.A (isTrue e X.env (eval e X.env)) (TP X pins σ Q) X.xe s
def PW (X:Cx) (e:Expr) (t:TT):Prop :=
 ∀ (whole:Sem Value) (pins:List (Addr × Obj)) (s:Shared) (σ:St) (H:Hp) (Q:Bool->Hp->Prop),Inv X pins σ H s->t σ H Q->wpAny (model X.prog X.w) X.A (isTrue e X.env whole) (TP X pins σ Q) X.xe s
variable {X:Cx}
theorem PW.pt {e:Expr} {t:TT} (h:PW X e t):PT X e t:=h _
def PA (X:Cx) (es:List Expr) (t:TA):Prop :=
 ∀ (pos:Pos) (pins:List (Addr × Obj)) (s:Shared) (σ:St) (H:Hp) (Q:List V->Hp->Prop),Inv X pins σ H s->t σ H Q->wpAny (model X.prog X.w) X.A (spliced (backTo pos (starEach es X.env))) (AP X pins σ Q) X.xe s
def PS (X:Cx) (st:Stmt) (t:TS):Prop :=
 ∀ (pins:List (Addr × Obj)) (s:Shared) (σ:St) (H:Hp) (D:kx),Inv X pins σ H s->t D σ H->wpAny (model X.prog X.w) X.A (exec st X.env) (SP X pins D) X.xe s
def YH (X:Cx) (st:List Stmt) (t:TS):Prop :=
 ∀ (pins:List (Addr × Obj)) (s:Shared) (σ:St) (H:Hp) (D:kx),Inv X pins σ H s->t D σ H->wpAny (model X.prog X.w) X.A (execs st X.env) (SP X pins D) X.xe s
variable {M:Model} {A:Around} {s:Shared}
theorem SY {α:Type} {t:Sem α} {Q Q':α->Shared->Prop} {E:Value->Shared->Prop} (h:wpAny M A t Q E s) (hQ:∀ a s,Q a s->Q' a s):wpAny M A t Q' E s:=RH h hQ λ_ _ x=>x
section
variable {X:Cx}
noncomputable def fT (i:Nat):TE:=λσ H Q=>∃ v,σ[i]?=some (some v)/\Q v H
noncomputable def tC (v:V):TE:=λ_ H Q=>Q v H
variable {x:Str}
theorem HJ {i:Nat} {pos:Pos} (hN:X.N[i]?=some x) (hv:Vis X.env.scope x) (hd:(x == ("__debug__":Str))=false:=by decide) (hcd:(x == ("__classdict__":Str))=false:=by decide):PE X (.Name x pos) (fT i):=by
 intro pins s σ H Q I h;obtain ⟨v,e,h⟩:=h;obtain ⟨m,hn,hl⟩:=I.loc;obtain ⟨u,r,l⟩:=hl i x v hN e hv;have fin:EP X pins σ Q u s:=⟨v,H,I,r,h⟩
 rcases l with ⟨hk,hm⟩ | ⟨hk,c,hc,hcell⟩
 ·exact wpAny_Name (wpAny_loadName_local I.ok.kind hk hn hm fin) hd
 ·rcases hk with hk | hk
  ·exact wpAny_Name (wpAny_loadName_cell I.ok.kind hk hc hcell fin) hd
  ·exact wpAny_Name (wpAny_loadName_free I.ok.kind hk hc hcell fin hcd) hd
theorem aF {i j pos}:PE X (.Constant (.int i) j pos) (tC (.int i)):=λ_ _ _ H _ I h=>wpAny_Constant_int ⟨.int i,H,I.tok _,⟨_,rfl⟩,h⟩
theorem d8 {b j pos}:PE X (.Constant (.bool b) j pos) (tC (.bl b)):=λ_ _ _ H _ I h=>Constant_bool ⟨.bl b,H,I,rfl,h⟩
theorem gR {j pos}:PE X (.Constant .none j pos) (tC .SM):=λ_ _ _ H _ I h=>Constant_none ⟨.SM,H,I,rfl,h⟩
theorem aO {x j pos}:PE X (.Constant (.str x) j pos) (tC (.str x)):=λ_ _ _ H _ I h=>Calls.Constant_str ⟨.str x,H,I.tok _,⟨_,rfl⟩,h⟩
def Gl (X:Cx) (x:Str):Prop:=X.env.kindOf x=some .globalImplicit
variable {pins:List (Addr × Obj)} {s:Shared} {σ:St} {H:Hp} {u:Value}
theorem nq {E:Value->Shared->Prop} {pos:Pos} {Q:Value->Shared->Prop} (I:Inv X pins σ H s) (hg:Gl X x) (hm:X.mg x=some u) (h:Q u s)
  (hd:(x == ("__debug__":Str))=false:=by decide):wpAny (model X.prog X.w) X.A (eval (.Name x pos) X.env) Q E s :=
 Calls.Name_function_global I.ok.kind hg (Calls.loadGlobal_global (by rw [I.ok.glob];exact I.mod.glob.keeps I.bk) hm h) hd
theorem lj {E:Value->Shared->Prop} {pos:Pos} {Q:Value->Shared->Prop} (I:Inv X pins σ H s) (hg:Gl X x) (hm:X.mg x=none) (hv:bootBuiltins x=some u) (h:Q u s)
  (hn:x≠"__name__":=by decide) (hd:(x == ("__debug__":Str))=false:=by decide):wpAny (model X.prog X.w) X.A (eval (.Name x pos) X.env) Q E s:=by
 obtain ⟨mb,h1,h2⟩:=I.mod.blt;exact Calls.Name_function_global I.ok.kind hg (Calls.loadGlobal_builtin (by rw [I.ok.glob];exact I.mod.glob.keeps I.bk) hm (by rw [I.ok.blt];exact h1.keeps I.bk) ((h2 x hn).trans hv) h) hd
variable {v:V}
theorem bT {pos:Pos} (hg:Gl X x) (hm:X.mg x=some u) (r:RelV v u) (hd:(x == ("__debug__":Str))=false:=by decide):PE X (.Name x pos) (tC v) :=
 λ_ _ _ H _ I h=>nq I hg hm ⟨v,H,I,r,h⟩ hd
theorem iB {pos:Pos} (hg:Gl X x) (hm:X.mg x=none) (hv:bootBuiltins x=some u) (r:RelV v u) (hn:x≠"__name__":=by decide) (hd:(x == ("__debug__":Str))=false:=by decide):PE X (.Name x pos) (tC v) :=
 λ_ _ _ H _ I h=>lj I hg hm hv ⟨v,H,I,r,h⟩ hn hd
variable {a b:Expr} {ta tb:TE} {pos:Pos}
variable {tA tB':TT} {rest:List Expr}
noncomputable def Jq (t u:TT):TT:=λσ H Q=>t σ H λc H1=>if c=true then u σ H1 Q else Q false H1
noncomputable def tOr (t u:TT):TT:=λσ H Q=>t σ H λc H1=>if c=true then Q true H1 else u σ H1 Q
noncomputable def Ir (t:TT):TT:=λσ H Q=>t σ H λc H1=>Q (!c) H1
theorem nF (ha:PT X a tA):PW X (.BoolOp .And [a] pos) tA:=by
 intro wh pins s σ H Q I h;refine isTrue_and (SY (ha pins s σ H Q I h) λc s1 e=>?_)
 cases c with
 | true=>exact isTrue_and_nil e
 | false=>exact e
theorem eR (ha:PT X a tA):PW X (.BoolOp .Or [a] pos) tA:=by
 intro wh pins s σ H Q I h;refine isTrue_or (SY (ha pins s σ H Q I h) λc s1 e=>?_)
 cases c with
 | false=>exact isTrue_or_nil e
 | true=>exact e
theorem rj (ha:PT X a tA) (hb:PW X (.BoolOp .And (b::rest) pos) tB'):PW X (.BoolOp .And (a::b::rest) pos) (Jq tA tB'):=by
 intro wh pins s σ H Q I h;refine isTrue_and (SY (ha pins s σ H _ I h) λc s1 ⟨H1,I1,q1⟩=>?_)
 cases c with
 | true=>exact hb wh pins s1 σ H1 Q I1 q1
 | false=>exact ⟨H1,I1,q1⟩
theorem fH (ha:PT X a tA) (hb:PW X (.BoolOp .Or (b::rest) pos) tB'):PW X (.BoolOp .Or (a::b::rest) pos) (tOr tA tB'):=by
 intro wh pins s σ H Q I h;refine isTrue_or (SY (ha pins s σ H _ I h) λc s1 ⟨H1,I1,q1⟩=>?_)
 cases c with
 | true=>exact ⟨H1,I1,q1⟩
 | false=>exact hb wh pins s1 σ H1 Q I1 q1
theorem cW (ha:PT X a tA):PT X (.UnaryOp .Not a pos) (Ir tA):=by intro pins s σ H Q I h;exact isTrue_not (ha pins s σ H (λc H1=>Q (!c) H1) I h)
noncomputable def D9 (ta tb:TE):TE:=λσ H Q=>ta σ H λx H1=>∃ c,x=.bl c/\if c=true then tb σ H1 Q else Q (.bl false) H1
noncomputable def Jv (ta tb:TE):TE:=λσ H Q=>ta σ H λx H1=>∃ c,x=.bl c/\if c=true then Q (.bl true) H1 else tb σ H1 Q
noncomputable def GD (ta:TE):TE:=λσ H Q=>ta σ H λx H1=>∃ c,x=.bl c/\Q (.bl (!c)) H1
theorem jI {op} {t:TE} (h:PE X a t):PE X (.BoolOp op [a] pos) t:=λpins s σ H Q I hw=>BoolOp_one (h pins s σ H Q I hw)
theorem jH (ha:PE X a ta) (hb:PE X (.BoolOp .And (b::rest) pos) tb):PE X (.BoolOp .And (a::b::rest) pos) (D9 ta tb):=by
 intro pins s σ H Q I h;refine BoolOp_and (SY (ha pins s σ H _ I h) λv s1 ⟨x,H1,I1,r1,q1⟩=>?_);obtain ⟨c,rfl,q1⟩:=q1;cases r1;refine QB ?_
 cases c with
 | true=>exact hb pins s1 σ H1 Q I1 q1
 | false=>exact ⟨.bl false,H1,I1,rfl,q1⟩
theorem Ds (ha:PE X a ta) (hb:PE X (.BoolOp .Or (b::rest) pos) tb):PE X (.BoolOp .Or (a::b::rest) pos) (Jv ta tb):=by
 intro pins s σ H Q I h;refine BoolOp_or (SY (ha pins s σ H _ I h) λv s1 ⟨x,H1,I1,r1,q1⟩=>?_);obtain ⟨c,rfl,q1⟩:=q1;cases r1;refine QB ?_
 cases c with
 | false=>exact hb pins s1 σ H1 Q I1 q1
 | true=>exact ⟨.bl true,H1,I1,rfl,q1⟩
theorem HI (ha:PE X a ta):PE X (.UnaryOp .Not a pos) (GD ta):=by intro pins s σ H Q I h;refine UnaryOp_ (SY (ha pins s σ H _ I h) λv s1 ⟨x,H1,I1,r1,q1⟩=>?_);obtain ⟨c,rfl,q1⟩:=q1;cases r1;exact not_of (QB ⟨.bl (!c),H1,I1,rfl,q1⟩)
noncomputable def tIf (t:TT) (ta tb:TE):TE:=λσ H Q=>t σ H λc H1=>if c=true then ta σ H1 Q else tb σ H1 Q
theorem fG {c:Expr} (hc:PT X c tA) (ha:PE X a ta) (hb:PE X b tb):PE X (.IfExp c a b pos) (tIf tA ta tb):=by
 intro pins s σ H Q I h;refine wpAny_IfExp (SY (hc pins s σ H _ I h) λd s1 ⟨H1,I1,q1⟩=>?_)
 cases d with
 | true=>exact ha pins s1 σ H1 Q I1 q1
 | false=>exact hb pins s1 σ H1 Q I1 q1
end
def SO (K:W.Frag) (H:Hp) (a:Addr) (xs:List V):Prop :=
 Rd H a (.lst xs) \/
  ∃ (o:Obj) (its:Array Value) (n:Nat),K.lookup a=some o/\o.cls=.type "list"/\o.dict=none/\o.data=.seq its n/\its.size<=sizeLine/\Vals xs its.toList
def Tg (K:W.Frag) (H:Hp) (a:Addr) (xs:List V):Prop :=
 Rd H a (.tup xs) \/
  ∃ (o:Obj) (its:Array Value) (n:Nat),K.lookup a=some o/\o.cls=.type "tuple"/\o.data=.seq its n/\its.size<=sizeLine/\Vals xs its.toList
noncomputable def JE:Value->Option V
 | .none=>some .SM
 | .bool b=>some (.bl b)
 | .int i _=>some (.int i)
 | .str x _=>some (.str x)
 | .bytes b _=>some (.YS b)
 | .float b _=>some (.flt b)
 | .ref a=>some (.ref a)
 | .type n=>some (.ty n)
 | _=>none
theorem RelV.abs {x:V} (r:RelV x u):JE u=some x:=by
 cases x with
 | SM=>cases r;rfl
 | bl _=>cases r;rfl
 | int _=>obtain ⟨t,rfl⟩:=r;rfl
 | str _=>obtain ⟨t,rfl⟩:=r;rfl
 | YS _=>obtain ⟨t,rfl⟩:=r;rfl
 | flt _=>obtain ⟨t,rfl⟩:=r;rfl
 | ref _=>cases r;rfl
 | ty _=>cases r;rfl
theorem RelV.inj {x y:V} (r:RelV x u) (q:RelV y u):x=y:=Qf (r.abs.symm.trans q.abs)
theorem Vals.inj:∀ {xs ys:List V} {us:List Value},Vals xs us->Vals ys us->xs=ys
 | _,_,_,.nil,.nil=>rfl
 | _,_,_,.cons r t,.cons r' t'=>by rw [r.inj r',Vals.inj t t']
section
variable {X:Cx} {pins:List (Addr × Obj)} {σ:St} {H:Hp} {s:Shared} {a:Addr} {xs ys:List V}
variable {K:W.Frag}
theorem SO.of (h:H a=some (.lst xs)):SO K H a xs:=.inl (.inl h)
theorem Tg.of (h:H a=some (.tup xs)):Tg K H a xs:=.inl (.inl h)
theorem Inv.list (I:Inv X pins σ H s) (h:SO X.K H a xs):∃ its:List Value,Vals xs its/\PlainL s.heap a its.toArray/\xs.length<=sizeLine:=by
 rcases h with h | ⟨o,its,n,hk,hc,hd,hs,hz,r⟩
 ·obtain ⟨z,its,n,r,e⟩:=h.ok I.hok;exact ⟨its,r,⟨_,n,e,rfl,rfl,rfl⟩,z⟩
 ·refine ⟨its.toList,r,⟨o,n,I.Wa a o hk,hc,hd,by simpa using hs⟩,?_⟩;have e:=r.length;simp only [Q4] at e;omega
theorem Inv.tuple (I:Inv X pins σ H s) (h:Tg X.K H a xs):∃ its:List Value,Vals xs its/\IsTup s.heap a its.toArray/\xs.length<=sizeLine:=by
 rcases h with h | ⟨o,its,n,hk,hc,hs,hz,r⟩
 ·obtain ⟨z,its,r,p⟩:=h.ok I.hok;exact ⟨its,r,p,z⟩
 ·refine ⟨its.toList,r,⟨o,I.Wa a o hk,hc,n,by simpa using hs⟩,?_⟩;have e:=r.length;simp only [Q4] at e;omega
theorem Inv.Zq (I:Inv X pins σ H s) (h:SO X.K H a xs) (h':SO X.K H a ys):xs=ys:=by
 obtain ⟨its,r,⟨o,n,e,_,_,d⟩,_⟩:=I.list h;obtain ⟨its',r',⟨o',n',e',_,_,d'⟩,_⟩:=I.list h';rw [e] at e';cases e';rw [d] at d';injection d' with d1 _;have:its=its':=by simpa using PZ Array.toList d1
 subst this;exact r.inj r'
theorem Inv.Yc (I:Inv X pins σ H s) (h:Tg X.K H a xs) (h':Tg X.K H a ys):xs=ys:=by
 obtain ⟨its,r,⟨o,e,_,n,d⟩,_⟩:=I.tuple h;obtain ⟨its',r',⟨o',e',_,n',d'⟩,_⟩:=I.tuple h';rw [e] at e';cases e';rw [d] at d';injection d' with d1 _;have:its=its':=by simpa using PZ Array.toList d1
 subst this;exact r.inj r'
end
abbrev Cx.XZ (X:Cx) (E:Value->Shared->Prop):Cx:={ X with xe:=E }
noncomputable abbrev Cx.nox (X:Cx):Cx:=X.XZ λ_ _=>False
theorem Cx.Ok.XZ (ok:X.Ok) (E:Value->Shared->Prop):(X.XZ E).Ok :=
 ⟨ok.mod,ok.kind,ok.glob,ok.blt,ok.above,ok.inj,ok.has,ok.cab,ok.hd,ok.frames,ok.stk,ok.exf,ok.bs,ok.ZW,ok.Zp,ok.ZX,ok.Xp,ok.frf⟩
theorem Cx.Ok.VY {E:Value->Shared->Prop} (ok:(X.XZ E).Ok):X.Ok :=
 ⟨ok.mod,ok.kind,ok.glob,ok.blt,ok.above,ok.inj,ok.has,ok.cab,ok.hd,ok.frames,ok.stk,ok.exf,ok.bs,ok.ZW,ok.Zp,ok.ZX,ok.Xp,ok.frf⟩
section
variable {X:Cx} {pins:List (Addr × Obj)} {σ:St} {H:Hp} {s:Shared} {E:Value->Shared->Prop}
theorem Inv.XZ (I:Inv X pins σ H s) (E:Value->Shared->Prop):Inv (X.XZ E) pins σ H s:=⟨I.ok.XZ E,I.os,I.bare,I.base,I.loc,I.cell,I.free,I.Wc,I.pin,I.hok,I.len⟩
theorem Inv.VY (I:Inv (X.XZ E) pins σ H s):Inv X pins σ H s:=⟨I.ok.VY,I.os,I.bare,I.base,I.loc,I.cell,I.free,I.Wc,I.pin,I.hok,I.len⟩
theorem SP.VY {D:kx} {f:Flow} {s':Shared} (h:SP (X.XZ E) pins D f s'):SP X pins D f s':=by
 cases f with
 | next=>obtain ⟨σ',H',I,q⟩:=h;exact ⟨σ',H',I.VY,q⟩
 | brk=>obtain ⟨σ',H',I,q⟩:=h;exact ⟨σ',H',I.VY,q⟩
 | cont=>obtain ⟨σ',H',I,q⟩:=h;exact ⟨σ',H',I.VY,q⟩
 | ret u=>obtain ⟨v,σ',H',I,r,q⟩:=h;exact ⟨v,σ',H',I.VY,r,q⟩
theorem YH.nox {st:List Stmt} {t:TS} (h:YH X.nox st t):YH X st t:=λpins s σ H D I hw =>
 RH (h pins s σ H D (I.XZ _) hw) (λ_ _ q=>q.VY) λ_ _ z=>False.elim z
end
section
variable {X:Cx} {st:Stmt} {rest:List Stmt} {t u:TS} {e:Expr} {te:TE} {pos:Pos}
noncomputable def AO:TS:=λD σ H=>D.nx σ H
noncomputable def lX (t u:TS):TS:=λD σ H=>t { D with nx:=u D } σ H
theorem aQ:YH X [] AO:=λ_ _ σ H _ I h=>R6 ⟨σ,H,I,h⟩
theorem aE (h1:PS X st t) (h2:YH X rest u):YH X (st::rest) (lX t u):=by
 intro pins s σ H D I h;refine wpAny_execs_cons (SY (h1 pins s σ H { D with nx:=u D } I h) λf s1 q=>?_)
 cases f with
 | next =>obtain ⟨σ',H',I',q⟩:=q;exact h2 pins s1 σ' H' D I' q
 | ret v=>exact q
 | brk=>exact q
 | cont=>exact q
theorem aH (h1:PS X st t):YH X [st] t:=by
 intro pins s σ H D I h;refine wpAny_execs_cons (SY (h1 pins s σ H D I h) λf s1 q=>?_)
 cases f with
 | next=>exact R6 q
 | ret v=>exact q
 | brk=>exact q
 | cont=>exact q
noncomputable def GB:TS:=λD σ H=>D.ct σ H
theorem xN:PS X (.Continue pos) GB:=λ_ _ σ H _ I h=>wpAny_Continue ⟨σ,H,I,h⟩
theorem Inv.quiet {pins:List (Addr × Obj)} {σ:St} {H:Hp} {s:Shared} (I:Inv X pins σ H s):interactive X.env=false:=by simp [interactive,I.ok.kind]
noncomputable def rR (te:TE):TS:=λD σ H=>te σ H λ_ H1=>D.nx σ H1
theorem bP (he:PE X e te) (hs:swapsWith e none pos.line X.env=pure false:=by rfl):PS X (.Expr e pos) (rR te):=by intro pins s σ H D I h;exact wpAny_Expr_any (SY (he pins s σ H _ I h) λv s1 ⟨x,H1,I1,r1,q1⟩=>⟨σ,H1,I1,q1⟩) I.quiet hs
noncomputable def Ec (te:TE):TS:=λD σ H=>te σ H D.rt
theorem aP (he:PE X e te):PS X (.Return (some e) pos) (Ec te):=by intro pins s σ H D I h;exact wpAny_Return_some (SY (he pins s σ H _ I h) λv s1 ⟨x,H1,I1,r1,q1⟩=>⟨x,σ,H1,I1,r1,q1⟩)
noncomputable def Jw:TS:=λD _ H=>D.rt .SM H
theorem Ay:PS X (.Return none pos) Jw:=λ_ _ σ H _ I h=>wpAny_Return_none ⟨.SM,σ,H,I,rfl,h⟩
noncomputable def F2 (c:TT) (t u:TS):TS:=λD σ H=>c σ H λb H1=>if b=true then t D σ H1 else u D σ H1
theorem bE {c:Expr} {a b:List Stmt} {tc:TT} (hc:PT X c tc) (ha:YH X a t) (hb:YH X b u):PS X (.If c a b pos) (F2 tc t u):=by
 intro pins s σ H D I h;refine wpAny_If (SY (hc pins s σ H _ I h) λd s1 ⟨H1,I1,q1⟩=>?_)
 cases d with
 | true=>exact ha pins s1 σ H1 D I1 q1
 | false=>exact hb pins s1 σ H1 D I1 q1
noncomputable def Iq:TS:=λ_ _ _=>False
theorem dF:PS X st Iq:=λ_ _ _ _ _ _ h=>h.elim
end
abbrev TG:=V->St->Hp->(St->Hp->Prop)->Prop
abbrev ZY:=List V->St->Hp->(St->Hp->Prop)->Prop
def PG (X:Cx) (target:Expr) (t:TG):Prop :=
 ∀ (pins:List (Addr × Obj)) (s:Shared) (σ:St) (H:Hp) (v:V) (u:Value) (Q:St->Hp->Prop),Inv X pins σ H s->RelV v u->t v σ H Q ->
  wpAny (model X.prog X.w) X.A (assign target X.env u) (λ_ s'=>∃ σ' H',Inv X pins σ' H' s'/\Q σ' H') X.xe s
def PGs (X:Cx) (ts:List Expr) (t:ZY):Prop :=
 ∀ (pins:List (Addr × Obj)) (s:Shared) (σ:St) (H:Hp) (vs:List V) (us:List Value) (Q:St->Hp->Prop),Inv X pins σ H s->Vals vs us->t vs σ H Q ->
  wpAny (model X.prog X.w) X.A (assignInOrder ((assignEach ts X.env).map (·.2)) us) (λ_ s'=>∃ σ' H',Inv X pins σ' H' s'/\Q σ' H') X.xe s
abbrev Cc:=V->V->V->Hp->(Hp->Prop)->Prop
def GG (X:Cx) (t:Cc):Prop :=
 ∀ (pins:List (Addr × Obj)) (s:Shared) (σ:St) (H:Hp) (o i v:V) (ov iv u:Value) (Q:Hp->Prop),Inv X pins σ H s->RelV o ov->RelV i iv->RelV v u->t o i v H Q ->
  wpAny (model X.prog X.w) X.A (setItem ov iv u) (λ_ s'=>∃ H',Inv X pins σ H' s'/\Q H') X.xe s
abbrev TIp:=V->V->Hp->VK->Prop
def PIp (X:Cx) (op:Operator) (t:TIp):Prop :=
 ∀ (pins:List (Addr × Obj)) (s:Shared) (σ:St) (H:Hp) (x y:V) (v u:Value) (Q:VK),Inv X pins σ H s->RelV x v->RelV y u->t x y H Q ->
  wpAny (model X.prog X.w) X.A (inplaceOp op v u) (EP X pins σ Q) X.xe s
section
variable {X:Cx} {pos:Pos}
noncomputable def d6 (i:Nat):TG:=λv σ H Q=>Q (σ.set i (some v)) H
variable {i:Nat} {x:Str}
theorem a7 (hN:X.N.Nodup) (hi:X.N[i]?=some x) (hx:Loc X.env.scope x) (hf:X.fn x=true\/X.env.scope.names.lookup x=some .local:=by first | exact .inl rfl | exact .inr rfl | assumption):PG X (.Name x pos) (d6 i):=by intro pins s σ H v u Q I r h;exact wpAny_assign_Name (lW I hN hi hx r (λs' I'=>⟨_,H,I',h⟩) hf)
noncomputable def CD:ZY:=λvs σ H Q=>vs=[]/\Q σ H
noncomputable def mw (t:TG) (u:ZY):ZY:=λvs σ H Q=>∃ v r,vs=v::r/\t v σ H λσ' H'=>u r σ' H' Q
theorem eH:PGs X [] CD:=by intro pins s σ H vs us Q I r h;obtain ⟨e,h⟩:=h;subst e;cases r;exact assignInOrder_nil ⟨σ,H,I,h⟩
variable {e:Expr} {es:List Expr}
theorem bN {t:TG} {u:ZY} (h1:PG X e t) (h2:PGs X es u)
  (hs:(assignEach (e::es) X.env).map (·.2)=assign e X.env::(assignEach es X.env).map (·.2):=by rfl):PGs X (e::es) (mw t u):=by
 intro pins s σ H vs us Q I r h;obtain ⟨v,vr,e1,h⟩:=h;subst e1
 cases r with
 | cons r rr =>rw [hs];refine Sk (SY (h1 pins s σ H _ _ _ I r h) λ_ s1 ⟨σ1,H1,I1,q1⟩=>?_);exact h2 pins s1 σ1 H1 _ _ Q I1 rr q1
noncomputable def A7 (K:W.Frag) (n:Nat) (t:ZY):TG:=λv σ H Q=>∃ a xs,v=.ref a/\Tg K H a xs/\xs.length=n/\t xs σ H Q
theorem gF {k:Nat} {t:ZY} {n:Nat} (hc:X.calm=true) (h:PGs X es t)
  (hn:(assignEach es X.env).length=n:=by rfl) (hst:(assignEach es X.env).findIdx? (·.1)=none:=by rfl):PG X (.Tuple es k pos) (A7 X.K n t):=by
 intro pins s σ H v u Q I r hw;obtain ⟨a,xs,e1,hq,hl,hw⟩:=hw;subst e1;cases r;obtain ⟨its,rv,ht,hz⟩:=I.tuple hq;refine assign_Tuple_tuple (I.ok.hd hc) ht (by simp [hn,<- hl,rv.length]) hst λh' hx=>?_;have I1:Inv X pins σ H { s with heap:=h' }:=I.kept (t':=s.toks) λb o e=>hx b o (Qc (PF e)) e;exact h pins _ σ H xs _ Q I1 (by simpa using rv) hw
noncomputable def JI (to ti:TE) (t:Cc):TG:=λv σ H Q=>to σ H λo H1=>ti σ H1 λi H2=>t o i v H2 λH3=>Q σ H3
variable {o:Expr} {to ti:TE}
theorem vF {i:Expr} {t:Cc} (ho:PE X o to) (hi:PE X i ti) (hs:GG X t)
  (ha:∀ v,assign (.Subscript o i pos) X.env v=(do
   let ov <- holding [v] (eval o X.env);let iv <- holding [v,ov] (eval i X.env)
   standAt pos
   holding [v,ov,iv] (setItem ov iv v)
   release [v,ov,iv] []):=by intro _;rfl):PG X (.Subscript o i pos) (JI to ti t):=by
 intro pins s σ H v u Q I r h;rw [ha];refine Pg (Rp (SY (ho pins s σ H _ I h) λov s1 ⟨x,H1,I1,r1,q1⟩=>?_));refine Pg (Rp (SY (hi pins s1 σ H1 _ I1 q1) λiv s2 ⟨y,H2,I2,r2,q2⟩=>?_));refine Pg (RK (Pg (Rp (SY (hs pins s2 σ H2 x y v ov iv u _ I2 r1 r2 r q2) λ_ s3 ⟨H3,I3,q3⟩=>?_))));exact wpAny_release ⟨σ,H3,I3,q3⟩
noncomputable def rQ (te:TE) (g:TG):TS:=λD σ H=>te σ H λx H1=>g x σ H1 D.nx
variable {te:TE}
theorem gH {tg:Expr} {g:TG} (he:PE X e te) (hg:PG X tg g) (hs:swapsWithSole [tg] e pos.line X.env=pure false:=by rfl) (hw:swappedStores [tg] e X.env=pure none:=by rfl)
  (h1:(assignEach [tg] X.env).map (·.2)=[assign tg X.env]:=by rfl):PS X (.Assign [tg] e pos) (rQ te g):=by
 intro pins s σ H D I h;refine wpAny_Assign_stores (SY (he pins s σ H _ I h) λv s1 ⟨x,H1,I1,r1,q1⟩=>?_) hs hw;rw [h1];exact SY (hg pins s1 σ H1 x v _ I1 r1 q1) λ_ s2 q=>q
variable {pos':Pos}
theorem bQ (hN:X.N.Nodup) (hi:X.N[i]?=some x) (hx:Loc X.env.scope x) (he:PE X e te) (hs:swapsWith e (some (.Name x pos')) pos.line X.env=pure false:=by rfl) (hf:X.fn x=true\/X.env.scope.names.lookup x=some .local:=by first | exact .inl rfl | exact .inr rfl | assumption) :
  PS X (.Assign [.Name x pos'] e pos) (rQ te (d6 i)):=by
 intro pins s σ H D I h;refine wpAny_Assign_Name (SY (he pins s σ H _ I h) λv s1 ⟨y,H1,I1,r1,q1⟩=>?_) hs;exact lW I1 hN hi hx r1 (λs2 I2=>⟨_,H1,I2,q1⟩) hf
noncomputable def Iu (i j:Nat) (ta:TA):TS:=λD σ H=>ta σ H λvs H1=>∃ v w,vs=[v,w]/\D.nx ((σ.set i (some v)).set j (some w)) H1
theorem rg {j:Nat} {y:Str} {a b:Expr} {ta:TA} {px py pt:Pos} {kt k2 pt2} (hc:X.calm=true) (hN:X.N.Nodup) (hi:X.N[i]?=some x) (hj:X.N[j]?=some y) (hij:i≠j)
  (hx:X.env.scope.names.lookup x=some .local) (hy:X.env.scope.names.lookup y=some .local) (ha:PA X [a,b] ta)
  (hw:swappedStores [.Tuple [.Name x px,.Name y py] kt pt] (.Tuple [a,b] k2 pt2) X.env=pure (some [x,y]))
  (hs:swapsWithSole [.Tuple [.Name x px,.Name y py] kt pt] (.Tuple [a,b] k2 pt2) pos.line X.env=pure false:=by rfl) :
  PS X (.Assign [.Tuple [.Name x px,.Name y py] kt pt] (.Tuple [a,b] k2 pt2) pos) (Iu i j ta):=by
 intro pins s σ H D I h;rw [exec_Assign_arm];refine Pg (RK ?_);rw [hs];refine Pg (PC ?_);rw [M1 (by decide)];refine Pg (Tuple_ (SY (ha _ pins s σ H _ I h) λus s1 ⟨vs,H1,I1,r1,q1⟩=>?_));obtain ⟨v,w,e1,q1⟩:=q1;subst e1
 obtain ⟨u1,u2,rfl,rv,rw'⟩:∃ u1 u2,us=[u1,u2]/\RelV v u1/\RelV w u2:=by
  cases r1 with
  | cons p q =>
   cases q with
   | cons p' q' =>cases q';exact ⟨_,_,rfl,p,p'⟩
 refine Ri ?_ (by show 2<=sizeLine;decide);have I2:Inv X pins σ H1 { s1 with heap:=s1.heap.push { cls:=.type "tuple",data:=.seq [u1,u2].toArray } }:=I1.kept (t':=s1.toks) λb o e=>Pf _ e;rw [hw];refine Pg (PC ?_);show wpAny (model X.prog X.w) X.A (do rule "assign.swapped-stores";let items <- unpackItems (.ref s1.heap.objs.size) 2 none;assignInOrder [λv=>bindName X.env y v,λv=>bindName X.env x v] items.reverse;pure Flow.next) _ _ _;refine Pg (wpAny_rule (Pg (unpackItems_tuple (items:=#[u1,u2]) (I.ok.hd hc) (Sl s1.heap _) λh' hx'=>?_)));have I3:=I2.kept (h':=h') (t':=s1.toks) λb o e=>hx' b o (Qc (PF e)) e;show wpAny _ _ (assignInOrder [λv=>bindName X.env y v,λv=>bindName X.env x v] [u2,u1] >>= λ_=>pure Flow.next) _ _ _;refine Pg (Sk (wpAny_bindName (lW I3 hN hj (.inl hy) rw' (λs2 I4=>?_) (.inr hy))));refine Sk (wpAny_bindName (lW I4 hN hi (.inl hx) rv (λs3 I5=>assignInOrder_nil (PC ?_)) (.inr hx)));rw [List.set_comm _ _ (PL hij)] at I5;exact ⟨_,H1,I5,q1⟩
noncomputable def JS (i:Nat) (te:TE) (ti:TIp):TS:=λD σ H=>∃ x,σ[i]?=some (some x)/\te σ H λy H1=>ti x y H1 λz H2=>D.nx (σ.set i (some z)) H2
variable {op:Operator}
theorem yZ {ti:TIp} (hN:X.N.Nodup) (hi:X.N[i]?=some x) (hx:Loc X.env.scope x) (he:PE X e te) (ho:PIp X op ti) (hf:X.fn x=true\/X.env.scope.names.lookup x=some .local:=by first | exact .inl rfl | exact .inr rfl | assumption) :
  PS X (.AugAssign (.Name x pos') op e pos) (JS i te ti):=by
 intro pins s σ H D I h;obtain ⟨v,e1,h⟩:=h;obtain ⟨m,hn,hl⟩:=I.loc;have vis:Vis X.env.scope x:=by rcases hx with k | k;exact .inl k;exact .inr (.inl k)
 obtain ⟨u,r,l⟩:=hl i x v hi e1 vis;refine wpAny_AugAssign_Name ?_
 have go:wpAny (model X.prog X.w) X.A (eval e X.env) (λw s₂=>wpAny (model X.prog X.w) X.A (inplaceOp op u w) (λr s₃=>wpAny (model X.prog X.w) X.A (storeName X.env x r) (λ_=>SP X pins D .next) X.xe s₃) X.xe s₂) X.xe s:=by refine SY (he pins s σ H _ I h) λw s1 ⟨y,H1,I1,r1,q1⟩=>?_;refine SY (ho pins s1 σ H1 v y u w _ I1 r r1 q1) λz s2 ⟨zv,H2,I2,r2,q2⟩=>?_;exact lW I2 hN hi hx r2 (λs3 I3=>⟨_,H2,I3,q2⟩) hf
 rcases l with ⟨hk,hm⟩ | ⟨hk,c,hc,hcell⟩
 ·exact wpAny_loadName_local I.ok.kind hk hn hm go
 ·rcases hk with hk | hk
  ·exact wpAny_loadName_cell I.ok.kind hk hc hcell go
  ·rcases hx with k | k
   ·have:X.env.scope.names.lookup x=some .free:=hk;rw [k] at this;cases this
   ·have:X.env.scope.names.lookup x=some .free:=hk;rw [k] at this;cases this
def Jr (to ti te:TE) (ZZ:V->V->Hp->VK->Prop) (tip:TIp) (Z0:Cc):TS:=λD σ H=>to σ H λo H1=>ti σ H1 λi H2=>ZZ o i H2 λx H3=>te σ H3 λy H4=>tip x y H4 λz H5=>Z0 o i z H5 λH6=>D.nx σ H6
def ID (X:Cx) (t:V->V->Hp->VK->Prop):Prop :=
 ∀ (pins:List (Addr × Obj)) (s:Shared) (σ:St) (H:Hp) (o i:V) (ov iv:Value) (Q:VK),Inv X pins σ H s->RelV o ov->RelV i iv->t o i H Q ->
  wpAny (model X.prog X.w) X.A (getItem ov iv) (EP X pins σ Q) X.xe s
theorem Ax {i:Expr} {ZZ:V->V->Hp->VK->Prop} {tip:TIp} {Z0:Cc} {tpos:Pos} (ho:PE X o to) (hi:PE X i ti) (hg:ID X ZZ) (he:PE X e te) (hp:PIp X op tip) (hs:GG X Z0)
  (ha:∀ ov iv new,augStore i ov iv new=(do holding [new,ov,iv] (setItem ov iv new);release [new,ov,iv] [];pure .next):=by intros;rfl):PS X (.AugAssign (.Subscript o i tpos) op e pos) (Jr to ti te ZZ tip Z0):=by
 intro pins s σ H D I h;refine wpAny_AugAssign_SubscriptAny (SY (ho pins s σ H _ I h) λov s1 ⟨x1,H1,I1,r1,q1⟩=>?_) ha;refine SY (hi pins s1 σ H1 _ I1 q1) λiv s2 ⟨x2,H2,I2,r2,q2⟩=>?_;refine SY (hg pins s2 σ H2 x1 x2 ov iv _ I2 r1 r2 q2) λold s3 ⟨x3,H3,I3,r3,q3⟩=>?_;refine SY (he pins s3 σ H3 _ I3 q3) λv s4 ⟨x4,H4,I4,r4,q4⟩=>?_;refine SY (hp pins s4 σ H4 x3 x4 old v _ I4 r3 r4 q4) λnew s5 ⟨x5,H5,I5,r5,q5⟩=>?_;exact SY (hs pins s5 σ H5 x1 x2 x5 ov iv new _ I5 r1 r2 r5 q5) λ_ s6 ⟨H6,I6,q6⟩=>⟨σ,H6,I6,q6⟩
noncomputable def ipI (f:Int->Int->Int):TIp:=λx y H Q=>∃ i j,x=.int i/\y=.int j/\Q (.int (f i j)) H
theorem uN:PIp X .Add (ipI λi j=>i+j):=by intro pins s σ H x y v u Q I r1 r2 h;obtain ⟨i,j,e1,e2,q⟩:=h;subst e1;subst e2;obtain ⟨t,rfl⟩:=r1;obtain ⟨t',rfl⟩:=r2;exact iadd_int ⟨.int _,H,I.tok _,⟨_,rfl⟩,q⟩
theorem Hq:PIp X .Sub (ipI λi j=>i - j):=by intro pins s σ H x y v u Q I r1 r2 h;obtain ⟨i,j,e1,e2,q⟩:=h;subst e1;subst e2;obtain ⟨t,rfl⟩:=r1;obtain ⟨t',rfl⟩:=r2;exact isub_int ⟨.int _,H,I.tok _,⟨_,rfl⟩,q⟩
def Ee (c:TT) (tb:TS):TS:=λD σ H=>∃ W:Nat->St->Hp->Prop,(∃ m,W m σ H)/\∀ m σ H,W m σ H ->
 c σ H λb H1=>if b=true then ∃ N:St->Hp->Prop,(∀ σ' H',N σ' H'->∃ m',m' < m/\W m' σ' H')/\tb { D with nx:=N,ct:=N,bk:=D.nx } σ H1 else D.nx σ H1
theorem rh {c:Expr} {body:List Stmt} {tc:TT} {tb:TS} (hp:PassesOwn (model X.prog X.w) X.A X.env X.xe) (hc:PT X c tc) (hb:YH X body tb):PS X (.While c body [] pos) (Ee tc tb):=by
 intro pins s σ H D I h;obtain ⟨W,⟨m0,w0⟩,turn⟩:=h;refine wpAny_While (codeAny_whileLoop (λn s'=>∃ σ' H',Inv X pins σ' H' s'/\W n σ' H') ?_ m0 ⟨σ,H,I,w0⟩);rintro n s1 ⟨σ1,H1,I1,w1⟩;refine Rb hp (SY (hc pins s1 σ1 H1 _ I1 (turn n σ1 H1 w1)) λb s2 ⟨H2,I2,q2⟩=>?_)
 cases b with
 | true =>
  obtain ⟨N,hN,q2⟩:=q2;rw [Ph rfl];refine Rb hp (SY (hb pins s2 σ1 H2 _ I2 q2) λf s3 q3=>?_)
  cases f with
  | next =>obtain ⟨σ3,H3,I3,n3⟩:=q3;obtain ⟨m',hm,w3⟩:=hN σ3 H3 n3;exact ⟨m',hm,σ3,H3,I3,w3⟩
  | cont =>obtain ⟨σ3,H3,I3,n3⟩:=q3;obtain ⟨m',hm,w3⟩:=hN σ3 H3 n3;exact ⟨m',hm,σ3,H3,I3,w3⟩
  | brk=>exact q3
  | ret v=>exact q3
 | false =>rw [M1 Pk];exact R6 ⟨σ1,H2,I2,q2⟩
end
structure It where
 go:Nat->Hp->Prop
 Yd:Nat->Hp->V->Hp->Prop
 stop:Nat->Hp->Prop
def rY (X:Cx) (pins:List (Addr × Obj)) (H:Hp) (b:Addr):Prop :=
 H b=none/\b≠X.env.locals/\b ∉ X.fs/\(b ∈ X.ex\/X.s₀.heap.objs.size<=b)/\(∀ x c,X.env.cells.lookup x=some c->c≠b)/\∀ p ∈ X.pn++pins,p.1≠b
variable {σ:St}
theorem Inv.X0 {pins:List (Addr × Obj)} {H':Hp} (I:Inv X pins σ H s) (hb:s.heap.objs.size<=b) (hn:H' b=none):rY X pins H' b:=by
 refine ⟨hn,QN (PV I.lt hb),I.nofs hb,.inr (Qd I.sz hb),λx c e z=>?_,λp hp z=>?_⟩
 ·obtain ⟨v,q⟩:=I.cell x c e;exact absurd (PV q.lt (by rw [z];exact hb)) (QO _)
 ·exact absurd (PV (PF (I.pin p hp).1) (by rw [z];exact hb)) (QO _)
structure pq (P:Program) (w:World) (K:W.Frag) (tg:Expr) (J:It) (fp:List Addr) (it:Addr) (tn:Nat->Heap->Prop):Prop where
 mem:it ∈ fp
 obj:∀ i h,tn i h->∀ b ∈ fp,∃ o,h.get? b=some o/\∀ v,o.data≠.cell v
 keep:∀ i h h',tn i h->(∀ b ∈ fp,∀ o,h.get? b=some o->h'.get? b=some o)->tn i h'
 item:∀ (X:Cx),X.prog=P->X.w=w->X.K=K->X.calm=true->∀ (i:Nat) (pins:List (Addr × Obj)) (s:Shared) (σ:St) (H:Hp) (E:Value->Shared->Prop),Inv X pins σ H s->(∀ b ∈ fp,rY X pins H b)->tn i s.heap->J.go i H ->
  wpAny (model P w) X.A (pyNext (.ref it)) (λr s1=>∃ u,r=some u /\
   wpAny (model P w) X.A (letOwnedTupleGo tg (.ref it) u) (λ_ s2=>∃ x H',Inv X pins σ H' s2/\RelV x u/\J.Yd i H x H'/\tn (i+1) s2.heap/\∀ b ∈ fp,H' b=none) E s1) E s
 done:∀ (X:Cx),X.prog=P->X.w=w->X.K=K->X.calm=true->∀ (i:Nat) (pins:List (Addr × Obj)) (s:Shared) (σ:St) (H:Hp) (E:Value->Shared->Prop),Inv X pins σ H s->(∀ b ∈ fp,rY X pins H b)->tn i s.heap->J.stop i H ->
  wpAny (model P w) X.A (pyNext (.ref it)) (λr s1=>r=none/\Inv X pins σ H s1) E s
 self:∀ (A:Around) (i:Nat) (s:Shared) (Q:Value->Shared->Prop) (E:Value->Shared->Prop),tn i s.heap->Q (.ref it) s->wpAny (model P w) A (pyIter (.ref it)) Q E s
abbrev TI:=St->Hp->(It->Hp->Prop)->Prop
def PIE (X:Cx) (pins:List (Addr × Obj)) (σ:St) (tg:Expr) (R:It->Hp->Prop) (itv:Value) (s2:Shared):Prop :=
 ∃ (it:Addr) (fp:List Addr) (tn:Nat->Heap->Prop) (J:It) (H':Hp),itv=.ref it/\Inv X pins σ H' s2/\pq X.prog X.w X.K tg J fp it tn/\tn 0 s2.heap/\(∀ b ∈ fp,rY X pins H' b)/\R J H'
def PI (X:Cx) (tg iter:Expr) (wi:TI):Prop :=
 ∀ (pins:List (Addr × Obj)) (s:Shared) (σ:St) (H:Hp) (R:It->Hp->Prop),Inv X pins σ H s->wi σ H R ->
  wpAny (model X.prog X.w) X.A (eval iter X.env) (λv s1=>wpAny (model X.prog X.w) X.A (pyIter v) (PIE X pins σ tg R) X.xe s1) X.xe s
variable {tg:Expr}
theorem tq {E:Value->Shared->Prop} {it:Addr} {n:String} {vs:Array Value} {Q:Unit->Shared->Prop} (ho:s.heap.get? it=some o) (hc:o.cls=.type n) (hd:o.data=.fields vs)
  (hn:["enumerate","zip","dict_itemiterator","dict_reverseitemiterator","odict_iterator","itertools.zip_longest","itertools.pairwise"].contains n=false) (hQ:Q () s):wpAny M A (letOwnedTupleGo tg (.ref it) u) Q E s:=by
 unfold letOwnedTupleGo
 cases tg <;> first
  | exact PC hQ
  | (cases u <;> first
    | exact PC hQ
    | (refine Pg (wpAny_load ho ?_)
       rw [hc,hd];show wpAny M A (if (["enumerate","zip","dict_itemiterator","dict_reverseitemiterator","odict_iterator","itertools.zip_longest","itertools.pairwise"].contains n && vs[0]? == some (rawInt _))=true then _ else _) Q E s;rw [M1 (by intro h;rw [hn,Rl] at h;cases h)];exact PC hQ))
noncomputable def Z1 (K:W.Frag) (a:Addr):It :=
 ⟨λi H=>∃ xs x,SO K H a xs/\xs[i]?=some x,λi H x H'=>H'=H/\∀ xs,SO K H a xs->xs[i]?=some x,λi H=>∃ xs,SO K H a xs/\xs.length<=i⟩
noncomputable def Itt (K:W.Frag) (a:Addr):It :=
 ⟨λi H=>∃ xs x,Tg K H a xs/\xs[i]?=some x,λi H x H'=>H'=H/\∀ xs,Tg K H a xs->xs[i]?=some x,λi H=>∃ xs,Tg K H a xs/\xs.length<=i⟩
noncomputable def Itr (lo:Int) (n:Nat):It:=⟨λi _=>i < n,λi H x H'=>H'=H/\x=.int (lo+i),λi _=>n<=i⟩
variable {K:W.Frag}
theorem BS (a it:Addr):pq P w K tg (Z1 K a) [it] it (λi h=>h.IsListIter it a i) where
 mem:=by simp
 obj:=λi h st b hb=>by
  have e:b=it:=by simpa using hb
  subst e;obtain ⟨o,e,c,d⟩:=st;exact ⟨o,e,λv z=>by rw [d] at z;cases z⟩
 keep:=λi h h' st k=>st.at λo e=>k it (by simp) o e
 item:=by intro X hP hw hK hc i pins s σ H E I hf st hg;subst hP hw hK;obtain ⟨xs,x,hq,hx⟩:=hg;obtain ⟨its,rv,p,hz⟩:=I.list hq;obtain ⟨u,hu,ru⟩:=rv.get hx;obtain ⟨f0,f1,f2,f3,f4,f5⟩:=hf it (by simp);refine wpAny_pyNext_list_item st p.isList (x:=u) (by simpa using hu) λh' st' sb=>?_;have I1:Inv X pins σ H { s with heap:=h' }:=I.turned (t':=s.toks) (λb o hb e=>(sb.2 b hb).trans e) f0 f1 f3 f4 f5;obtain ⟨o,e,c,d⟩:=id st';exact ⟨u,rfl,tq (s:={ s with heap:=h' }) e c d (by decide) ⟨x,H,I1,ru,⟨rfl,λys hy=>by rw [I.Zq hy hq];exact hx⟩,st',λb hb=>(hf b hb).1⟩⟩
 done:=by intro X hP hw hK hc i pins s σ H E I hf st hg;subst hP hw hK;obtain ⟨xs,hq,hx⟩:=hg;obtain ⟨its,rv,p,hz⟩:=I.list hq;obtain ⟨f0,f1,f2,f3,f4,f5⟩:=hf it (by simp);have hl:=rv.length;exact wpAny_pyNext_list_end (I.ok.hd hc) st p.isList (by simp;omega) λh' eb=>⟨rfl,I.turned (t':=s.toks) (λb o hb e=>eb b o hb e) f0 f1 f3 f4 f5⟩
 self:=λ_ _ _ _ _ st h=>wpAny_pyIter_listiter st h
theorem zG (a it:Addr):pq P w K tg (Itt K a) [it] it (λi h=>h.IsTupleIter it a i) where
 mem:=by simp
 obj:=λi h st b hb=>by
  have e:b=it:=by simpa using hb
  subst e;obtain ⟨o,e,c,d⟩:=st;exact ⟨o,e,λv z=>by rw [d] at z;cases z⟩
 keep:=λi h h' st k=>st.at λo e=>k it (by simp) o e
 item:=by intro X hP hw hK hc i pins s σ H E I hf st hg;subst hP hw hK;obtain ⟨xs,x,hq,hx⟩:=hg;obtain ⟨its,rv,p,hz⟩:=I.tuple hq;obtain ⟨u,hu,ru⟩:=rv.get hx;obtain ⟨f0,f1,f2,f3,f4,f5⟩:=hf it (by simp);refine wpAny_pyNext_tuple_item st (show s.heap.IsTuple a its.toArray from p) (x:=u) (by simpa using hu) λh' st' sb=>?_;have I1:Inv X pins σ H { s with heap:=h' }:=I.turned (t':=s.toks) (λb o hb e=>(sb.2 b hb).trans e) f0 f1 f3 f4 f5;obtain ⟨o,e,c,d⟩:=id st';exact ⟨u,rfl,tq (s:={ s with heap:=h' }) e c d (by decide) ⟨x,H,I1,ru,⟨rfl,λys hy=>by rw [I.Yc hy hq];exact hx⟩,st',λb hb=>(hf b hb).1⟩⟩
 done:=by intro X hP hw hK hc i pins s σ H E I hf st hg;subst hP hw hK;obtain ⟨xs,hq,hx⟩:=hg;obtain ⟨its,rv,p,hz⟩:=I.tuple hq;obtain ⟨f0,f1,f2,f3,f4,f5⟩:=hf it (by simp);have hl:=rv.length;exact wpAny_pyNext_tuple_end (I.ok.hd hc) st (show s.heap.IsTuple a its.toArray from p) (by simp;omega) λh' eb=>⟨rfl,I.turned (t':=s.toks) (λb o hb e=>eb b o hb e) f0 f1 f3 f4 f5⟩
 self:=λ_ _ _ _ _ st h=>wpAny_pyIter_tupleiter st h
theorem zF {K:PySem.W.Frag} (it:Addr) (lo:Int) (n:Nat):pq P w K tg (Itr lo n) [it] it (λi h=>IsRangeIter h it (lo+(i:Nat) * 1) ((n:Int) - (i:Nat)) 1) where
 mem:=by simp
 obj:=λi h st b hb=>by
  have e:b=it:=by simpa using hb
  subst e
  exact ⟨_,st,λv z=>by
   have z':Data.fields _=Data.cell v:=z;cases z'⟩
 keep:=λi h h' st k=>k it (by simp) _ st
 item:=by intro X hP hw hK hc i pins s σ H E I hf st hg;subst hP hw hK;obtain ⟨f0,f1,f2,f3,f4,f5⟩:=hf it (by simp);have W:=Walks.range (prog:=X.prog) (w:=X.w) (I.ok.hd hc) it lo 1 n;refine W.item i s _ _ hg st λv h' tk hv st' kk=>?_;obtain ⟨t,rfl⟩:=hv;have I1:Inv X pins σ H { s with heap:=h',toks:=tk }:=I.turned (λb o hb e=>kk b o (by simpa using hb) e) f0 f1 f3 f4 f5;refine ⟨_,rfl,tq (s:={ s with heap:=h',toks:=tk }) (n:="range_iterator") st' rfl rfl (by decide) ⟨.int (lo+i),H,I1,⟨t,?_⟩,⟨rfl,rfl⟩,st',λb hb=>(hf b hb).1⟩⟩;rw [Int.mul_one]
 done:=by intro X hP hw hK hc i pins s σ H E I hf st hg;subst hP hw hK;obtain ⟨f0,f1,f2,f3,f4,f5⟩:=hf it (by simp);exact wpAny_pyNext_range_end (I.ok.hd hc) st (by have:n<=i:=hg;omega) λh' eb=>⟨rfl,I.turned (t':=s.toks) (λb o hb e=>eb b o hb e) f0 f1 f3 f4 f5⟩
 self:=λ_ _ _ _ _ st h=>wpAny_pyIter_rangeiter st h
section
variable {X:Cx} {tg:Expr}
noncomputable def tu (K:W.Frag) (tl:TE):TI:=λσ H R=>tl σ H λx H1=>∃ a,x=.ref a/\(∃ xs,SO K H1 a xs)/\R (Z1 K a) H1
noncomputable def E3 (K:W.Frag) (tl:TE):TI:=λσ H R=>tl σ H λx H1=>∃ a,x=.ref a/\(∃ xs,Tg K H1 a xs)/\R (Itt K a) H1
variable {l:Expr} {tl:TE}
theorem gJ (hl:PE X l tl):PI X tg l (tu X.K tl):=by
 intro pins s σ H R I h;refine SY (hl pins s σ H _ I h) λv s1 ⟨x,H1,I1,r1,q1⟩=>?_;obtain ⟨a,e,⟨xs,hq⟩,q⟩:=q1;subst e;cases r1;obtain ⟨its,rv,p,hz⟩:=I1.list hq;refine Rj p.isList ?_;refine ⟨s1.heap.objs.size,[s1.heap.objs.size],_,_,H1,rfl,I1.kept (t':=s1.toks) λb o e=>Pf _ e,BS a _,⟨_,P4 _ rfl,rfl,rfl⟩,λb hb=>?_,q⟩;have e:b=s1.heap.objs.size:=by simpa using hb
 subst e;exact I1.X0 (Pq _) (I1.hok.fresh (Pq _))
theorem kE (hl:PE X l tl):PI X tg l (E3 X.K tl):=by
 intro pins s σ H R I h;refine SY (hl pins s σ H _ I h) λv s1 ⟨x,H1,I1,r1,q1⟩=>?_;obtain ⟨a,e,⟨xs,hq⟩,q⟩:=q1;subst e;cases r1;obtain ⟨its,rv,p,hz⟩:=I1.tuple hq;refine Sm (show s1.heap.IsTuple a its.toArray from p) ?_;refine ⟨s1.heap.objs.size,[s1.heap.objs.size],_,_,H1,rfl,I1.kept (t':=s1.toks) λb o e=>Pf _ e,zG a _,⟨_,P4 _ rfl,rfl,rfl⟩,λb hb=>?_,q⟩;have e:b=s1.heap.objs.size:=by simpa using hb
 subst e;exact I1.X0 (Pq _) (I1.hok.fresh (Pq _))
variable {pins:List (Addr × Obj)} {σ:St} {H:Hp} {s:Shared}
theorem DL {R:It->Hp->Prop} {E:Value->Shared->Prop} {lo hi:Int} {t u v:Tok} {tk:Nat} (I:Inv X pins σ H s) (h1:-(2 ^ 62)<=lo) (h2:lo < 2 ^ 62) (h3:-(2 ^ 62)<=hi) (h4:hi < 2 ^ 62)
  (q:R (Itr lo (hi - lo).toNat) H):wpAny (model X.prog X.w) X.A (pyIter (.ref s.heap.objs.size)) (PIE X pins σ tg R) E { s with heap:=s.heap.push { cls:=.type "range",data:=.fields #[.int lo t,.int hi u,.int 1 v] },toks:=tk }:=by
 refine wpAny_pyIter_range (IsRange.new ..) (small_one h1 h2 h3 h4) ?_;have I1:Inv X pins σ H { s with heap:=s.heap.push { cls:=.type "range",data:=.fields #[.int lo t,.int hi u,.int 1 v] },toks:=tk }:=I.kept λb o e=>Pf _ e
 refine ⟨(s.heap.push { cls:=.type "range",data:=.fields #[.int lo t,.int hi u,.int 1 v] }).objs.size,[(s.heap.push { cls:=.type "range",data:=.fields #[.int lo t,.int hi u,.int 1 v] }).objs.size],_,_,H,rfl,
  I1.kept (t':=tk) λb o e=>Pf _ e,zF _ lo (hi - lo).toNat,?_,λb hb=>?_,q⟩
 ·have e1:lo+((0:Nat):Int) * 1=lo:=by simp
  have e2:(((hi - lo).toNat:Nat):Int) - ((0:Nat):Int)=Builtin.Range.rangeSize lo hi 1:=by rw [rangeSize_one];split <;> omega
  show IsRangeIter _ _ (lo+((0:Nat):Int) * 1) ((((hi - lo).toNat:Nat):Int) - ((0:Nat):Int)) 1;rw [e1,e2];exact P4 _ rfl
 ·have e:b=(s.heap.push { cls:=.type "range",data:=.fields #[.int lo t,.int hi u,.int 1 v] }).objs.size:=by simpa using hb
  subst e;exact I1.X0 (Pq _) (I1.hok.fresh (Pq _))
noncomputable def Gi (ta:TA):TI:=λσ H R=>ta σ H λvs H1=>∃ j:Int,vs=[.int j]/\-(2 ^ 62)<=j/\j < 2 ^ 62/\R (Itr 0 j.toNat) H1
variable {pos:Pos}
theorem ko {a:Expr} {ta:TA} {p:Pos} (hg:Gl X "range") (hm:X.mg "range"=none) (ha:PA X [a] ta) (hs:starEach [a] X.env=[(false,eval a X.env)]:=by rfl):PI X tg (.Call (.Name "range" p) [a] [] pos) (Gi ta):=by
 intro pins s σ H R I h;refine Call_ (lj I hg hm boot_range (QD (SY (ha pos pins s σ H _ I h) λus s1 ⟨vs,H1,I1,r1,q1⟩=>?_) hs rfl));obtain ⟨j,e,q1,q2,q⟩:=q1;subst e
 cases r1 with
 | cons r rr =>cases rr;obtain ⟨t,rfl⟩:=r;exact call_range_1 (DL I1 (by omega) (by omega) q1 q2 (by simpa using q))
def Jt (wi:TI) (g:TG) (tb:TS):TS:=λD σ H=>wi σ H λJ H1=>∃ W:Nat->Nat->St->Hp->Prop,(∃ m,W 0 m σ H1)/\∀ i m σ H,W i m σ H ->
 (J.stop i H/\D.nx σ H)\/(J.go i H/\∃ N:St->Hp->Prop,(∀ σ' H',N σ' H'->∃ m',m' < m/\W (i+1) m' σ' H')/\∀ x H',J.Yd i H x H'->g x σ H' λσ2 H2=>tb { D with nx:=N,ct:=N,bk:=D.nx } σ2 H2)
noncomputable def rd (fp:List Addr) (h:Heap):List (Addr × Obj):=fp.filterMap λb=>(h.get? b).map λo=>(b,o)
variable {fp:List Addr} {h:Heap}
theorem kD {b:Addr} {o:Obj} (hb:b ∈ fp) (e:h.get? b=some o):(b,o) ∈ rd fp h:=Q6.mpr ⟨b,hb,by rw [e];rfl⟩
theorem Br {p:Addr × Obj} (hp:p ∈ rd fp h):p.1 ∈ fp/\h.get? p.1=some p.2:=by
 obtain ⟨b,hb,e⟩:=Q6.mp hp
 cases q:h.get? b with
 | none=>rw [q] at e;cases e
 | some o =>rw [q] at e;have e':(b,o)=p:=Qf e;subst e';exact ⟨hb,q⟩
theorem Inv.pinned (I:Inv X pins σ H s) (hf:∀ b ∈ fp,rY X pins H b) (ho:∀ b ∈ fp,∃ o,s.heap.get? b=some o/\∀ v,o.data≠.cell v):Inv X (pins++rd fp s.heap) σ H s :=
 I.YU λp hp=>(P9.mp hp).elim (λz=>I.pin p (Qq _ z)) λz=>by obtain ⟨hb,e⟩:=Br z;obtain ⟨f0,f1,f2,_⟩:=hf p.1 hb;obtain ⟨o,e',d⟩:=ho p.1 hb;rw [e] at e';cases e';exact ⟨e,f0,f1,f2,d⟩
theorem Inv.WD {pl:List (Addr × Obj)} (I:Inv X (pins++pl) σ H s):Inv X pins σ H s:=I.YU λp hp=>I.pin p (Qq _ (Rk _ hp))
theorem jK {iter:Expr} {body:List Stmt} {wi:TI} {g:TG} {tb:TS} (hp:PassesOwn (model X.prog X.w) X.A X.env X.xe) (hc:X.calm=true) (hi:PI X tg iter wi) (hg:PG X tg g) (hb:YH X body tb)
  (hs:∀ x,foldedSetIterable iter X.env x=pure x:=by intro _;rfl):PS X (.For tg iter body [] pos) (Jt wi g tb):=by
 intro pins s σ H D I h;refine wpAny_For (SY (hi pins s σ H _ I h) λv s1 h1=>SY h1 λitv s2 h2=>?_) hs;obtain ⟨it,fp,tn,J,H2,e,I2,T,st2,f2,W,⟨m0,w0⟩,turn⟩:=h2;subst e;have wg:∀ {H':Hp},(∀ b ∈ fp,H' b=none)->∀ b ∈ fp,rY X pins H' b:=λhn b hb=>⟨hn b hb,(f2 b hb).2⟩
 refine codeAny_forLoop_any (λn s'=>∃ i σ' H',Inv X pins σ' H' s'/\tn i s'.heap/\(∀ b ∈ fp,H' b=none)/\W i n σ' H') ?_ m0 ⟨0,σ,H2,I2,st2,λb hb=>(f2 b hb).1,w0⟩;rintro n s3 ⟨i,σ3,H3,I3,st3,fr3,w3⟩;rcases turn i n σ3 H3 w3 with ⟨stop,qn⟩ | ⟨go,N,hN,step⟩
 ·refine Rb hp (SY (T.done X rfl rfl rfl hc i pins s3 σ3 H3 X.xe I3 (wg fr3) st3 stop) λr s4 ⟨hr,I4⟩=>?_);subst hr;exact R6 ⟨σ3,H3,I4,qn⟩
 ·refine Rb hp (SY (T.item X rfl rfl rfl hc i pins s3 σ3 H3 X.xe I3 (wg fr3) st3 go) λr s4 ⟨u,hr,h4⟩=>?_);subst hr;refine Rb hp (SY h4 λ_ s5 ⟨x,H5,I5,r5,y5,st5,fr5⟩=>?_);have I5':=I5.pinned (wg fr5) (T.obj _ _ st5);refine Rb hp (SY (hg _ s5 σ3 H5 x u _ I5' r5 (step x H5 y5)) λ_ s6 ⟨σ6,H6,I6,q6⟩=>?_);refine Rb hp (SY (hb _ s6 σ6 H6 _ I6 q6) λf s7 q7=>?_)
  have again:∀ {σ7:St} {H7:Hp},Inv X (pins++rd fp s5.heap) σ7 H7 s7->N σ7 H7->∃ m,m < n/\∃ i σ' H',Inv X pins σ' H' s7/\tn i s7.heap/\(∀ b ∈ fp,H' b=none)/\W i m σ' H':=λ{σ7 H7} I7 n7=>by obtain ⟨m',hm,w7⟩:=hN σ7 H7 n7;refine ⟨m',hm,i+1,σ7,H7,I7.WD,T.keep _ _ _ st5 λb hb o e=>(I7.pin (b,o) (Qq _ (Qq _ (kD hb e)))).1,λb hb=>?_,w7⟩;obtain ⟨o,e,d⟩:=T.obj _ _ st5 b hb;exact (I7.pin (b,o) (Qq _ (Qq _ (kD hb e)))).2.1
  cases f with
  | next=>obtain ⟨σ7,H7,I7,n7⟩:=q7;exact again I7 n7
  | cont=>obtain ⟨σ7,H7,I7,n7⟩:=q7;exact again I7 n7
  | brk=>obtain ⟨σ7,H7,I7,q7⟩:=q7;exact ⟨σ7,H7,I7.WD,q7⟩
  | ret v=>obtain ⟨x7,σ7,H7,I7,r7,q7⟩:=q7;exact ⟨x7,σ7,H7,I7.WD,r7,q7⟩
end
variable {g:TG} {tb:TS}
theorem qA {K:PySem.W.Frag} {D:kx} (Pv:Nat->St->Hp->Prop) (h0:Pv 0 σ H) (hl:∀ i σ H,i<=xs.length->Pv i σ H->SO K H a xs)
  (hs:∀ i x σ H,xs[i]?=some x->Pv i σ H->g x σ H λσ2 H2=>tb { D with nx:=Pv (i+1),ct:=Pv (i+1),bk:=D.nx } σ2 H2) (hd:∀ σ H,Pv xs.length σ H->D.nx σ H) :
  ∃ W:Nat->Nat->St->Hp->Prop,(∃ m,W 0 m σ H)/\∀ i m σ H,W i m σ H ->
   ((Z1 K a).stop i H/\D.nx σ H)\/((Z1 K a).go i H/\∃ N:St->Hp->Prop,(∀ σ' H',N σ' H'->∃ m',m' < m/\W (i+1) m' σ' H')/\∀ x H',(Z1 K a).Yd i H x H'->g x σ H' λσ2 H2=>tb { D with nx:=N,ct:=N,bk:=D.nx } σ2 H2):=by
 refine ⟨λi m σ H=>m=xs.length - i/\i<=xs.length/\Pv i σ H,⟨xs.length,by simp,Qy _,h0⟩,?_⟩;rintro i m σ H ⟨rfl,hi,p⟩;have q:=hl i σ H hi p;by_cases hlt:i < xs.length
 ·refine .inr ⟨⟨xs,xs[i],q,by simp [hlt]⟩,Pv (i+1),λσ' H' p'=>⟨xs.length - (i+1),by omega,rfl,hlt,p'⟩,λx H' y=>?_⟩;obtain ⟨e,y⟩:=y;subst e;exact hs i x σ _ (y xs q) p
 ·have e:i=xs.length:=by omega
  subst e;exact .inl ⟨⟨xs,q,Pq _⟩,hd σ H p⟩
theorem Ab {K:PySem.W.Frag} {D:kx} (Pv:Nat->St->Hp->Prop) (h0:Pv 0 σ H) (hl:∀ i σ H,i<=xs.length->Pv i σ H->Tg K H a xs)
  (hs:∀ i x σ H,xs[i]?=some x->Pv i σ H->g x σ H λσ2 H2=>tb { D with nx:=Pv (i+1),ct:=Pv (i+1),bk:=D.nx } σ2 H2) (hd:∀ σ H,Pv xs.length σ H->D.nx σ H) :
  ∃ W:Nat->Nat->St->Hp->Prop,(∃ m,W 0 m σ H)/\∀ i m σ H,W i m σ H ->
   ((Itt K a).stop i H/\D.nx σ H)\/((Itt K a).go i H/\∃ N:St->Hp->Prop,(∀ σ' H',N σ' H'->∃ m',m' < m/\W (i+1) m' σ' H')/\∀ x H',(Itt K a).Yd i H x H'->g x σ H' λσ2 H2=>tb { D with nx:=N,ct:=N,bk:=D.nx } σ2 H2):=by
 refine ⟨λi m σ H=>m=xs.length - i/\i<=xs.length/\Pv i σ H,⟨xs.length,by simp,Qy _,h0⟩,?_⟩;rintro i m σ H ⟨rfl,hi,p⟩;have q:=hl i σ H hi p;by_cases hlt:i < xs.length
 ·refine .inr ⟨⟨xs,xs[i],q,by simp [hlt]⟩,Pv (i+1),λσ' H' p'=>⟨xs.length - (i+1),by omega,rfl,hlt,p'⟩,λx H' y=>?_⟩;obtain ⟨e,y⟩:=y;subst e;exact hs i x σ _ (y xs q) p
 ·have e:i=xs.length:=by omega
  subst e;exact .inl ⟨⟨xs,q,Pq _⟩,hd σ H p⟩
variable {n:Nat}
theorem nY {lo:Int} {D:kx} (Pv:Nat->St->Hp->Prop) (h0:Pv 0 σ H)
  (hs:∀ i σ H,i < n->Pv i σ H->g (.int (lo+i)) σ H λσ2 H2=>tb { D with nx:=Pv (i+1),ct:=Pv (i+1),bk:=D.nx } σ2 H2) (hd:∀ σ H,Pv n σ H->D.nx σ H) :
  ∃ W:Nat->Nat->St->Hp->Prop,(∃ m,W 0 m σ H)/\∀ i m σ H,W i m σ H ->
   ((Itr lo n).stop i H/\D.nx σ H)\/((Itr lo n).go i H/\∃ N:St->Hp->Prop,(∀ σ' H',N σ' H'->∃ m',m' < m/\W (i+1) m' σ' H')/\∀ x H',(Itr lo n).Yd i H x H'->g x σ H' λσ2 H2=>tb { D with nx:=N,ct:=N,bk:=D.nx } σ2 H2):=by
 refine ⟨λi m σ H=>m=n - i/\i<=n/\Pv i σ H,⟨n,by simp,Qy _,h0⟩,?_⟩;rintro i m σ H ⟨rfl,hi,p⟩;by_cases hlt:i < n
 ·refine .inr ⟨hlt,Pv (i+1),λσ' H' p'=>⟨n - (i+1),by omega,rfl,hlt,p'⟩,λx H' y=>?_⟩;obtain ⟨e,y⟩:=y;subst e y;exact hs i σ _ hlt p
 ·have e:i=n:=by omega
  subst e;exact .inl ⟨Pq _,hd σ H p⟩
theorem rX {c:TT} {D:kx} (Pv:St->Hp->Prop) (μ:St->Hp->Nat) (h0:Pv σ H)
  (hs:∀ σ H,Pv σ H->c σ H λb H1=>if b=true then tb { D with nx:=λσ' H'=>Pv σ' H'/\μ σ' H' < μ σ H,ct:=λσ' H'=>Pv σ' H'/\μ σ' H' < μ σ H,bk:=D.nx } σ H1 else D.nx σ H1)
  (mono:∀ σ H Q Q',(∀ b H1,Q b H1->Q' b H1)->c σ H Q->c σ H Q'):Ee c tb D σ H:=by
 refine ⟨λm σ H=>m=μ σ H/\Pv σ H,⟨_,rfl,h0⟩,?_⟩;rintro m σ H ⟨rfl,p⟩;refine mono σ H _ _ (λb H1 q=>?_) (hs σ H p)
 cases b with
 | true=>exact ⟨_,λσ' H' ⟨p',l⟩=>⟨_,l,rfl,p'⟩,q⟩
 | false=>exact q
abbrev R2:=V->V->Hp->VK->Prop
def VU (X:Cx) (f:Value->Value->Sem Value) (r:R2):Prop :=
 ∀ (pins:List (Addr × Obj)) (s:Shared) (σ:St) (H:Hp) (x y:V) (v u:Value) (Q:VK),Inv X pins σ H s->RelV x v->RelV y u->r x y H Q ->
  wpAny (model X.prog X.w) X.A (f v u) (EP X pins σ Q) X.xe s
def UnR (X:Cx) (f:Value->Sem Value) (r:V->Hp->VK->Prop):Prop :=
 ∀ (pins:List (Addr × Obj)) (s:Shared) (σ:St) (H:Hp) (x:V) (v:Value) (Q:VK),Inv X pins σ H s->RelV x v->r x H Q ->
  wpAny (model X.prog X.w) X.A (f v) (EP X pins σ Q) X.xe s
def jz (X:Cx) (f:Value) (r:List V->Hp->VK->Prop):Prop :=
 ∀ (pins:List (Addr × Obj)) (s:Shared) (σ:St) (H:Hp) (xs:List V) (us:List Value) (Q:VK),Inv X pins σ H s->Vals xs us->r xs H Q ->
  wpAny (model X.prog X.w) X.A (call f us) (EP X pins σ Q) X.xe s
def JD (X:Cx) (r:V->Hp->(Bool->Hp->Prop)->Prop):Prop :=
 ∀ (pins:List (Addr × Obj)) (s:Shared) (σ:St) (H:Hp) (x:V) (v:Value) (Q:Bool->Hp->Prop),Inv X pins σ H s->RelV x v->r x H Q ->
  wpAny (model X.prog X.w) X.A (truthy v) (TP X pins σ Q) X.xe s
noncomputable def VE (r:R2) (ta tb:TE):TE:=λσ H Q=>ta σ H λx H1=>tb σ H1 λy H2=>r x y H2 Q
def tUn (r:V->Hp->VK->Prop) (ta:TE):TE:=λσ H Q=>ta σ H λx H1=>r x H1 Q
def rI (C:Int->Int->Prop) (g:Int->Int->V):R2:=λx y H Q=>∃ i j,x=.int i/\y=.int j/\C i j/\Q (g i j) H
noncomputable def YV (g:Int->Int->V):R2:=λx y H Q=>∃ i j,x=.int i/\y=.int j/\Q (g i j) H
def rU (g:Int->V):V->Hp->VK->Prop:=λx H Q=>∃ i,x=.int i/\Q (g i) H
section
variable {X:Cx} {a b c:Expr} {ta tb tc:TE} {pos:Pos}
variable {f:Value->Value->Sem Value}
theorem GY (ha:PE X a ta) (hb:PE X b tb) {pins:List (Addr × Obj)} {s:Shared} {σ:St} {H:Hp} {R:V->V->Hp->Prop} (I:Inv X pins σ H s)
  (h:ta σ H λx H1=>tb σ H1 λy H2=>R x y H2) {Q:Value->Shared->Prop}
  (hf:∀ v u s2 x y H2,Inv X pins σ H2 s2->RelV x v->RelV y u->R x y H2->wpAny (model X.prog X.w) X.A (f v u) Q X.xe s2) :
  wpAny (model X.prog X.w) X.A (eval a X.env) (λv s₁=>wpAny (model X.prog X.w) X.A (eval b X.env) (λu s₂=>wpAny (model X.prog X.w) X.A (f v u) Q X.xe s₂) X.xe s₁) X.xe s:=by
 refine SY (ha pins s σ H _ I h) λv s1 ⟨x,H1,I1,r1,q1⟩=>?_;refine SY (hb pins s1 σ H1 _ I1 q1) λu s2 ⟨y,H2,I2,r2,q2⟩=>?_;exact hf v u s2 x y H2 I2 r1 r2 q2
theorem bL {op:Operator} {r:R2} (ho:VU X (binaryOp op) r) (ha:PE X a ta) (hb:PE X b tb):PE X (.BinOp a op b pos) (VE r ta tb):=by intro pins s σ H Q I h;exact wpAny_BinOp (GY ha hb I h λv u s2 x y H2 I2 rx ry q=>ho pins s2 σ H2 x y v u Q I2 rx ry q)
theorem Av {op:UnaryOp} {r:V->Hp->VK->Prop} (ho:UnR X (unaryOp op) r) (ha:PE X a ta):PE X (.UnaryOp op a pos) (tUn r ta):=by intro pins s σ H Q I h;exact UnaryOp_ (SY (ha pins s σ H _ I h) λv s1 ⟨x,H1,I1,r1,q1⟩=>ho pins s1 σ H1 x v Q I1 r1 q1)
variable {g:Int->Int->Int}
theorem opI {C:Int->Int->Prop}
  (rule:∀ (i j:Int) (t u:Tok) (s:Shared) (Q:Value->Shared->Prop) (E:Value->Shared->Prop),C i j->Q (.int (g i j) s.toks) { s with toks:=s.toks+1 }->wpAny (model X.prog X.w) X.A (f (.int i t) (.int j u)) Q E s) :
  VU X f (rI C λi j=>.int (g i j)):=by
 intro pins s σ H x y v u Q I rx ry h;obtain ⟨i,j,rfl,rfl,hc,q⟩:=h;obtain ⟨t,rfl⟩:=rx;obtain ⟨t',rfl⟩:=ry;exact rule i j t t' s _ _ hc ⟨.int (g i j),H,I.tok _,⟨_,rfl⟩,q⟩
theorem IZ
  (rule:∀ (i j:Int) (t u:Tok) (s:Shared) (Q:Value->Shared->Prop) (E:Value->Shared->Prop),Q (.int (g i j) s.toks) { s with toks:=s.toks+1 }->wpAny (model X.prog X.w) X.A (f (.int i t) (.int j u)) Q E s) :
  VU X f (YV λi j=>.int (g i j)):=by
 intro pins s σ H x y v u Q I rx ry h;obtain ⟨i,j,rfl,rfl,q⟩:=h;obtain ⟨t,rfl⟩:=rx;obtain ⟨t',rfl⟩:=ry;exact rule i j t t' s _ _ ⟨.int (g i j),H,I.tok _,⟨_,rfl⟩,q⟩
theorem Fj {g:Int->Int->Bool}
  (rule:∀ (i j:Int) (t u:Tok) (s:Shared) (Q:Value->Shared->Prop) (E:Value->Shared->Prop),Q (.bool (g i j)) s->wpAny (model X.prog X.w) X.A (f (.int i t) (.int j u)) Q E s) :
  VU X f (YV λi j=>.bl (g i j)):=by
 intro pins s σ H x y v u Q I rx ry h;obtain ⟨i,j,rfl,rfl,q⟩:=h;obtain ⟨t,rfl⟩:=rx;obtain ⟨t',rfl⟩:=ry;exact rule i j t t' s _ _ ⟨.bl (g i j),H,I,rfl,q⟩
def GF (i j:Int):Prop:=0 < j/\j < 1073741824
def JB (i j:Int):Prop:=0<=j/\j<=1000000/\i.natAbs < 2 ^ 64
def Zr (i j:Int):Prop:=(-(2 ^ 64) < i/\i < 2 ^ 64)\/(-(2 ^ 64) < j/\j < 2 ^ 64)
theorem Zr.ok {i j:Int} (h:Zr i j):IntMulOk i j:=by
 rcases h with ⟨h1,h2⟩ | ⟨h1,h2⟩
 ·exact .of_left (intBits_le_64 h1 h2)
 ·exact .of_right (intBits_le_64 h1 h2)
theorem cJ:VU X (binaryOp .Add) (YV λi j=>.int (i+j)):=IZ λ_ _ _ _ _ _ _ q=>add_int q
theorem oy:VU X (binaryOp .Sub) (YV λi j=>.int (i - j)):=IZ λ_ _ _ _ _ _ _ q=>sub_int q
theorem ow:VU X (binaryOp .Mult) (rI Zr λi j=>.int (i * j)):=opI λ_ _ _ _ _ _ _ hc q=>mul_int q hc.ok
theorem nB:VU X (binaryOp .FloorDiv) (rI GF λi j=>.int (i / j)):=opI λi j _ _ _ _ _ hc q=>by have h1:(0:Int) < j:=hc.1;have h2:j < 1073741824:=hc.2;exact floordiv_int (by omega) (by rw [Int.fdiv_eq_ediv_of_nonneg i (by omega)];exact q) (.inl (PyProof.noPylong_small (by omega)))
theorem eZ:VU X (binaryOp .Mod) (rI (λ_ j=>0 < j) λi j=>.int (i % j)):=opI λi j _ _ _ _ _ hc q=>by have h1:(0:Int) < j:=hc;exact mod_int' (by omega) (by rw [Int.fmod_eq_emod_of_nonneg i (by omega)];exact q)
theorem vC:VU X (binaryOp .Pow) (rI JB λi j=>.int (i ^ j.toNat)):=opI λ_ _ _ _ _ _ _ hc q=>pow_int_small hc.1 hc.2.1 hc.2.2 q
theorem unI {f:Value->Sem Value} {g:Int->Int}
  (rule:∀ (i:Int) (t:Tok) (s:Shared) (Q:Value->Shared->Prop) (E:Value->Shared->Prop),Q (.int (g i) s.toks) { s with toks:=s.toks+1 }->wpAny (model X.prog X.w) X.A (f (.int i t)) Q E s) :
  UnR X f (rU λi=>.int (g i)):=by
 intro pins s σ H x v Q I rx h;obtain ⟨i,rfl,q⟩:=h;obtain ⟨t,rfl⟩:=rx;exact rule i t s _ _ ⟨.int (g i),H,I.tok _,⟨_,rfl⟩,q⟩
theorem wt:UnR X (unaryOp .USub) (rU λi=>.int (-i)):=unI λ_ _ _ _ _ q=>neg_int q
end
noncomputable def Jo:V->V->Bool
 | .SM,.SM=>true | .SM,.int _=>true | .int _,.SM=>true | .SM,.bl _=>true | .bl _,.SM=>true | .SM,.str _=>true | .str _,.SM=>true
 | .int _,.int _=>true | .bl _,.bl _=>true | .str _,.str _=>true | .YS _,.YS _=>true
 | .int _,.str _=>true | .str _,.int _=>true | .bl _,.str _=>true | .str _,.bl _=>true
 | _,_=>false
noncomputable def rEq:R2:=λx y H Q=>Jo x y=true/\Q (.bl (decide (x=y))) H
noncomputable def rNe:R2:=λx y H Q=>Jo x y=true/\Q (.bl (!decide (x=y))) H
theorem zV {i j:Int}:decide (V.int i=V.int j)=(i == j):=by rw [R7];simp
theorem Cu {i j:Bool}:decide (V.bl i=V.bl j)=(i == j):=by rw [R7];simp
theorem zW {i j:Str}:decide (V.str i=V.str j)=(i == j):=by rw [R7];simp
theorem zU {i j:Array UInt8}:decide (V.YS i=V.YS j)=(i.toList == j.toList):=by rw [R7];cases i;cases j;simp
section
variable {X:Cx} {a b c:Expr} {ta tb tc:TE} {pos:Pos}
theorem cZ {pins:List (Addr × Obj)} {σ:St} {H:Hp} {s:Shared} {Q:VK} {k k':Bool} (I:Inv X pins σ H s) (q:Q (.bl k) H) (e:k=k'):EP X pins σ Q (.bool k') s:=by subst e;exact ⟨.bl k,H,I,rfl,q⟩
theorem bV:VU X (compareOp .Eq) rEq:=by
 intro pins s σ H x y v u Q I rx ry h;obtain ⟨hs,q⟩:=h
 cases x with
 | SM =>
  cases rx
  cases y with
  | SM=>cases ry;exact PySem.EqNone.eq_none_none (cZ I q (by simp))
  | bl j=>cases ry;exact PySem.EqNone.eq_none_bool (cZ I q (by simp))
  | int j=>obtain ⟨t',rfl⟩:=ry;exact PySem.EqNone.eq_none_int (cZ I q (by simp))
  | str j=>obtain ⟨t',rfl⟩:=ry;exact PySem.EqNone.eq_none_str (cZ I q (by simp))
  | _=>exact absurd (show false=true from hs) Pk
 | bl i =>
  cases rx
  cases y with
  | SM=>cases ry;exact PySem.EqNone.eq_bool_none (cZ I q (by simp))
  | bl j=>cases ry;exact eq_bool (cZ I q Cu)
  | str j=>obtain ⟨t',rfl⟩:=ry;exact PySem.EqMixed.eq_bool_str (cZ I q (by simp))
  | _=>exact absurd (show false=true from hs) Pk
 | int i =>
  obtain ⟨t,rfl⟩:=rx
  cases y with
  | SM=>cases ry;exact PySem.EqNone.eq_int_none (cZ I q (by simp))
  | int j=>obtain ⟨t',rfl⟩:=ry;exact eq_int (cZ I q zV)
  | str j=>obtain ⟨t',rfl⟩:=ry;exact PySem.EqMixed.eq_int_str (cZ I q (by simp))
  | _=>exact absurd (show false=true from hs) Pk
 | str i =>
  obtain ⟨t,rfl⟩:=rx
  cases y with
  | SM=>cases ry;exact PySem.EqNone.eq_str_none (cZ I q (by simp))
  | bl j=>cases ry;exact PySem.EqMixed.eq_str_bool (cZ I q (by simp))
  | int j=>obtain ⟨t',rfl⟩:=ry;exact PySem.EqMixed.eq_str_int (cZ I q (by simp))
  | str j=>obtain ⟨t',rfl⟩:=ry;exact eq_str (cZ I q zW)
  | _=>exact absurd (show false=true from hs) Pk
 | YS i =>
  obtain ⟨t,rfl⟩:=rx
  cases y with
  | YS j=>obtain ⟨t',rfl⟩:=ry;exact W.eq_bytes (cZ I q zU)
  | _=>exact absurd (show false=true from hs) Pk
 | _=>cases y <;> exact absurd (show false=true from hs) Pk
theorem lI:VU X (compareOp .NotEq) rNe:=by
 intro pins s σ H x y v u Q I rx ry h;obtain ⟨hs,q⟩:=h
 cases x with
 | SM =>
  cases rx
  cases y with
  | SM=>cases ry;exact PySem.EqNone.ne_none_none (cZ I q (by simp))
  | bl j=>cases ry;exact PySem.EqNone.ne_none_bool (cZ I q (by simp))
  | int j=>obtain ⟨t',rfl⟩:=ry;exact PySem.EqNone.ne_none_int (cZ I q (by simp))
  | str j=>obtain ⟨t',rfl⟩:=ry;exact PySem.EqNone.ne_none_str (cZ I q (by simp))
  | _=>exact absurd (show false=true from hs) Pk
 | bl i =>
  cases rx
  cases y with
  | SM=>cases ry;exact PySem.EqNone.ne_bool_none (cZ I q (by simp))
  | bl j=>cases ry;exact ne_bool (cZ I q (PZ not Cu))
  | str j=>obtain ⟨t',rfl⟩:=ry;exact PySem.EqMixed.ne_bool_str (cZ I q (by simp))
  | _=>exact absurd (show false=true from hs) Pk
 | int i =>
  obtain ⟨t,rfl⟩:=rx
  cases y with
  | SM=>cases ry;exact PySem.EqNone.ne_int_none (cZ I q (by simp))
  | int j=>obtain ⟨t',rfl⟩:=ry;exact ne_int (cZ I q (PZ not zV))
  | str j=>obtain ⟨t',rfl⟩:=ry;exact PySem.EqMixed.ne_int_str (cZ I q (by simp))
  | _=>exact absurd (show false=true from hs) Pk
 | str i =>
  obtain ⟨t,rfl⟩:=rx
  cases y with
  | SM=>cases ry;exact PySem.EqNone.ne_str_none (cZ I q (by simp))
  | bl j=>cases ry;exact PySem.EqMixed.ne_str_bool (cZ I q (by simp))
  | int j=>obtain ⟨t',rfl⟩:=ry;exact PySem.EqMixed.ne_str_int (cZ I q (by simp))
  | str j=>obtain ⟨t',rfl⟩:=ry;exact ne_str (cZ I q (PZ not zW))
  | _=>exact absurd (show false=true from hs) Pk
 | YS i =>
  obtain ⟨t,rfl⟩:=rx
  cases y with
  | YS j=>obtain ⟨t',rfl⟩:=ry;exact W.ne_bytes (cZ I q (PZ not zU))
  | _=>exact absurd (show false=true from hs) Pk
 | _=>cases y <;> exact absurd (show false=true from hs) Pk
theorem km:VU X (compareOp .Lt) (YV λi j=>.bl (decide (i < j))):=Fj λ_ _ _ _ _ _ _ q=>lt_int q
theorem jV:VU X (compareOp .LtE) (YV λi j=>.bl (decide (i<=j))):=Fj λ_ _ _ _ _ _ _ q=>le_int q
theorem kl:VU X (compareOp .Gt) (YV λi j=>.bl (decide (j < i))):=Fj λ_ _ _ _ _ _ _ q=>gt_int q
theorem tH:VU X (compareOp .GtE) (YV λi j=>.bl (decide (j<=i))):=Fj λ_ _ _ _ _ _ _ q=>ge_int q
theorem vB:VU X (compareOp .Is) (λx y H Q=>y=.SM/\Q (.bl (decide (x=.SM))) H):=by
 intro pins s σ H x y v u Q I rx ry h;obtain ⟨rfl,q⟩:=h;cases ry;refine is_none_gen (cZ I q ?_)
 cases x <;> first
  | (cases rx;rfl)
  | (obtain ⟨t,rfl⟩:=rx;rfl)
theorem Fm:VU X (compareOp .IsNot) (λx y H Q=>y=.SM/\Q (.bl (!decide (x=.SM))) H):=by
 intro pins s σ H x y v u Q I rx ry h;obtain ⟨rfl,q⟩:=h;cases ry;refine isnot_none_gen (cZ I q ?_)
 cases x <;> first
  | (cases rx;rfl)
  | (obtain ⟨t,rfl⟩:=rx;rfl)
variable {op:CmpOp}
theorem aT (b:Expr) (h:op≠.In:=by decide) (h2:op≠.NotIn:=by decide):behindInMarks op b=false:=by
 have e1:(op == CmpOp.In)=false:=by cases op <;> first | rfl | exact absurd rfl h
 have e2:(op == CmpOp.NotIn)=false:=by cases op <;> first | rfl | exact absurd rfl h2
 cases b <;> simp [behindInMarks,e1,e2]
variable {r:R2}
theorem eU (ho:VU X (compareOp op) r) (ha:PE X a ta) (hb:PE X b tb) (hm:behindInMarks op b=false):PE X (.Compare a [op] [b] pos) (VE r ta tb):=by intro pins s σ H Q I h;exact wpAny_Compare1 (GY ha hb I h λv u s2 x y H2 I2 rx ry q=>ho pins s2 σ H2 x y v u Q I2 rx ry q) hm
noncomputable def Ed (t:TE):TT:=λσ H Q=>t σ H λx H'=>∃ k,x=.bl k/\Q k H'
theorem aN (ho:VU X (compareOp op) r) (ha:PE X a ta) (hb:PE X b tb) (hm:behindInMarks op b=false):PT X (.Compare a [op] [b] pos) (Ed (VE r ta tb)):=by
 intro pins s σ H Q I h
 refine wpAny_isTrue_Compare1 (SY (ha pins s σ H _ I h) λv s1 ⟨x,H1,I1,r1,q1⟩=>SY (hb pins s1 σ H1 _ I1 q1) λu s2 ⟨y,H2,I2,r2,q2⟩ =>
  SY (ho pins s2 σ H2 x y v u _ I2 r1 r2 q2) λc s3 ⟨z,H3,I3,r3,k,e,q3⟩=>?_) hm
 subst e;cases r3;exact QB ⟨H3,I3,q3⟩
noncomputable def wj (r r':R2) (ta tb tc:TE):TE:=λσ H Q=>ta σ H λx H1=>tb σ H1 λy H2=>r x y H2 λz H3=>∃ k,z=.bl k /\
 (if k=true then tc σ H3 λw' H4=>r' y w' H4 Q else Q (.bl false) H3)
variable {op':CmpOp} {r':R2}
theorem xI (ho:VU X (compareOp op) r) (ho':VU X (compareOp op') r') (ha:PE X a ta) (hb:PE X b tb) (hc:PE X c tc)
  (hm:lastMarks [op,op'] [b,c]=false:=by with_unfolding_all rfl):PE X (.Compare a [op,op'] [b,c] pos) (wj r r' ta tb tc):=by
 intro pins s σ H Q I h
 refine Compare_chain (SY (ha pins s σ H _ I h) λv s1 ⟨x,H1,I1,r1,q1⟩=>chain_link (SY (hb pins s1 σ H1 _ I1 q1) λu s2 ⟨y,H2,I2,r2,q2⟩ =>
  SY (ho pins s2 σ H2 x y v u _ I2 r1 r2 q2) λd s3 ⟨z,H3,I3,r3,k,e,q3⟩=>?_)) hm
 subst e;cases r3;refine QB ?_
 cases k with
 | false=>exact ite_ff ⟨.bl false,H3,I3,rfl,q3⟩
 | true=>exact ite_tt (chain_last (SY (hc pins s3 σ H3 _ I3 q3) λw' s4 ⟨z',H4,I4,r4,q4⟩=>ho' pins s4 σ H4 y z' u w' Q I4 r2 r4 q4))
theorem nE (ho:VU X (compareOp op) r) (ho':VU X (compareOp op') r') (ha:PE X a ta) (hb:PE X b tb) (hc:PE X c tc)
  (hm:lastMarks [op,op'] [b,c]=false:=by with_unfolding_all rfl):PT X (.Compare a [op,op'] [b,c] pos) (Ed (wj r r' ta tb tc)):=by
 intro pins s σ H Q I h
 refine isTrue_chain (SY (ha pins s σ H _ I h) λv s1 ⟨x,H1,I1,r1,q1⟩=>test_link (SY (hb pins s1 σ H1 _ I1 q1) λu s2 ⟨y,H2,I2,r2,q2⟩ =>
  SY (ho pins s2 σ H2 x y v u _ I2 r1 r2 q2) λd s3 ⟨z,H3,I3,r3,k,e,q3⟩=>?_)) hm
 subst e;cases r3;refine QB ?_
 cases k with
 | false =>obtain ⟨k',e',q'⟩:=q3;cases e';exact ite_ff ⟨H3,I3,q'⟩
 | true =>refine ite_tt (test_last (SY (hc pins s3 σ H3 _ I3 q3) λw' s4 ⟨z',H4,I4,r4,q4⟩=>SY (ho' pins s4 σ H4 y z' u w' _ I4 r2 r4 q4) λd' s5 ⟨z2,H5,I5,r5,k2,e2,q5⟩=>?_));subst e2;cases r5;exact QB ⟨H5,I5,q5⟩
def yn (K:W.Frag) (x:V) (H:Hp) (k:Bool):Prop :=
 match x with
 | .SM=>k=false
 | .bl b=>k=b
 | .int i=>k=(i != 0)
 | .str y=>y.length<=sizeLine/\k=((y.length:Int) != 0)
 | .YS y=>y.size<=sizeLine/\k=((y.size:Int) != 0)
 | .ref p=>(∃ xs,SO K H p xs/\k=!xs.isEmpty)\/(∃ xs,Tg K H p xs/\k=!xs.isEmpty)\/∃ kvs,H p=some (.dK kvs)/\k=!kvs.isEmpty
 | _=>False
theorem yE {κ:Type} {kvs:List (κ × V)} {vs:List (κ × Value)} (r:KV kvs vs):(!vs.isEmpty)=!kvs.isEmpty:=by cases r <;> rfl
theorem qF {xs:List V} {its:List Value} (r:Vals xs its):(!its.toArray.isEmpty)=!xs.isEmpty:=by cases r <;> simp
theorem mR:(sizeLine:Nat) < 2 ^ 63:=by rw [Rv];decide
theorem Iy:JD X (λx H Q=>∃ k,yn X.K x H k/\Q k H):=by
 intro pins s σ H x v Q I rx h;obtain ⟨k,e,q⟩:=h;have hl:=mR;have hs:sizeLine=16777216:=Rv
 cases x with
 | SM =>cases rx;have e':k=false:=e;subst e';exact truthy_none ⟨H,I,q⟩
 | bl b =>cases rx;have e':k=b:=e;subst e';exact QB ⟨H,I,q⟩
 | int i =>obtain ⟨t,rfl⟩:=rx;have e':k=(i != 0):=e;subst e';exact PySem.P.truthy_int ⟨H,I,q⟩
 | str y =>obtain ⟨t,rfl⟩:=rx;obtain ⟨hy,e'⟩:y.length<=sizeLine/\k=((y.length:Int) != 0):=e;subst e';exact PySem.P.truthy_str (by omega) ⟨H,I.tok _,q⟩
 | YS y =>obtain ⟨t,rfl⟩:=rx;obtain ⟨hy,e'⟩:y.size<=sizeLine/\k=((y.size:Int) != 0):=e;subst e';exact W.truthy_bytes (by omega) ⟨H,I.tok _,q⟩
 | ref p =>
  cases rx;have e':(∃ xs,SO X.K H p xs/\k=!xs.isEmpty)\/(∃ xs,Tg X.K H p xs/\k=!xs.isEmpty)\/∃ kvs,H p=some (.dK kvs)/\k=!kvs.isEmpty:=e;rcases e' with ⟨xs,hx,e'⟩ | ⟨xs,hx,e'⟩ | ⟨kvs,hx,e'⟩
  ·subst e';obtain ⟨its,r,pl,hz⟩:=I.list hx;have hlen:=r.length;exact wpAny_truthy_list pl.isList (by simp only [Pz];omega) ⟨H,I.tok _,by rw [qF r];exact q⟩
  ·subst e';obtain ⟨its,r,pl,hz⟩:=I.tuple hx;have hlen:=r.length;exact truthy_tuple pl (by simp only [Pz];omega) ⟨H,I.tok _,by rw [qF r];exact q⟩
  ·subst e';obtain ⟨hz,hS,vs,r,m⟩:kvs.length<=sizeLine/\(p == sysModules)=false/\∃ vs,KV kvs vs/\s.heap.DictOf (fX X.prog X.w) p vs:=I.hok p _ hx;have hlen:kvs.length=vs.length:=Paired.length r;exact wpAny_truthy_dict hS m (by omega) ⟨H,I.tok _,by rw [yE r];exact q⟩
 | _=>exact (show False from e).elim
theorem bR (ha:PE X a ta) (he:∀ whole,isTrue a X.env whole=(do let v <- whole;standAt a.pos;holding [v] (truthy v))) :
  PT X a (λσ H Q=>ta σ H λx H'=>∃ k,yn X.K x H' k/\Q k H'):=by
 intro pins s σ H Q I h;exact isTrue_plain (SY (ha pins s σ H _ I h) λv s1 ⟨x,H1,I1,r1,q1⟩=>Iy pins s1 σ H1 x v Q I1 r1 q1) (he _)
variable {x:V} {us:List Value}
theorem jd (r:Vals [x] us):∃ u,us=[u]/\RelV x u:=by
 cases r with
 | cons r1 r2=>cases r2;exact ⟨_,rfl,r1⟩
theorem Jz {y:V} (r:Vals [x,y] us):∃ u w',us=[u,w']/\RelV x u/\RelV y w':=by
 cases r with
 | cons r1 r2 =>
  cases r2 with
  | cons r3 r4=>cases r4;exact ⟨_,_,rfl,r1,r3⟩
end
structure YI (h:Heap) (x dx C:Addr) (mA:Str->Option Value):Prop where
 obj:h.get? x=some (W.instObj C dx)
 ns:h.Ns1 dx mA
 ne:dx≠x
variable {dx:Addr} {mA:Str->Option Value}
theorem Bi (n:h.Ns1 dx mA):∃ od,h.get? dx=some od/\∀ name,W.lookIn name od=some (mA name):=by
 obtain ⟨o,es,ep,ho,hd,hk,_,hm⟩:=n;refine ⟨o,ho,λname=>?_⟩;have e:=hm name;unfold nsFind findBy at e;rw [<- Array.find?_toList] at e;unfold W.lookIn;rw [hd];dsimp only;split
 ·rename_i y q;rw [q] at e;exact PZ some e
 ·rename_i q;rw [q] at e
  have a:es.toList.any (·.refKey)=false:=by rw [List.any_eq_false];intro y hy;obtain ⟨z,t,hkey⟩:=hk y (Array.mem_toList_iff.mp hy);simp [DictEntry.refKey,hkey]
  have a':¬ es.toList.any (·.refKey)=true:=by rw [a];exact Pk
  rw [M1 a'];exact PZ some e
variable {C:Addr}
theorem YI.look {x:Addr} (I:YI h x dx C mA):∃ od,W.InstAt h x (W.instObj C dx) C (some od)/\∀ name,W.lookIn name od=some (mA name) :=
 let ⟨od,ho,hl⟩:=Bi I.ns
 ⟨od,⟨I.obj,rfl,rfl,ho⟩,hl⟩
section
variable {prog:Program} {w:World} {A:Around} {E:Value->Shared->Prop} {s:Shared} {K:W.Frag} {x dx C f:Addr} {mA:Str->Option Value} {name:Str} {v:Value}
theorem EX {expr:Bool} {Q:Value->Shared->Prop} (X:K.In s.heap) (I:YI s.heap x dx C mA) (hg:W.plainGet K C name=true) (hh:W.hasDictIn K C=true)
  (ha:W.findIn K (.ref C) name=some none) (hv:mA name=some v) (hv':W.handedIn v=true) (h:Q v { s with toks:=s.toks+1 }) :
  wpAny (model prog w) A (getAttr (.ref x) name expr) Q E s:=by
 obtain ⟨od,J,hl⟩:=I.look;exact W.get_value X J (W.plainGet_of hg).1 (W.findObj_own hh ha rfl (by rw [hl,hv])) hv' h
theorem CH {pl:Sem Bool} {Q:Value × List Value->Shared->Prop} (X:K.In s.heap) (I:YI s.heap x dx C mA) (hg:W.plainGet K C name=true)
  (hf:W.findIn K (.ref C) name=some (some (.ref f))) (ht:W.isFn K (.ref f)=true) (hv:mA name=none) (h:Q (.ref f,[.ref x]) s) :
  wpAny (model prog w) A (getMethod (.ref x) name pl) Q E s:=by
 obtain ⟨od,J,hl⟩:=I.look;exact W.method_fn X J (W.plainGet_of hg).1 (W.plainGet_of hg).2 hf (Sy.mp ht) (by show (W.lookIn name od).map (·.isSome)=some false;rw [hl,hv];rfl) h
theorem FY {ns:List Str} {Q:Unit->Shared->Prop} (X:K.In s.heap) (I:YI s.heap x dx C mA)
  (hs:W.findIn K (.ref C) "__setattr__"=some (some (.builtin "object.__setattr__"))) (hp:W.plainOver K C=true) (ht:W.takerIn K C name=some none) (hh:W.hasDictIn K C=true)
  (hw:PySem.Within mA ns) (hsz:ns.length<=sizeLine)
  (h:∀ h',YI h' x dx C (λy=>if y=name then some v else mA y)->Heap.SameBut dx s.heap h'->Q () { s with heap:=h',toks:=s.toks+2 }) :
  wpAny (model prog w) A (setAttr (.ref x) name v) Q E s:=by
 obtain ⟨od,J,hl⟩:=I.look;refine W.set_plain X J hs (W.osa_open (s:={ s with toks:=s.toks+1 }) (r:=none) X J hp ht λb=>?_);obtain ⟨cd,hc,hd'⟩:=W.any_some hh;have hx:s.heap.get? x=some ⟨.ref C,some dx,.plain,#[]⟩:=I.obj;refine Pg (PC (Pg (Pg (wpAny_loadPart hx (Pg (W.Looks.here (s:={ s with toks:=s.toks+1 }) (W.looks_clsIn X hc) ?_))))));rw [hd'];refine PC (a:=some dx) (Pg (PC (Pg ?_)));refine wpAny_nsSet1 (s:={ s with toks:=s.toks+1 }) I.ns λh' hn2 hs2=>?_;obtain ⟨oD,esD,epD,hoD,hdD,hcD⟩:=hn2.count (PySem.Within.cons name v hw);refine Pg (wpAny_lookBehind hoD (by rw [hdD];exact pastItsLine_dict (Qd hcD (by rw [Pp];omega))) ?_);exact PC (h _ ⟨(hs2.2 _ (PL I.ne)).trans I.obj,hn2,I.ne⟩ hs2)
theorem C1 {R:Result->Shared->Prop} {vs:List Value} {kw:List (Str × Value)} (X:K.In s.heap) (hm:W.makesIn K C=true)
  (hi:W.findIn K (.ref C) "__init__"=some (some (.ref f))) (hf:W.typeIn K (.ref f)=some (.type "function"))
  (h:codeAny (model prog w) (A.under (.builtin "type.__call__" ⟨.ref C::vs,kw⟩)) (.call (.ref f) ⟨.ref (s.heap.objs.size+1)::vs,kw⟩) (W.InitBack (s.heap.objs.size+1) R)
   {s with heap:=(s.heap.push W.emptyDict).push (W.instObj C s.heap.objs.size) }) :
  codeAny (model prog w) A (.call (.ref C) ⟨vs,kw⟩) R s:=by
 obtain ⟨hh,g,d,t,os⟩:=s;exact W.make_core (W.makes_of X hm) (W.looks_findIn X hi) (λself=>W.bind_fn X self hf) (.inl rfl) h
end
noncomputable def kG (f:Str) (v:V):List (Str × V)->List (Str × V)
 | []=>[(f,v)]
 | (g,x)::r=>if g=f then (g,v)::r else (g,x)::kG f v r
theorem oY (f g:Str) (v:V):∀ fs:List (Str × V),(kG f v fs).lookup g=if g=f then some v else fs.lookup g
 | []=>by
  show List.lookup g [(f,v)]=_;by_cases h:g=f
  ·have hb:(g == f)=true:=Sy.mpr h;simp only [List.lookup,hb,Ph h]
  ·have hb:(g == f)=false:=Rn.mpr h;simp only [List.lookup,hb,M1 h]
 | (k,x)::r=>by
  have ih:=oY f g v r;rw [show kG f v ((k,x)::r)=(if k=f then (k,v)::r else (k,x)::kG f v r) from rfl];by_cases hk:k=f
  ·rw [Ph hk];by_cases h:g=k
   ·have hb:(g == k)=true:=Sy.mpr h;simp only [List.lookup,hb,Ph (h.trans hk)]
   ·have hb:(g == k)=false:=Rn.mpr h;simp only [List.lookup,hb,M1 (λe:g=f=>h (e.trans hk.symm))]
  ·rw [M1 hk];by_cases h:g=k
   ·have hb:(g == k)=true:=Sy.mpr h;simp only [List.lookup,hb,M1 (λe:g=f=>hk (h.symm.trans e))]
   ·have hb:(g == k)=false:=Rn.mpr h;simp only [List.lookup,hb];exact ih
theorem og (f:Str) (v:V):∀ fs:List (Str × V),f ∈ (kG f v fs).map (·.1)/\∀ g,g ∈ fs.map (·.1)->g ∈ (kG f v fs).map (·.1)
 | []=>⟨by simp [kG],λg h=>by simp at h⟩
 | (k,x)::r=>by
  obtain ⟨i1,i2⟩:=og f v r;rw [show kG f v ((k,x)::r)=(if k=f then (k,v)::r else (k,x)::kG f v r) from rfl];by_cases hk:k=f
  ·rw [Ph hk];subst hk;exact ⟨by simp,λg h=>by simpa using h⟩
  ·rw [M1 hk];refine ⟨?_,λg h=>?_⟩
   ·rw [PB];exact PR _ i1
   ·rw [PB] at h ⊢;rcases Py.mp h with e | e
    ·exact Py.mpr (.inl e)
    ·exact PR _ (i2 g e)
theorem oX (f:Str) (v:V):∀ fs:List (Str × V),(kG f v fs).length<=fs.length+1
 | []=>by simp [kG]
 | (k,x)::r=>by
  have ih:=oX f v r;rw [show kG f v ((k,x)::r)=(if k=f then (k,v)::r else (k,x)::kG f v r) from rfl];by_cases hk:k=f
  ·rw [Ph hk,Pp,Pp];omega
  ·rw [M1 hk,Pp,Pp];omega
theorem WB.some_of {v:V} {o:Option Value} (r:WB (some v) o):∃ u,o=some u/\RelV v u:=by
 cases o with
 | none=>exact (show False from r).elim
 | some u=>exact ⟨u,rfl,r⟩
theorem WB.none_of {o:Option Value} (r:WB none o):o=none:=by
 cases o with
 | none=>rfl
 | some u=>exact (show False from r).elim
theorem A8 {v:V} (r:RelV v u):W.handedIn u=true:=by
 cases v with
 | SM=>cases (show u=Value.none from r);rfl
 | bl b=>cases (show u=Value.bool b from r);rfl
 | int i=>obtain ⟨t,e⟩:=(show ∃ t,u=Value.int i t from r);cases e;rfl
 | str x=>obtain ⟨t,e⟩:=(show ∃ t,u=Value.str x t from r);cases e;rfl
 | YS b=>obtain ⟨t,e⟩:=(show ∃ t,u=Value.bytes b t from r);cases e;rfl
 | flt b=>obtain ⟨t,e⟩:=(show ∃ t,u=Value.float b t from r);cases e;rfl
 | ref a=>cases (show u=Value.ref a from r);rfl
 | ty n=>cases (show u=Value.type n from r);rfl
section
variable {P:Program} {w:World} {H H':Hp} {h h':Heap} {a C dx:Addr} {fs fs':List (Str × V)}
theorem uL (hok:WC P w H h) (e:H a=some (.ins C dx fs)):∃ mA,YI h a dx C mA/\(∀ f,WB (fs.lookup f) (mA f))/\PySem.Within mA (fs.map (·.1))/\fs.length<=1000/\H dx=some (.own a):=by
 obtain ⟨d,z,ne,ob,mA,n,r,q⟩:=(show S9 P w H h a (.ins C dx fs) from hok a _ e)
 exact ⟨mA,⟨ob,n,ne⟩,r,q,z,d⟩
end
structure X3 (K:W.Frag) (C:Addr):Prop where
 pg:W.plainGet K C Str.empty=true
 hd:W.hasDictIn K C=true
 po:W.plainOver K C=true
 sa:W.findIn K (.ref C) "__setattr__"=some (some (.builtin "object.__setattr__"))
theorem X3.get (c:X3 K C) (f:Str):W.plainGet K C f=true:=c.pg
def S2 (K:W.Frag) (C:Addr) (f:Str):Prop:=W.findIn K (.ref C) f=some none
theorem S2.taker {f:Str} (n:S2 K C f):W.takerIn K C f=some none:=by unfold W.takerIn;rw [show W.findIn K (.ref C) f=some none from n];rfl
structure uh (K:W.Frag) (C:Addr) (m:Str) (f:Addr):Prop where
 at_:W.findIn K (.ref C) m=some (some (.ref f))
 fn:W.isFn K (.ref f)=true
 kp:W.keepIn K (.ref f)=true
section
variable {X:Cx} {pins:List (Addr × Obj)} {σ:St} {H:Hp} {s:Shared} {a C dx:Addr} {fs:List (Str × V)} {f:Str} {v:V} {A:Around} {E:Value->Shared->Prop}
theorem yB {b:Bool} {Q:Value->Shared->Prop} (I:Inv X pins σ H s) (e:H a=some (.ins C dx fs)) (c:X3 X.K C) (n:S2 X.K C f) (l:fs.lookup f=some v)
  (h:∀ u s',Inv X pins σ H s'->RelV v u->Q u s'):wpAny (model X.prog X.w) A (getAttr (.ref a) f b) Q E s:=by
 obtain ⟨mA,O,r,_,_,_⟩:=uL I.hok e;obtain ⟨u,hu,ru⟩:=WB.some_of (v:=v) (o:=mA f) (by rw [<- l];exact r f);exact EX I.Wa O (c.get f) c.hd n hu (A8 ru) (h u _ (I.tok _) ru)
theorem qB {m:Str} {g:Addr} {pl:Sem Bool} {Q:Value × List Value->Shared->Prop} (I:Inv X pins σ H s) (e:H a=some (.ins C dx fs)) (c:X3 X.K C) (k:uh X.K C m g) (l:fs.lookup m=none)
  (h:Q (.ref g,[.ref a]) s):wpAny (model X.prog X.w) A (getMethod (.ref a) m pl) Q E s:=by
 obtain ⟨mA,O,r,_,_,_⟩:=uL I.hok e;have hn:mA m=none:=WB.none_of (by rw [<- l];exact r m);exact CH I.Wa O (c.get m) k.at_ k.fn hn h
theorem zu {y:V} {u:Value} {Q:Unit->Shared->Prop} (I:Inv X pins σ H s) (e:H a=some (.ins C dx fs)) (c:X3 X.K C) (n:S2 X.K C f) (hl:fs.length < 1000) (ry:RelV y u)
  (h:∀ s',Inv X pins σ (upd H a (.ins C dx (kG f y fs))) s'->Q () s'):wpAny (model X.prog X.w) A (setAttr (.ref a) f u) Q E s:=by
 obtain ⟨mA,O,r,wi,_,ho⟩:=uL I.hok e;have hz:(fs.map (·.1)).length<=sizeLine:=by rw [Pd,Rv];omega
 refine FY I.Wa O c.sa c.po n.taker c.hd wi hz λh' O' sb=>h _ ?_;have hd:∃ o,h'.get? dx=some o:=let ⟨o,_,_,e',_⟩:=O'.ns;⟨o,e'⟩;refine I.write (x:=a) (e:=dx) (by rw [e];exact True.intro) (.inr ho) (λb q hb z=>(sb.2 b hb).trans z) hd ?_;refine ⟨by rw [aS O.ne];exact ho,?_,O.ne,O'.obj,_,O'.ns,λg=>?_,λg hg=>?_⟩
 ·have:=oX f y fs;omega
 ·show WB ((kG f y fs).lookup g) (if g=f then some u else mA g);rw [oY];by_cases q:g=f
  ·rw [Ph q,Ph q];exact ry
  ·rw [M1 q,M1 q];exact r g
 ·by_cases q:g=f
  ·rw [q];exact (og f y fs).1
  ·refine (og f y fs).2 g (wi g λz=>hg ?_);show (if g=f then some u else mA g)=none;rw [M1 q];exact z
theorem Inv.made (I:Inv X pins σ H s):Inv X pins σ (upd (upd H s.heap.objs.size (.own (s.heap.objs.size+1))) (s.heap.objs.size+1) (.ins C s.heap.objs.size []))
  {s with heap:=(s.heap.push W.emptyDict).push (W.instObj C s.heap.objs.size) }:=by
 have e1:(s.heap.push W.emptyDict).get? s.heap.objs.size=some W.emptyDict:=P4 s.heap rfl
 have e2:((s.heap.push W.emptyDict).push (W.instObj C s.heap.objs.size)).get? (s.heap.objs.size+1)=some (W.instObj C s.heap.objs.size):=by
  have:=P4 (s.heap.push W.emptyDict) (o:=W.instObj C s.heap.objs.size) rfl
  rwa [Qs] at this
 have e3:(s.heap.push W.emptyDict).Ns s.heap.objs.size (λ_=>none):=⟨W.emptyDict,#[],_,e1,rfl,(λe he=>absurd he (by simp)),λ_=>rfl⟩
 have I1:=I.laid (a:=s.heap.objs.size) (o:=.own (s.heap.objs.size+1)) (h':=s.heap.push W.emptyDict) (t':=s.toks) (λb u q=>Pf _ q) (Pq _) ⟨_,e1⟩;refine I1.laid (a:=s.heap.objs.size+1) (o:=.ins C s.heap.objs.size []) (t':=s.toks) (λb u q=>Pf _ q) (R8 (Qs _ _)) ?_;have ne:s.heap.objs.size≠s.heap.objs.size+1:=Qc (RI _);refine ⟨by rw [aS ne,aI],Qy _,ne,e2,λ_=>none,(Heap.Ns1.of_empty e3).at λo q=>Pf _ q,λ_=>True.intro,λy hy=>absurd rfl hy⟩
theorem EC {prog:Program} {w:World} {env:Env} {e:Expr} {f:Str} {pos:Pos} {s:Shared} {Q:Value->Shared->Prop} (hb:attributeBase e f env (eval e env)=eval e env)
  (h:wpAny (model prog w) A (eval e env) (λo s₁=>wpAny (model prog w) A (getAttr o f true) Q E s₁) E s):wpAny (model prog w) A (eval (.Attribute e f pos) env) Q E s :=
 Attribute_any_ h (by rw [arm_eval_Attribute,hb])
end
noncomputable def pI (K:W.Frag) (ta:TE) (f:Str):TE:=λσ H Q=>ta σ H λx H1=>∃ a C dx fs v,x=.ref a/\H1 a=some (.ins C dx fs)/\X3 K C/\S2 K C f/\fs.lookup f=some v/\Q v H1
noncomputable def Jm (K:W.Frag) (ta tv:TE) (f:Str):TS:=λD σ H=>tv σ H λy H1=>ta σ H1 λx H2=>∃ a C dx fs,x=.ref a/\H2 a=some (.ins C dx fs)/\X3 K C/\S2 K C f/\fs.length < 1000 /\
 D.nx σ (upd H2 a (.ins C dx (kG f y fs)))
section
variable {X:Cx} {o e value:Expr} {f:Str} {pos pos' tpos:Pos} {ta tv:TE}
theorem gE (he:PE X e ta) (hb:attributeBase e f X.env (eval e X.env)=eval e X.env):PE X (.Attribute e f pos) (pI X.K ta f):=by intro pins s σ H Q I h;refine EC hb (SY (he pins s σ H _ I h) λu s1 ⟨x,H1,I1,rx,a,C,dx,fs,v,ex,ea,c,n,l,q⟩=>?_);subst ex;obtain rfl:u=Value.ref a:=rx;exact yB I1 ea c n l λu' s2 I2 ru=>⟨v,H1,I2,ru,q⟩
theorem kF (ha:PE X o ta) (hv:PE X value tv) (hs:swapsWith value (some (.Attribute o f pos')) pos.line X.env=pure false):PS X (.Assign [.Attribute o f pos'] value pos) (Jm X.K ta tv f):=by intro pins s σ H D I h;refine plainObj_wpAny_Assign_Attribute (SY (hv pins s σ H _ I h) λu s1 ⟨y,H1,I1,ry,q⟩=>SY (ha pins s1 σ H1 _ I1 q) λov s2 ⟨x,H2,I2,rx,a,C,dx,fs,ex,ea,c,n,l,q2⟩=>?_) hs;subst ex;obtain rfl:ov=Value.ref a:=rx;exact zu I2 ea c n l ry λs3 I3=>⟨σ,_,I3,q2⟩
end
section
variable {X:Cx} {pins:List (Addr × Obj)} {σ:St} {H:Hp} {s:Shared} {A:Around} {E:Value->Shared->Prop} {Q:Value->Shared->Prop} {c:Value} {b:Bool}
end
structure Tw (k:Nat) (A:Around):Prop where
 hd:A.handled=none
 dp:A.depth+3 * k+5 < recursionLimit
 un:A.units+16 * k+200 < cLine
variable {j:Nat}
theorem Tw.mono {k:Nat} (r:Tw k A) (h:j<=k):Tw j A:=⟨r.hd,by have:=r.dp;omega,by have:=r.un;omega⟩
theorem Tw.deeper {k:Nat} (r:Tw (k+1) A) (env:Env):Tw k (A.deeper env) :=
 ⟨r.hd,by have:=r.dp;show A.depth+1+3 * k+5 < _;omega,by have:=r.un;show A.units+3+16 * k+200 < _;omega⟩
variable {kw:List (Str × Value)}
theorem yH:(A.under (.builtin "type.__call__" ⟨.ref C::us,kw⟩)).depth=A.depth+1:=by
 first | rfl | simp [Around.under,Code.weight,Code.isCreation,Code.isGuard,Code.isCaller,Code.frames,Code.isFrame,guardIds]
theorem yI:(A.under (.builtin "type.__call__" ⟨.ref C::us,kw⟩)).units=A.units+1:=by
 first | rfl | simp [Around.under,Code.cUnits,Code.frames,Code.isFrame]
theorem Tw.make {k:Nat} (r:Tw (k+1) A) (C:Addr) (us:List Value) (kw:List (Str × Value)):Tw k (A.under (.builtin "type.__call__" ⟨.ref C::us,kw⟩)) :=
 ⟨r.hd,by have:=r.dp;rw [yH];omega,by have:=r.un;rw [yI];omega⟩
theorem Tw.depth {k:Nat} (r:Tw k A):A.depth < recursionLimit:=by have:=r.dp;omega
theorem Tw.units {k:Nat} (r:Tw k A):A.units+64 < cLine:=by have:=r.un;omega
noncomputable def dW:TA:=λ_ H Q=>Q [] H
noncomputable def bW (ta:TE) (tr:TA):TA:=λσ H Q=>ta σ H λx H1=>tr σ H1 λxs H2=>Q (x::xs) H2
section
variable {X:Cx} {e:Expr} {es:List Expr} {te:TE} {t:TA} {pos:Pos}
theorem aC:PA X [] dW:=λ_ _ _ _ H Q I h=>Calls.spliced_nil ⟨[],H,I,.nil,h⟩
theorem dE (ha:PE X e te) (hr:PA X es t) (hs:starEach (e::es) X.env=(false,eval e X.env)::starEach es X.env:=by rfl):PA X (e::es) (bW te t):=by intro pos pins s σ H Q I h;rw [hs];show wpAny _ _ (spliced ((false,eval e X.env)::backTo pos (starEach es X.env))) _ _ s;refine Sn (SY (ha pins s σ H _ I h) λu s1 ⟨x,H1,I1,r1,q1⟩=>?_);exact SY (hr pos pins s1 σ H1 _ I1 q1) λus s2 ⟨xs,H2,I2,r2,q2⟩=>⟨x::xs,H2,I2,.cons r1 r2,q2⟩
noncomputable def zB (t:TA):TE:=λσ H Q=>t σ H λxs H1=>xs.length<=sizeLine/\∀ p,H1 p=none->Q (.ref p) (upd H1 p (.tup xs))
noncomputable def wm (t:TA):TE:=λσ H Q=>t σ H λxs H1=>xs.length<=sizeLine/\∀ p,H1 p=none->Q (.ref p) (upd H1 p (.lst xs))
theorem bA {x1} (h:PA X es t):PE X (.Tuple es x1 pos) (zB t):=by intro pins s σ H Q I hq;refine wpAny_Tuple_spliced (SY (h pos pins s σ H _ I hq) λus s1 ⟨xs,H1,I1,r,z,q⟩=>⟨by rw [<- r.length];exact z,?_⟩);have hf:H1 s1.heap.objs.size=none:=I1.hok.fresh (Pq _);refine ⟨.ref s1.heap.objs.size,upd H1 s1.heap.objs.size (.tup xs),I1.laid (t':=s1.toks) (λb u e=>Pf _ e) (Pq _) ?_,rfl,q _ hf⟩;exact ⟨z,us,r,⟨_,P4 _ rfl,rfl,_,rfl⟩⟩
theorem bY (h:PA X es t):PE X (.List es pos) (wm t):=by intro pins s σ H Q I hq;refine wpAny_List_spliced (SY (h pos pins s σ H _ I hq) λus s1 ⟨xs,H1,I1,r,z,q⟩=>⟨by rw [<- r.length];exact z,?_⟩);have hf:H1 s1.heap.objs.size=none:=I1.hok.fresh (Pq _);refine ⟨.ref s1.heap.objs.size,upd H1 s1.heap.objs.size (.lst xs),I1.laid (t':=s1.toks) (λb u e=>Pf _ e) (Pq _) ?_,rfl,q _ hf⟩;exact ⟨z,us,0,r,P4 _ rfl⟩
end
abbrev Sp:=List V->Hp->VK->XK->Prop
abbrev Zi:=List Env->Hp->Shared->XK->Value->Shared->Prop
structure YJ (P:Program) (w:World) (K:W.Frag) (mg:Str->Option Value) (base:Heap) (A:Around) (outer:List Env) (s:Shared) (H:Hp):Prop where
 frames:A.frames=some outer
 mod:Mod K mg base
 bs:∀ b o,base.get? b=some o->s.heap.get? b=some o/\H b=none
 ZW:base.objs.size<=s.heap.objs.size
 Xp:s.heap.FunFrames base outer
 frf:∀ b ∈ frs outer,H b=none
 hok:WC P w H s.heap
 bare:AllBare s.gens
def CE (outer:List Env) (P:Program) (w:World) (H:Hp) (s:Shared) (Q:VK) (u:Value) (s':Shared):Prop :=
 ∃ v H',s'.os=s.os/\AllBare s'.gens/\Un (frs outer) [] H H' s.heap s'.heap/\WC P w H' s'.heap/\RelV v u/\Q v H'
def CR (CX:Zi) (outer:List Env) (P:Program) (w:World) (H:Hp) (s:Shared) (Q:VK) (E:XK) (r:Result) (s':Shared):Prop :=
 match r with
 | .ok (.ret u)=>CE outer P w H s Q u s'
 | .ok _=>False
 | .error e=>CX outer H s E e s'
structure Tc (P:Program) (w:World) (K:W.Frag) (mg:Str->Option Value) (base:Heap) (CX:Zi) (k:Nat) (f:Addr) (fd:FuncData) (ps:List Str) (sp:Sp):Prop where
 len:∀ vs H Q E,sp vs H Q E->vs.length=ps.length
 run:∀ (A:Around) (outer:List Env) (s:Shared) (H:Hp) (args:Args) (us:List Value) (vs:List V) (Q:VK) (E:XK),Tw k A->YJ P w K mg base A outer s H->BindsTo s fd args (ps.zip us)->Vals vs us->sp vs H Q E ->
  codeAny (model P w) A (.call (.ref f) args) (CR CX outer P w H s Q E) s
variable {mg:Str->Option Value} {base:Heap} {CX:Zi} {f:Addr} {fd:FuncData} {ps:List Str} {sp:Sp}
theorem Tc.mono {k:Nat} (F:Tc P w K mg base CX j f fd ps sp) (h:j<=k) :
  Tc P w K mg base CX k f fd ps sp:=⟨F.len,λA outer s H args us vs Q E hr=>F.run A outer s H args us vs Q E (hr.mono h)⟩
variable {outer:List Env}
theorem YJ.make (e:YJ P w K mg base A outer s H) (C:Addr) (us:List Value) (kw:List (Str × Value)) :
  YJ P w K mg base (A.under (.builtin "type.__call__" ⟨.ref C::us,kw⟩)) outer s H:=⟨by first | exact e.frames | (simpa [Around.under,Code.envs,Code.isFrame,pushEnvs] using e.frames),e.mod,e.bs,e.ZW,e.Xp,e.frf,e.hok,e.bare⟩
section
variable {X:Cx} {pins:List (Addr × Obj)} {σ:St} {H:Hp} {s s':Shared}
theorem Inv.env0 (I:Inv X pins σ H s):YJ X.prog X.w X.K X.mg X.base X.A X.stack s H :=
 ⟨I.ok.frames,I.ok.mod,I.bs,Qd I.ok.ZW I.sz,I.stack,I.YT,I.hok,I.bare⟩
theorem Inv.after {Q:VK} {u:Value} (I:Inv X pins σ H s) (h:CE X.stack X.prog X.w H s Q u s'):EP X pins σ Q u s':=by obtain ⟨v,H',os,bare,un,hok,r,q⟩:=h;obtain ⟨hh,g,d,t,os'⟩:=s';obtain rfl:os'=s.os:=os;exact ⟨v,H',I.call (h':=hh) (g':=g) (d':=d) (t':=t) (ch:=[]) un hok bare (λb z=>absurd z (by simp)),r,q⟩
end
def kr (sp:Sp) (Wm:List V) (E:XK) (t:TA):TE:=λσ H Q=>t σ H λvs H1=>sp (vs++Wm) H1 Q E
def AN (C:Addr) (m:Str) (sp:Sp) (Wm:List V) (E:XK) (ta:TE) (t:TA):TE:=λσ H Q=>ta σ H λx H1=>∃ a dx fs,x=.ref a/\H1 a=some (.ins C dx fs)/\fs.lookup m=none /\
 t σ H1 λvs H2=>sp (x::(vs++Wm)) H2 Q E
def Ju (C:Addr) (sp:Sp) (Wm:List V) (E:XK) (t:TA):TE:=λσ H Q=>t σ H λvs H1=>∀ x dx,H1 x=none->H1 dx=none->dx≠x ->
 sp (.ref x::(vs++Wm)) (upd (upd H1 dx (.own x)) x (.ins C dx [])) (λv H2=>v=.SM/\Q (.ref x) H2) E
def Binds (K:W.Frag) (fd:FuncData) (ps:List Str) (ds:List Value):Prop :=
 ∀ (s:Shared) (us:List Value),K.In s.heap->(us++ds).length=ps.length->BindsTo s fd ⟨us,[]⟩ (ps.zip (us++ds))
theorem Binds.all (h:∀ us:List Value,us.length=ps.length->bindArgs fd ⟨us,[]⟩=pure (ps.zip us)):Binds K fd ps []:=λs us _ hl=>by rw [PM] at hl ⊢;exact .of_eq (h us hl)
def jY (CX:Zi) (X:Cx) (E:XK):Prop:=∀ (pins:List (Addr × Obj)) (σ:St) (H:Hp) (s:Shared) (e:Value) (s':Shared),Inv X pins σ H s->CX X.stack H s E e s'->X.xe e s'
section
variable {X:Cx} {CX:Zi} {k:Nat} {f C:Addr} {fd:FuncData} {ps:List Str} {sp:Sp} {Wm:List V} {ds:List Value} {E:XK} {x m:Str} {p pos apos:Pos} {e o:Expr} {es:List Expr} {ta:TE} {t:TA}
variable {pins:List (Addr × Obj)} {σ:St} {H:Hp} {s:Shared} {Q:VK} {us:List Value} {vs:List V}
theorem vW (F:Tc X.prog X.w X.K X.mg X.base CX k f fd ps sp) (hr:Tw k X.A) (hb:Binds X.K fd ps ds) (hd:Vals Wm ds) (hx:jY CX X E)
  (I:Inv X pins σ H s) (r:Vals vs us) (h:sp (vs++Wm) H Q E):wpAny (model X.prog X.w) X.A (call (.ref f) us) (EP X pins σ Q) X.xe s:=by
 have r2:Vals (vs++Wm) (us++ds):=r.append hd;have hl:(us++ds).length=ps.length:=by rw [<- r2.length];exact F.len _ _ _ _ h
 refine wpAny_call (Rz (F.run X.A X.stack s H ⟨us,[]⟩ (us++ds) (vs++Wm) Q E hr I.env0 (hb s us I.Wa hl) r2 h) λr s' hq=>?_)
 cases r with
 | error e=>exact hx pins σ H s e s' I hq
 | ok fl =>
  cases fl with
  | ret u=>exact I.after hq
  | next=>exact False.elim hq
  | brk=>exact False.elim hq
  | cont=>exact False.elim hq
theorem Au (F:Tc X.prog X.w X.K X.mg X.base CX k f fd ps sp) (hr:Tw k X.A) (hg:Gl X x) (hm:X.mg x=some (.ref f)) (hk:W.keepIn X.K (.ref f)=true) (hb:Binds X.K fd ps ds) (hd:Vals Wm ds) (hx:jY CX X E)
  (ha:PA X (e::es) t) (hdb:(x == ("__debug__":Str))=false:=by decide) (he:starEach (e::es) X.env=(false,eval e X.env)::starEach es X.env:=by rfl) (hpl:(backTo pos (starEach es X.env)).any (·.1)=false:=by rfl) :
  PE X (.Call (.Name x p) (e::es) [] pos) (kr sp Wm E t):=by
 intro pins s σ H Q I h;refine Q7 (nq I hg hm ?_ hdb);refine W.callWith_K (h₀:=X.base) I.ok.mod.kin hk (SY (ha pos pins s σ H _ I h) λus s1 ⟨vs,H1,I1,r,q⟩=>⟨I1.Wa,?_⟩) he hpl;exact vW F hr hb hd hx I1 r q
theorem xH (F:Tc X.prog X.w X.K X.mg X.base CX k f fd ps sp) (hr:Tw k X.A) (hg:Gl X x) (hm:X.mg x=some (.ref f)) (hk:W.keepIn X.K (.ref f)=true) (hb:Binds X.K fd ps ds) (hd:Vals Wm ds) (hx:jY CX X E)
  (hdb:(x == ("__debug__":Str))=false:=by decide):PE X (.Call (.Name x p) [] [] pos) (kr sp Wm E dW):=by
 intro pins s σ H Q I h;refine Q7 (nq I hg hm ?_ hdb);exact W.callWith_K0 I.Wa hk (vW (us:=[]) F hr hb hd hx I .nil h)
variable {pl:Sem Bool}
theorem iX (he:PE X o ta) (c:X3 X.K C) (hm:uh X.K C m f) (F:Tc X.prog X.w X.K X.mg X.base CX k f fd ps sp) (hr:Tw k X.A) (hb:Binds X.K fd ps ds) (hd:Vals Wm ds) (hx:jY CX X E) (ha:PA X (e::es) t)
  (hst:starEach (e::es) X.env=(false,eval e X.env)::starEach es X.env:=by rfl) (hpl:(backTo pos (starEach es X.env)).any (·.1)=false:=by rfl)
  (ht:eval (.Call (.Attribute o m apos) (e::es) [] pos) X.env=(do
   let ov <- eval o X.env
   standAt apos.atName
   let (f,first) <- holding [ov] (getMethod ov m pl)
   callWith pos f first (backTo pos (starEach (e::es) X.env)) (backToKw pos (keywordEach [] X.env))):=by rfl) :
  PE X (.Call (.Attribute o m apos) (e::es) [] pos) (AN C m sp Wm E ta t):=by
 intro pins s σ H Q I h;refine W.methodCall_KW (pl:=pl) (SY (he pins s σ H _ I h) λu s1 ⟨x,H1,I1,rx,a,dx,fs,ex,ea,l,q⟩=>?_) ht;subst ex;obtain rfl:u=Value.ref a:=rx;refine qB I1 ea c hm l ?_;refine W.callWith_K (first:=[.ref a]) (h₀:=X.base) I.ok.mod.kin hm.kp (SY (ha pos pins s1 σ H1 _ I1 q) λus s2 ⟨vs,H2,I2,r,q2⟩=>⟨I2.Wa,?_⟩) hst hpl;exact vW (us:=.ref a::us) (vs:=.ref a::vs) F hr hb hd hx I2 (.cons rfl r) q2
theorem kn (he:PE X o ta) (c:X3 X.K C) (hm:uh X.K C m f) (F:Tc X.prog X.w X.K X.mg X.base CX k f fd ps sp) (hr:Tw k X.A) (hb:Binds X.K fd ps ds) (hd:Vals Wm ds) (hx:jY CX X E)
  (ht:eval (.Call (.Attribute o m apos) [] [] pos) X.env=(do
   let ov <- eval o X.env
   standAt apos.atName
   let (f,first) <- holding [ov] (getMethod ov m pl)
   callWith pos f first (backTo pos (starEach [] X.env)) (backToKw pos (keywordEach [] X.env))):=by rfl) :
  PE X (.Call (.Attribute o m apos) [] [] pos) (AN C m sp Wm E ta dW):=by
 intro pins s σ H Q I h;refine W.methodCall_KW (pl:=pl) (SY (he pins s σ H _ I h) λu s1 ⟨x,H1,I1,rx,a,dx,fs,ex,ea,l,q⟩=>?_) ht;subst ex;obtain rfl:u=Value.ref a:=rx;refine qB I1 ea c hm l ?_;exact W.callWith_K0 (first:=[.ref a]) I1.Wa hm.kp (vW (us:=[.ref a]) (vs:=[.ref a]) F hr hb hd hx I1 (.cons rfl .nil) q)
structure Mk (K:W.Frag) (C f:Addr):Prop where
 makes:W.makesIn K C=true
 init:W.findIn K (.ref C) "__init__"=some (some (.ref f))
 fn:W.isFn K (.ref f)=true
 kp:W.keepIn K (.ref C)=true
theorem DY (M:Mk X.K C f) (F:Tc X.prog X.w X.K X.mg X.base CX k f fd ps sp) (hr:Tw (k+1) X.A) (hb:Binds X.K fd ps ds) (hd:Vals Wm ds)
  (hx:jY CX X E) (I:Inv X pins σ H s) (r:Vals vs us)
  (h:∀ x dx,H x=none->H dx=none->dx≠x->sp (.ref x::(vs++Wm)) (upd (upd H dx (.own x)) x (.ins C dx [])) (λv H2=>v=.SM/\Q (.ref x) H2) E) :
  wpAny (model X.prog X.w) X.A (call (.ref C) us) (EP X pins σ Q) X.xe s:=by
 have hq:=h (s.heap.objs.size+1) s.heap.objs.size (I.hok.fresh (RX _)) (I.hok.fresh (Pq _)) (Qc (RI _));have I2:=Inv.made (C:=C) I;have r2:Vals (V.ref (s.heap.objs.size+1)::(vs++Wm)) (Value.ref (s.heap.objs.size+1)::(us++ds)):=.cons rfl (r.append hd)
 have hl:(Value.ref (s.heap.objs.size+1)::us++ds).length=ps.length:=by have e:=r2.length;rw [F.len _ _ _ _ hq] at e;exact e.symm
 refine wpAny_call (C1 (f:=f) I.Wa M.makes M.init (Sy.mp M.fn) (Rz (F.run _ X.stack _ _ ⟨Value.ref (s.heap.objs.size+1)::us,[]⟩ (Value.ref (s.heap.objs.size+1)::(us++ds)) _ _ E (hr.make C us [])
  (I2.env0.make C us []) (hb _ (Value.ref (s.heap.objs.size+1)::us) I2.Wa hl) r2 hq) λr s' hq'=>?_))
 cases r with
 | error e=>exact hx pins σ _ _ e s' I2 hq'
 | ok fl =>
  cases fl with
  | ret u =>obtain ⟨v,H',I3,rv,ev,q3⟩:=I2.after hq';subst ev;exact ⟨rv,⟨V.ref (s.heap.objs.size+1),H',I3,rfl,q3⟩⟩
  | next=>exact False.elim hq'
  | brk=>exact False.elim hq'
  | cont=>exact False.elim hq'
theorem Fo (M:Mk X.K C f) (F:Tc X.prog X.w X.K X.mg X.base CX k f fd ps sp) (hr:Tw (k+1) X.A) (hg:Gl X x) (hm:X.mg x=some (.ref C)) (hb:Binds X.K fd ps ds) (hd:Vals Wm ds) (hx:jY CX X E)
  (ha:PA X (e::es) t) (hdb:(x == ("__debug__":Str))=false:=by decide) (he:starEach (e::es) X.env=(false,eval e X.env)::starEach es X.env:=by rfl) (hpl:(backTo pos (starEach es X.env)).any (·.1)=false:=by rfl) :
  PE X (.Call (.Name x p) (e::es) [] pos) (Ju C sp Wm E t):=by
 intro pins s σ H Q I h;refine Q7 (nq I hg hm ?_ hdb);refine W.callWith_K (h₀:=X.base) I.ok.mod.kin M.kp (SY (ha pos pins s σ H _ I h) λus s1 ⟨vs,H1,I1,r,q⟩=>⟨I1.Wa,?_⟩) he hpl;exact DY M F hr hb hd hx I1 r q
end
def PK (X:Cx) (kws:List Keyword) (t:TA):Prop :=
 ∀ (pos:Pos) (pins:List (Addr × Obj)) (s:Shared) (σ:St) (H:Hp) (Q:List V->Hp->Prop),Inv X pins σ H s->t σ H Q->wpAny (model X.prog X.w) X.A (evalAll ((backToKw pos (keywordEach kws X.env)).map (·.2))) (AP X pins σ Q) X.xe s
section
variable {X:Cx} {CX:Zi} {k:Nat} {f C:Addr} {fd:FuncData} {ps ks:List Str} {sp:Sp} {E:XK} {x m:Str} {p pos apos kpos:Pos} {e o:Expr} {es:List Expr} {kws:List Keyword} {te ta:TE} {t tk:TA} {nm:Option Str}
theorem HV:PK X [] dW:=λ_ _ _ _ H Q I h=>wpAny_evalAll_nil ⟨[],H,I,.nil,h⟩
theorem Fx (ha:PE X e te) (hr:PK X kws t):PK X (⟨nm,e,kpos⟩::kws) (bW te t):=by intro pos pins s σ H Q I h;show wpAny _ _ (evalAll ((do let v <- eval e X.env;standAt pos;pure v)::(backToKw pos (keywordEach kws X.env)).map (·.2))) _ _ s;refine wpAny_evalAll_cons (Pg (SY (ha pins s σ H _ I h) λu s1 ⟨x,H1,I1,r1,q1⟩=>Pg (RK (PC ?_))));exact SY (hr pos pins s1 σ H1 _ I1 q1) λus s2 ⟨xs,H2,I2,r2,q2⟩=>⟨x::xs,H2,I2,.cons r1 r2,q2⟩
structure yi (K:W.Frag) (fd:FuncData) (ps ks:List Str) (g:List Value->List Value->List Value) (gV:List V->List V->List V):Prop where
 to:∀ (s:Shared) (us ws:List Value),K.In s.heap->(g us ws).length=ps.length->BindsTo s fd ⟨us,ks.zip ws⟩ (ps.zip (g us ws))
 rel:∀ {vs:List V} {us:List Value} {zs:List V} {ws:List Value},Vals vs us->Vals zs ws->Vals (gV vs zs) (g us ws)
def Ea (sp:Sp) (gV:List V->List V->List V) (E:XK) (t tk:TA):TE:=λσ H Q=>t σ H λvs H1=>tk σ H1 λzs H2=>sp (gV vs zs) H2 Q E
variable {g:List Value->List Value->List Value} {gV:List V->List V->List V}
theorem FX {pins:List (Addr × Obj)} {σ:St} {H:Hp} {s:Shared} {Q:VK} {us ws:List Value} {vs zs:List V} (F:Tc X.prog X.w X.K X.mg X.base CX k f fd ps sp) (hr:Tw k X.A) (hb:yi X.K fd ps ks g gV) (hx:jY CX X E)
  (I:Inv X pins σ H s) (r:Vals vs us) (rz:Vals zs ws) (h:sp (gV vs zs) H Q E):wpAny (model X.prog X.w) X.A (call (.ref f) us (ks.zip ws)) (EP X pins σ Q) X.xe s:=by
 have r2:=hb.rel r rz;have hl:(g us ws).length=ps.length:=by rw [<- r2.length];exact F.len _ _ _ _ h
 refine wpAny_call (Rz (F.run X.A X.stack s H ⟨us,ks.zip ws⟩ (g us ws) (gV vs zs) Q E hr I.env0 (hb.to s us ws I.Wa hl) r2 h) λr s' hq=>?_)
 cases r with
 | error e=>exact hx pins σ H s e s' I hq
 | ok fl =>
  cases fl with
  | ret u=>exact I.after hq
  | next=>exact False.elim hq
  | brk=>exact False.elim hq
  | cont=>exact False.elim hq
theorem Dr (F:Tc X.prog X.w X.K X.mg X.base CX k f fd ps sp) (hr:Tw k X.A) (hg:Gl X x) (hm:X.mg x=some (.ref f)) (hk:W.keepIn X.K (.ref f)=true) (hb:yi X.K fd ps ks g gV) (hx:jY CX X E)
  (ha:PA X (e::es) t) (hkw:PK X kws tk) (hall:(backToKw pos (keywordEach kws X.env)).all (·.1.isSome)=true:=by rfl) (hks:(backToKw pos (keywordEach kws X.env)).filterMap (·.1)=ks:=by rfl)
  (hdb:(x == ("__debug__":Str))=false:=by decide) (he:starEach (e::es) X.env=(false,eval e X.env)::starEach es X.env:=by rfl)
  (hpl:((backTo pos (starEach (e::es) X.env)).any (·.1) || (backToKw pos (keywordEach kws X.env)).any (·.1.isNone))=false:=by rfl) :
  PE X (.Call (.Name x p) (e::es) kws pos) (Ea sp gV E t tk):=by
 intro pins s σ H Q I h;refine Q7 (nq I hg hm ?_ hdb);refine W.callWith_KW (h₀:=X.base) I.ok.mod.kin hk hall (SY (ha pos pins s σ H _ I h) λus s1 ⟨vs,H1,I1,r,q⟩=>?_) hpl he;refine SY (hkw pos pins s1 σ H1 _ I1 q) λws s2 ⟨zs,H2,I2,rz,q2⟩=>⟨I2.Wa,?_⟩
 rw [hks];exact FX F hr hb hx I2 r rz q2
end
structure SJ (N P:List Str) (sc:Scope):Prop where
 kind:sc.kind=.function
 co:sc.isCoroutine=false
 gen:sc.isGenerator=false
 nd:N.Nodup
 pre:N.take P.length=P
 par:∀ x ∈ P,sc.names.lookup x=some .local\/sc.names.lookup x=some .cell
 nofree:∀ y ∈ sc.names,y.2≠.free
theorem SJ.TN {N P:List Str} {sc:Scope} (a:sc.kind=.function:=by rfl) (b:sc.isCoroutine=false:=by rfl) (c:sc.isGenerator=false:=by rfl) (d:N.Nodup:=by decide +kernel) (e:N.take P.length=P:=by rfl) (f:∀ x ∈ P,sc.names.lookup x=some .local\/sc.names.lookup x=some .cell:=by decide +kernel) (g:∀ y ∈ sc.names,y.2≠.free:=by decide +kernel):SJ N P sc:=⟨a,b,c,d,e,f,g⟩
variable {kindOf:Str->Option NameKind} {x:Str}
theorem sS:∀ {binds:List (Str × Value)} {m:Str->Option Value},(∀ v,(x,v) ∉ binds)->bindL kindOf binds m x=m x
 | [],_,_=>rfl
 | (n,v)::r,m,h=>by
  unfold bindL;rw [sS λw hw=>h w (PR _ hw)];split
  ·have:x≠n:=by rintro rfl;exact h v P0
   simp [this]
  ·rfl
theorem sQ:∀ {binds:List (Str × Value)} {m:Str->Option Value},(∀ v,(x,v) ∉ binds)->bindC kindOf binds m x=m x
 | [],_,_=>rfl
 | (n,v)::r,m,h=>by
  unfold bindC;rw [sQ λw hw=>h w (PR _ hw)];split
  ·rfl
  ·have:x≠n:=by rintro rfl;exact h v P0
   simp [this]
variable {v:Value}
theorem sR:∀ {P:List Str} {vs:List Value} {i:Nat} {m:Str->Option Value},P.Nodup->P[i]?=some x->vs[i]?=some v->kindOf x=some .local ->
  bindL kindOf (P.zip vs) m x=some v
 | [],_,_,_,_,h,_,_=>by simp at h
 | _::_,[],_,_,_,_,h,_=>by simp at h
 | p::P,w::vs,0,m,nd,h1,h2,hk=>by simp at h1 h2;subst h1;subst h2;show bindL kindOf ((p,w)::P.zip vs) m p=_;unfold bindL;rw [sS λv hv=>(Rq.mp nd).1 (List.of_mem_zip hv).1,Ph hk];simp
 | p::P,w::vs,i+1,m,nd,h1,h2,hk=>by show bindL kindOf ((p,w)::P.zip vs) m x=_;unfold bindL;exact sR (i:=i) (Rq.mp nd).2 (by simpa using h1) (by simpa using h2) hk
theorem sP:∀ {P:List Str} {vs:List Value} {i:Nat} {m:Str->Option Value},P.Nodup->P[i]?=some x->vs[i]?=some v->kindOf x≠some .local ->
  bindC kindOf (P.zip vs) m x=some v
 | [],_,_,_,_,h,_,_=>by simp at h
 | _::_,[],_,_,_,_,h,_=>by simp at h
 | p::P,w::vs,0,m,nd,h1,h2,hk=>by simp at h1 h2;subst h1;subst h2;show bindC kindOf ((p,w)::P.zip vs) m p=_;unfold bindC;rw [sQ λv hv=>(Rq.mp nd).1 (List.of_mem_zip hv).1,M1 hk];simp
 | p::P,w::vs,i+1,m,nd,h1,h2,hk=>by show bindC kindOf ((p,w)::P.zip vs) m x=_;unfold bindC;exact sP (i:=i) (Rq.mp nd).2 (by simpa using h1) (by simpa using h2) hk
noncomputable def start (N:List Str) (vs:List V):St:=vs.map some++List.replicate (N.length - vs.length) none
noncomputable def yv (CX:Zi) (P:Program) (w:World) (K:W.Frag) (mg:Str->Option Value) (base:Heap) (N:List Str) (qual:Str) (scope:Scope) (f:Addr) (cd:Value) (A:Around) (outer:List Env) (s:Shared) (H:Hp) (E:XK):Cx where
 prog:=P
 w:=w
 K:=K
 mg:=mg
 base:=base
 A:=A.deeper (envOfC qual scope s.heap.objs.size f cd)
 N:=N
 s₀:=s
 H₀:=H
 env:=envOfC qual scope s.heap.objs.size f cd
 outer:=outer
 stack:=envOfC qual scope s.heap.objs.size f cd::outer
 ex:=[]
 calm:=true
 fn:=λ_=>true
 pn:=[]
 xe:=λe s'=>wpAny (model P w) (A.deeper (envOfC qual scope s.heap.objs.size f cd)) (leaving (envOfC qual scope s.heap.objs.size f cd) e) (λ_ s''=>CX outer H s E e s'') (λe' s''=>CX outer H s E e' s'') s'
theorem wN {sc:Scope} (h:sc.names.lookup x=some .cell):∃ c,(cellsFrom n sc.names []).lookup x=some c:=by have q:=W.cellsFrom_some sc.names n [] (.inl h);exact Option.isSome_iff_exists.mp q
variable {N:List Str} {qual:Str} {scope:Scope}
theorem Ba {cd:Value} {s1:Shared} {E:XK} {vs:List V}
  (S:SJ N ps scope) (hd:A.handled=none) (e0:YJ P w K mg base A outer s H) (hl:vs.length=ps.length) (r:Vals vs us)
  (x:InCallC s s.heap.objs.size (bindL (envOfC qual scope s.heap.objs.size f cd).kindOf (ps.zip us) λ_=>none) (cellsFrom (s.heap.objs.size+1) scope.names []) (bindC (envOfC qual scope s.heap.objs.size f cd).kindOf (ps.zip us) λ_=>none) s1) :
  Inv (yv CX P w K mg base N qual scope f cd A outer s H E) [] (start N vs) H s1:=by
 have hpl:ps.length<=N.length:=by have:=PZ List.length S.pre;rw [Qe] at this;omega
 obtain ⟨h1,tk,rfl,hk⟩:=x.done;have noA:∀ b:Addr,b ∉ (yv CX P w K mg base N qual scope f cd A outer s H E).ex:=λb z=>absurd (show b ∈ ([]:List Addr) from z) (by simp)
 refine ⟨⟨e0.mod,S.kind,rfl,rfl,Pq _,λy z c h1 h2=>?_,λy hy=>?_,λy c _ h=>?_,λ_=>hd,Around.frames_deeper e0.frames,.inr ⟨rfl,rfl⟩,λb z=>absurd z (noA b),e0.bs,e0.ZW,λb _ _=>noA b,λb z=>absurd z (noA b),e0.Xp,e0.frf⟩,
  rfl,e0.bare,Un.kept hk,⟨_,x.toInCall.ns,λi y v h1 h2 h3=>?_⟩,λy c h=>⟨_,x.cell y c h⟩,e0.hok.fresh (Pq _),λy c h=>?_,λp hp=>absurd (show p ∈ ([]:List (Addr × Obj)) from hp) (by simp),e0.hok.kept hk,?_⟩
 ·exact name_of_addr x.apart (QL h1) (QL h2)
 ·have hy:scope.names.lookup y=some .cell\/scope.names.lookup y=some .free:=hy;rcases hy with hy | hy
  ·exact wN hy
  ·exact absurd rfl (S.nofree _ (QL hy))
 ·exact QM (x.above y c (QL h))
 ·have hi:i < vs.length:=by
   unfold start at h2;by_cases hi:i < vs.length
   ·exact hi
   ·rw [Qp (by simpa using hi)] at h2;rw [List.getElem?_replicate] at h2;split at h2 <;> cases h2
  have ha:vs[i]?=some v:=by
   unfold start at h2;rw [QX (by simpa using hi),Pr] at h2
   cases e:vs[i]? with
   | none=>rw [e] at h2;cases h2
   | some a=>rw [e] at h2;cases h2;rfl
  obtain ⟨u,hu,rv⟩:=r.get ha
  have hp:ps[i]?=some y:=by rw [<- S.pre,List.getElem?_take_of_lt (by omega)];exact h1
  have ndP:ps.Nodup:=by rw [<- S.pre];exact S.nd.sublist (List.take_sublist _ _)
  refine ⟨u,rv,?_⟩;rcases S.par y (PJ hp) with k | k
  ·exact .inl ⟨k,sR ndP hp hu k⟩
  ·obtain ⟨c,e⟩:=wN (n:=s.heap.objs.size+1) k;refine .inr ⟨.inl k,c,e,?_⟩;have q:=x.cell y c e;rw [sP ndP hp hu (by show scope.names.lookup y≠_;rw [k];decide)] at q;exact q
 ·exact e0.hok.fresh (QM (x.above y c (QL h)))
 ·unfold start;show _=N.length;rw [tB,Pd,List.length_replicate];omega
theorem Gh {k:Nat} {name:Str} {params:Arguments} {body:List Stmt} {dV kV doc pm cdv ct oc:Value} {an od:Option Addr} {osl:Array (Option Value)} (lk:K.lookup f=some ⟨oc,od,.func (W.fnOf name qual params body scope dV kV doc pm an cdv ct),osl⟩) (hcd:W.codeIn K cdv qual=true) (S:SJ N ps scope)
  (len:∀ vs H Q E,sp vs H Q E->vs.length=ps.length)
  (hbody:∀ (A:Around) (outer:List Env) (s:Shared) (H:Hp) (vs:List V) (Q:VK) (E:XK),Tw k (A.deeper (envOfC qual scope s.heap.objs.size f cdv))->sp vs H Q E ->
   ∃ t,YH (yv CX P w K mg base N qual scope f cdv A outer s H E) body t/\t { nx:=λ_ H'=>Q .SM H',rt:=Q } (start N vs) H) :
  Tc P w K mg base CX (k+1) f (W.fnOf name qual params body scope dV kV doc pm an cdv ct) ps sp:=by
 refine ⟨len,λA outer s H args us vs Q E hr e0 hb r ZM=>?_⟩;have hl:=len _ _ _ _ ZM;have KX:K.In s.heap:=e0.mod.kin.keeps λb o e=>(e0.bs b o e).1;have lim:s.heap.NoLimit:=e0.mod.nolimit.keeps λb o e=>(e0.bs b o e).1
 have hkind:∀ y ∈ ps.zip us,scope.names.lookup y.1=some .local\/(scope.names.lookup y.1=some .cell/\((cellsFrom (s.heap.objs.size+1) scope.names []).lookup y.1).isSome=true):=λ⟨n,v⟩ hy=>by
  rcases S.par n (List.of_mem_zip hy).1 with q | q
  ·exact .inl q
  ·exact .inr ⟨q,W.cellsFrom_some _ _ _ (.inl q)⟩
 refine codeAny_call_function hr.depth (KX _ _ lk) rfl S.co S.gen rfl (W.codeRec_of KX hcd) (hb _ _ _ _ ?_);refine wpAny_newFunctionEnv_cells S.kind hkind λenv he s1 x=>?_;subst he;refine ⟨lim.keeps x.toInCall.keep,codeAny_func ?_⟩;obtain ⟨t,ht,hq⟩:=hbody A outer s H vs Q E (hr.deeper _) ZM;have I:Inv (yv CX P w K mg base N qual scope f cdv A outer s H E) [] (start N vs) H s1:=Ba S hr.hd e0 hl r x;refine RH (ht [] s1 (start N vs) H _ I hq) (λfl s' hs=>?_) λe s' hs=>hs
 have fin:∀ {σ':St} {H':Hp} {v:V} {u:Value},Inv (yv CX P w K mg base N qual scope f cdv A outer s H E) [] σ' H' s'->RelV v u->Q v H'->CE outer P w H s Q u s' :=
  λ{σ' H' v u} J rv q=>⟨v,H',J.os,J.bare,J.base,J.hok,rv,q⟩
 cases fl with
 | ret u =>obtain ⟨v,σ',H',J,rv,q⟩:=hs;exact fin J rv q
 | next =>obtain ⟨σ',H',J,q⟩:=hs;exact fin (v:=V.SM) (u:=Value.none) J rfl q
 | brk =>obtain ⟨_,_,_,q⟩:=hs;exact False.elim q
 | cont =>obtain ⟨_,_,_,q⟩:=hs;exact False.elim q
section
variable {X:Cx} {x:Str} {p pos:Pos} {e:Expr} {es:List Expr} {t:TA} {id T:String} {r:List V->Hp->VK->Prop}
def Xy (r:List V->Hp->VK->Prop) (t:TA):TE:=λσ H Q=>t σ H λvs H1=>r vs H1 Q
theorem aX (hc:jz X (.builtin id) r) (hg:Gl X x) (hm:X.mg x=none) (hv:bootBuiltins x=some (.builtin id)) (ha:PA X (e::es) t) (hn:x≠"__name__":=by decide) (hdb:(x == ("__debug__":Str))=false:=by decide)
  (he:starEach (e::es) X.env=(false,eval e X.env)::starEach es X.env:=by rfl) (hpl:(backTo pos (starEach es X.env)).any (·.1)=false:=by rfl):PE X (.Call (.Name x p) (e::es) [] pos) (Xy r t):=by
 intro pins s σ H Q I h;refine Q7 (lj I hg hm hv ?_ hn hdb);exact PyProof.Rows.callWith_builtin1 (SY (ha pos pins s σ H _ I h) λus s1 ⟨vs,H1,I1,r1,q1⟩=>hc pins s1 σ H1 vs us Q I1 r1 q1) he hpl
theorem eP (hc:jz X (.type T) r) (hg:Gl X x) (hm:X.mg x=none) (hv:bootBuiltins x=some (.type T)) (ha:PA X (e::es) t) (hn:x≠"__name__":=by decide) (hdb:(x == ("__debug__":Str))=false:=by decide)
  (he:starEach (e::es) X.env=(false,eval e X.env)::starEach es X.env:=by rfl) (hpl:(backTo pos (starEach es X.env)).any (·.1)=false:=by rfl):PE X (.Call (.Name x p) (e::es) [] pos) (Xy r t):=by
 intro pins s σ H Q I h;refine Q7 (lj I hg hm hv ?_ hn hdb);exact QD (SY (ha pos pins s σ H _ I h) λus s1 ⟨vs,H1,I1,r1,q1⟩=>hc pins s1 σ H1 vs us Q I1 r1 q1) he hpl
end
end L2
namespace HT
open PySem PyProof.Rows
section
open PySem.SeqAt
open PySem.AutoSeq1 (wpAny_loadPart')
open PySem.MeetsSeq PySem.MeetsSeq2 PySem.MeetsSeq3
end
section
variable {prog:Program} {w:World} {A:Around} {E:Value->Shared->Prop} {s:Shared}
variable {t:Addr}
theorem Z2 {b:Addr} {vs ws:List Value} {Q:Value->Shared->Prop} (ht:IsTup s.heap t vs.toArray) (hb:IsTup s.heap b ws.toArray) (hv:vs≠[])
  (h1:ws=[]->Q (.ref t) s) (h2:ws≠[]->Q (.ref s.heap.objs.size) { s with heap:=s.heap.push { cls:=.type "tuple",data:=.seq (vs++ws).toArray } })
  (hsz:vs.length+ws.length<=sizeLine):wpAny (model prog w) A (binaryOp .Add (.ref t) (.ref b)) Q E s:=by
 obtain ⟨⟨cls,dd,data,sl⟩,ho,hc,n,hd⟩:=id ht;obtain ⟨⟨cls2,dd2,data2,sl2⟩,ho2,hc2,n2,hd2⟩:=id hb;simp only at hc hd hc2 hd2;subst hc hd hc2 hd2;have e:vs.toArray++ws.toArray=(vs++ws).toArray:=by simp
 by_cases hw:ws=[]
 ·exact concat_meets ⟨_,ho,rfl⟩ ⟨_,ho2,rfl⟩ noFill_tuple_add seq_tuple_add F.slot_tuple_add F.entry_tuple_add (F.args_tuple_add_2 _ _)
   (tuple_addW1 t b vs.toArray ws.toArray n n2 dd dd2 sl sl2 (by simpa using hv) (by simp [hw])) ⟨ho,ho2,h1 hw⟩
 ·refine concat_meets ⟨_,ho,rfl⟩ ⟨_,ho2,rfl⟩ noFill_tuple_add seq_tuple_add F.slot_tuple_add F.entry_tuple_add (F.args_tuple_add_2 _ _)
   (tuple_addW2 t b vs.toArray ws.toArray n n2 dd dd2 sl sl2 (by simpa using hv) (by simpa using hw) (by rw [Pz,Pz];exact hsz)) ⟨ho,ho2,?_⟩
  rw [e];exact h2 hw
noncomputable def Uo (n d:Nat):Option Int->Nat
 | none=>d
 | some v=>if v < 0 then (v+(n:Int)).toNat else min v.toNat n
theorem Zs (n d:Nat):Uo n d none=d:=rfl
theorem Xz (n d k:Nat):Uo n d (some (k:Int))=min k n:=by show (if (k:Int) < 0 then ((k:Int)+(n:Int)).toNat else min (k:Int).toNat n)=min k n;rw [M1 (by omega),RV]
theorem Ij (n d:Nat) (hd:d<=n) (o:Option Int):Uo n d o<=n:=by
 cases o with
 | none=>exact hd
 | some v =>
  show (if v < 0 then (v+(n:Int)).toNat else min v.toNat n)<=n;by_cases hv:v < 0
  ·rw [Ph hv];omega
  ·rw [M1 hv];exact Nat.min_le_right _ _
theorem zP (v:Int) (n d:Nat):(if v < 0 then max (v+(n:Int)) 0 else min v (n:Int))=((Uo n d (some v):Nat):Int):=by
 show (if v < 0 then max (v+(n:Int)) 0 else min v (n:Int))=(((if v < 0 then (v+(n:Int)).toNat else min v.toNat n):Nat):Int)
 by_cases hv:v < 0
 ·simp only [Ph hv];omega
 ·simp only [M1 hv];omega
theorem yo (lo hi:Option Int) (n:Nat):Builtin.Slice.sliceAdjust lo hi 1 (n:Int)=(((Uo n 0 lo:Nat):Int),((Uo n n hi:Nat):Int)):=by
 have h1:¬ ((1:Int) < 0):=by omega
 unfold Builtin.Slice.sliceAdjust;simp only [h1,Sz];refine R1 ?_ ?_
 ·cases lo with
  | none=>rfl
  | some v=>exact zP v n 0
 ·cases hi with
  | none=>rfl
  | some v=>exact zP v n n
theorem yX (i j:Nat):Builtin.Slice.slicePlaces (i:Int) (j:Int) 1=j - i:=by
 unfold Builtin.Slice.slicePlaces;have h1:(1:Int) > 0:=by omega
 simp only [h1,RM,Int.ediv_one];split <;> omega
theorem rM {v:Value} {o:Option Int} {Q:Option Int->Shared->Prop} (p:IsPart v o) (h:Q o s):wpAny (model prog w) A (Builtin.Slice.slicePartIndex v) Q E s:=by
 cases p with
 | none=>exact slicePart_none h
 | int i t=>exact slicePart_int h
variable {sl:Addr} {vl vu:Value} {lo hi:Option Int}
theorem oI {n:Nat} {Q:Int × Int × Nat->Shared->Prop} (hs:s.heap.IsSliceOf sl vl vu .none) (pl:IsPart vl lo) (pu:IsPart vu hi)
  (h:Q (((Uo n 0 lo:Nat):Int),1,Uo n n hi - Uo n 0 lo) s):wpAny (model prog w) A (Builtin.Slice.sliceApplied (.ref sl) (pure (n:Int))) Q E s:=by
 obtain ⟨os,hos,hcs,hds⟩:=id hs;unfold Builtin.Slice.sliceApplied Builtin.Slice.sliceFields;refine Pg (Pg (QY hos hds (x:=vl) rfl (Pg (QY hos hds (x:=vu) rfl (Pg (QY hos hds (x:=.none) rfl (PC ?_)))))));refine Pg (slicePart_none ?_);show wpAny _ _ (if ((1:Int) == 0)=true then _ else _) _ _ s;rw [M1 (by decide)];refine Pg (rM pl (Pg (rM pu (Pg (PC ?_)))));show wpAny _ _ (match Builtin.Slice.sliceAdjust lo hi 1 (n:Int) with | (lo,hi)=>pure (lo,(1:Int),Builtin.Slice.slicePlaces lo hi 1)) _ _ s;rw [yo lo hi n];show wpAny _ _ (pure (((Uo n 0 lo:Nat):Int),(1:Int),Builtin.Slice.slicePlaces ((Uo n 0 lo:Nat):Int) ((Uo n n hi:Nat):Int) 1)) _ _ s;rw [yX];exact PC h
theorem Dy (xs:Array Value) (i k:Nat):((List.range k).filterMap λ(m:Nat)=>xs[((i:Int)+(m:Int) * 1).toNat]?).toArray=((xs.toList.drop i).take k).toArray:=by
 have e:(λ(m:Nat)=>xs[((i:Int)+(m:Int) * 1).toNat]?)=λm=>xs[i+m]?:=by
  funext m
  have:((i:Int)+(m:Int) * 1).toNat=i+m:=by omega
  rw [this]
 rw [e];have:=pick_run xs i k;rw [List.filterMap_map] at this;have e2:((λx=>xs[x]?) ∘ λx=>i+x)=λm=>xs[i+m]?:=rfl;rw [e2] at this;rw [this]
theorem WE {items:Array Value} {Q:Value->Shared->Prop} (ht:IsTup s.heap t items) (hs:s.heap.IsSliceOf sl vl vu .none) (pl:IsPart vl lo) (pu:IsPart vu hi)
  (hw:¬ (Uo items.size 0 lo=0/\Uo items.size items.size hi=items.size))
  (h:Q (.ref s.heap.objs.size) { s with heap:=s.heap.push { cls:=.type "tuple",data:=.seq ((items.toList.drop (Uo items.size 0 lo)).take (Uo items.size items.size hi - Uo items.size 0 lo)).toArray } })
  (hsz:items.size<=sizeLine):wpAny (model prog w) A (getItem (.ref t) (.ref sl)) Q E s:=by
 have YW:sizeOk (.seq ((items.toList.drop (Uo items.size 0 lo)).take (Uo items.size items.size hi - Uo items.size 0 lo)).toArray):=by show ((items.toList.drop (Uo items.size 0 lo)).take (Uo items.size items.size hi - Uo items.size 0 lo)).toArray.size<=sizeLine;rw [Pz,Qe,Q5,Q4];omega
 have hj:Uo items.size items.size hi<=items.size:=Ij _ _ (Pq _) hi;obtain ⟨os,hos,hcs,hds⟩:=id hs;have hTs:s.TypeIs (.ref sl) "slice":=⟨os,hos,hcs⟩
 unfold getItem
 try with_reducible refine Rp ?_
 first | refine Pg (PC ?_) | skip
 refine Pg (wpAny_sequenceKey ht.typeIs (by decide) ?_)
 refine Pg (QE (name:=Str.ofString "__getitem__") ht.typeIs Ro
  (QS Ro ht.typeIs entry_tuple_getitem ?_ (args_tuple_getitem _ _)))
 show wpAny _ _ (Builtin.Tuple.tupleItemsOf (.ref t) >>= _) _ _ s;refine Pg (tupleItemsOf_ ht ?_);refine Pg (wpAny_typeOf hTs ?_);rw [Ph (by decide)];refine Pg (oI hs pl pu ?_)
 have hno:¬ ((((Uo items.size 0 lo:Nat):Int) == 0 && (1:Int) == 1 && (Uo items.size items.size hi - Uo items.size 0 lo) == items.size)=true):=by intro q;rw [Px,Px] at q;have q1:((Uo items.size 0 lo:Nat):Int)=0:=eq_of_beq q.1.1;have q2:Uo items.size items.size hi - Uo items.size 0 lo=items.size:=eq_of_beq q.2;exact hw ⟨by omega,by omega⟩
 show wpAny _ _ (if (((Uo items.size 0 lo:Nat):Int) == 0 && (1:Int) == 1 && (Uo items.size items.size hi - Uo items.size 0 lo) == items.size)=true then _ else _) _ _ s;rw [M1 hno,Dy]
 first
  | exact Pg (m:=Builtin.Tuple.tupleExact _) (Ri (PC ⟨_,rfl,PC h⟩) YW)
  | exact Pg (m:=Builtin.Tuple.tupleExact _) (Ri (Pg (PC (PC ⟨_,rfl,PC h⟩))) YW)
  | exact Pg (Pg (m:=Builtin.Tuple.tupleExact _) (Ri (PC (PC ⟨_,rfl,PC h⟩)) YW))
  | exact Pg (Pg (m:=Builtin.Tuple.tupleExact _) (Ri (PC ⟨_,rfl,PC h⟩) YW))
end
end HT
namespace L2
open PySem PySem.Spec PyProof.Rows
abbrev TO:=St->Hp->(Option Int->Hp->Prop)->Prop
def PO (X:Cx) (e:Option Expr) (t:TO):Prop :=
 ∀ (pins:List (Addr × Obj)) (s:Shared) (σ:St) (H:Hp) (Q:Option Int->Hp->Prop),Inv X pins σ H s->t σ H Q ->
  wpAny (model X.prog X.w) X.A (evalPart e X.env) (λu s'=>∃ o H',Inv X pins σ H' s'/\IsPart u o/\Q o H') X.xe s
noncomputable def AQ:TO:=λ_ H Q=>Q none H
noncomputable def uc (t:TE):TO:=λσ H Q=>t σ H λx H1=>∃ i,x=.int i/\Q (some i) H1
section
variable {X:Cx} {e:Expr} {te:TE} {lo hi:Option Expr} {tl th:TO} {pos p2:Pos}
theorem pO:PO X none AQ:=by intro pins s σ H Q I h;rw [evalPart_none];exact PC ⟨none,H,I,.none,h⟩
theorem iY (h:PE X e te):PO X (some e) (uc te):=by intro pins s σ H Q I hw;rw [evalPart_some];refine SY (h pins s σ H _ I hw) λu s1 ⟨x,H1,I1,r1,q1⟩=>?_;obtain ⟨i,rfl,q⟩:=q1;obtain ⟨t,rfl⟩:=r1;exact ⟨some i,H1,I1,.int i t,q⟩
def SlR (X:Cx) (r:V->Option Int->Option Int->Hp->VK->Prop):Prop :=
 ∀ (pins:List (Addr × Obj)) (s:Shared) (σ:St) (H:Hp) (x:V) (v vl vu:Value) (lo hi:Option Int) (sl:Addr) (Q:VK),Inv X pins σ H s->RelV x v->s.heap.IsSliceOf sl vl vu .none->IsPart vl lo->IsPart vu hi->r x lo hi H Q ->
  ∃ T id,typeLookup (.type T) "__getitem__"=pure (some (.builtin id))/\s.TypeIs v T/\wpAny (model X.prog X.w) X.A (getItem v (.ref sl)) (EP X pins σ Q) X.xe s
def tSl (r:V->Option Int->Option Int->Hp->VK->Prop) (te:TE) (tl th:TO):TE:=λσ H Q=>te σ H λx H1=>tl σ H1 λl H2=>th σ H2 λu H3=>r x l u H3 Q
theorem jJ {r:V->Option Int->Option Int->Hp->VK->Prop} (hr:SlR X r) (he:PE X e te) (hl:PO X lo tl) (hu:PO X hi th):PE X (.Subscript e (.Slice lo hi none p2) pos) (tSl r te tl th):=by intro pins s σ H Q I h;refine Subscript_ (SY (he pins s σ H _ I h) λv s1 ⟨x,H1,I1,r1,q1⟩=>?_);refine wpAny_Slice (SY (hl pins s1 σ H1 _ I1 q1) λvl s2 ⟨l,H2,I2,pl,q2⟩=>SY (hu pins s2 σ H2 _ I2 q2) λvu s3 ⟨u,H3,I3,pu,q3⟩=>?_);rw [evalPart_none];refine PC ?_;have I4:Inv X pins σ H3 { s3 with heap:=s3.heap.push { cls:=.type "slice",data:=.fields #[vl,vu,.none] } }:=I3.kept (t':=s3.toks) λb ob q=>Pf _ q;obtain ⟨T,id,hT,ht,hg⟩:=hr pins { s3 with heap:=s3.heap.push { cls:=.type "slice",data:=.fields #[vl,vu,.none] } } σ H3 x v vl vu l u s3.heap.objs.size Q I4 r1 (Heap.IsSliceOf.new ..) pl pu q3;show wpAny (model X.prog X.w) X.A (subscriptTail e (.Slice lo hi none p2) v (.ref s3.heap.objs.size)) (EP X pins σ Q) X.xe { s3 with heap:=s3.heap.push { cls:=.type "slice",data:=.fields #[vl,vu,.none] } };exact tail_any (ops:=[.ref s3.heap.objs.size,v]) ht hT hg (by with_unfolding_all rfl)
noncomputable def sf (xs:List V) (lo hi:Option Int):List V:=(xs.drop (HT.Uo xs.length 0 lo)).take (HT.Uo xs.length xs.length hi - HT.Uo xs.length 0 lo)
theorem oU (xs:List V) (lo hi:Option Int):(sf xs lo hi).length<=xs.length:=by unfold sf;rw [Qe,Q5];omega
def HX (K:W.Frag):V->Option Int->Option Int->Hp->VK->Prop:=λx lo hi H Q=>∃ a xs,x=.ref a/\Tg K H a xs /\
 ¬ (HT.Uo xs.length 0 lo=0/\HT.Uo xs.length xs.length hi=xs.length)/\∀ p,H p=none->Q (.ref p) (upd H p (.tup (sf xs lo hi)))
theorem rL:SlR X (HX X.K):=by
 intro pins s σ H x v vl vu lo hi sl Q I rx hs pl pu h;obtain ⟨a,xs,rfl,hx,hw,q⟩:=h;cases rx;obtain ⟨its,r,ht,hz⟩:=I.tuple hx;have hlen:its.toArray.size=xs.length:=by rw [Pz];exact r.length.symm
 refine ⟨"tuple",_,Ro.lookup,ht.typeIs,?_⟩;refine HT.WE ht hs pl pu (by rw [hlen];exact hw) ?_ (by rw [hlen];exact hz);rw [hlen];refine ⟨.ref s.heap.objs.size,_,I.laid (t':=s.toks) (o:=.tup (sf xs lo hi)) (λb ob q=>Pf _ q) (Pq _) ?_,rfl,q _ (I.hok.fresh (Pq _))⟩;exact ⟨Qd (oU xs lo hi) hz,_,(r.drop (HT.Uo xs.length 0 lo)).take (HT.Uo xs.length xs.length hi - HT.Uo xs.length 0 lo),Sl _ _⟩
noncomputable def Ja (K:W.Frag):R2:=λx y H Q=>∃ a b xs ys,x=.ref a/\y=.ref b/\Tg K H a xs/\Tg K H b ys/\xs≠[]/\xs.length+ys.length<=sizeLine /\
 (ys=[]->Q (.ref a) H)/\(ys≠[]->∀ p,H p=none->Q (.ref p) (upd H p (.tup (xs++ys))))
theorem Vals.Yn {xs:List V} {us:List Value} (r:Vals xs us):us=[]↔xs=[]:=by
 cases r with
 | nil=>simp
 | cons _ _=>simp
theorem Fk:VU X (binaryOp .Add) (Ja X.K):=by intro pins s σ H x y v u Q I rx ry h;obtain ⟨a,b,xs,ys,rfl,rfl,ha,hb,hx,hz,q1,q2⟩:=h;cases rx;cases ry;obtain ⟨its,r1,p1,_⟩:=I.tuple ha;obtain ⟨its2,r2,p2,_⟩:=I.tuple hb;refine HT.Z2 p1 p2 (λz=>hx (r1.Yn.mp z)) (λz=>⟨.ref a,H,I,rfl,q1 (r2.Yn.mp z)⟩) (λz=>?_) (by rw [<- r1.length,<- r2.length];exact hz);refine ⟨.ref s.heap.objs.size,_,I.laid (t':=s.toks) (o:=.tup (xs++ys)) (λb ob q=>Pf _ q) (Pq _) ?_,rfl,q2 (λw=>z (r2.Yn.mpr w)) _ (I.hok.fresh (Pq _))⟩;exact ⟨by rw [tB];exact hz,_,r1.append r2,Sl _ _⟩
end
noncomputable def YK (n:Nat) (i:Int):Option Nat:=if 0<=i then (if i < n then some i.toNat else none) else if -(n:Int)<=i then some (i+n).toNat else none
noncomputable def YX {α:Type} (xs:List α) (i:Int):Option α:=(YK xs.length i).bind λj=>xs[j]?
variable {i:Int} {j:Nat}
theorem uP {n:Nat} (h:YK n i=some j):seqIndex? i n=some j/\j < n/\-(n:Int)<=i/\i < n:=by
 unfold YK at h;by_cases h0:0<=i
 ·rw [Ph h0] at h;by_cases h1:i < n
  ·rw [Ph h1] at h;have e:i.toNat=j:=Qf h;exact ⟨by rw [seqIndex_of h0 h1,e],by omega,by omega,h1⟩
  ·rw [M1 h1] at h;cases h
 ·rw [M1 h0] at h;by_cases h1:-(n:Int)<=i
  ·rw [Ph h1] at h;have e:(i+n).toNat=j:=Qf h;exact ⟨by rw [seqIndex_neg (by omega) h1,e],by omega,h1,by omega⟩
  ·rw [M1 h1] at h;cases h
theorem zL {α:Type} {xs:List α} {v:α} (h:YX xs i=some v):∃ j,seqIndex? i xs.length=some j/\xs[j]?=some v/\j < xs.length/\-(xs.length:Int)<=i/\i < xs.length:=by
 unfold YX at h
 cases e:YK xs.length i with
 | none=>rw [e] at h;cases h
 | some j =>rw [e] at h;obtain ⟨h1,h2,h3,h4⟩:=uP e;exact ⟨j,h1,h,h2,h3,h4⟩
theorem jT {α:Type} {xs:List α} {v:α} (h:xs[j]?=some v):YX xs (j:Int)=some v:=by
 have hj:j < xs.length:=(P1.mp h).1
 have e:YK xs.length (j:Int)=some j:=by unfold YK;rw [Ph (by omega),Ph (by omega)];simp
 unfold YX;rw [e];exact h
theorem Ce {α:Type} (xs:List α) (v:α):YX (xs++[v]) (-1)=some v:=by
 have hl:(xs++[v]).length=xs.length+1:=by simp
 have e:YK (xs++[v]).length (-1)=some xs.length:=by unfold YK;rw [hl,M1 (by decide),Ph (by omega)];congr 1;omega
 unfold YX;rw [e];show (xs++[v])[xs.length]?=some v;simp
def Ez (b:Expr):Prop:=∀ o i,subscripted b false o i=operate [o,i] (getItem o i)
def IxR (X:Cx) (r:R2):Prop :=
 ∀ (value slice:Expr) (pins:List (Addr × Obj)) (s:Shared) (σ:St) (H:Hp) (x y:V) (v u:Value) (Q:VK),Inv X pins σ H s->RelV x v->RelV y u->r x y H Q ->
  subscripted slice false v u=operate [v,u] (getItem v u)->wpAny (model X.prog X.w) X.A (subscriptTail value slice v u) (EP X pins σ Q) X.xe s
def MtR (X:Cx) (id:String) (r:V->List V->Hp->VK->Prop):Prop :=
 ∀ (pins:List (Addr × Obj)) (s:Shared) (σ:St) (H:Hp) (x:V) (xs:List V) (v:Value) (us:List Value) (Q:VK),Inv X pins σ H s->RelV x v->Vals xs us->r x xs H Q ->
  wpAny (model X.prog X.w) X.A (call (.builtin id) (v::us)) (EP X pins σ Q) X.xe s
section
variable {X:Cx} {a b:Expr} {ta tb:TE} {pos:Pos}
theorem aY {r:R2} (hr:IxR X r) (ha:PE X a ta) (hb:PE X b tb) (hs:Ez b:=by exact λ_ _=>rfl):PE X (.Subscript a b pos) (VE r ta tb):=by intro pins s σ H Q I h;exact Subscript_ (GY ha hb I h λv u s2 x y H2 I2 rx ry q=>hr a b pins s2 σ H2 x y v u Q I2 rx ry q (hs _ _))
noncomputable def BC (K:W.Frag):R2:=λx y H Q=>∃ p xs i v,x=.ref p/\y=.int i/\SO K H p xs/\YX xs i=some v/\Q v H
noncomputable def sD (K:W.Frag):R2:=λx y H Q=>∃ p xs i v,x=.ref p/\y=.int i/\Tg K H p xs/\YX xs i=some v/\Q v H
theorem bX:IxR X (BC X.K):=by
 intro value slice pins s σ H x y v u Q I rx ry h hs;obtain ⟨p,xs,i,z,rfl,rfl,hq,he,q⟩:=h;cases rx;obtain ⟨t,rfl⟩:=ry;obtain ⟨its,r,pl,hz⟩:=I.list hq;obtain ⟨j,h1,h2,h3,h4,h5⟩:=zL he;obtain ⟨w,ew,rw'⟩:=r.get h2;have hl:=r.length;have hn:=mR;have fin:EP X pins σ Q w s:=⟨z,H,I,rw',q⟩
 by_cases h0:0<=i
 ·have hj:i.toNat=j:=by
   rw [seqIndex_of h0 h5] at h1;exact Qf h1
  exact item_listR pl.isList h0 (by omega) (by rw [hj];simpa using ew) fin hs
 ·have hj:(i+(its.toArray.size:Int)).toNat=j:=by
   rw [seqIndex_neg (by omega) h4] at h1;rw [Pz,<- hl];exact Qf h1
  exact subscriptTail_builtinR (x:=w) pl.isList.typeIs slot_list_getitem.lookup
   (wpAny_getItem_list_neg (Q:=λr s'=>r=w/\EP X pins σ Q r s') pl.isList (by omega) (by rw [Pz] <;> omega) (by omega) (by rw [hj];simpa using ew) ⟨rfl,fin⟩) hs
theorem aZ:IxR X (sD X.K):=by
 intro value slice pins s σ H x y v u Q I rx ry h hs;obtain ⟨p,xs,i,z,rfl,rfl,hq,he,q⟩:=h;cases rx;obtain ⟨t,rfl⟩:=ry;obtain ⟨its,r,pl,hz⟩:=I.tuple hq;obtain ⟨j,h1,h2,h3,h4,h5⟩:=zL he;obtain ⟨w,ew,rw'⟩:=r.get h2;have hl:=r.length;have hn:=mR;have fin:EP X pins σ Q w s:=⟨z,H,I,rw',q⟩
 exact subscriptTail_builtinR (x:=w) pl.typeIs slot_tuple_getitem.lookup
  (getItem_tuple (j:=j) (Q:=λr s'=>r=w/\EP X pins σ Q r s') pl (by omega) (by omega) (by rw [Pz,<- hl];exact h1) (by simpa using ew) ⟨rfl,fin⟩) hs
theorem yJ (its:List Value) (n j:Nat) (u:Value):Obj.mapSeq (·.setIfInBounds j u) { cls:=.type "list",data:=.seq its.toArray n }={ cls:=.type "list",data:=.seq (its.set j u).toArray n }:=by simp [Obj.mapSeq]
variable {pins:List (Addr × Obj)} {σ:St} {H:Hp} {s:Shared} {p:Addr} {xs:List V}
theorem Inv.lst (I:Inv X pins σ H s) (h:H p=some (.lst xs)) :
  ∃ (its:List Value) (n:Nat),Vals xs its/\s.heap.get? p=some { cls:=.type "list",data:=.seq its.toArray n }/\xs.length<=sizeLine:=by
 obtain ⟨z,its,n,r,e⟩:=I.hok p _ h;exact ⟨its,n,r,e,z⟩
theorem Inv.lstUpd {ys:List V} {its its':List Value} {n n':Nat} {f:Obj->Obj} (I:Inv X pins σ H s) (h:H p=some (.lst xs))
  (ho:s.heap.get? p=some { cls:=.type "list",data:=.seq its.toArray n }) (hf:f { cls:=.type "list",data:=.seq its.toArray n }={ cls:=.type "list",data:=.seq its'.toArray n' }) (r:Vals ys its') (hz:ys.length<=sizeLine) (t:Nat) :
  Inv X pins σ (upd H p (.lst ys)) { s with heap:=s.heap.update p f,toks:=t }:=by
 have e:(s.heap.update p f).get? p=some { cls:=.type "list",data:=.seq its'.toArray n' }:=by rw [Heap.get?_update_self f ho (by rw [hf] <;> rfl),hf]
 refine I.write (x:=p) (e:=p) (by rw [h];trivial) (.inl rfl) (λb u hb q=>(Heap.get?_update_other _ _ (PL hb)).trans q) ⟨_,e⟩ ?_;exact ⟨hz,its',n',r,e⟩
def Jd:V->V->V->Hp->(Hp->Prop)->Prop:=λo i v H Q=>∃ p xs k j,o=.ref p/\i=.int k/\H p=some (.lst xs)/\YK xs.length k=some j/\Q (upd H p (.lst (xs.set j v)))
theorem nN:GG X Jd:=by
 intro pins s σ H o i v ov iv u Q I ro ri rv h;obtain ⟨p,xs,k,j,rfl,rfl,hp,hj,q⟩:=h;cases ro;obtain ⟨t,rfl⟩:=ri;obtain ⟨its,n,r,ho,hz⟩:=I.lst hp;obtain ⟨h1,h2,h3,h4⟩:=uP hj;have hl:=r.length;have hn:=mR
 have I':Inv X pins σ (upd H p (.lst (xs.set j v))) { s with heap:=s.heap.update p (Obj.mapSeq (·.setIfInBounds j u)) } :=
  I.lstUpd hp ho (yJ its n j u) (r.set rv j) (by rw [List.length_set];exact hz) s.toks
 by_cases h0:0<=k
 ·have hk:k.toNat=j:=by
   rw [seqIndex_of h0 h4] at h1;exact Qf h1
  exact W.ki_setAt ho h0 (by omega) (by rw [Pz,<- hl];exact h4) (by rw [hk];exact ⟨_,I',q⟩)
 ·have hk:(k+(its.toArray.size:Int)).toNat=j:=by
   rw [seqIndex_neg (by omega) h3] at h1;rw [Pz,<- hl];exact Qf h1
  exact W.ki_setBack ho (by omega) (by rw [Pz,<- hl];exact h3) (by omega) (by rw [hk];exact ⟨_,I',q⟩)
theorem vY (lo hi:Option Int) (n:Nat):(sliceBounds lo hi none n).1=((HT.Uo n 0 lo:Nat):Int)/\(sliceBounds lo hi none n).2.1=((HT.Uo n n hi:Nat):Int)/\(sliceBounds lo hi none n).2.2=1:=by
 refine ⟨?_,?_,rfl⟩
 ·cases lo with
  | none=>simp [sliceBounds,HT.Uo]
  | some i =>
   simp only [sliceBounds,HT.Uo,Option.getD_none,show (1:Int) > 0 by decide,RM];by_cases h:i < 0
   ·simp only [h,RM] <;> omega
   ·simp only [h,Sz] <;> omega
 ·cases hi with
  | none=>simp [sliceBounds,HT.Uo]
  | some i =>
   simp only [sliceBounds,HT.Uo,Option.getD_none,show (1:Int) > 0 by decide,RM];by_cases h:i < 0
   ·simp only [h,RM] <;> omega
   ·simp only [h,Sz] <;> omega
theorem sE (its:List Value) (lo hi:Option Int):slicePick its.toArray lo hi none=((its.drop (HT.Uo its.length 0 lo)).take (HT.Uo its.length its.length hi - HT.Uo its.length 0 lo)).toArray:=by obtain ⟨h1,h2,h3⟩:=vY lo hi its.toArray.size;unfold slicePick;rw [h1,h2,h3];simp only [sliceRange_one,pick_run,Pz] <;> rfl
def Je (K:W.Frag):V->Option Int->Option Int->Hp->VK->Prop:=λx lo hi H Q=>∃ a xs,x=.ref a/\SO K H a xs/\∀ p,H p=none->Q (.ref p) (upd H p (.lst (sf xs lo hi)))
theorem AJ:SlR X (Je X.K):=by intro pins s σ H x v vl vu lo hi sl Q I rx hs pl pu h;obtain ⟨a,xs,rfl,hx,q⟩:=h;cases rx;obtain ⟨its,r,ht,hz⟩:=I.list hx;have hlen:=r.length;refine ⟨"list",_,slot_list_getitem.lookup,ht.isList.typeIs,?_⟩;refine wpAny_getItem_list_slice ht.isList hs pl pu .none (by simp) ?_ (by rw [Pz] <;> omega);rw [sE,<- hlen];refine ⟨.ref s.heap.objs.size,_,I.laid (t':=s.toks) (o:=.lst (sf xs lo hi)) (λb ob q=>Pf _ q) (Pq _) ?_,rfl,q _ (I.hok.fresh (Pq _))⟩;exact ⟨Qd (oU xs lo hi) hz,_,0,(r.drop (HT.Uo xs.length 0 lo)).take (HT.Uo xs.length xs.length hi - HT.Uo xs.length 0 lo),P4 _ rfl⟩
noncomputable def lg:V->Bool
 | .SM=>true
 | .bl _=>true
 | .int _=>true
 | .str _=>true
 | _=>false
noncomputable def Zj:V->V->Bool
 | .SM,.SM=>true
 | .bl a,.bl b=>a == b
 | .bl a,.int b=>(if a then 1 else 0) == b
 | .int a,.bl b=>a == (if b then 1 else 0)
 | .int a,.int b=>a == b
 | .str a,.str b=>a == b
 | _,_=>false
variable {A:Around} {y x:V} {u v:Value}
theorem Hh (ry:RelV y u) (rx:RelV x v) (fy:lg y=true) (fx:lg x=true):SeqAt.EqAt A s u v (Zj y x):=by
 cases y with
 | SM =>
  cases ry
  cases x with
  | SM=>cases rx;exact SeqAt.EqAt.same _
  | bl b=>cases rx;exact SeqAt.EqAt.none_bool b
  | int b=>obtain ⟨t,rfl⟩:=rx;exact SeqAt.EqAt.none_int b t
  | str b=>obtain ⟨t,rfl⟩:=rx;exact SeqAt.EqAt.none_str b t
  | _=>exact absurd (show false=true from fx) Pk
 | bl a =>
  cases ry
  cases x with
  | SM=>cases rx;exact SeqAt.EqAt.bool_none a
  | bl b=>cases rx;exact SeqAt.EqAt.bool_bool a b
  | int b=>obtain ⟨t,rfl⟩:=rx;exact SeqAt.EqAt.bool_int a b t
  | str b=>obtain ⟨t,rfl⟩:=rx;exact SeqAt.EqAt.bool_str a b t
  | _=>exact absurd (show false=true from fx) Pk
 | int a =>
  obtain ⟨t',rfl⟩:=ry
  cases x with
  | SM=>cases rx;exact SeqAt.EqAt.int_none a t'
  | bl b=>cases rx;exact SeqAt.EqAt.int_bool a t' b
  | int b=>obtain ⟨t,rfl⟩:=rx;exact SeqAt.EqAt.int_int a t' b t
  | str b=>obtain ⟨t,rfl⟩:=rx;exact Si a t' b t
  | _=>exact absurd (show false=true from fx) Pk
 | str a =>
  obtain ⟨t',rfl⟩:=ry
  cases x with
  | SM=>cases rx;exact SeqAt.EqAt.str_none a t'
  | bl b=>cases rx;exact SeqAt.EqAt.str_bool a t' b
  | int b=>obtain ⟨t,rfl⟩:=rx;exact Sj a t' b t
  | str b=>obtain ⟨t,rfl⟩:=rx;exact SeqAt.EqAt.str_str a t' b t
  | _=>exact absurd (show false=true from fx) Pk
 | _=>exact absurd (show false=true from fy) Pk
noncomputable def YL (x:V) (u:Value):Bool:=match u with
 | .none=>Zj .SM x
 | .bool b=>Zj (.bl b) x
 | .int i _=>Zj (.int i) x
 | .str z _=>Zj (.str z) x
 | _=>false
theorem Cy (r:RelV y u) (f:lg y=true):YL x u=Zj y x:=by
 cases y with
 | SM=>cases r;rfl
 | bl b=>cases r;rfl
 | int i=>obtain ⟨t,rfl⟩:=r;rfl
 | str z=>obtain ⟨t,rfl⟩:=r;rfl
 | _=>exact absurd (show false=true from f) Pk
theorem m4:∀ {xs:List V} {us:List Value},Vals xs us->xs.all lg=true->us.any (YL x)=xs.any λy=>Zj y x
 | _,_,.nil,_=>rfl
 | y::xs,u::us,.cons r t,f=>by rw [List.all_cons,Px] at f;rw [QJ,QJ,Cy r f.1,m4 t f.2]
theorem lB (rx:RelV x v) (fx:lg x=true):∀ {xs:List V} {us:List Value},Vals xs us->xs.all lg=true->∀ u ∈ us,SeqAt.EqAt A s u v (YL x u)
 | _,_,.nil,_=>λu hu=>by cases hu
 | y::xs,u::us,.cons r t,f=>λu' hu=>by
  rw [List.all_cons,Px] at f;rcases Py.mp hu with rfl | hu
  ·rw [Cy r f.1];exact Hh r rx f.1 fx
  ·exact lB rx fx t f.2 u' hu
noncomputable def Zt (x:V) (xs:List V):Bool:=xs.any λy=>Zj y x
noncomputable def rIn (K:W.Frag) (neg:Bool):R2:=λx y H Q=>∃ p xs,y=.ref p/\(SO K H p xs\/Tg K H p xs)/\lg x=true/\xs.all lg=true/\Q (.bl (if neg then !Zt x xs else Zt x xs)) H
theorem eO:VU X (compareOp .In) (rIn X.K false):=by
 intro pins s σ H x y v u Q I rx ry h;obtain ⟨p,xs,rfl,hq,fx,fs,q⟩:=h;cases ry;rcases hq with hq | hq
 ·obtain ⟨its,r,pl,hz⟩:=I.list hq;refine SeqAt.in_listAt (YL x) pl.isList (λw hw=>lB rx fx r fs w (by simpa using hw)) ⟨.bl _,H,I,rfl,?_⟩;rw [show its.toArray.any (YL x)=its.any (YL x) by simp,m4 r fs];exact q
 ·obtain ⟨its,r,pl,hz⟩:=I.tuple hq;refine SeqAt.in_tupleAt (YL x) pl (λw hw=>lB rx fx r fs w (by simpa using hw)) ⟨.bl _,H,I,rfl,?_⟩;rw [show its.toArray.any (YL x)=its.any (YL x) by simp,m4 r fs];exact q
theorem nD:VU X (compareOp .NotIn) (rIn X.K true):=by
 intro pins s σ H x y v u Q I rx ry h;obtain ⟨p,xs,rfl,hq,fx,fs,q⟩:=h;cases ry;rcases hq with hq | hq
 ·obtain ⟨its,r,pl,hz⟩:=I.list hq;refine SeqAt.notIn_listAt (YL x) pl.isList (λw hw=>lB rx fx r fs w (by simpa using hw)) ⟨.bl _,H,I,rfl,?_⟩;rw [show its.toArray.any (YL x)=its.any (YL x) by simp,m4 r fs];exact q
 ·obtain ⟨its,r,pl,hz⟩:=I.tuple hq;refine SeqAt.notIn_tupleAt (YL x) pl (λw hw=>lB rx fx r fs w (by simpa using hw)) ⟨.bl _,H,I,rfl,?_⟩;rw [show its.toArray.any (YL x)=its.any (YL x) by simp,m4 r fs];exact q
theorem aW:jz X (.builtin "len") (λxs H Q=>∃ p ys,xs=[.ref p]/\(SO X.K H p ys\/Tg X.K H p ys)/\Q (.int ys.length) H):=by
 intro pins s σ H xs us Q I r h;obtain ⟨p,ys,rfl,hq,q⟩:=h;obtain ⟨u,rfl,rx⟩:=jd r;cases rx;have hn:=mR;rcases hq with hq | hq
 ·obtain ⟨its,r',pl,hz⟩:=I.list hq;have hlen:=r'.length;exact Calls.call_len_list pl.isList (by simp only [Pz] <;> omega) ⟨.int ys.length,H,I.tok _,⟨s.toks+1,by rw [Pz,hlen]⟩,q⟩
 ·obtain ⟨its,r',pl,hz⟩:=I.tuple hq;have hlen:=r'.length;exact len_tuple pl (by simp only [Pz] <;> omega) ⟨.int ys.length,H,I.tok _,⟨s.toks+1,by rw [Pz,hlen]⟩,q⟩
theorem um:jz X (.builtin "len") (λxs H Q=>∃ z,xs=[.str z]/\z.length<=sizeLine/\Q (.int z.length) H):=by intro pins s σ H xs us Q I r h;obtain ⟨z,rfl,hz,q⟩:=h;obtain ⟨u,rfl,t,rfl⟩:=jd r;have hn:=mR;exact len_str (by omega) ⟨.int z.length,H,I.tok _,⟨_,rfl⟩,q⟩
theorem uo:jz X (.type "list") (λxs H Q=>∃ p ys,xs=[.ref p]/\(SO X.K H p ys\/Tg X.K H p ys)/\∀ l,H l=none->Q (.ref l) (upd H l (.lst ys))):=by
 intro pins s σ H xs us Q I r h;obtain ⟨p,ys,rfl,hq,q⟩:=h;obtain ⟨u,rfl,rx⟩:=jd r;cases rx
 have fin:∀ (its:List Value),Vals ys its->ys.length<=sizeLine->∀ (h':Heap) (c':Nat),(∀ b o',s.heap.get? b=some o'->h'.get? b=some o') ->
   h'.get? s.heap.objs.size=some { cls:=.type "list",dict:=none,data:=.seq its.toArray c',slots:=#[] }->EP X pins σ Q (.ref s.heap.objs.size) { s with heap:=h' }:=λits r' hz h' c' kp e =>
  ⟨.ref s.heap.objs.size,_,I.laid (t':=s.toks) kp (Pq _) (show S9 X.prog X.w _ h' _ (.lst ys) from ⟨hz,its,c',r',e⟩),rfl,q _ (I.hok.fresh (Pq _))⟩
 rcases hq with hq | hq
 ·obtain ⟨its,r',pl,hz⟩:=I.list hq;have hlen:=r'.length;obtain ⟨o,ho,hc,n,hd⟩:=pl.isList;exact call_list_seq p (.inl rfl) ho hc hd (λh' c' kp e=>fin its r' hz h' c' kp e) (by simp only [Pz] <;> omega)
 ·obtain ⟨its,r',pl,hz⟩:=I.tuple hq;have hlen:=r'.length;obtain ⟨o,ho,hc,n,hd⟩:=pl;exact call_list_seq p (.inr rfl) ho hc hd (λh' c' kp e=>fin its r' hz h' c' kp e) (by simp only [Pz] <;> omega)
theorem dY:jz X (.type "tuple") (λxs H Q=>∃ p ys,xs=[.ref p]/\((SO X.K H p ys/\∀ l,H l=none->Q (.ref l) (upd H l (.tup ys)))\/(Tg X.K H p ys/\Q (.ref p) H))):=by
 intro pins s σ H xs us Q I r h;obtain ⟨p,ys,rfl,h⟩:=h;obtain ⟨u,rfl,rx⟩:=jd r;cases rx;rcases h with ⟨hq,q⟩ | ⟨hq,q⟩
 ·obtain ⟨its,r',pl,hz⟩:=I.list hq;have hlen:=r'.length;refine call_tuple_list pl.isList (λh' kp=>?_) (by simp only [Pz] <;> omega);have I1:Inv X pins σ H { s with heap:=h' }:=I.kept (t':=s.toks) kp
  have I2:Inv X pins σ (upd H h'.objs.size (.tup ys)) { s with heap:=h'.push { cls:=.type "tuple",data:=.seq its.toArray } } :=
   I1.laid (t':=s.toks) (λb o e=>Pf _ e) (Pq _) (show S9 X.prog X.w _ _ _ (.tup ys) from ⟨hz,its,r',Sl _ _⟩)
  exact ⟨.ref h'.objs.size,_,I2,rfl,q _ (I1.hok.fresh (Pq _))⟩
 ·obtain ⟨its,r',pl,hz⟩:=I.tuple hq;exact call_tuple_same pl ⟨.ref p,H,I,rfl,q⟩
def tyV (K:W.Frag) (T:String) (x:V) (H:Hp):Prop:=match x with
 | .str _=>T="str"
 | .int _=>T="int"
 | .ref p=>(T="list"/\∃ xs,SO K H p xs)\/(T="tuple"/\∃ o,K.lookup p=some o/\o.cls=.type "tuple"/\o.dict=none) \/
   (T="dict"/\((∃ kvs,H p=some (.dK kvs))\/∃ kvs,H p=some (.dT kvs)))\/(T="set"/\∃ S n,H p=some (.set S n))
 | _=>False
theorem Eo {T:String} (I:Inv X pins σ H s) (r:RelV x v) (ty:tyV X.K T x H) :
  s.TypeIs v T/\∀ a,v=.ref a->∃ ob,s.heap.get? a=some ob/\ob.dict=none:=by
 cases x with
 | str z =>obtain ⟨t,rfl⟩:=r;cases (show T="str" from ty);exact ⟨typeIs_str s z t,λ_ e=>nomatch e⟩
 | int i =>obtain ⟨t,rfl⟩:=r;cases (show T="int" from ty);exact ⟨typeIs_int s i t,λ_ e=>nomatch e⟩
 | ref p =>
  cases r;rcases ty with ⟨rfl,xs,hq⟩ | ⟨rfl,o,hk,hc,hd⟩ | ⟨rfl,hk⟩ | ⟨rfl,S,n,hk⟩
  ·obtain ⟨its,_,pl,_⟩:=I.list hq;refine ⟨pl.isList.typeIs,λa e=>?_⟩;cases e;obtain ⟨o,n,e,c,hd,_⟩:=pl;exact ⟨o,e,hd⟩
  ·refine ⟨⟨o,I.Wa p o hk,hc⟩,λa e=>?_⟩;cases e;exact ⟨o,I.Wa _ o hk,hd⟩
  ·have z:∃ o,s.heap.get? p=some o/\o.ExactDict:=by
    rcases hk with ⟨kvs,hk⟩ | ⟨kvs,hk⟩
    ·obtain ⟨_,_,_,_,o,_,_,e,ex,_⟩:=I.hok p _ hk;exact ⟨o,e,ex⟩
    ·obtain ⟨_,_,_,_,o,_,_,e,ex,_⟩:=I.hok p _ hk;exact ⟨o,e,ex⟩
   obtain ⟨o,e,ex⟩:=z;refine ⟨⟨o,e,ex.1⟩,λa e2=>?_⟩;cases e2;exact ⟨o,e,ex.2.1⟩
  ·obtain ⟨o,_,_,_,e,ex,_⟩:=I.hok p _ hk;refine ⟨⟨o,e,ex.1⟩,λa e2=>?_⟩;cases e2;exact ⟨o,e,ex.2.1⟩
 | _=>exact False.elim ty
def Ip (K:W.Frag) (T:String) (r:V->List V->Hp->VK->Prop) (to:TE):TE:=λσ H Q=>to σ H λx H1=>tyV K T x H1/\r x [] H1 Q
def Z3 (K:W.Frag) (T:String) (r:V->List V->Hp->VK->Prop) (to:TE) (t:TA):TE:=λσ H Q=>to σ H λx H1=>tyV K T x H1/\t σ H1 λxs H2=>r x xs H2 Q
variable {o e:Expr} {es:List Expr} {to:TE} {t:TA} {name:Str} {apos cpos:Pos} {T id:String} {r:V->List V->Hp->VK->Prop}
theorem lJ (pa:PlainAttrs T) (slot:Slot T name id) (hty:typeOf (.builtin id)=pure (.type "method_descriptor")) (hm:MtR X id r) (ho:PE X o to)
  (hbase:attributeBase o name X.env (eval o X.env)=eval o X.env:=by rfl) (hline:(apos.endLine == cpos.line)=true:=by rfl):PE X (.Call (.Attribute o name apos) [] [] cpos) (Ip X.K T r to):=by
 intro pins s σ H Q I h;refine wpAny_Call_method0_late hbase hline (SY (ho pins s σ H _ I h) λv s1 ⟨x,H1,I1,r1,ty,q1⟩=>?_);obtain ⟨h1,h2⟩:=Eo I1 r1 ty;exact ⟨T,id,pa,slot,hty,h1,h2,RY rfl (PySem.evalArgs_none (hm pins s1 σ H1 x [] v [] Q I1 r1 .nil q1))⟩
theorem fF (pa:PlainAttrs T) (slot:Slot T name id) (hty:typeOf (.builtin id)=pure (.type "method_descriptor")) (hm:MtR X id r) (ho:PE X o to) (ha:PA X (e::es) t)
  (hbase:attributeBase o name X.env (eval o X.env)=eval o X.env:=by rfl)
  (hfew:((backTo cpos (starEach (e::es) X.env)).all (λx=>!x.1) && (backToKw cpos (keywordEach [] X.env)).all (λx=>x.1.isSome)
   && decide ((e::es).length+([]:List Keyword).length+(if ([]:List Keyword).isEmpty then 0 else 1) < 30))=true:=by rfl)
  (hline:(apos.endLine == cpos.line)=true:=by rfl) (hs:starEach (e::es) X.env=(false,eval e X.env)::starEach es X.env:=by rfl) (hplain:(backTo cpos (starEach es X.env)).any (·.1)=false:=by rfl) :
  PE X (.Call (.Attribute o name apos) (e::es) [] cpos) (Z3 X.K T r to t):=by
 intro pins s σ H Q I h;refine wpAny_Call_method_late hbase hfew hline rfl (SY (ho pins s σ H _ I h) λv s1 ⟨x,H1,I1,r1,ty,q1⟩=>?_);obtain ⟨h1,h2⟩:=Eo I1 r1 ty;refine ⟨T,id,pa,slot,hty,h1,h2,?_⟩;have hA:=ha cpos pins s1 σ H1 _ I1 q1;rw [hs] at hA ⊢;refine RY (by show (false || (backTo cpos (starEach es X.env)).any (·.1))=false;rw [hplain] <;> rfl) (Calls.evalArgs_plain ?_);exact SY hA λus s2 ⟨vs,H2,I2,r2,q2⟩=>hm pins s2 σ H2 x vs v us Q I2 r1 r2 q2
end
def MtM (X:Cx) (id:String) (r:V->List V->Hp->VK->Prop):Prop :=
 ∀ (pins:List (Addr × Obj)) (s:Shared) (σ:St) (H:Hp) (x:V) (xs:List V) (v:Value) (us:List Value) (Q:VK),Inv X pins σ H s->RelV x v->Vals xs us->r x xs H Q ->
  wpAny (model X.prog X.w) X.A (call (.builtin id) (v::us)) (EP X pins σ Q) X.xe s
theorem Vals.one:∀ {x:V} {us:List Value},Vals [x] us->∃ u,us=[u]/\RelV x u
 | _,_,.cons r .nil=>⟨_,rfl,r⟩
theorem Vals.zero:∀ {us:List Value},Vals [] us->us=[]
 | _,.nil=>rfl
theorem Vals.dropLast {xs:List V} {us:List Value} (h:Vals xs us):Vals xs.dropLast us.dropLast:=by
 induction h with
 | nil=>exact .nil
 | cons r t ih =>
  cases t with
  | nil=>exact .nil
  | cons q t'=>exact .cons r ih
theorem yy {α:Type} (l:List α):l.eraseIdx (l.length - 1)=l.dropLast:=by
 induction l with
 | nil=>rfl
 | cons a r ih =>
  cases r with
  | nil=>rfl
  | cons b r =>
   have e:(a::b::r).length - 1=((b::r).length - 1)+1:=by have h1:(a::b::r).length=r.length+2:=rfl;have h2:(b::r).length=r.length+1:=rfl;omega
   rw [e,List.eraseIdx_cons_succ,ih]
   all_goals rfl
section
variable {X:Cx} {pins:List (Addr × Obj)} {σ:St} {H:Hp} {s:Shared} {l b:Addr} {xs ys zs:List V}
variable {its:List Value} {n t':Nat}
theorem Inv.lset {its':List Value} {f:Array Value->Array Value} (I:Inv X pins σ H s) (hH:H l=some (.lst xs))
  (e:s.heap.get? l=some { cls:=.type "list",data:=.seq its.toArray n }) (hf:f its.toArray=its'.toArray) (hv:Vals ys its') (hz:ys.length<=sizeLine) :
  Inv X pins σ (upd H l (.lst ys)) { s with heap:=s.heap.update l (Obj.mapSeq f),toks:=t' }:=by
 have q:=PySem.IsL.update e f;rw [hf] at q;refine I.write (x:=l) (e:=l) (by rw [hH];exact trivial) (.inl rfl) (λb' u hb hu=>(Heap.get?_update_other s.heap (Obj.mapSeq f) (PL hb)).trans hu) ⟨_,q⟩ ?_;exact ⟨hz,its',_,hv,q⟩
theorem Inv.lnew (I:Inv X pins σ H s) (hv:Vals ys its) (hz:ys.length<=sizeLine) :
  Inv X pins σ (upd H s.heap.objs.size (.lst ys)) { s with heap:=s.heap.push { cls:=.type "list",data:=.seq its.toArray },toks:=t' } :=
 I.laid (λ_ _ q=>Pf _ q) (Pq _) ⟨hz,its,0,hv,P4 _ rfl⟩
theorem Inv.fresh (I:Inv X pins σ H s):H s.heap.objs.size=none:=I.hok.fresh (Pq _)
theorem Inv.Zu (I:Inv X pins σ H s) (hH:H l=some (.lst xs)):xs.length<=sizeLine/\∃ (its:List Value) (n:Nat),Vals xs its/\xs.length=its.length/\s.heap.get? l=some { cls:=.type "list",data:=.seq its.toArray n }:=by obtain ⟨z,its,n,r,e⟩:=I.hok l _ hH;exact ⟨z,its,n,r,r.length,e⟩
theorem Dh (h:n<=sizeLine):Builtin.List.listTooLong n=false:=by unfold Builtin.List.listTooLong;exact Pj (by omega)
end
section
variable {X:Cx}
def kH:V->List V->Hp->VK->Prop:=λx vs H Q=>∃ l xs y,x=.ref l/\vs=[y]/\H l=some (.lst xs)/\xs.length < sizeLine/\Q .SM (upd H l (.lst (xs++[y])))
theorem cC:MtM X "list.append" kH:=by intro pins s σ H x vs v us Q I rx rv h;obtain ⟨l,xs,y,rfl,rfl,hH,hz,q⟩:=h;cases rx;obtain ⟨u,rfl,ru⟩:=rv.one;obtain ⟨z,its,n,r,hl,e⟩:=I.Zu hH;refine call_meets P5 ⟨_,e,rfl⟩ F.entry_list_append (F.args_list_append_2 _ _) (PySem.list_append l its.toArray n u (by rw [Pz];omega)) ⟨e,?_⟩;refine ⟨.SM,_,I.lset (its':=its++[u]) hH e (by simp) (r.append (.cons ru .nil)) ?_,rfl,q⟩;rw [tB,R5];omega
def AB:V->List V->Hp->VK->Prop:=λx vs H Q=>∃ l b xs zs,x=.ref l/\vs=[.ref b]/\H l=some (.lst xs)/\H b=some (.lst zs)/\xs.length+zs.length<=sizeLine/\Q .SM (upd H l (.lst (xs++zs)))
theorem ki:MtM X "list.extend" AB:=by
 intro pins s σ H x vs v us Q I rx rv h;obtain ⟨l,b,xs,zs,rfl,rfl,hH,hB,hz,q⟩:=h;cases rx;obtain ⟨u,rfl,ru⟩:=rv.one;cases ru;obtain ⟨z,its,n,r,hl,e⟩:=I.Zu hH;obtain ⟨z2,its2,n2,r2,hl2,e2⟩:=I.Zu hB;have hsz:its.toArray.size+its2.toArray.size<=sizeLine:=by rw [Pz,Pz];omega
 have hlong:¬ (!its.toArray.isEmpty && Builtin.List.listTooLong (its.toArray.size+its2.toArray.size))=true:=by rw [Dh hsz,Qm];exact Pk
 refine call_meets Q8 ⟨_,e,rfl⟩ F.entry_list_extend (F.args_list_extend_2 _ _)
  (AutoSeq1.list_extend_list_list_0 l its.toArray n b its2.toArray n2 hlong (by rw [Pz];omega) (by omega)) ⟨e,e2,?_⟩
 refine ⟨.SM,_,I.lset (its':=its++its2) hH e (by simp) (r.append r2) ?_,rfl,q⟩;rw [tB];omega
def DE:V->List V->Hp->VK->Prop:=λx vs H Q=>∃ l xs y,x=.ref l/\vs=[]/\H l=some (.lst xs)/\xs[xs.length - 1]?=some y/\Q y (upd H l (.lst xs.dropLast))
theorem lD:MtM X "list.pop" DE:=by
 intro pins s σ H x vs v us Q I rx rv h;obtain ⟨l,xs,y,rfl,rfl,hH,hy,q⟩:=h;cases rx;have hus:=rv.zero;subst hus;obtain ⟨z,its,n,r,hl,e⟩:=I.Zu hH;obtain ⟨u,hu,ru⟩:=r.get hy
 have hy':its.toArray[its.toArray.size - 1]?=some u:=by show its.toArray[its.length - 1]?=some u;rw [<- Array.getElem?_toList,<- hl];exact hu
 refine call_meets QK ⟨_,e,rfl⟩ F.entry_list_pop (F.args_list_pop_1 _) (MeetsSeq.list_pop_last l its.toArray n u hy' (by rw [Pz];omega)) ⟨e,?_⟩;refine ⟨y,_,I.lset (its':=its.dropLast) hH e ?_ r.dropLast ?_,ru,q⟩
 ·show its.toArray.eraseIdxIfInBounds (its.toArray.size - 1)=its.dropLast.toArray;rw [Pz,List.eraseIdxIfInBounds_toArray,yy]
 ·rw [List.length_dropLast];omega
end
section
variable {prog:Program} {w:World} {A:Around} {E:Value->Shared->Prop} {s:Shared}
end
section
variable {X:Cx}
end
section
variable {κ:Type} [DecidableEq κ]
noncomputable def mY (kvs:List (κ × V)) (k:κ):Option V:=(kvs.find? λkv=>decide (kv.1=k)).map (·.2)
noncomputable def xO (kvs:List (κ × V)) (k:κ) (v:V):List (κ × V) :=
 if (kvs.any λkv=>decide (kv.1=k))=true then kvs.map (λkv=>if kv.1=k then (kv.1,v) else kv) else kvs++[(k,v)]
theorem ye {p:κ × V} {r:List (κ × V)} {k:κ} (e:p.1=k):mY (p::r) k=some p.2:=by simp [mY,Rr,e]
theorem yd {p:κ × V} {r:List (κ × V)} {k:κ} (e:¬ p.1=k):mY (p::r) k=mY r k:=by simp [mY,Rr,e]
theorem xm (kvs:List (κ × V)) (k:κ) (v:V):(xO kvs k v).length<=kvs.length+1:=by
 unfold xO;split
 ·rw [Pd];omega
 ·rw [tB,Pp,Qk];omega
theorem KV.val {kvs:List (κ × V)} {vs:List (κ × Value)} (r:KV kvs vs) (k:κ):WB (mY kvs k) (valueAt vs k):=by
 unfold KV at r
 induction r with
 | nil=>exact True.intro
 | @cons p q ps qs h t ih =>
  obtain ⟨h1,h2⟩:=h;by_cases e:p.1=k
  ·have e':q.1=k:=h1.symm.trans e;have b:valueAt (q::qs) k=some q.2:=by simp [valueAt,Rr,e']
   rw [ye e,b];exact h2
  ·have e':¬ q.1=k:=λz=>e (h1.trans z);have b:valueAt (q::qs) k=valueAt qs k:=by simp [valueAt,Rr,e']
   rw [yd e,b];exact ih
theorem KV.any {kvs:List (κ × V)} {vs:List (κ × Value)} (r:KV kvs vs) (k:κ):(kvs.any λkv=>decide (kv.1=k))=vs.any λkv=>decide (kv.1=k):=by
 unfold KV at r
 induction r with
 | nil=>rfl
 | cons h t ih=>rw [QJ,QJ,ih,h.1]
variable {y:V} {u:Value}
theorem KV.repl {kvs:List (κ × V)} {vs:List (κ × Value)} (r:KV kvs vs) (k:κ) (ry:RelV y u) :
  KV (kvs.map λkv=>if kv.1=k then (kv.1,y) else kv) (vs.map λkv=>if kv.1=k then (kv.1,u) else kv):=by
 unfold KV at r ⊢
 induction r with
 | nil=>exact .nil
 | @cons p q ps qs h t ih =>
  rw [PB,PB];refine .cons ?_ ih;obtain ⟨h1,h2⟩:=h;by_cases e:p.1=k
  ·rw [Ph e,Ph (h1.symm.trans e)];exact ⟨h1,ry⟩
  ·rw [M1 e,M1 (λz=>e (h1.trans z))];exact ⟨h1,h2⟩
theorem KV.put {kvs:List (κ × V)} {vs:List (κ × Value)} (r:KV kvs vs) (k:κ) (ry:RelV y u):KV (xO kvs k y) (stored vs k u):=by
 unfold xO stored;rw [r.any k];by_cases e:(vs.any λkv=>decide (kv.1=k))=true
 ·rw [Ph e,Ph e];exact r.repl k ry
 ·rw [M1 e,M1 e];exact Paired.snoc r ⟨rfl,ry⟩
end
variable {P:Program} {w:World}
theorem CU {k:Key} {u:Value} (r:RelV (kV k) u):(fX P w).is k u=true:=by
 cases k with
 | inl i=>obtain ⟨t,e⟩:=(show ∃ t,u=Value.int i t from r);subst e;exact xp P w i t
 | inr x=>obtain ⟨t,e⟩:=(show ∃ t,u=Value.str x t from r);subst e;exact xq P w x t
theorem tE:∀ {ks:List Key} {us:List Value},Vals (ks.map kV) us->ItemsAre (fX P w) ks us
 | [],_,r=>by rw [SA] at r;cases r;exact .nil
 | k::ks,_,r=>by
  rw [PB] at r
  cases r with
  | cons h t=>exact .cons (CU h) (tE t)
abbrev KT (H:Hp):List (List Key × V)->List (List Key × Addr × Value)->Prop:=Paired λp q=>p.1=q.1/\H q.2.1=some (.tup (p.1.map kV))/\RelV p.2 q.2.2
variable {H:Hp}
theorem KT.val {kvs:List (List Key × V)} {xs:List (List Key × Addr × Value)} (r:KT H kvs xs) (k:List Key):WB (mY kvs k) ((atKey xs k).map (·.2)):=by
 induction r with
 | nil=>exact True.intro
 | @cons p q ps qs h t ih =>
  obtain ⟨h1,_,h2⟩:=h;by_cases e:p.1=k
  ·have e':q.1=k:=h1.symm.trans e;have b:atKey (q::qs) k=some q.2:=by simp [atKey,Rr,e']
   rw [ye e,b];exact h2
  ·have e':¬ q.1=k:=λz=>e (h1.trans z);have b:atKey (q::qs) k=atKey qs k:=by simp [atKey,Rr,e']
   rw [yd e,b];exact ih
section
variable {P:Program} {w:World} {H:Hp} {h:Heap} {a:Addr}
theorem Gr {u:HO} (ok:WC P w H h) (e:Rd H a u):S9 P w H h a u:=e.ok ok
variable {kvs:List (Key × V)}
theorem Cw (ok:WC P w H h) (e:Rd H a (.dK kvs)):kvs.length<=sizeLine/\(a == sysModules)=false/\∃ vs,KV kvs vs/\h.DictOf (fX P w) a vs :=
 show S9 P w H h a (.dK kvs) from Gr ok e
theorem IJ (ok:WC P w H h) (e:H a=some (.dK kvs)):kvs.length<=sizeLine/\(a == sysModules)=false/\∃ vs,KV kvs vs/\h.DictOf (fX P w) a vs:=Cw ok (.inl e)
theorem CV {ks:List Key} (ok:WC P w H h) (e:H a=some (.tup (ks.map kV))):(tupleKind (fX P w)).is h ks a:=by
 obtain ⟨_,its,r,o,h1,h2,n,h3⟩:=(show S9 P w H h a (.tup (ks.map kV)) from ok a _ e)
 exact ⟨o,its.toArray,n,h1,h2,h3,by simpa using tE r⟩
theorem Gg {kvs:List (List Key × V)} (ok:WC P w H h) (e:Rd H a (.dT kvs)):kvs.length<=sizeLine/\(a == sysModules)=false /\
  ∃ xs,KT H kvs xs/\h.DictOfH (tupleKind (fX P w)) a xs:=by
 obtain ⟨z,y,xs,r,o,es,ep,h1,h2,h3,h4,h5⟩:=(show S9 P w H h a (.dT kvs) from Gr ok e)
 refine ⟨z,y,xs,r,o,es,ep,h1,h2,h3,h4,λx hx=>?_,h5⟩
 have all:∀ {l:List (List Key × V)} {m:List (List Key × Addr × Value)},KT H l m->∀ x ∈ m,(tupleKind (fX P w)).is h x.1 x.2.1:=by
  intro l m q
  induction q with
  | nil=>intro x hx;exact nomatch hx
  | @cons p q ps qs hq t ih =>
   intro x hx;rcases Py.mp hx with e | hx
   ·subst e;exact CV ok (by rw [<- hq.1];exact hq.2.1)
   ·exact ih x hx
 exact all r x hx
end
def Yr (H:Hp) (a:Addr) (y:V) (r:Option V):Prop :=
 (∃ kvs k,Rd H a (.dK kvs)/\y=kV k/\r=mY kvs k)\/∃ kvs k b,Rd H a (.dT kvs)/\y=.ref b/\H b=some (.tup (k.map kV))/\r=mY kvs k
variable {a:Addr}
theorem Yr.k {kvs:List (Key × V)} {k:Key} (e:H a=some (.dK kvs)):Yr H a (kV k) (mY kvs k):=.inl ⟨kvs,k,.inl e,rfl,rfl⟩
section
variable {X:Cx} {pins:List (Addr × Obj)} {σ:St} {H:Hp} {s:Shared} {a:Addr} {y v:V} {u r:Value} {o:Option V} {A:Around} {E:Value->Shared->Prop}
theorem Inv.big (I:Inv X pins σ H s):sysModules < s.heap.objs.size:=by have h:mainGlobals < s.heap.objs.size:=(I.mod.glob.keeps I.bk).lt;exact SD (by decide) h
theorem A3 {Q:Value->Shared->Prop} (hu:A.units+1 < cLine) (I:Inv X pins σ H s) (g:Yr H a y (some v)) (ry:RelV y u) (h:∀ w' s',Inv X pins σ H s'->RelV v w'->Q w' s') :
  wpAny (model X.prog X.w) A (getItem (.ref a) u) Q E s:=by
 rcases g with ⟨kvs,k,e,ey,l⟩ | ⟨kvs,k,b,e,ey,eb,l⟩
 ·subst ey;obtain ⟨z,hd,vs,rel,dd⟩:=Cw I.hok e;obtain ⟨w',hw,rw'⟩:=WB.some_of (v:=v) (o:=valueAt vs k) (by rw [l];exact rel.val k);exact wpAny_getItem_of (CU ry) dd.mapOf hw (h w' _ (I.tok _) rw')
 ·subst ey;cases (show u=Value.ref b from ry);obtain ⟨z,hd,xs,rel,dd⟩:=Gg I.hok e;obtain ⟨w',hw,rw'⟩:=WB.some_of (v:=v) (o:=(atKey xs k).map (·.2)) (by rw [l];exact rel.val k);obtain ⟨p,hp,hp2⟩:=PU.mp hw;refine wpAny_getItem_heap (tupleKind_room_in1 hu) (CV I.hok eb) dd hp ?_;rw [hp2];exact h w' _ (I.tok _) rw'
variable {h':Heap}
theorem EI {t':Nat} {ob:HO} (I:Inv X pins σ H s) (mu:Mut (H a)) (hs:Heap.SameBut a s.heap h') (he:∃ q,h'.get? a=some q) (new:S9 X.prog X.w (upd H a ob) h' a ob) :
  Inv X pins σ (upd H a ob) { s with heap:=h',toks:=t' } :=
 I.write (x:=a) (e:=a) mu (.inl rfl) (λb q hb z=>(hs.2 b hb).trans z) he new
theorem Hg {P:Program} {w:World} {H':Hp} {kvs:List (Key × V)} {vs:List (Key × Value)} (z:kvs.length<=sizeLine) (hd:(a == sysModules)=false) (rel:KV kvs vs) (dd:h'.DictOf (fX P w) a vs) :
  S9 P w H' h' a (.dK kvs):=⟨z,hd,vs,rel,dd⟩
end
section
variable {X:Cx} {pins:List (Addr × Obj)} {σ:St} {H:Hp} {s:Shared} {a:Addr} {kvs:List (Key × V)} {k:Key} {u:Value} {A:Around} {E:Value->Shared->Prop}
end
def IC (i:Expr):Prop:=∀ ov iv,subscripted i false ov iv=operate [ov,iv] (getItem ov iv)
variable {s:Shared} {pos:Pos}
theorem F1 {prog:Program} {A:Around} {E:Value->Shared->Prop} {env:Env} {value slice:Expr} {T id:String} {Q:Value->Shared->Prop}
  (hl:typeLookup (.type T) "__getitem__"=pure (some (.builtin id))) (hs:IC slice)
  (h:wpAny (model prog w) A (eval value env) (λo s₁=>wpAny (model prog w) A (eval slice env) (λi s₂=>s₂.TypeIs o T/\wpAny (model prog w) A (getItem o i) Q E s₂) E s₁) E s) :
  wpAny (model prog w) A (eval (.Subscript value slice pos) env) Q E s:=by
 refine Subscript_ (RH h (λo s₁ h₁=>RH h₁ (λi s₂ h₂=>?_) λ_ _ x=>x) λ_ _ x=>x);obtain ⟨hT,h₂⟩:=h₂;unfold subscriptTail;refine Pg ?_;rw [getitemInPython_of_ne hT.not_modules];refine Pg (wpAny_specialOf hT hl ?_)
 have fin:wpAny (model prog w) A (subscripted slice false o i) (λr s₃=>wpAny (model prog w) A (letTemporaryGo value o r >>= λ_=>pure r) Q E s₃) E s₂:=by rw [hs o i];exact wpAny_operating (RH h₂ (λr s₃ h₃=>Pg (wpAny_letTemporaryGo (PC h₃))) λ_ _ x=>x)
 first
  | exact PC (Pg fin)
  | exact Pg (PC (Pg fin))
  | exact Pg fin
variable {X:Cx}
theorem wR {pins:List (Addr × Obj)} {σ:St} {y:V} {o:Option V} (I:Inv X pins σ H s) (g:Yr H a y o):s.TypeIs (.ref a) "dict":=by
 rcases g with ⟨kvs,k,e,_,_⟩ | ⟨kvs,k,b,e,_,_,_⟩
 ·obtain ⟨_,_,vs,_,dd⟩:=Cw I.hok e;exact dd.typeIs
 ·obtain ⟨_,_,xs,_,dd⟩:=Gg I.hok e;exact dd.typeIs
noncomputable def GC (td ty:TE):TE:=λσ H Q=>td σ H λx H1=>ty σ H1 λy H2=>∃ a v,x=.ref a/\Yr H2 a y (some v)/\Q v H2
section
variable {X:Cx} {o i e value:Expr} {pos pos' tpos:Pos} {td ty tv:TE}
theorem pN (hu:X.A.units+1 < cLine) (ho:PE X o td) (hi:PE X i ty) (hs:IC i):PE X (.Subscript o i pos) (GC td ty):=by intro pins s σ H Q I h;refine F1 F.slot_dict_getitem.lookup hs (SY (ho pins s σ H _ I h) λu s1 ⟨x,H1,I1,rx,q1⟩=>SY (hi pins s1 σ H1 _ I1 q1) λiv s2 ⟨y,H2,I2,ry,a,v,ex,g,q2⟩=>?_);subst ex;obtain rfl:u=Value.ref a:=rx;exact ⟨wR I2 g,A3 hu I2 g ry λw' s3 I3 rw'=>⟨v,H2,I3,rw',q2⟩⟩
end
theorem Cv (h:Heap) (hb:sysModules < h.objs.size):S9 P w H (h.push { cls:=.type "dict",data:=.dict #[] }) h.objs.size (.dK []) :=
 ⟨Qy _,Rn.mpr (PL (Qc hb)),[],.nil,Heap.DictOf.new h⟩
section
variable {X:Cx} {pos:Pos}
end
def zA:List (TE × TE)->St->Hp->(List (V × V)->Hp->Prop)->Prop
 | [],_,H,Q=>Q [] H
 | (tk,tv)::r,σ,H,Q=>tk σ H λx H1=>tv σ H1 λy H2=>zA r σ H2 λps H3=>Q ((x,y)::ps) H3
abbrev VV:List (V × V)->List (Value × Value)->Prop:=Paired λp q=>RelV p.1 q.1/\RelV p.2 q.2
def PPs (X:Cx) (pos:Pos) (keys:List (Option Expr)) (values:List Expr) (trs:List (TE × TE)):Prop :=
 ∀ (pins:List (Addr × Obj)) (s:Shared) (σ:St) (H:Hp) (Q:List (V × V)->Hp->Prop),Inv X pins σ H s->zA trs σ H Q ->
  wpAny (model X.prog X.w) X.A (evalPairs (pairTrees keys values X.env pos)) (λvs s'=>∃ ps H',Inv X pins σ H' s'/\VV ps vs/\Q ps H') X.xe s
theorem Fz:PPs X pos [] [] []:=λpins s σ H Q I h=>pairTrees_nil_walk ⟨[],H,I,.nil,h⟩
variable {trs:List (TE × TE)}
theorem rf {k v:Expr} {ks:List (Option Expr)} {vs:List Expr} {tk tv:TE} (hk:PE X k tk) (hv:PE X v tv) (hr:PPs X pos ks vs trs) :
  PPs X pos (some k::ks) (v::vs) ((tk,tv)::trs):=λpins s σ H Q I h =>
 pairTrees_cons_walk (SY (hk pins s σ H _ I h) λu s1 ⟨x,H1,I1,rx,q1⟩=>SY (hv pins s1 σ H1 _ I1 q1) λw2 s2 ⟨y,H2,I2,ry,q2⟩ =>
  SY (hr pins s2 σ H2 _ I2 q2) λws s3 ⟨ps,H3,I3,rel,q3⟩=>⟨(x,y)::ps,H3,I3,.cons ⟨rx,ry⟩ rel,q3⟩)
noncomputable def oi (kvs more:List (Key × V)):List (Key × V):=more.foldl (λacc kv=>xO acc kv.1 kv.2) kvs
theorem KV.merge:∀ {more:List (Key × V)} {rs:List (Key × Value)} {kvs:List (Key × V)} {vs:List (Key × Value)},KV more rs->KV kvs vs->KV (oi kvs more) (merged vs rs):=by
 intro more rs kvs vs r;unfold KV at r
 induction r generalizing kvs vs with
 | nil=>intro q;exact q
 | @cons p q ps qs h t ih =>
  intro r0
  have e:KV (xO kvs p.1 p.2) (stored vs q.1 q.2):=by have:=r0.put p.1 h.2;rw [<- h.1];exact this
  exact ih e
theorem my:∀ (more kvs:List (Key × V)),(oi kvs more).length<=kvs.length+more.length
 | [],kvs=>by show kvs.length<=kvs.length+0;omega
 | p::r,kvs=>by have h1:=my r (xO kvs p.1 p.2);have h2:=xm kvs p.1 p.2;show (oi (xO kvs p.1 p.2) r).length<=_;rw [Pp];omega
theorem qj {P:Program} {w:World}:∀ {kvs:List (Key × V)} {ws:List (Value × Value)},VV (kvs.map λkv=>(kV kv.1,kv.2)) ws->∃ rs,Carries (fX P w) ws rs/\KV kvs rs
 | [],_,r=>by rw [SA] at r;cases r;exact ⟨[],True.intro,.nil⟩
 | p::kvs,_,r=>by
  rw [PB] at r
  cases r with
  | @cons a b as bs h t =>obtain ⟨rs,c,q⟩:=qj (P:=P) (w:=w) t;obtain ⟨b1,b2⟩:=b;exact ⟨(p.1,b2)::rs,⟨CU h.1,rfl,c⟩,.cons ⟨rfl,h.2⟩ q⟩
noncomputable def Js (trs:List (TE × TE)):TE:=λσ H Q=>∀ p,H p=none->zA trs σ (upd H p (.dK [])) λps H2=>H2 p=some (.dK [])/\∃ kvs:List (Key × V),ps=kvs.map (λkv=>(kV kv.1,kv.2))/\kvs.length<=15/\Q (.ref p) (upd H2 p (.dK (oi [] kvs)))
theorem Fn {keys:List (Option Expr)} {values:List Expr} (h:PPs X pos keys values trs) (hall:keys.all (·.isSome)=true) (hl:keys.length=values.length) (h0:keys≠[])
  (h15:keys.length<=15):PE X (.Dict keys values pos) (Js trs):=by
 intro pins s σ H Q I q;have hn:=I.hok.fresh (Pq s.heap.objs.size);have I1:=I.laid (a:=s.heap.objs.size) (o:=.dK []) (h':=s.heap.push { cls:=.type "dict",data:=.dict #[] }) (t':=s.toks) (λ_ _ q=>Pf _ q) (Pq _) (Cv s.heap I.big);refine wpAny_Dict_walk (knd:=fX X.prog X.w) hall hl h0 h15 (SY (h pins _ σ _ _ I1 (q _ hn)) λws s2 ⟨ps,H2,I2,rel,e,kvs,ep,lk,q2⟩=>?_);subst ep;obtain ⟨rs,c,rk⟩:=qj (P:=X.prog) (w:=X.w) rel;obtain ⟨z,hd,vs0,r0,dd⟩:=IJ I2.hok e;cases r0;refine ⟨rs,c,dd,λh' dd' hs=>⟨.ref s.heap.objs.size,_,?_,rfl,q2⟩⟩
 have hz:(oi [] kvs).length<=sizeLine:=by have h1:=my kvs [];rw [Qk] at h1;rw [Rv];omega
 have he:∃ q,h'.get? s.heap.objs.size=some q:=let ⟨q,_,_,hq,_⟩:=dd';⟨q,hq⟩;exact EI I2 (by rw [e];exact True.intro) hs he (Hg hz hd (rk.merge .nil) dd')
structure M2 (X:Cx) (o:Expr) (m:Str) (apos:Pos) (e f:Expr) (cpos:Pos):Prop where
 base:attributeBase o m X.env (eval o X.env)=eval o X.env
 few:((backTo cpos (starEach [e,f] X.env)).all (λx=>!x.1) && (backToKw cpos (keywordEach [] X.env)).all (λx=>x.1.isSome)
  && decide (([e,f]:List Expr).length+([]:List Keyword).length+(if ([]:List Keyword).isEmpty then 0 else 1) < 30))=true
 line:(apos.endLine == cpos.line)=true
 trees:backTo cpos (starEach [e,f] X.env)=[(false,eval e X.env),(false,eval f X.env)]
section
variable {X:Cx} {pins:List (Addr × Obj)} {σ:St} {H:Hp} {s:Shared} {a:Addr} {y d:V} {u r:Value} {o:Option V} {A:Around} {E:Value->Shared->Prop}
end
section
variable {X:Cx} {o e f:Expr} {apos cpos:Pos} {td ty tx:TE}
end
section
variable {X:Cx} {pins:List (Addr × Obj)} {σ:St} {H:Hp} {s:Shared} {a:Addr} {kvs:List (Key × V)} {A:Around} {E:Value->Shared->Prop}
end
section
variable {X:Cx} {pins:List (Addr × Obj)} {σ:St} {H:Hp} {s:Shared} {a:Addr} {y:V} {u:Value} {A:Around} {E:Value->Shared->Prop}
end
end L2
namespace Att
open PySem PySem.W PySem.Calls PyProof.Rows
variable {P:Params} {h:Heap}
theorem pA:∀ (ns:List Int) (vs:List Value),WellAll P h vs (ns.map WData.int)->IntsAre vs ns:=by
 intro ns
 induction ns with
 | nil =>intro vs w;rw [SA] at w;cases w;exact .nil
 | cons n ns ih =>
  intro vs w;rw [PB] at w
  cases w with
  | cons a b =>cases a;exact .cons _ _ (ih _ b)
variable {l:OpenLaw} {n:Nat}
theorem BL (hn:l.most=some n) {args:List WData} {vals:List Value}
  (hpre:l.row.toRowW.claim.pre args=true) (hwl:WellAll P h vals args) :
  ∃ a vs ns,vals=[Value.ref a]/\args=[WData.list (ns.map WData.int)]/\h.get? a=some { cls:=.type "list",data:=.seq vs.toArray }/\IntsAre vs ns/\ns.length<=n:=by
 have hsh:WShape.hasAll [] args [.list .int]=true:=(pre_splitW hpre).1;have hc:l.pre.holds [] { args:=args }=true:=(pre_splitW hpre).2;obtain ⟨d,r,rfl,h1,h2⟩:=hasAllW_cons hsh;obtain rfl:=hasAllW_nil h2;obtain ⟨xs,rfl,h3⟩:=hasW_list h1;obtain ⟨ns,rfl⟩:=items_int h3
 have hlen:ns.length<=n:=by
  unfold OpenLaw.pre at hc
  have h4:(WTm.not (.lt (.lit (.int (n:Int))) (.len (.arg 0)))).holds [] { args:=[.list (ns.map .int)] }=true:=by have h4:=(holds_andW hc).1;rw [hn] at h4;exact h4
  have h5:=condW_of h4 (w_not (w_lt w_lit (w_len_list (w_arg rfl))));rw [Pd] at h5;refine Nat.le_of_not_lt λq=>?_;have q':(n:Int) < ((ns.length:Nat):Int):=by omega
  first
   | (rw [Pw q'] at h5;exact absurd h5 (by decide))
   | (simp at h5;omega)
 cases hwl with
 | cons w1 w2 =>
  cases w2
  cases w1 with
  | list ho hall=>exact ⟨_,_,ns,rfl,rfl,ho,pA ns _ hall,hlen⟩
theorem BA (l:OpenLaw) (args:List WData):l.row.toRowW.claim.post args (.bool true) args=true :=
 postW_of (r:=l.row.toRowW) (X:=(true == true))
  (show WShape.has [] (.bool true) .bool=true by first | rfl | decide | simp [WShape.has,WShape.arms,WShape.armsAll])
  (show (WTm.eq .res (.lit (.bool true))).value [] { args:=args,res:=some (.bool true),after:=args }=some (.bool (true == true)) from w_eq_bool (w_res rfl) w_lit) rfl
theorem Ys {q:Program} {loose:List Str} {XP:(Str->Option Value)->Heap->Prop} {YP:World->Heap->Prop} {d:DefRec}
  (hn:l.most=some n) (hdf:d.params.defaults=[])
  (call:∀ (w:World) (s₀ s₁:Shared) (mg mb:Str->Option Value) (fa:Addr) (o:Obj) (pm cd doc:Value) (a:Addr) (vs:List Value) (ns:List Int),
   Ground q loose [] XP w s₀ mg mb s₁.heap->YP w s₁.heap ->
   s₁.heap.get? fa=some o->o.data=.func (docDef d.name d.params d.body d.scope pm cd doc)->s₁.heap.CodeRec cd d.name->mg d.name=some (.ref fa) ->
   s₁.heap.get? a=some { cls:=.type "list",data:=.seq vs.toArray }->IntsAre vs ns->ns.length<=n->s₁.gens=#[] ->
   codeAny (model l.prog w) callerA (.call (.ref fa) ⟨[.ref a],[]⟩) (λr s'=>r=.ok (.ret (.bool true))/\OldK s₁.heap s'.heap/\s'.os=s₁.os/\AllBare s'.gens) s₁) :
  WalkO q loose XP YP l.row.toRowW d [] (λf vs=>PySem.call f vs):=by
 intro w s₀ s₁ mg mb G Y fa o pm cd doc dV kV ho hd hcd hD hmg hg args vals as hpre hlay hrd hwl hlo;obtain rfl:dV=.none:=Dflts.none hD hdf;obtain rfl:kV=.none:=Dflts.noKw hD;obtain ⟨a,vs,ns,rfl,rfl,hobj,hints,hlen⟩:=BL hn hpre hwl;refine enter_call (Rz (call w s₀ s₁ mg mb fa o pm cd doc a vs ns G Y ho (fd_plain hd) hcd hmg hobj hints hlen hg) λr s' hq=>?_);obtain ⟨rfl,h2,h3,h4⟩:=hq;exact ⟨.inl ⟨.bool true,.bool true,[],rfl,λ_=>rfl,.bool true,BA l _,λ_=>⟨List.Pairwise.nil,λ_ hm=>(nomatch hm)⟩⟩,h2,h3,h4⟩
section
variable {prog:Program} {w:World} {A:Around} {E:Value->Shared->Prop} {s:Shared} {K:Frag}
end
end Att
namespace L2
open PySem PySem.Spec PyProof.Rows
theorem ue:∀ {vs:List Value} {ns:List Int},IntsAre vs ns->Vals (ns.map V.int) vs
 | _,_,.nil=>.nil
 | _,_,.cons n t h=>.cons ⟨t,rfl⟩ (ue h)
def Ey (H:Hp):Prop:=∀ b,H b=none\/∃ o xs,H b=some (.Zo o (.lst xs))
variable {P:Program} {w:World} {K:W.Frag} {mg:Str->Option Value} {CX:Zi} {a:Addr} {fd:FuncData} {x:Str} {sp:Sp} {ns:List Int}
theorem CW {mb:Str->Option Value} {k:Nat} {fa:Addr} {s₁:Shared} {vs:List Value}
  (KX:K.In s₁.heap) (hns:s₁.heap.Ns mainGlobals mg) (hb:s₁.heap.Ns builtinsNs mb) (hbb:∀ x:Str,x≠"__name__"->mb x=bootBuiltins x) (hlim:s₁.heap.NoLimit) (hg:s₁.gens=#[])
  (ha:s₁.heap.get? a=some { cls:=.type "list",data:=.seq vs.toArray }) (hi:IntsAre vs ns) (hl:ns.length<=sizeLine) (hr:Tw k callerA)
  (F:∀ base:Heap,K.In base->base.Ns mainGlobals mg->Tc P w K mg base CX k fa fd [x] sp) (hbind:∀ (s:Shared) (u:Value),BindsTo s fd ⟨[u],[]⟩ [(x,u)])
  (ZM:∀ H:Hp,Ey H->SO K H a (ns.map V.int)->sp [.ref a] H (λv _=>v=.bl true) λ_ _ _=>False)
  (hCX:∀ H e s',CX [] H s₁ (λ_ _ _=>False) e s'->False) :
  codeAny (model P w) callerA (.call (.ref fa) ⟨[.ref a],[]⟩) (λr s'=>r=.ok (.ret (.bool true))/\OldK s₁.heap s'.heap/\s'.os=s₁.os/\AllBare s'.gens) s₁:=by
 have rv:=ue hi;have lenV:=hi.length
 have core:∀ H:Hp,Ey H->SO K H a (ns.map V.int)->WC P w H s₁.heap->(∀ b,H b≠none->b=a)->(H a≠none->K.lookup a=none) ->
   codeAny (model P w) callerA (.call (.ref fa) ⟨[.ref a],[]⟩) (λr s'=>r=.ok (.ret (.bool true))/\OldK s₁.heap s'.heap/\s'.os=s₁.os/\AllBare s'.gens) s₁:=by
  intro H hO hS hok hA hK;have YY:∀ {b:Addr} {o:Obj},s₁.heap.get? b=some o->H b=none->(uJ s₁.heap H).get? b=some o:=λe n=>CP e n
  have noA:∀ {b:Addr} {o:Obj} {es:Array DictEntry} {ep:Nat},s₁.heap.get? b=some o->o.data=.dict es ep->H b=none:=λ{b o es ep} e d=>by
   cases q:H b with
   | none=>rfl
   | some u =>have e':b=a:=hA b (by rw [q];simp);subst e';rw [ha] at e;cases e;have d':Data.seq vs.toArray _=Data.dict es ep:=d;cases d'
  have nsK:∀ {b:Addr} {m:Str->Option Value},s₁.heap.Ns b m->(uJ s₁.heap H).Ns b m:=λ{b m} ⟨o,es,ep,e,d,r⟩=>⟨o,es,ep,YY e (noA e d),d,r⟩
  have hKb:K.In (uJ s₁.heap H):=λb o e=>YY (KX b o e) (by
   cases q:H b with
   | none=>rfl
   | some u =>have e':b=a:=hA b (by rw [q];simp);subst e';rw [hK (by rw [q];simp)] at e;cases e)
  have hM:Mod K mg (uJ s₁.heap H):=⟨hKb,nsK hns,⟨mb,nsK hb,hbb⟩,let ⟨mc,h1,h2⟩:=hlim;⟨mc,nsK h1,h2⟩⟩
  have e0:YJ P w K mg (uJ s₁.heap H) callerA [] s₁ H:=⟨rfl,hM,λb o e=>Fh e,R8 (A9 _ _),trivial,λb hb=>absurd (show b ∈ ([]:List Addr) from hb) (by simp),hok,.of_eq hg⟩
  refine Rz ((F _ hKb (nsK hns)).run callerA [] s₁ H ⟨[.ref a],[]⟩ [.ref a] [.ref a] _ _ hr e0 (hbind s₁ (.ref a)) (.cons rfl .nil) (ZM H hO hS)) λr s' h=>?_
  cases r with
  | error e=>exact (hCX H e s' h).elim
  | ok fl =>
   cases fl with
   | next=>exact False.elim h
   | brk=>exact False.elim h
   | cont=>exact False.elim h
   | ret u =>
    obtain ⟨v,H',os,bare,un,Z4,r',q⟩:=h;have q':v=.bl true:=q;subst q';obtain rfl:u=Value.bool true:=r';refine ⟨rfl,OldK.of_keep λb o e=>?_,os,bare⟩
    cases q:H b with
    | none=>exact un.keep b o e q (by intro z;exact absurd (show b ∈ ([]:List Addr) from z) (by simp)) (by simp)
    | some u =>
     rcases hO b with z | ⟨ob,xs,z⟩
     ·rw [q] at z;cases z
     ·have z2:=un.Yl b ob _ z;obtain ⟨e1,_⟩:=hok b _ z;obtain ⟨e2,_⟩:=Z4 b _ z2;rw [e] at e1;cases e1;exact e2
 cases hk:K.lookup a with
 | some o =>have e:=KX a o hk;rw [ha] at e;cases e;refine core (λ_=>none) (λ_=>.inl rfl) (.inr ⟨_,vs.toArray,_,hk,rfl,rfl,rfl,by rw [Pz,lenV];exact hl,by simpa using rv⟩) (λb u z=>by have z':(none:Option HO)=some u:=z;cases z') (λb z=>absurd rfl z) λz=>absurd rfl z
 | none =>
  refine core (λb=>if b=a then some (.Zo { cls:=.type "list",data:=.seq vs.toArray } (.lst (ns.map V.int))) else none) (λb=>?_) (.inl (.inr ⟨{ cls:=.type "list",data:=.seq vs.toArray },Ph rfl⟩)) (λb u z=>?_) (λb z=>?_) λ_=>hk
  ·by_cases hb:b=a
   ·exact .inr ⟨_,_,Ph hb⟩
   ·exact .inl (M1 hb)
  ·by_cases hb:b=a
   ·have z':=(Ph hb).symm.trans z;cases z';subst hb;exact ⟨ha,by rw [Pd];exact hl,vs,_,rv,ha⟩
   ·have z':=(M1 hb).symm.trans z;cases z'
  ·by_cases hb:b=a
   ·exact hb
   ·exact absurd (M1 hb) z
variable {n:Nat}
theorem Z5 {l:W.OpenLaw} {k:Nat} {q:Program} {loose:List Str} {XP:(Str->Option Value)->Heap->Prop} {YP:World->Heap->Prop} {d:DefRec} {K:Params->W.Frag} {CX:World->Zi} {sp:World->Sp}
  (hn:l.most=some n) (hn2:n<=sizeLine) (hdf:d.params.defaults=[]) (hr:Tw k callerA)
  (hY:∀ (w:World) (h:Heap),YP w h->(K w.params).In h)
  (F:∀ (w:World) (mg:Str->Option Value) (fa:Addr) (h:Heap),(K w.params).In h->h.Ns mainGlobals mg->mg d.name=some (.ref fa) ->
   ∃ fd:FuncData,(∀ (s:Shared) (u:Value),BindsTo s fd ⟨[u],[]⟩ [(x,u)]) /\
    ∀ base:Heap,(K w.params).In base->base.Ns mainGlobals mg->Tc l.prog w (K w.params) mg base (CX w) k fa fd [x] (sp w))
  (ZM:∀ (w:World) (H:Hp) (a:Addr) (ns:List Int),ns.length<=n->Ey H->SO (K w.params) H a (ns.map V.int)->sp w [.ref a] H (λv _=>v=.bl true) λ_ _ _=>False)
  (hCX:∀ (w:World) (H:Hp) (s:Shared) (e:Value) (s':Shared),CX w [] H s (λ_ _ _=>False) e s'->False) :
  W.WalkO q loose XP YP l.row.toRowW d [] (λf vs=>PySem.call f vs):=by
 refine Att.Ys hn hdf λw s₀ s₁ mg mb fa o pm cd doc a vs ns G Y ho hd hcd hmg hobj hints hlen hg=>?_;have KX:=hY w _ Y;obtain ⟨fd,hb,hF⟩:=F w mg fa _ KX G.T.g hmg;exact CW KX G.T.g G.T.b G.T.builtins G.T.nolimit hg hobj hints (Qd hlen hn2) hr hF hb (λH hO hS=>ZM w H a ns hlen hO hS) λH e s'=>hCX w H s₁ e s'
noncomputable def cX (s:Stmt):Arguments:=match s with
 | .FunctionDef _ a _ _ _ _ _ _ _ _=>a
 | _=>{ posonlyargs:=[],args:=[],vararg:=none,kwonlyargs:=[],kw_defaults:=[],kwarg:=none,defaults:=[] }
noncomputable def cP (s:Stmt):List Stmt:=match s with
 | .FunctionDef _ _ b _ _ _ _ _ _ _=>b
 | _=>[]
noncomputable def aK (s:Stmt):Scope:=match s with
 | .FunctionDef _ _ _ _ _ _ sc _ _ _=>sc
 | _=>{ kind:=.function,names:=[],isGenerator:=false,isCoroutine:=false }
noncomputable abbrev WG:Zi:=λ_ _ _ _ _ _=>False
noncomputable abbrev E0:XK:=λ_ _ _=>False
variable {X:Cx}
theorem gN:jY WG X E0:=λ_ _ _ _ _ _ _ h=>h.elim
structure YZ (K:W.Frag) (x qual:Str) (st:Stmt) (f:Addr) (fd:FuncData):Prop where
 ex:∃ (oc:Value) (od:Option Addr) (kV doc pm:Value) (an:Option Addr) (cdv ct:Value) (osl:Array (Option Value)),
  fd=W.fnOf x qual (cX st) (cP st) (aK st) .none kV doc pm an cdv ct/\K.lookup f=some ⟨oc,od,.func fd,osl⟩/\W.codeIn K cdv qual=true
 kp:W.keepIn K (.ref f)=true
section
variable {P:Program} {w:World} {K:W.Frag} {mg:Str->Option Value} {base:Heap}
variable {x qual:Str} {st:Stmt} {f:Addr} {fd:FuncData} {ps:List Str}
theorem YZ.ok {N:List Str} {k:Nat} {sp:Sp} (F:YZ K x qual st f fd) (S:SJ N ps (aK st)) (len:∀ vs H Q E,sp vs H Q E->vs.length=ps.length)
  (hbody:∀ (cdv:Value) (A:Around) (outer:List Env) (s:Shared) (H:Hp) (vs:List V) (Q:VK) (E:XK),Tw k (A.deeper (envOfC qual (aK st) s.heap.objs.size f cdv))->sp vs H Q E ->
   ∃ t,YH (yv WG P w K mg base N qual (aK st) f cdv A outer s H E).nox (cP st) t/\t { nx:=λ_ H'=>Q .SM H',rt:=Q } (start N vs) H):Tc P w K mg base WG (k+1) f fd ps sp:=by
 obtain ⟨oc,od,kV,doc,pm,an,cdv,ct,osl,rfl,lk,hcd⟩:=F.ex;refine Gh lk hcd S len λA outer s H vs Q E hr ZM=>?_;obtain ⟨t,h,q⟩:=hbody cdv A outer s H vs Q E hr ZM;exact ⟨t,h.nox,q⟩
theorem YZ.binds (F:YZ K x qual st f fd)
  (h:∀ (kV doc pm:Value) (an:Option Addr) (cdv ct:Value) (us:List Value),us.length=ps.length->bindArgs (W.fnOf x qual (cX st) (cP st) (aK st) .none kV doc pm an cdv ct) ⟨us,[]⟩=pure (ps.zip us)):Binds K fd ps []:=by
 obtain ⟨oc,od,kV,doc,pm,an,cdv,ct,osl,rfl,lk,hcd⟩:=F.ex;exact .all (h kV doc pm an cdv ct)
theorem kC {oc:Value} {od an:Option Addr} {osl:Array (Option Value)} {kV doc pm cdv ct:Value} (l:K.lookup f=some ⟨oc,od,.func (W.fnOf x qual (cX st) (cP st) (aK st) .none kV doc pm an cdv ct),osl⟩)
  (c:W.codeIn K cdv qual=true) (k:W.keepIn K (.ref f)=true):YZ K x qual st f (W.fnOf x qual (cX st) (cP st) (aK st) .none kV doc pm an cdv ct):=⟨⟨oc,od,kV,doc,pm,an,cdv,ct,osl,rfl,l,c⟩,k⟩
end
variable {A:Around}
theorem Ag {k:Nat} (hr:Tw k A):A.units+1 < cLine:=So (Nat.add_le_add_left (by decide:1<=64) _) hr.units
theorem cM (h:n<=1000):n < sizeLine:=So h (by decide)
section
variable {X:Cx}
theorem pv (i:Nat) {x:Str} {pos:Pos} (hN:X.N[i]?=some x:=by rfl) (hv:Vis X.env.scope x:=by first | exact Or.inl rfl | exact Or.inr (Or.inl rfl) | exact Or.inr (Or.inr rfl)) (hd:(x == ("__debug__":Str))=false:=by decide)
  (hcd:(x == ("__classdict__":Str))=false:=by decide):PE X (.Name x pos) (fT i):=HJ hN hv hd hcd
end
theorem j0 {A B:Prop} (h:B):if false=true then A else B:=by rw [M1 Pk];exact h
theorem j4 {A B:Prop} (h:A):if true=true then A else B:=by rw [Ph rfl];exact h
theorem sj {c A B:Prop} [Decidable c] (h1:c->A) (h2:¬ c->B):if c then A else B:=by
 by_cases h:c
 ·rw [Ph h];exact h1 h
 ·rw [M1 h];exact h2 h
def SH (H H':Hp):Prop:=∀ b o,H b=some o->H' b=some o
theorem SH.refl (H:Hp):SH H H:=λ_ _ h=>h
variable {H H1:Hp}
theorem SH.trans {H2:Hp} (a:SH H H1) (b:SH H1 H2):SH H H2:=λc o h=>b c o (a c o h)
variable {H':Hp} {l:Addr}
theorem SH.free (e:SH H H') (h:H' l=Option.none):H l=Option.none:=by
 cases q:H l with
 | none=>rfl
 | some o =>rw [e l o q] at h;cases h
variable {xs:List V}
theorem SH.seq (e:SH H H') (h:SO K H a xs):SO K H' a xs:=by
 rcases h with (h | ⟨o,h⟩) | h
 ·exact .inl (.inl (e _ _ h))
 ·exact .inl (.inr ⟨o,e _ _ h⟩)
 ·exact .inr h
section
variable {κ:Type} [DecidableEq κ]
end
noncomputable def rk (env:Env) (x:Str) (k:NameKind):NameKind :=
 if (k == NameKind.free && env.scope.kind == .function && env.kindOf x == some .cell)=true then .cell else k
theorem vP (sc:Scope) (env:Env) (x:Str):(relabel sc env).names.lookup x=(sc.names.lookup x).map (rk env x):=by
 have all:∀ l:List (Str × NameKind),(l.map λ(n,k)=>if (k == NameKind.free && env.scope.kind == .function && env.kindOf n == some .cell) then (n,NameKind.cell) else (n,k)).lookup x=(l.lookup x).map (rk env x):=by
  intro l
  induction l with
  | nil=>rfl
  | cons p r ih =>
   obtain ⟨n,k⟩:=p;rw [PB]
   cases hx:x == n with
   | true =>
    have e:x=n:=by simpa using hx
    subst e;by_cases c:(k == NameKind.free && env.scope.kind == .function && env.kindOf x == some .cell)=true
    ·simp [QT,rk,c]
    ·simp [QT,rk,c]
   | false =>
    have e1:((n,k)::r).lookup x=r.lookup x:=by rw [QT,hx]
    rw [e1,<- ih];by_cases c:(k == NameKind.free && env.scope.kind == .function && env.kindOf n == some .cell)=true
    ·show List.lookup x ((if (k == NameKind.free && env.scope.kind == .function && env.kindOf n == some .cell)=true then (n,NameKind.cell) else (n,k))::_)=_;rw [Ph c,QT,hx]
    ·show List.lookup x ((if (k == NameKind.free && env.scope.kind == .function && env.kindOf n == some .cell)=true then (n,NameKind.cell) else (n,k))::_)=_;rw [M1 c,QT,hx]
 exact all sc.names
variable {env:Env}
theorem FQ:rk env x .free=.cell\/rk env x .free=.free:=by
 unfold rk;split
 ·exact .inl rfl
 ·exact .inr rfl
theorem Ig {k:NameKind} (h:k≠.free):rk env x k=k:=by
 unfold rk;rw [M1];intro c
 have:(k == NameKind.free)=true:=by
  cases q:(k == NameKind.free) with
  | true=>rfl
  | false=>rw [q] at c;simp at c
 exact h (by simpa using this)
noncomputable def IV:Option NameKind->Bool
 | some .free=>true
 | _=>false
noncomputable def IU:Option NameKind->Bool
 | some .free=>true
 | some .cell=>true
 | _=>false
noncomputable def IW:Option NameKind->Bool
 | some .local=>true
 | _=>false
variable {o:Option NameKind}
theorem E6 (h:IV o=true):o=some .free:=by
 cases o with
 | none=>cases h
 | some k=>cases k <;> first | rfl | cases h
theorem E5 (h:IU o=true):o=some .cell\/o=some .free:=by
 cases o with
 | none=>cases h
 | some k=>cases k <;> first | exact .inl rfl | exact .inr rfl | cases h
theorem E7 (h:IW o=true):o=some .local:=by
 cases o with
 | none=>cases h
 | some k=>cases k <;> first | rfl | cases h
noncomputable def dS (N:List Str) (ok:Str->Option NameKind) (names:List (Str × NameKind)) (own:List Str) (fr:List Nat) (N':List Str):Bool :=
 decide (N'=own++fr.map λj=>N.getD j "") && (fr.all λj=>decide (j < N.length) && IV (names.lookup (N.getD j ""))) &&
  names.all λp=>match p.2 with
   | .free=>IU (ok p.1)
   | .cell=>false
   | .local=>IW (names.lookup p.1)
   | _=>true
structure Blk (N:List Str) (ok:Str->Option NameKind) (names:List (Str × NameKind)) (own:List Str) (fr:List Nat) (N':List Str):Prop where
 eN:N'=own++fr.map λj=>N.getD j ""
 fr:∀ j ∈ fr,j < N.length/\names.lookup (N.getD j "")=some .free
 free:∀ p ∈ names,p.2=.free->ok p.1=some .cell\/ok p.1=some .free
 cell:∀ p ∈ names,p.2≠.cell
 loc:∀ p ∈ names,p.2=.local->names.lookup p.1=some .local
theorem Cf {N:List Str} {ok:Str->Option NameKind} {names:List (Str × NameKind)} {own:List Str} {fr:List Nat} {N':List Str} (h:dS N ok names own fr N'=true):Blk N ok names own fr N':=by
 unfold dS at h;rw [Px,Px] at h;obtain ⟨⟨h1,h2⟩,h3⟩:=h;have h3':=QF.mp h3;refine ⟨Po h1,λj hj=>?_,λp hp e=>?_,λp hp e=>?_,λp hp e=>?_⟩
 ·have q:=QF.mp h2 j hj;rw [Px] at q;exact ⟨Po q.1,E6 q.2⟩
 ·have q:=h3' p hp;rw [e] at q;exact E5 q
 ·have q:=h3' p hp;rw [e] at q;cases q
 ·have q:=h3' p hp;rw [e] at q;exact E7 q
noncomputable def Z6 (own:List Str) (fr:List Nat) (σ:St):St:=own.map (λ_=>none)++fr.map λj=>(σ[j]?).getD none
theorem II (sc:Scope) (env:Env) (h:∀ p ∈ sc.names,p.2=.free->∃ c,env.cells.lookup p.1=some c) :
  ∃ cl,closureFor sc env=pure cl/\(∀ x c,cl.lookup x=some c->env.cells.lookup x=some c)/\∀ p ∈ sc.names,p.2=.free->cl.lookup p.1=env.cells.lookup p.1:=by
 unfold closureFor
 have all:∀ (l:List (Str × NameKind)) (acc:List (Str × Addr)),(∀ p ∈ l,p.2=.free->∃ c,env.cells.lookup p.1=some c)->(∀ x c,acc.lookup x=some c->env.cells.lookup x=some c) ->
   ∃ cl,(forIn l acc λ(p:Str × NameKind) (r:List (Str × Addr))=>(match p with
    | (name,kind)=>if (kind == NameKind.free)=true then (do let a <- cellOf env name;pure (ForInStep.yield ((name,a)::r))) else pure (ForInStep.yield r):Sem (ForInStep (List (Str × Addr)))))=pure cl /\
    (∀ x c,cl.lookup x=some c->env.cells.lookup x=some c)/\(∀ p ∈ l,p.2=.free->cl.lookup p.1=env.cells.lookup p.1)/\∀ x,acc.lookup x=env.cells.lookup x->cl.lookup x=env.cells.lookup x:=by
  intro l
  induction l with
  | nil=>intro acc _ ha;exact ⟨acc,rfl,ha,λp hp=>(by simp at hp),λx e=>e⟩
  | cons p r ih =>
   intro acc hl ha;obtain ⟨n,k⟩:=p;rw [R9];by_cases hk:k=.free
   ·subst hk;obtain ⟨c,hc⟩:=hl (n,.free) P0 rfl;have hce:cellOf env n=pure c:=by unfold cellOf;rw [hc]
    obtain ⟨cl,e1,e2,e3,e4⟩:=ih ((n,c)::acc) (λp hp=>hl p (PR _ hp)) (λx c' e=>by
     rw [QT] at e
     cases hx:x == n with
     | true =>
      rw [hx] at e;have:x=n:=by simpa using hx
      subst this;cases e;exact hc
     | false=>rw [hx] at e;exact ha x c' e)
    refine ⟨cl,?_,e2,λp hp e=>?_,λx e=>e4 x ?_⟩
    ·simp only [beq_self_eq_true,RM,hce];exact e1
    ·rcases Py.mp hp with rfl | hp
     ·exact e4 n (by rw [QT];simp [hc])
     ·exact e3 p hp e
    ·rw [QT]
     cases hx:x == n with
     | true =>
      have:x=n:=by simpa using hx
      subst this;simp [hc]
     | false=>exact e
   ·have hb:(k == NameKind.free)=false:=by simpa using hk
    obtain ⟨cl,e1,e2,e3,e4⟩:=ih acc (λp hp=>hl p (PR _ hp)) ha;refine ⟨cl,?_,e2,λp hp e=>?_,e4⟩
    ·simp only [hb,Sq,Sz];exact e1
    ·rcases Py.mp hp with rfl | hp
     ·exact absurd e hk
     ·exact e3 p hp e
 obtain ⟨cl,e1,e2,e3,_⟩:=all sc.names [] h (λx c e=>by simp at e);refine ⟨cl,?_,e2,e3⟩;have Y0:=PZ (λt:Sem (List (Str × Addr))=>t >>= λcs=>pure cs) e1
 first
  | exact Y0
  | (simp only [pure_bind] at Y0;exact Y0)
  | (refine Eq.trans ?_ Y0;rfl)
  | (dsimp only at Y0 ⊢;exact Y0)
noncomputable def Cx.Ye (X:Cx) (sc:Scope) (cl:List (Str × Addr)) (C:Addr) (N:List Str) (s:Shared) (H:Hp) (fp:List Addr):Cx where
 prog:=X.prog
 w:=X.w
 K:=X.K
 mg:=X.mg
 base:=X.base
 A:=X.A
 N:=N
 s₀:=s
 H₀:=H
 env:=compEnvC sc cl C X.env
 outer:=X.stack
 stack:=X.stack
 ex:=fp
 fn:=λ_=>false
 calm:=X.calm
 pn:=[]
 xe:=λ_ _=>False
section
variable {X:Cx} {pins:List (Addr × Obj)} {σ:St} {H:Hp} {s:Shared} {sc:Scope} {cl:List (Str × Addr)} {own:List Str} {fr:List Nat} {N':List Str} {fp:List Addr}
variable {C:Addr}
theorem AV (I:Inv X pins σ H s) (B:Blk X.N X.env.kindOf sc.names own fr N') (hk:sc.kind=.function)
  (sub:∀ x c,cl.lookup x=some c->X.env.cells.lookup x=some c) (has:∀ p ∈ sc.names,p.2=.free->cl.lookup p.1=X.env.cells.lookup p.1)
  (f2:∀ b ∈ fp,rY X pins H b) (fo:∀ b ∈ fp,b < s.heap.objs.size) {h1:Heap} {tk:Nat} {D:Addr} {n:Nat} (eD:D=s.heap.objs.size) (eC:s.heap.objs.size < C)
  (hns:h1.Ns C (λ_=>none)) (old:∀ b o,s.heap.get? b=some o->h1.get? b=some o) (hD:h1.get? D=some { cls:=.type "list",data:=.seq ([]:List Value).toArray n }) :
  Inv (X.Ye sc cl C N' s H fp) [] (Z6 own fr σ) (upd H D (.lst [])) { s with heap:=h1,toks:=tk }:=by
 have hcells:∀ x c,cl.lookup x=some c->c < s.heap.objs.size:=λx c e=>by obtain ⟨v,q⟩:=I.cell x c (sub x c e);exact q.lt
 have hDn:H D=none:=I.hok.fresh (R8 eD.symm);have kind:∀ x,(X.Ye sc cl C N' s H fp).env.kindOf x=(sc.names.lookup x).map (rk X.env x):=λx=>vP sc X.env x
 refine ⟨⟨I.ok.mod,hk,I.ok.glob,I.ok.blt,QM eC,λx y c e1 e2=>I.ok.inj x y c (sub x c e1) (sub y c e2),λx hx=>?_,(λx c e=>nomatch (show false=true from e)),I.ok.hd,I.ok.frames,.inl rfl,λb hb=>⟨?_,λx c e=>?_⟩,I.bs,Qd I.ok.ZW I.sz,λb o e hb=>?_,λb hb=>?_,I.stack,I.YT⟩,
  rfl,I.bare,Un.laid old (R8 eD.symm) hDn,⟨_,hns,λi x v e1 e2 e3=>?_⟩,λx c e=>?_,?_,λx c e=>?_,λp hp=>?_,I.hok.laid old (R8 eD.symm) ⟨Qy _,[],n,.nil,hD⟩,?_⟩
 ·have hx':(sc.names.lookup x).map (rk X.env x)=some .cell\/(sc.names.lookup x).map (rk X.env x)=some .free:=by
   rw [<- kind x];exact hx
  cases q:sc.names.lookup x with
  | none=>rw [q] at hx';simp at hx'
  | some k =>
   have hm:=QL q;by_cases hf:k=.free
   ·subst hf;show ∃ c,cl.lookup x=some c;rw [has _ hm rfl];have z:=B.free _ hm rfl;exact I.ok.has x z
   ·rw [q] at hx';simp only [Rt,Ig hf] at hx';rcases hx' with z | z
    ·exact absurd (Qf z) (B.cell _ hm)
    ·exact absurd (Qf z) hf
 ·exact Qc (SD (fo b hb) eC)
 ·exact (f2 b hb).2.2.2.2.1 x c (sub x c e)
 ·rcases (f2 b hb).2.2.2.1 with z | z
  ·exact I.ok.Zp b o e z
  ·exact absurd (PV (PF e) (Qd I.ok.ZW z)) (QO _)
 ·intro z;rcases Py.mp (I.Ym b z) with e | e
  ·exact (f2 b hb).2.1 e
  ·exact (f2 b hb).2.2.1 e
 ·
  have Y0:N'[i]?=some x:=e1
  have hi:¬ i < own.length:=λz=>by unfold Z6 at e2;rw [QX (by simpa using z),Pr,Pe z] at e2;cases e2
  unfold Z6 at e2;rw [Qp (by simpa using hi),Pd,Pr] at e2;rw [B.eN,Qp (by simpa using hi),Pr] at Y0
  cases q:fr[i - own.length]? with
  | none=>rw [q] at e2;cases e2
  | some j =>
   rw [q] at e2 Y0;simp only [Rt,Option.some.injEq] at e2 Y0;obtain ⟨hj,hfr⟩:=B.fr j (PJ q)
   have ej:X.N[j]?=some x:=by rw [<- Y0,PX,Pe hj];rfl
   have eσ:σ[j]?=some (some v):=by
    cases z:σ[j]? with
    | none=>rw [z] at e2;cases e2
    | some o=>rw [z] at e2;simp only [Option.getD_some] at e2;rw [e2]
   rw [Y0] at hfr;have hm:=QL hfr;have hok:=B.free _ hm rfl;obtain ⟨m0,hn0,X4⟩:=I.loc
   have hv:Vis X.env.scope x:=by
    rcases hok with z | z
    ·exact .inr (.inl z)
    ·exact .inr (.inr z)
   obtain ⟨u,r,l⟩:=X4 j x v ej eσ hv;refine ⟨u,r,?_⟩;rcases l with ⟨z,_⟩ | ⟨_,c,hc,o,ho,hd⟩
   ·have Z4:X.env.kindOf x=some .cell\/X.env.kindOf x=some .free:=hok;rw [z] at Z4;rcases Z4 with y | y <;> cases y
   ·refine .inr ⟨?_,c,?_,o,old c o ho,hd⟩
    ·rw [kind x,hfr];rcases FQ (env:=X.env) (x:=x) with y | y
     ·exact .inl (by rw [Rt,y])
     ·exact .inr (by rw [Rt,y])
    ·show cl.lookup x=some c;have z:=has _ hm rfl;exact z.trans hc
 ·obtain ⟨v,o,ho,hd⟩:=I.cell x c (sub x c e);exact ⟨v,o,old c o ho,hd⟩
 ·show upd H D _ C=none;rw [aS (by rw [eD];exact QN eC)];exact I.hok.fresh (QM eC)
 ·show upd H D _ c=none;rw [aS (by rw [eD];exact Qc (hcells x c e))];exact I.Wc x c (sub x c e)
 ·exact absurd (show p ∈ ([]:List (Addr × Obj)) from hp) (by simp)
 ·show (Z6 own fr σ).length=N'.length;rw [B.eN];simp [Z6]
theorem zN {σ':St} {H':Hp} {s':Shared} (I:Inv X pins σ H s) (f2:∀ b ∈ fp,rY X pins H b) (J:Inv (X.Ye sc cl C N' s H fp) [] σ' H' s'):Inv X pins σ H' s' :=
 I.call' (ch:=fp) J.os J.base J.hok J.bare λb hb=>⟨(f2 b hb).2.2.2.1,(f2 b hb).2.1,(f2 b hb).2.2.2.2.1,(f2 b hb).2.2.2.2.2⟩
theorem Inv.young {s0:Shared} {H0:Hp} {σ0:St} {h':Heap} (I0:Inv X pins σ0 H0 s0) (I:Inv X pins σ H s) (hC:s0.heap.objs.size<=C) (hn:H C=none) (hs:Heap.SameBut C s.heap h'):Inv X pins σ H { s with heap:=h' } :=
 I.turned (t':=s.toks) (λb o hb e=>(hs.2 b hb).trans e) hn (QN (PV I0.lt hC)) (.inr (Qd I0.sz hC))
  (λx c e z=>by
   obtain ⟨v,q⟩:=I0.cell x c e;exact absurd (PV q.lt (by rw [z];exact hC)) (QO _))
  (λp hp z=>absurd (PV (PF (I0.pin p hp).1) (by rw [z];exact hC)) (QO _))
end
def B0 (X:Cx) (ifs:List Expr) (t:TT):Prop :=
 ∀ (pins:List (Addr × Obj)) (s:Shared) (σ:St) (H:Hp) (Q:Bool->Hp->Prop),Inv X pins σ H s->t σ H Q ->
  wpAny (model X.prog X.w) X.A (forIn ifs true λc r=>if r=true then do let ok <- isTrue c X.env (eval c X.env);pure (ForInStep.yield ok) else pure (ForInStep.yield r)) (TP X pins σ Q) X.xe s
noncomputable def jc:TT:=λ_ H Q=>Q true H
theorem c7:B0 X [] jc:=λpins s σ H Q I h=>wpAny_tests_nil ⟨H,I,h⟩
theorem xJ {c:Expr} {t:TT} (h:PT X c t):B0 X [c] t:=λpins s σ H Q I hw=>wpAny_tests_one (h pins s σ H Q I hw)
section
variable {prog:Program} {w:World} {A:Around} {R:Result->Shared->Prop} {s:Shared}
theorem uv {elt target iter:Expr} {ifs:List Expr} {scope:Scope} {pos:Pos} {it acc:Value} {env:Env} (J:Nat->Shared->Prop)
  (turn:∀ n s,J n s->wpAny (model prog w) A (pyNext it) (λr s₁=>match r with
   | none=>R (.ok .next) s₁
   | some v=>wpAny (model prog w) A (letOwnedTupleGo target it v) (λ_ s₂=>wpAny (model prog w) A (assign target env v) (λ_ s₃ =>
     wpAny (model prog w) A (forIn ifs true λc r=>if r=true then do let ok <- isTrue c env (eval c env);pure (ForInStep.yield ok) else pure (ForInStep.yield r)) (λok s₄ =>
      if ok=true then wpAny (model prog w) A (eval elt env) (λx s₅=>wpAny (model prog w) A (call (.builtin "list.append") [acc,x]) (λ_ s₆=>∃ m,m < n/\J m s₆) (λ_ _=>False) s₅) (λ_ _=>False) s₄
      else ∃ m,m < n/\J m s₄) (λ_ _=>False) s₃) (λ_ _=>False) s₂) (λ_ _=>False) s₁) (λ_ _=>False) s)
  (n:Nat) (h:J n s):codeAny (model prog w) A (.compLoop (.ListComp elt [⟨target,iter,ifs,0⟩] scope pos) 0 it acc env) R s:=by
 refine codeAny_loop rfl J (λn s hJ=>?_) n h;show wpAny (model prog w) A ((compTurn (.ListComp elt [⟨target,iter,ifs,0⟩] scope pos) 0 it acc env).onRaise λx=>do noteFrame x env;theTreesLotGoes x) _ _ s;refine wpAny_noted (wpAny_noRaise ?_);rw [compTurn_list];refine Pg (RK (Pg (SY (turn n s hJ) λr s₁ h₁=>?_)))
 cases r with
 | none=>exact PC h₁
 | some v =>
  refine Pg (SY h₁ λ_ s₂ h₂=>Pg (SY h₂ λ_ s₃ h₃=>Pg (SY h₃ λok s₄ h₄=>?_)))
  cases ok with
  | false=>exact PC ⟨rfl,h₄⟩
  | true=>exact Pg (Pg (SY h₄ λx s₅ h₅=>Pg (SY h₅ λ_ s₆ h₆=>PC (PC ⟨rfl,h₆⟩))))
end
def jP (wi:TI) (mk:St->St) (g:TG) (tt:TT) (te:TE):TE:=λσ H Q=>wi σ H λJ H1=>∀ D,H1 D=none->∃ W:Nat->Nat->St->Hp->Prop,(∃ m,W 0 m (mk σ) (upd H1 D (.lst [])))/\∀ i m σ' H',W i m σ' H' ->
 (J.stop i H'/\Q (.ref D) H') \/
 (J.go i H'/\∃ Nx:St->Hp->Prop,(∀ σ'' T3,Nx σ'' T3->∃ m',m' < m/\W (i+1) m' σ'' T3)/\∀ x T3,J.Yd i H' x T3->g x σ' T3 λσ2 H2=>tt σ2 H2 λb H3 =>
  if b=true then te σ2 H3 λv H4=>∃ ys,H4 D=some (.lst ys)/\ys.length < sizeLine/\Nx σ2 (upd H4 D (.lst (ys++[v]))) else Nx σ2 H3)
section
variable {X:Cx} {elt iter tg:Expr} {ifs:List Expr} {sc:Scope} {pos:Pos} {wi:TI} {own:List Str} {fr:List Nat} {N':List Str} {g:TG} {tt:TT} {te:TE}
theorem wO {pins:List (Addr × Obj)} {σ:St} {H:Hp} {s:Shared} {cl:List (Str × Addr)} {fp:List Addr} {it:Addr} {J:It} {tn:Nat->Heap->Prop} {E:Value->Shared->Prop} {Q:VK} {RR:Value->Addr->Result->Shared->Prop}
  (I:Inv X pins σ H s) (B:Blk X.N X.env.kindOf sc.names own fr N') (hk:sc.kind=.function) (hc:X.calm=true)
  (sub:∀ x c,cl.lookup x=some c->X.env.cells.lookup x=some c) (has:∀ p ∈ sc.names,p.2=.free->cl.lookup p.1=X.env.cells.lookup p.1)
  (T:pq X.prog X.w X.K tg J fp it tn) (st:tn 0 s.heap) (f2:∀ b ∈ fp,rY X pins H b)
  (hg:∀ cl C s H fp,PG (X.Ye sc cl C N' s H fp) tg g) (ht:∀ cl C s H fp,B0 (X.Ye sc cl C N' s H fp) ifs tt) (he:∀ cl C s H fp,PE (X.Ye sc cl C N' s H fp) elt te)
  (hw:∀ D,H D=none->∃ W:Nat->Nat->St->Hp->Prop,(∃ m,W 0 m (Z6 own fr σ) (upd H D (.lst [])))/\∀ i m σ' H',W i m σ' H' ->
   (J.stop i H'/\Q (.ref D) H') \/
   (J.go i H'/\∃ Nx:St->Hp->Prop,(∀ σ'' T3,Nx σ'' T3->∃ m',m' < m/\W (i+1) m' σ'' T3)/\∀ x T3,J.Yd i H' x T3->g x σ' T3 λσ2 H2=>tt σ2 H2 λb H3 =>
    if b=true then te σ2 H3 λv H4=>∃ ys,H4 D=some (.lst ys)/\ys.length < sizeLine/\Nx σ2 (upd H4 D (.lst (ys++[v]))) else Nx σ2 H3))
  (hRR:∀ D C σ' H' s',D=s.heap.objs.size->s.heap.objs.size<=C->Inv (X.Ye sc cl C N' s H fp) [] σ' H' s'->Q (.ref D) H'->RR (.ref D) C (.ok .next) s') :
  wpAny (model X.prog X.w) X.A (newList []) (λacc s₃=>wpAny (model X.prog X.w) X.A (newFunctionEnv sc X.env.globals cl [] X.env.qual none .none (some X.env)) (λcenv s₄ =>
   codeAny (model X.prog X.w) X.A (.compStart (.ListComp elt [⟨tg,iter,ifs,0⟩] sc pos) 0 (.ref it) acc { cenv with scope:=relabel sc X.env }) (RR acc cenv.locals) s₄) E s₃) E s:=by
 have fo:∀ b ∈ fp,b < s.heap.objs.size:=λb hb=>by obtain ⟨o,e,_⟩:=T.obj _ _ st b hb;exact PF e
 refine Ri (wpAny_newFunctionEnv B.cell (by intro y hy;simp at hy) (λh₁ hns₁ hsb₁=>?_) hk);dsimp only at hns₁ hsb₁ ⊢;generalize hH2:s.heap.push { cls:=.type "list",dict:=none,data:=.seq ([]:List Value).toArray }=G at hns₁ hsb₁ ⊢;have hG:G.objs.size=s.heap.objs.size+1:=by rw [<- hH2,Qs]
 have hlt:s.heap.objs.size < G.objs.size:=by rw [hG];exact RI _
 have old:∀ b o,s.heap.get? b=some o->h₁.get? b=some o:=λb o e =>
  hsb₁.extBut b o (Qc (SD (PF e) hlt)) (Pf _ (hH2 ▸ Pf _ e))
 have hacc:h₁.get? s.heap.objs.size=some { cls:=.type "list",data:=.seq ([]:List Value).toArray } :=
  hsb₁.extBut _ _ (Qc hlt) (Pf _ (hH2 ▸ P4 _ rfl))
 obtain ⟨W,⟨m0,w0⟩,turn⟩:=hw s.heap.objs.size (I.hok.fresh (Pq _));have st₁:tn 0 h₁:=T.keep _ _ _ st λb _ o e=>old b o e
 have hns':h₁.Ns G.objs.size (λ_=>none):=by
  have e:(λx=>([]:List (Str × Value)).reverse.lookup x)=(λ_:Str=>(none:Option Value)):=by funext x;rfl
  first
   | exact hns₁
   | (rw [e] at hns₁;exact hns₁)
 have loop:∀ s₃:Shared,s₃={ s with heap:=h₁,toks:=s.toks+([]:List (Str × Value)).length } ->
   codeAny (model X.prog X.w) X.A (.compLoop (.ListComp elt [⟨tg,iter,ifs,0⟩] sc pos) 0 (.ref it) (.ref s.heap.objs.size) (compEnvC sc cl G.objs.size X.env)) (RR (.ref s.heap.objs.size) G.objs.size) s₃:=by
  rintro s₃ rfl;have I0:=AV (tk:=s.toks+([]:List (Str × Value)).length) I B hk sub has f2 fo rfl hlt hns' old hacc
  have wg:∀ {Yb:List (Addr × Obj)} {H':Hp},Yb=[]->(∀ b ∈ fp,H' b=none)->∀ b ∈ fp,rY (X.Ye sc cl G.objs.size N' s H fp) Yb H' b:=λep hn b hb=>by
   subst ep;refine ⟨hn b hb,Qc (SD (fo b hb) hlt),λz=>?_,.inl hb,λx c e=>(f2 b hb).2.2.2.2.1 x c (sub x c e),λp hp=>absurd (show p ∈ ([]:List (Addr × Obj)) from hp) (by simp)⟩;rcases Py.mp (I.Ym b z) with e | e
   ·exact (f2 b hb).2.1 e
   ·exact (f2 b hb).2.2.1 e
  have fr0:∀ b ∈ fp,upd H s.heap.objs.size (.lst []) b=none:=λb hb=>by rw [aS (Qc (fo b hb))];exact (f2 b hb).1
  refine uv (λn s'=>∃ i σ' H',Inv (X.Ye sc cl G.objs.size N' s H fp) [] σ' H' s'/\tn i s'.heap/\(∀ b ∈ fp,H' b=none)/\W i n σ' H') ?_ m0 ⟨0,_,_,I0,st₁,fr0,w0⟩;rintro n s3 ⟨i,σ3,H3,I3,st3,fr3,w3⟩;rcases turn i n σ3 H3 w3 with ⟨stop,qn⟩ | ⟨go,Nx,hN,step⟩
  ·refine SY (T.done (X.Ye sc cl G.objs.size N' s H fp) rfl rfl rfl hc i [] s3 σ3 H3 _ I3 (wg rfl fr3) st3 stop) λr s4 ⟨hr,I4⟩=>?_;subst hr;exact hRR _ _ _ _ _ rfl (QM hlt) I4 qn
  ·refine SY (T.item (X.Ye sc cl G.objs.size N' s H fp) rfl rfl rfl hc i [] s3 σ3 H3 _ I3 (wg rfl fr3) st3 go) λr s4 ⟨u,hr,h4⟩=>?_;subst hr;refine SY h4 λ_ s5 ⟨x,H5,I5,r5,y5,st5,fr5⟩=>?_;have I5':=I5.pinned (wg rfl fr5) (T.obj _ _ st5);refine SY (hg cl G.objs.size s H fp _ s5 σ3 H5 x u _ I5' r5 (step x H5 y5)) λ_ s6 ⟨σ6,H6,I6,q6⟩=>?_;refine SY (ht cl G.objs.size s H fp _ s6 σ6 H6 _ I6 q6) λok s7 ⟨H7,I7,q7⟩=>?_
   have again:∀ {s8:Shared} {H8:Hp},Inv (X.Ye sc cl G.objs.size N' s H fp) ([]++rd fp s5.heap) σ6 H8 s8->Nx σ6 H8 ->
     ∃ m,m < n/\∃ i σ' H',Inv (X.Ye sc cl G.objs.size N' s H fp) [] σ' H' s8/\tn i s8.heap/\(∀ b ∈ fp,H' b=none)/\W i m σ' H':=λ{s8 H8} I8 n8=>by
    obtain ⟨m',hm,w8⟩:=hN σ6 H8 n8;refine ⟨m',hm,i+1,σ6,H8,I8.WD,T.keep _ _ _ st5 λb hb o e=>(I8.pin (b,o) (Qq _ (Qq _ (kD hb e)))).1,λb hb=>?_,w8⟩;obtain ⟨o,e,d⟩:=T.obj _ _ st5 b hb;exact (I8.pin (b,o) (Qq _ (Qq _ (kD hb e)))).2.1
   cases ok with
   | false =>rw [M1 Pk] at q7 ⊢;exact again I7 q7
   | true =>rw [Ph rfl] at q7 ⊢;refine SY (he cl G.objs.size s H fp _ s7 σ6 H7 _ I7 q7) λy s8 ⟨v,H8,I8,rv,ys,hD8,hz,nx⟩=>?_;refine SY (cC (X:=X.Ye sc cl G.objs.size N' s H fp) _ s8 σ6 H8 (.ref s.heap.objs.size) [v] (.ref s.heap.objs.size) [y] (λ_ H9=>Nx σ6 H9) I8 rfl (.cons rv .nil) ⟨_,ys,v,rfl,rfl,hD8,hz,nx⟩) λ_ s9 ⟨_,H9,I9,_,n9⟩=>?_;exact again I9 n9
 exact codeAny_compStart_list (loop _ rfl) (T.self _ 0 _ _ _ st₁ (loop _ rfl))
theorem eV (hi:PI X tg iter wi) (hk:sc.kind=.function) (hb:dS X.N X.env.kindOf sc.names own fr N'=true) (hc:X.calm=true)
  (hg:∀ cl C s H fp,PG (X.Ye sc cl C N' s H fp) tg g) (ht:∀ cl C s H fp,B0 (X.Ye sc cl C N' s H fp) ifs tt) (he:∀ cl C s H fp,PE (X.Ye sc cl C N' s H fp) elt te)
  (hs:∀ x,foldedSetIterable iter X.env x=pure x:=by intro _;rfl):PE X (.ListComp elt [⟨tg,iter,ifs,0⟩] sc pos) (jP wi (Z6 own fr) g tt te):=by
 intro pins s σ H Q I h;have B:=Cf hb;obtain ⟨cl,hcl,sub,has⟩:=II sc X.env λp hp e=>I.ok.has p.1 (B.free p hp e);rw [eval_ListComp];refine wpAny_comprehension_free (use:=none) rfl hs hcl hk B.loc (SY (hi pins s σ H _ I h) λv s1 h1=>SY h1 λitv s2 h2=>?_);obtain ⟨it,fp,tn,J,H2,e,I2,T,st2,f2,body⟩:=h2;subst e;refine wO (RR:=λacc C=>compPost (model X.prog X.w) X.A X.xe none (EP X pins σ Q) acc C) I2 B hk hc sub has T st2 f2 hg ht he body ?_;intro D C σ' H' s' eD hC J' q;obtain ⟨m,hn,_⟩:=J'.loc;refine ⟨m,hn,λh' hs'=>⟨.ref D,H',?_,rfl,q⟩⟩;exact Inv.young I2 (zN I2 f2 J') hC J'.free hs'
theorem jL {i:Nat} {y:Str} {py spos:Pos} (hi:PI X tg iter wi) (hk:sc.kind=.function) (hb:dS X.N X.env.kindOf sc.names own fr N'=true) (hc:X.calm=true)
  (hg:∀ cl C s H fp,PG (X.Ye sc cl C N' s H fp) tg g) (ht:∀ cl C s H fp,B0 (X.Ye sc cl C N' s H fp) ifs tt) (he:∀ cl C s H fp,PE (X.Ye sc cl C N' s H fp) elt te)
  (hN:X.N.Nodup) (hy:X.N[i]?=some y) (hx:X.env.scope.names.lookup y=some .local)
  (hsw:swapsWith (.ListComp elt [⟨tg,iter,ifs,0⟩] sc pos) (some (.Name y py)) spos.line X.env=pure true)
  (hs:∀ x,foldedSetIterable iter X.env x=pure x:=by intro _;rfl):PS X (.Assign [.Name y py] (.ListComp elt [⟨tg,iter,ifs,0⟩] sc pos) spos) (rQ (jP wi (Z6 own fr) g tt te) (d6 i)):=by
 intro pins s σ H D I h;have B:=Cf hb;obtain ⟨cl,hcl,sub,has⟩:=II sc X.env λp hp e=>I.ok.has p.1 (B.free p hp e);rw [exec_Assign_Name_used _ _ _ _ hsw];refine Pg (RK (Pg ?_));show wpAny _ _ (do let _ <- comprehension (.ListComp elt [⟨tg,iter,ifs,0⟩] sc pos) sc X.env _ (newList []) false (eval iter X.env) (some (assign (.Name y py) X.env))) _ _ s
 refine Pg (RH (wpAny_comprehension_free (use:=some (assign (.Name y py) X.env)) (Q:=λ_ s'=>SP X pins D .next s') rfl hs hcl hk B.loc
  (SY (hi pins s σ H _ I h) λv s1 h1=>SY h1 λitv s2 h2=>?_)) (λ_ s' hq=>PC (PC hq)) λ_ _ e=>e)
 obtain ⟨it,fp,tn,J,H2,e,I2,T,st2,f2,body⟩:=h2;subst e;refine wO (Q:=λv H'=>D.nx (σ.set i (some v)) H') (RR:=λacc C=>compPost (model X.prog X.w) X.A X.xe (some (assign (.Name y py) X.env)) (λ_ s'=>SP X pins D .next s') acc C) I2 B hk hc sub has T st2 f2 hg ht he body ?_;intro D' C σ' H' s' eD hC J' q;have I3:=zN I2 f2 J';show wpAny _ _ (assign (.Name y py) X.env (.ref D')) _ _ s';refine wpAny_assign_Name (tZ I3 hN hy (.inl hx) (v:=.ref D') rfl (λs4 I4 ⟨a,hsb,ha⟩=>?_) (.inr hx));obtain ⟨m,hn,_⟩:=J'.loc
 have hCa:C≠a:=by
  rcases ha with e | e
  ·rw [e];exact QN (PV I2.lt hC)
  ·obtain ⟨v,z⟩:=I2.cell _ _ e;exact QN (PV z.lt hC)
 refine ⟨m,hn.sameBut hsb hCa,λh' hs'=>⟨_,H',?_,q⟩⟩;exact Inv.young I2 I4 hC J'.free hs'
end
inductive D where
 | SM | bl (b:Bool) | int (i:Int) | str (x:Str) | tup (ds:List D)
 | lst
mutual
def Dat (K:W.Frag) (H:Hp):D->V->Prop
 | .SM,v=>v=.SM
 | .bl b,v=>v=.bl b
 | .int i,v=>v=.int i
 | .str x,v=>v=.str x
 | .tup ds,v=>∃ a vs,v=.ref a/\Tg K H a vs/\SG K H ds vs
 | .lst,v=>∃ a vs,v=.ref a/\SO K H a vs
def SG (K:W.Frag) (H:Hp):List D->List V->Prop
 | [],vs=>vs=[]
 | d::ds,vs=>∃ v r,vs=v::r/\Dat K H d v/\SG K H ds r
end
section
variable {K:W.Frag} {H H':Hp}
variable {a:Addr} {vs:List V} {ds:List D}
theorem Dat.tupI (h:Tg K H a vs) (r:SG K H ds vs):Dat K H (.tup ds) (.ref a):=by unfold Dat;exact ⟨a,vs,rfl,h,r⟩
theorem SG.nil:SG K H [] []:=by unfold SG;rfl
variable {d:D} {v:V}
theorem SG.cons (h:Dat K H d v) (r:SG K H ds vs):SG K H (d::ds) (v::vs):=by unfold SG;exact ⟨v,vs,rfl,h,r⟩
theorem Dat.SK (i:Int):Dat K H (.int i) (.int i):=by unfold Dat;rfl
theorem Dat.Tf (x:Str):Dat K H (.str x) (.str x):=by unfold Dat;rfl
theorem Dat.VW (b:Bool):Dat K H (.bl b) (.bl b):=by unfold Dat;rfl
theorem Dat.X5:Dat K H .SM .SM:=by unfold Dat;rfl
theorem Dat.lstI (h:SO K H a vs):Dat K H .lst (.ref a):=by unfold Dat;exact ⟨a,vs,rfl,h⟩
theorem Dat.S7 (h:Dat K H (.tup ds) v):∃ a vs,v=.ref a/\Tg K H a vs/\SG K H ds vs:=by unfold Dat at h;exact h
theorem Dat.SN {i:Int} (h:Dat K H (.int i) v):v=.int i:=by unfold Dat at h;exact h
theorem Dat.S3 {x:Str} (h:Dat K H (.str x) v):v=.str x:=by unfold Dat at h;exact h
theorem Dat.VX {b:Bool} (h:Dat K H (.bl b) v):v=.bl b:=by unfold Dat at h;exact h
theorem Dat.Vh (h:Dat K H .SM v):v=.SM:=by unfold Dat at h;exact h
theorem Dat.YM (h:Dat K H .lst v):∃ a vs,v=.ref a/\SO K H a vs:=by unfold Dat at h;exact h
theorem SG.VZ (h:SG K H [] vs):vs=[]:=by unfold SG at h;exact h
theorem SG.Tq (h:SG K H (d::ds) vs):∃ v r,vs=v::r/\Dat K H d v/\SG K H ds r:=by unfold SG at h;exact h
structure gA (K:W.Frag) (H H':Hp):Prop where
 tup:∀ a xs,Tg K H a xs->Tg K H' a xs
 lst:∀ a xs,SO K H a xs->∃ ys,SO K H' a ys
mutual
theorem Dat.mono (g:gA K H H'):∀ (d:D) {v:V},Dat K H d v->Dat K H' d v
 | .SM,v,h=>by unfold Dat at h ⊢;exact h
 | .bl b,v,h=>by unfold Dat at h ⊢;exact h
 | .int i,v,h=>by unfold Dat at h ⊢;exact h
 | .str x,v,h=>by unfold Dat at h ⊢;exact h
 | .tup ds,v,h=>by obtain ⟨a,vs,e,q,r⟩:=h.S7;subst e;exact Dat.tupI (g.tup _ _ q) (SG.mono g ds r)
 | .lst,v,h=>by obtain ⟨a,vs,e,q⟩:=h.YM;subst e;obtain ⟨ys,q'⟩:=g.lst _ _ q;exact Dat.lstI q'
theorem SG.mono (g:gA K H H'):∀ (ds:List D) {vs:List V},SG K H ds vs->SG K H' ds vs
 | [],vs,h=>by unfold SG at h ⊢;exact h
 | d::ds,vs,h=>by obtain ⟨v,r,e,h1,h2⟩:=h.Tq;subst e;exact SG.cons (Dat.mono g d h1) (SG.mono g ds h2)
end
theorem SG.length:∀ {ds:List D} {vs:List V},SG K H ds vs->ds.length=vs.length
 | [],vs,h=>by rw [h.VZ];rfl
 | d::ds,vs,h=>by obtain ⟨v,r,e,h1,h2⟩:=h.Tq;subst e;rw [Pp,Pp,SG.length h2]
theorem SG.get:∀ {ds:List D} {vs:List V} {i:Nat} {d:D},SG K H ds vs->ds[i]?=some d->∃ v,vs[i]?=some v/\Dat K H d v
 | [],_,i,d,_,e=>by simp at e
 | d0::ds,vs,0,d,h,e=>by obtain ⟨v,r,e1,h1,h2⟩:=h.Tq;subst e1;simp at e;subst e;exact ⟨v,rfl,h1⟩
 | d0::ds,vs,i+1,d,h,e=>by obtain ⟨v,r,e1,h1,h2⟩:=h.Tq;subst e1;obtain ⟨u,q1,q2⟩:=SG.get (i:=i) (d:=d) h2 (by simpa using e);exact ⟨u,by simpa using q1,q2⟩
theorem SG.Wb:∀ {ds:List D} {vs:List V} {i:Nat} {v:V},SG K H ds vs->vs[i]?=some v->∃ d,ds[i]?=some d/\Dat K H d v
 | [],vs,i,v,h,e=>by rw [h.VZ] at e;simp at e
 | d0::ds,vs,0,v,h,e=>by obtain ⟨u,r,e1,h1,h2⟩:=h.Tq;subst e1;simp at e;subst e;exact ⟨d0,rfl,h1⟩
 | d0::ds,vs,i+1,v,h,e=>by obtain ⟨u,r,e1,h1,h2⟩:=h.Tq;subst e1;obtain ⟨d,q1,q2⟩:=SG.Wb (i:=i) (v:=v) h2 (by simpa using e);exact ⟨d,by simpa using q1,q2⟩
theorem SG.append:∀ {ds es:List D} {vs us:List V},SG K H ds vs->SG K H es us->SG K H (ds++es) (vs++us)
 | [],es,vs,us,h,h'=>by rw [h.VZ];exact h'
 | d::ds,es,vs,us,h,h'=>by obtain ⟨v,r,e,h1,h2⟩:=h.Tq;subst e;exact SG.cons h1 (SG.append h2 h')
end
mutual
noncomputable def S0:D->D->Bool
 | .SM,.SM=>true
 | .bl a,.bl b=>a == b
 | .int a,.int b=>a == b
 | .bl a,.int b=>(if a then 1 else 0) == b
 | .int a,.bl b=>a == (if b then 1 else 0)
 | .str a,.str b=>a == b
 | .tup a,.tup b=>Td a b
 | _,_=>false
noncomputable def Td:List D->List D->Bool
 | [],[]=>true
 | a::r,b::q=>S0 a b && Td r q
 | _,_=>false
end
mutual
noncomputable def gT:D->Nat
 | .tup ds=>SW ds+1
 | _=>0
noncomputable def SW:List D->Nat
 | []=>0
 | d::ds=>max (gT d) (SW ds)
end
mutual
noncomputable def UK:D->Bool
 | .tup ds=>Ti ds
 | .lst=>false
 | _=>true
noncomputable def Ti:List D->Bool
 | []=>true
 | d::ds=>UK d && Ti ds
end
noncomputable def Z7 (a b:List D) (j:Nat):Bool:=match a[j]?,b[j]? with
 | some x,some y=>S0 x y
 | _,_=>false
theorem p4 (n:Nat) (e:Nat->Bool):(List.range (n+1)).all e=(e 0 && (List.range n).all λj=>e (j+1)):=by rw [List.range_succ_eq_map,List.all_cons,List.all_map];rfl
theorem kz:∀ a b:List D,((List.range (min a.length b.length)).all (Z7 a b) && a.length == b.length)=Td a b
 | [],[]=>by unfold Td;rfl
 | [],y::b=>by unfold Td;simp
 | x::a,[]=>by unfold Td;simp
 | x::a,y::b=>by
  have ih:=kz a b;unfold Td;rw [<- ih,Pp,Pp,Nat.succ_min_succ,p4];have e0:Z7 (x::a) (y::b) 0=S0 x y:=rfl
  have e1:(λj=>Z7 (x::a) (y::b) (j+1))=Z7 a b:=by
   funext j
   simp [Z7]
  rw [e0,e1,Bool.and_assoc];congr 2;simp
theorem wU {a b:List D} (h:a.length=b.length):(List.range a.length).all (Z7 a b)=Td a b:=by have q:=kz a b;rw [<- h,Nat.min_self] at q;rw [<- q];simp
mutual
theorem kZ:∀ d:D,UK d=true->S0 d d=true
 | .SM,_=>by unfold S0;rfl
 | .bl b,_=>by unfold S0;simp
 | .int i,_=>by unfold S0;simp
 | .str x,_=>by unfold S0;simp
 | .tup ds,h=>by unfold S0;unfold UK at h;exact Yg ds h
 | .lst,h=>by unfold UK at h;cases h
theorem Yg:∀ ds:List D,Ti ds=true->Td ds ds=true
 | [],_=>by unfold Td;rfl
 | d::ds,h=>by unfold Ti at h;rw [Px] at h;unfold Td;rw [kZ d h.1,Yg ds h.2];rfl
end
section
variable {X:Cx} {pins:List (Addr × Obj)} {σ:St} {H:Hp} {s:Shared}
mutual
theorem ux (I:Inv X pins σ H s):∀ (d e:D) {v:V},UK d=true->Dat X.K H d v->Dat X.K H e v->UK e=true->d=e
 | .SM,e,v,hn,h,h',hn'=>by
  have z:=h.Vh;subst z
  cases e with
  | SM=>rfl
  | bl b=>exact nomatch h'.VX
  | int i=>exact nomatch h'.SN
  | str x=>exact nomatch h'.S3
  | tup ds=>obtain ⟨_,_,q,_⟩:=h'.S7;exact nomatch q
  | lst=>obtain ⟨_,_,q,_⟩:=h'.YM;exact nomatch q
 | .bl b,e,v,hn,h,h',hn'=>by
  have z:=h.VX;subst z
  cases e with
  | SM=>exact nomatch h'.Vh
  | bl c=>have q:=h'.VX;injection q with q;rw [q]
  | int i=>exact nomatch h'.SN
  | str x=>exact nomatch h'.S3
  | tup ds=>obtain ⟨_,_,q,_⟩:=h'.S7;exact nomatch q
  | lst=>obtain ⟨_,_,q,_⟩:=h'.YM;exact nomatch q
 | .int i,e,v,hn,h,h',hn'=>by
  have z:=h.SN;subst z
  cases e with
  | SM=>exact nomatch h'.Vh
  | bl c=>exact nomatch h'.VX
  | int j=>have q:=h'.SN;injection q with q;rw [q]
  | str x=>exact nomatch h'.S3
  | tup ds=>obtain ⟨_,_,q,_⟩:=h'.S7;exact nomatch q
  | lst=>obtain ⟨_,_,q,_⟩:=h'.YM;exact nomatch q
 | .str x,e,v,hn,h,h',hn'=>by
  have z:=h.S3;subst z
  cases e with
  | SM=>exact nomatch h'.Vh
  | bl c=>exact nomatch h'.VX
  | int j=>exact nomatch h'.SN
  | str y=>have q:=h'.S3;injection q with q;rw [q]
  | tup ds=>obtain ⟨_,_,q,_⟩:=h'.S7;exact nomatch q
  | lst=>obtain ⟨_,_,q,_⟩:=h'.YM;exact nomatch q
 | .tup ds,e,v,hn,h,h',hn'=>by
  obtain ⟨a,vs,z,q,r⟩:=h.S7;subst z
  cases e with
  | SM=>exact nomatch h'.Vh
  | bl c=>exact nomatch h'.VX
  | int j=>exact nomatch h'.SN
  | str y=>exact nomatch h'.S3
  | tup es =>obtain ⟨a',vs',z,q',r'⟩:=h'.S7;cases z;have ev:=I.Yc q q';subst ev;unfold UK at hn hn';rw [Yt I ds es hn r r' hn']
  | lst=>unfold UK at hn';cases hn'
 | .lst,e,v,hn,h,h',hn'=>by unfold UK at hn;cases hn
theorem Yt (I:Inv X pins σ H s):∀ (ds es:List D) {vs:List V},Ti ds=true->SG X.K H ds vs->SG X.K H es vs->Ti es=true->ds=es
 | [],es,vs,_,h,h',_=>by
  have z:=h.VZ;subst z
  cases es with
  | nil=>rfl
  | cons e es=>obtain ⟨_,_,q,_⟩:=h'.Tq;exact nomatch q
 | d::ds,es,vs,hn,h,h',hn'=>by
  obtain ⟨v,r,z,h1,h2⟩:=h.Tq;subst z
  cases es with
  | nil=>exact nomatch h'.VZ
  | cons e es =>obtain ⟨v',r',z,Y3,h2'⟩:=h'.Tq;injection z with z1 z2;subst z1 z2;unfold Ti at hn hn';rw [Px] at hn hn';rw [ux I d e hn.1 h1 Y3 hn'.1,Yt I ds es hn.2 h2 h2' hn'.2]
end
end
theorem n6 (A:Around):A.in1.units=A.units+1:=rfl
section
variable {X:Cx} {pins:List (Addr × Obj)} {σ:St} {H:Hp} {s:Shared}
theorem mO:∀ {ds:List D} {j:Nat} {d:D},ds[j]?=some d->gT d<=SW ds
 | [],_,_,e=>by simp at e
 | d0::ds,0,d,e=>by simp at e;subst e;unfold SW;exact Sa _ _
 | d0::ds,j+1,d,e=>by have q:=mO (ds:=ds) (j:=j) (d:=d) (by simpa using e);unfold SW;exact Qd q (Nat.le_max_right _ _)
theorem kj:∀ {ds:List D} {j:Nat} {d:D},Ti ds=true->ds[j]?=some d->UK d=true
 | [],_,_,_,e=>by simp at e
 | d0::ds,0,d,h,e=>by simp at e;subst e;unfold Ti at h;rw [Px] at h;exact h.1
 | d0::ds,j+1,d,h,e=>by unfold Ti at h;rw [Px] at h;exact kj (ds:=ds) (j:=j) (d:=d) h.2 (by simpa using e)
variable {A:Around} {ds es:List D} {xs ys:List V}
theorem qr {us ws:List Value} (n:Nat)
  (all:∀ (d e:D) (x y:V) (u w:Value),gT d<=n->UK d=true->UK e=true->Dat X.K H d x->Dat X.K H e y->RelV x u->RelV y w->SeqAt.EqAt A s u w (S0 d e))
  (hn:SW ds<=n) (h1:Ti ds=true) (h2:Ti es=true) (r1:SG X.K H ds xs) (r2:SG X.K H es ys) (v1:Vals xs us) (v2:Vals ys ws) :
  ∀ j (k1:j < us.toArray.size) (k2:j < ws.toArray.size),SeqAt.EqAt A s us.toArray[j] ws.toArray[j] (Z7 ds es j):=by
 intro j k1 k2;have l1:j < xs.length:=by rw [v1.length];simpa using k1
 have l2:j < ys.length:=by rw [v2.length];simpa using k2
 obtain ⟨u,eu,ru⟩:=v1.get (i:=j) (x:=xs[j]) (Pe l1);obtain ⟨w,ew,rw'⟩:=v2.get (i:=j) (x:=ys[j]) (Pe l2);obtain ⟨d,ed,qd⟩:=r1.Wb (i:=j) (v:=xs[j]) (Pe l1);obtain ⟨e,ee,qe⟩:=r2.Wb (i:=j) (v:=ys[j]) (Pe l2)
 have z1:us.toArray[j]=u:=by
  have:us[j]?=some u:=eu;have k1':j < us.length:=by simpa using k1
  rw [Pe k1'] at this;simpa using Qf this
 have z2:ws.toArray[j]=w:=by
  have:ws[j]?=some w:=ew;have k2':j < ws.length:=by simpa using k2
  rw [Pe k2'] at this;simpa using Qf this
 have z3:Z7 ds es j=S0 d e:=by unfold Z7;rw [ed,ee]
 rw [z1,z2,z3];exact all d e _ _ u w (Qd (mO ed) hn) (kj h1 ed) (kj h2 ee) qd qe ru rw'
theorem xP {a b:Addr} (I:Inv X pins σ H s) (hu:A.units < cLine) (n:Nat)
  (all:∀ (d e:D) (x y:V) (u w:Value),gT d<=n->UK d=true->UK e=true->Dat X.K H d x->Dat X.K H e y->RelV x u->RelV y w->SeqAt.EqAt A.in1 s u w (S0 d e))
  (hn:SW ds<=n) (h1:Ti ds=true) (h2:Ti es=true) (r1:SG X.K H ds xs) (r2:SG X.K H es ys) (q1:Tg X.K H a xs) (q2:Tg X.K H b ys) :
  SeqAt.RcAt A s (.ref a) (.ref b) (Td ds es)/\SeqAt.RcNeAt A s (.ref a) (.ref b) (!Td ds es):=by
 obtain ⟨us,v1,t1,_⟩:=I.tuple q1;obtain ⟨ws,v2,t2,_⟩:=I.tuple q2;have hi:=qr (X:=X) (H:=H) (s:=s) n all hn h1 h2 r1 r2 v1 v2;have p:=SeqAt.RcAt.tuples (show s.heap.IsTuple a us.toArray from t1) (show s.heap.IsTuple b ws.toArray from t2) hu hi;have p':=SeqAt.RcNeAt.tuples (show s.heap.IsTuple a us.toArray from t1) (show s.heap.IsTuple b ws.toArray from t2) hu hi;have e1:us.toArray.size=ds.length:=by rw [Pz,<- v1.length,r1.length]
 have e2:ws.toArray.size=es.length:=by rw [Pz,<- v2.length,r2.length]
 rw [e1,e2,kz] at p p';exact ⟨p,p'⟩
theorem yw (I:Inv X pins σ H s):∀ (n:Nat) (A:Around) (d e:D) (x y:V) (u w:Value),A.units+n+1 < cLine->gT d<=n->UK d=true->UK e=true->Dat X.K H d x->Dat X.K H e y->RelV x u->RelV y w->SeqAt.EqAt A s u w (S0 d e):=by
 intro n
 induction n with
 | zero =>
  intro A d e x y u w hu hn h1 h2 q1 q2 r1 r2
  exact base I A d e x y u w (by omega) h1 h2 q1 q2 r1 r2 λds es a b xs ys ed ee=>by subst ed;unfold gT at hn;omega
 | succ n ih =>intro A d e x y u w hu hn h1 h2 q1 q2 r1 r2;refine base I A d e x y u w (by omega) h1 h2 q1 q2 r1 r2 λds es a b xs ys ed ee t1 t2 s1 s2 hne=>?_;subst ed ee;unfold gT at hn;unfold UK at h1 h2;have p:=(xP (A:=A) (ds:=ds) (es:=es) I (by omega) n (λd e x y u w k1 k2 k3 k4 k5 k6 k7=>ih A.in1 d e x y u w (by rw [n6];omega) k1 k2 k3 k4 k5 k6 k7) (by omega) h1 h2 t1 t2 s1 s2).1;unfold S0;exact .of_refs hne p
where
 base (I:Inv X pins σ H s) (A:Around) (d e:D) (x y:V) (u w:Value) (hu:A.units < cLine) (h1:UK d=true) (h2:UK e=true) (q1:Dat X.K H d x) (q2:Dat X.K H e y) (r1:RelV x u) (r2:RelV y w)
   (tt:∀ (ds es:List D) (a b:Addr) (xs ys:List V),d=.tup ds->e=.tup es->SG X.K H ds xs->SG X.K H es ys->Tg X.K H a xs->Tg X.K H b ys->a≠b->SeqAt.EqAt A s (.ref a) (.ref b) (S0 (.tup ds) (.tup es))) :
   SeqAt.EqAt A s u w (S0 d e):=by
  cases d with
  | lst=>unfold UK at h1;cases h1
  | SM =>
   have z:=q1.Vh;subst z;cases r1
   cases e with
   | lst=>unfold UK at h2;cases h2
   | SM=>have z:=q2.Vh;subst z;cases r2;unfold S0;exact SeqAt.EqAt.same _
   | bl b=>have z:=q2.VX;subst z;cases r2;unfold S0;exact SeqAt.EqAt.none_bool b
   | int i=>have z:=q2.SN;subst z;obtain ⟨t,rfl⟩:=r2;unfold S0;exact SeqAt.EqAt.none_int i t
   | str i=>have z:=q2.S3;subst z;obtain ⟨t,rfl⟩:=r2;unfold S0;exact SeqAt.EqAt.none_str i t
   | tup es=>obtain ⟨b,ys,z,s2,t2⟩:=q2.S7;subst z;cases r2;obtain ⟨ws,v2,p2,_⟩:=I.tuple s2;unfold S0;exact SeqAt.EqAt.none_tuple (show s.heap.IsTuple b ws.toArray from p2) hu
  | bl c =>
   have z:=q1.VX;subst z;cases r1
   cases e with
   | lst=>unfold UK at h2;cases h2
   | SM=>have z:=q2.Vh;subst z;cases r2;unfold S0;exact SeqAt.EqAt.bool_none c
   | bl b=>have z:=q2.VX;subst z;cases r2;unfold S0;exact SeqAt.EqAt.bool_bool c b
   | int i=>have z:=q2.SN;subst z;obtain ⟨t,rfl⟩:=r2;unfold S0;exact SeqAt.EqAt.bool_int c i t
   | str i=>have z:=q2.S3;subst z;obtain ⟨t,rfl⟩:=r2;unfold S0;exact SeqAt.EqAt.bool_str c i t
   | tup es=>obtain ⟨b,ys,z,s2,t2⟩:=q2.S7;subst z;cases r2;obtain ⟨ws,v2,p2,_⟩:=I.tuple s2;unfold S0;exact SeqAt.EqAt.bool_tuple c (show s.heap.IsTuple b ws.toArray from p2) hu
  | int c =>
   have z:=q1.SN;subst z;obtain ⟨tc,rfl⟩:=r1
   cases e with
   | lst=>unfold UK at h2;cases h2
   | SM=>have z:=q2.Vh;subst z;cases r2;unfold S0;exact SeqAt.EqAt.int_none c tc
   | bl b=>have z:=q2.VX;subst z;cases r2;unfold S0;exact SeqAt.EqAt.int_bool c tc b
   | int i=>have z:=q2.SN;subst z;obtain ⟨t,rfl⟩:=r2;unfold S0;exact SeqAt.EqAt.int_int c tc i t
   | str i=>have z:=q2.S3;subst z;obtain ⟨t,rfl⟩:=r2;unfold S0;exact Si c tc i t
   | tup es=>obtain ⟨b,ys,z,s2,t2⟩:=q2.S7;subst z;cases r2;obtain ⟨ws,v2,p2,_⟩:=I.tuple s2;unfold S0;exact SeqAt.EqAt.int_tuple c tc (show s.heap.IsTuple b ws.toArray from p2) hu
  | str c =>
   have z:=q1.S3;subst z;obtain ⟨tc,rfl⟩:=r1
   cases e with
   | lst=>unfold UK at h2;cases h2
   | SM=>have z:=q2.Vh;subst z;cases r2;unfold S0;exact SeqAt.EqAt.str_none c tc
   | bl b=>have z:=q2.VX;subst z;cases r2;unfold S0;exact SeqAt.EqAt.str_bool c tc b
   | int i=>have z:=q2.SN;subst z;obtain ⟨t,rfl⟩:=r2;unfold S0;exact Sj c tc i t
   | str i=>have z:=q2.S3;subst z;obtain ⟨t,rfl⟩:=r2;unfold S0;exact SeqAt.EqAt.str_str c tc i t
   | tup es=>obtain ⟨b,ys,z,s2,t2⟩:=q2.S7;subst z;cases r2;obtain ⟨ws,v2,p2,_⟩:=I.tuple s2;unfold S0;exact SeqAt.EqAt.str_tuple c tc (show s.heap.IsTuple b ws.toArray from p2) hu
  | tup ds =>
   have q1':=q1
   obtain ⟨a,xs,z,s1,t1⟩:=q1.S7;subst z;cases r1;obtain ⟨us,v1,p1,_⟩:=I.tuple s1
   have p1':s.heap.IsTuple a us.toArray:=p1
   cases e with
   | lst=>unfold UK at h2;cases h2
   | SM=>have z:=q2.Vh;subst z;cases r2;unfold S0;exact SeqAt.EqAt.tuple_none p1' hu
   | bl b=>have z:=q2.VX;subst z;cases r2;unfold S0;exact SeqAt.EqAt.tuple_bool b p1' hu
   | int i=>have z:=q2.SN;subst z;obtain ⟨t,rfl⟩:=r2;unfold S0;exact SeqAt.EqAt.tuple_int i t p1' hu
   | str i=>have z:=q2.S3;subst z;obtain ⟨t,rfl⟩:=r2;unfold S0;exact SeqAt.EqAt.tuple_str i t p1' hu
   | tup es =>
    have q2':=q2
    obtain ⟨b,ys,z,s2,t2⟩:=q2.S7;subst z;cases r2
    by_cases hab:a=b
    ·subst hab
     have ee:=ux I (.tup ds) (.tup es) h1 q1' q2' h2
     rw [<- ee,kZ _ h1]
     exact SeqAt.EqAt.same _
    ·exact tt ds es a b xs ys rfl rfl t1 t2 s1 s2 hab
theorem Ji (I:Inv X pins σ H s) (n:Nat) (A:Around) (d e:D) (x y:V) (u w:Value) (hu:A.units+n+2 < cLine) (hn:gT d<=n+1) (h1:UK d=true) (h2:UK e=true) (q1:Dat X.K H d x) (q2:Dat X.K H e y) (r1:RelV x u) (r2:RelV y w) :
  SeqAt.RcAt A s u w (S0 d e)/\SeqAt.RcNeAt A s u w (!S0 d e):=by
 have XX:A.units < cLine:=by omega
 cases d with
 | lst=>unfold UK at h1;cases h1
 | SM =>
  have z:=q1.Vh;subst z;cases r1
  cases e with
  | lst=>unfold UK at h2;cases h2
  | SM=>have z:=q2.Vh;subst z;cases r2;unfold S0;exact ⟨SeqAt.RcAt.none_none,SeqAt.RcNeAt.none_none⟩
  | bl b=>have z:=q2.VX;subst z;cases r2;unfold S0;exact ⟨SeqAt.RcAt.none_bool b,SeqAt.RcNeAt.none_bool b⟩
  | int i=>have z:=q2.SN;subst z;obtain ⟨t,rfl⟩:=r2;unfold S0;exact ⟨SeqAt.RcAt.none_int i t,SeqAt.RcNeAt.none_int i t⟩
  | str i=>have z:=q2.S3;subst z;obtain ⟨t,rfl⟩:=r2;unfold S0;exact ⟨SeqAt.RcAt.none_str i t,SeqAt.RcNeAt.none_str i t⟩
  | tup es=>obtain ⟨b,ys,z,s2,t2⟩:=q2.S7;subst z;cases r2;obtain ⟨ws,v2,p2,_⟩:=I.tuple s2;unfold S0;exact ⟨SeqAt.RcAt.none_tuple (show s.heap.IsTuple b ws.toArray from p2) XX,SeqAt.RcNeAt.none_tuple (show s.heap.IsTuple b ws.toArray from p2) XX⟩
 | bl c =>
  have z:=q1.VX;subst z;cases r1
  cases e with
  | lst=>unfold UK at h2;cases h2
  | SM=>have z:=q2.Vh;subst z;cases r2;unfold S0;exact ⟨SeqAt.RcAt.bool_none c,SeqAt.RcNeAt.bool_none c⟩
  | bl b=>have z:=q2.VX;subst z;cases r2;unfold S0;exact ⟨SeqAt.RcAt.bool_bool c b,SeqAt.RcNeAt.bool_bool c b⟩
  | int i=>have z:=q2.SN;subst z;obtain ⟨t,rfl⟩:=r2;unfold S0;exact ⟨SeqAt.RcAt.bool_int c i t,SeqAt.RcNeAt.bool_int c i t⟩
  | str i=>have z:=q2.S3;subst z;obtain ⟨t,rfl⟩:=r2;unfold S0;exact ⟨SeqAt.RcAt.bool_str c i t,SeqAt.RcNeAt.bool_str c i t⟩
  | tup es=>obtain ⟨b,ys,z,s2,t2⟩:=q2.S7;subst z;cases r2;obtain ⟨ws,v2,p2,_⟩:=I.tuple s2;unfold S0;exact ⟨SeqAt.RcAt.bool_tuple c (show s.heap.IsTuple b ws.toArray from p2) XX,SeqAt.RcNeAt.bool_tuple c (show s.heap.IsTuple b ws.toArray from p2) XX⟩
 | int c =>
  have z:=q1.SN;subst z;obtain ⟨tc,rfl⟩:=r1
  cases e with
  | lst=>unfold UK at h2;cases h2
  | SM=>have z:=q2.Vh;subst z;cases r2;unfold S0;exact ⟨SeqAt.RcAt.int_none c tc,SeqAt.RcNeAt.int_none c tc⟩
  | bl b=>have z:=q2.VX;subst z;cases r2;unfold S0;exact ⟨SeqAt.RcAt.int_bool c tc b,SeqAt.RcNeAt.int_bool c tc b⟩
  | int i=>have z:=q2.SN;subst z;obtain ⟨t,rfl⟩:=r2;unfold S0;exact ⟨SeqAt.RcAt.int_int c tc i t,SeqAt.RcNeAt.int_int c tc i t⟩
  | str i=>have z:=q2.S3;subst z;obtain ⟨t,rfl⟩:=r2;unfold S0;exact ⟨SeqAt.RcAt.int_str c tc i t,SeqAt.RcNeAt.int_str c tc i t⟩
  | tup es=>obtain ⟨b,ys,z,s2,t2⟩:=q2.S7;subst z;cases r2;obtain ⟨ws,v2,p2,_⟩:=I.tuple s2;unfold S0;exact ⟨SeqAt.RcAt.int_tuple c tc (show s.heap.IsTuple b ws.toArray from p2) XX,SeqAt.RcNeAt.int_tuple c tc (show s.heap.IsTuple b ws.toArray from p2) XX⟩
 | str c =>
  have z:=q1.S3;subst z;obtain ⟨tc,rfl⟩:=r1
  cases e with
  | lst=>unfold UK at h2;cases h2
  | SM=>have z:=q2.Vh;subst z;cases r2;unfold S0;exact ⟨SeqAt.RcAt.str_none c tc,SeqAt.RcNeAt.str_none c tc⟩
  | bl b=>have z:=q2.VX;subst z;cases r2;unfold S0;exact ⟨SeqAt.RcAt.str_bool c tc b,SeqAt.RcNeAt.str_bool c tc b⟩
  | int i=>have z:=q2.SN;subst z;obtain ⟨t,rfl⟩:=r2;unfold S0;exact ⟨SeqAt.RcAt.str_int c tc i t,SeqAt.RcNeAt.str_int c tc i t⟩
  | str i=>have z:=q2.S3;subst z;obtain ⟨t,rfl⟩:=r2;unfold S0;exact ⟨SeqAt.RcAt.str_str c tc i t,SeqAt.RcNeAt.str_str c tc i t⟩
  | tup es=>obtain ⟨b,ys,z,s2,t2⟩:=q2.S7;subst z;cases r2;obtain ⟨ws,v2,p2,_⟩:=I.tuple s2;unfold S0;exact ⟨SeqAt.RcAt.str_tuple c tc (show s.heap.IsTuple b ws.toArray from p2) XX,SeqAt.RcNeAt.str_tuple c tc (show s.heap.IsTuple b ws.toArray from p2) XX⟩
 | tup ds =>
  obtain ⟨a,xs,z,s1,t1⟩:=q1.S7;subst z;cases r1;obtain ⟨us,v1,p1,_⟩:=I.tuple s1;have p1':s.heap.IsTuple a us.toArray:=p1
  cases e with
  | lst=>unfold UK at h2;cases h2
  | SM=>have z:=q2.Vh;subst z;cases r2;unfold S0;exact ⟨SeqAt.RcAt.tuple_none p1' XX,SeqAt.RcNeAt.tuple_none p1' XX⟩
  | bl b=>have z:=q2.VX;subst z;cases r2;unfold S0;exact ⟨SeqAt.RcAt.tuple_bool b p1' XX,SeqAt.RcNeAt.tuple_bool b p1' XX⟩
  | int i=>have z:=q2.SN;subst z;obtain ⟨t,rfl⟩:=r2;unfold S0;exact ⟨SeqAt.RcAt.tuple_int i t p1' XX,SeqAt.RcNeAt.tuple_int i t p1' XX⟩
  | str i=>have z:=q2.S3;subst z;obtain ⟨t,rfl⟩:=r2;unfold S0;exact ⟨SeqAt.RcAt.tuple_str i t p1' XX,SeqAt.RcNeAt.tuple_str i t p1' XX⟩
  | tup es =>obtain ⟨b,ys,z,s2,t2⟩:=q2.S7;subst z;cases r2;unfold gT at hn;unfold UK at h1 h2;unfold S0;exact xP (A:=A) (ds:=ds) (es:=es) I XX n (λd e x y u w k1 k2 k3 k4 k5 k6 k7=>yw I n A.in1 d e x y u w (by rw [n6];omega) k1 k2 k3 k4 k5 k6 k7) (by omega) h1 h2 t1 t2 s1 s2
theorem Jj (I:Inv X pins σ H s) (n:Nat) (A:Around) (ds es:List D) (a b:Addr) (xs ys:List V) (hu:A.units+n+2 < cLine) (hn:SW ds<=n) (h1:Ti ds=true) (h2:Ti es=true) (q1:SO X.K H a xs) (q2:SO X.K H b ys) (r1:SG X.K H ds xs) (r2:SG X.K H es ys) :
  SeqAt.RcAt A s (.ref a) (.ref b) (Td ds es)/\SeqAt.RcNeAt A s (.ref a) (.ref b) (!Td ds es):=by
 have XX:A.units < cLine:=by omega
 obtain ⟨us,v1,p1,_⟩:=I.list q1;obtain ⟨ws,v2,p2,_⟩:=I.list q2;have e1:us.toArray.size=ds.length:=by rw [Pz,<- v1.length,r1.length]
 have e2:ws.toArray.size=es.length:=by rw [Pz,<- v2.length,r2.length]
 have hi:=qr (X:=X) (H:=H) (s:=s) (A:=A.in1) n (λd e x y u w k1 k2 k3 k4 k5 k6 k7=>yw I n A.in1 d e x y u w (by rw [n6];omega) k1 k2 k3 k4 k5 k6 k7) hn h1 h2 r1 r2 v1 v2;by_cases hl:ds.length=es.length
 ·have hsz:us.toArray.size=ws.toArray.size:=by rw [e1,e2,hl]
  have p:=SeqAt.RcAt.lists p1.isList p2.isList hsz XX hi;have p':=SeqAt.RcNeAt.lists p1.isList p2.isList hsz XX hi;rw [e1,wU hl] at p p';exact ⟨p,p'⟩
 ·have hsz:(us.toArray.size != ws.toArray.size)=true:=by rw [e1,e2];simpa using hl
  have z:Td ds es=false:=by
   rw [<- kz];have:(ds.length == es.length)=false:=by simpa using hl
   rw [this,Qm]
  rw [z];exact ⟨SeqAt.RcAt.lists_lengths p1.isList p2.isList hsz XX,SeqAt.RcNeAt.lists_lengths p1.isList p2.isList hsz XX⟩
end
section
variable {X:Cx} {k:Nat}
noncomputable def HW (K:W.Frag) (neg:Bool):R2:=λx y H Q=>∃ d e,Dat K H d x/\Dat K H e y/\UK d=true/\UK e=true/\gT d<=20/\Q (.bl (if neg then !S0 d e else S0 d e)) H
theorem HE (hr:Tw k X.A):VU X (compareOp .Eq) (HW X.K false):=by
 intro pins s σ H x y v u Q I rx ry h;obtain ⟨d,e,q1,q2,h1,h2,hn,q⟩:=h;have hu:X.A.units+19+2 < cLine:=by have:=hr.un;omega
 exact (Ji I 19 X.A d e x y v u hu (by omega) h1 h2 q1 q2 rx ry).1 _ _ _ _ ⟨.bl _,H,I,rfl,q⟩
theorem HF (hr:Tw k X.A):VU X (compareOp .NotEq) (HW X.K true):=by
 intro pins s σ H x y v u Q I rx ry h;obtain ⟨d,e,q1,q2,h1,h2,hn,q⟩:=h;have hu:X.A.units+19+2 < cLine:=by have:=hr.un;omega
 exact (Ji I 19 X.A d e x y v u hu (by omega) h1 h2 q1 q2 rx ry).2 _ _ _ _ ⟨.bl _,H,I,rfl,q⟩
noncomputable def FB (K:W.Frag) (neg:Bool):R2:=λx y H Q=>∃ a b xs ys ds es,x=.ref a/\y=.ref b/\SO K H a xs/\SO K H b ys/\SG K H ds xs/\SG K H es ys/\Ti ds=true/\Ti es=true/\SW ds<=20/\Q (.bl (if neg then !Td ds es else Td ds es)) H
theorem vA (hr:Tw k X.A):VU X (compareOp .Eq) (FB X.K false):=by
 intro pins s σ H x y v u Q I rx ry h;obtain ⟨a,b,xs,ys,ds,es,ex,ey,q1,q2,r1,r2,h1,h2,hn,q⟩:=h;subst ex ey;cases rx;cases ry;have hu:X.A.units+20+2 < cLine:=by have:=hr.un;omega
 exact (Jj I 20 X.A ds es a b xs ys hu hn h1 h2 q1 q2 r1 r2).1 _ _ _ _ ⟨.bl _,H,I,rfl,q⟩
theorem Dp (hr:Tw k X.A):VU X (compareOp .NotEq) (FB X.K true):=by
 intro pins s σ H x y v u Q I rx ry h;obtain ⟨a,b,xs,ys,ds,es,ex,ey,q1,q2,r1,r2,h1,h2,hn,q⟩:=h;subst ex ey;cases rx;cases ry;have hu:X.A.units+20+2 < cLine:=by have:=hr.un;omega
 exact (Jj I 20 X.A ds es a b xs ys hu hn h1 h2 q1 q2 r1 r2).2 _ _ _ _ ⟨.bl _,H,I,rfl,q⟩
theorem Bv:VU X (compareOp .IsNot) (λx y H Q=>∃ a b,x=.bl a/\y=.bl b/\Q (.bl (a != b)) H):=by intro pins s σ H x y v u Q I rx ry h;obtain ⟨a,b,ex,ey,q⟩:=h;subst ex ey;cases rx;cases ry;exact PyProof.Rows.isnot_bool ⟨.bl _,H,I,rfl,q⟩
noncomputable def tyD:D->String
 | .SM=>"NoneType"
 | .bl _=>"bool"
 | .int _=>"int"
 | .str _=>"str"
 | .tup _=>"tuple"
 | .lst=>"list"
noncomputable def pB (d:D) (T:String):Bool:=tyD d == T || (tyD d == "bool" && T == "int")
theorem gC {T:String} (hk:∀ d:D,W.kitOne X.K (.type (tyD d)) (.type T)=some (pB d T)) :
  jz X (.builtin "isinstance") (λxs H Q=>∃ x d,xs=[x,.ty T]/\Dat X.K H d x/\Q (.bl (pB d T)) H):=by
 intro pins s σ H xs us Q I r h;obtain ⟨x,d,e,q,h⟩:=h;subst e;obtain ⟨u,c,e,ru,rc⟩:=Jz r;subst e;cases (show c=Value.type T from rc);have fin:∀ tk,EP X pins σ Q (.bool (pB d T)) { s with toks:=tk }:=λtk=>⟨.bl _,H,I.tok tk,rfl,h⟩
 have kd:=hk d
 cases d with
 | SM=>have z:=q.Vh;subst z;cases ru;exact Ss W.kitx_none I.Wa True.intro kd (λz=>nomatch z) fin
 | bl b=>have z:=q.VX;subst z;cases ru;exact Ss W.kitx_bool I.Wa True.intro kd (λz=>nomatch z) fin
 | int i=>have z:=q.SN;subst z;obtain ⟨t,rfl⟩:=ru;exact Ss W.kitx_int I.Wa True.intro kd (λz=>nomatch z) fin
 | str y=>have z:=q.S3;subst z;obtain ⟨t,rfl⟩:=ru;exact Ss W.kitx_str I.Wa True.intro kd (λz=>nomatch z) fin
 | tup ds =>obtain ⟨a,vs,z,sq,_⟩:=q.S7;subst z;cases ru;obtain ⟨its,_,⟨o,e1,e2,_⟩,_⟩:=I.tuple sq;exact Ss W.kitx_tuple I.Wa ⟨o,e1,e2⟩ kd (λz=>nomatch z) fin
 | lst =>obtain ⟨a,vs,z,sq⟩:=q.YM;subst z;cases ru;obtain ⟨its,_,⟨o,_,e1,e2,_⟩,_⟩:=I.list sq;exact Ss W.kitx_list I.Wa ⟨o,e1,e2⟩ kd (λz=>nomatch z) fin
end
def kW (K:W.Frag) (a:Addr) (T:List (Str × KTD.Dat)):Prop:=∀ h:Heap,K.In h->KTD.TextTab h a T
section
variable {X:Cx}
theorem nC:VU X (compareOp .In) (λx y H Q=>∃ k a T,x=.str k/\y=.ref a/\kW X.K a T/\Q (.bl (KTD.inKeys k T)) H):=by intro pins s σ H x y v u Q I rx ry h;obtain ⟨k,a,T,ex,ey,t,q⟩:=h;subst ex ey;obtain ⟨tk,rfl⟩:=rx;cases ry;exact KTD.in_text (h₀:=s.heap) ⟨t _ I.Wa,λ_ _ e=>e⟩ ⟨.bl _,H,I.tok _,rfl,q⟩
noncomputable def DC (K:W.Frag):R2:=λx y H Q=>∃ a k T i,x=.ref a/\y=.str k/\kW K a T/\(T.all λp=>KTD.plain p.2)=true/\KTD.datumAt k T=some (.flat (.int i))/\Q (.int i) H
theorem CS:IxR X (DC X.K):=by
 intro value slice pins s σ H x y v u Q I rx ry h hs;obtain ⟨a,k,T,i,ex,ey,t,hp,hd,q⟩:=h;subst ex ey;obtain ⟨tk,rfl⟩:=ry;cases rx;have hm:KTD.inKeys k T=true:=by rw [<- KTD.isSome_datumAt,hd];rfl
 refine KTD.item_textA (h₀:=s.heap) ⟨t _ I.Wa,λ_ _ e=>e⟩ hp hm ?_ hs
 exact each T hd λv hv=>by obtain ⟨t',rfl⟩:=PyProof.V.Flat.int_inv hv;exact ⟨.int i,H,I.tok _,⟨t',rfl⟩,q⟩
where
 each {h:Heap} {k:Str} {P:Value->Prop} {i:Int}:∀ (T:List (Str × KTD.Dat)),KTD.datumAt k T=some (.flat (.int i))->(∀ v,PyProof.V.Flat v (.int i)->P v)->KTD.EachL h k P T
  | [],hd,_=>by simp [KTD.datumAt] at hd
  | (x,d)::T,hd,hP=>by
   have hd':(if decide (k=x)=true then some d else KTD.datumAt k T)=some (.flat (.int i)):=hd
   by_cases hx:k=x
   ·rw [Ph (Pw hx)] at hd'
    cases hd'
    refine KTD.eachL_hit hx ?_
    exact opened hP
   ·rw [M1 (by simp [hx])] at hd'
    exact KTD.eachL_miss hx (each T hd' hP)
 opened {h:Heap} {P:Value->Prop} {i:Int} (hP:∀ v,PyProof.V.Flat v (.int i)->P v):KTD.Opened h P (.flat (.int i)):=by
  first
   | exact KTD.opened_int λt=>hP _ (PyProof.V.Flat.int i t)
   | exact λt=>hP _ (PyProof.V.Flat.int i t)
end
section
variable {K:W.Frag} {H H' H2:Hp}
variable {a:Addr} {xs:List V}
theorem SH.YB (e:SH H H') (h:Tg K H a xs):Tg K H' a xs:=by
 rcases h with (h | ⟨o,h⟩) | h
 ·exact .inl (.inl (e _ _ h))
 ·exact .inl (.inr ⟨o,e _ _ h⟩)
 ·exact .inr h
theorem SH.grow (e:SH H H'):gA K H H':=⟨λ_ _ h=>e.YB h,λ_ xs h=>⟨xs,e.seq h⟩⟩
theorem SH.dat {d:D} {v:V} (e:SH H H') (h:Dat K H d v):Dat K H' d v:=Dat.mono e.grow d h
theorem SH.SQ {ds:List D} {vs:List V} (e:SH H H') (h:SG K H ds vs):SG K H' ds vs:=SG.mono e.grow ds h
theorem aV {p:Addr} (h:H p=none) (o:HO):SH H (upd H p o):=λb u q=>by rw [aS (aU q h)];exact q
def S4 (t:Addr) (H H':Hp):Prop:=∀ b o,b≠t->H b=some o->H' b=some o
variable {t:Addr}
theorem SH.but (e:SH H H'):S4 t H H':=λb o _ h=>e b o h
theorem S4.trans (a:S4 t H H') (b:S4 t H' H2):S4 t H H2:=λc o n h=>b c o n (a c o n h)
theorem S4.upd {o:HO} (a:S4 t H H'):S4 t H (upd H' t o):=λb u n h=>by rw [aS n];exact a b u n h
variable {zs:List V}
theorem S4.YB (e:S4 t H H') (ht:H t=some (.lst zs)) (h:Tg K H a xs):Tg K H' a xs:=by
 rcases h with (h | ⟨o,h⟩) | h
 ·exact .inl (.inl (e _ _ (λz=>by rw [z,ht] at h;cases h) h))
 ·exact .inl (.inr ⟨o,e _ _ (λz=>by rw [z,ht] at h;cases h) h⟩)
 ·exact .inr h
theorem S4.WA (e:S4 t H H') (n:a≠t) (h:SO K H a xs):SO K H' a xs:=by
 rcases h with (h | ⟨o,h⟩) | h
 ·exact .inl (.inl (e _ _ n h))
 ·exact .inl (.inr ⟨o,e _ _ n h⟩)
 ·exact .inr h
theorem S4.grow {zs':List V} (e:S4 t H H') (ht:H t=some (.lst zs)) (ht':H' t=some (.lst zs')):gA K H H' :=
 ⟨λ_ _ h=>e.YB ht h,λa xs h=>by
  by_cases n:a=t
  ·subst n;exact ⟨zs',SO.of ht'⟩
  ·exact ⟨xs,e.WA n h⟩⟩
end
section
variable {K:W.Frag}
theorem CN (d:D):W.kitOne K (.type (tyD d)) (.type "int")=some (pB d "int"):=by cases d <;> rfl
theorem E2 (d:D):W.kitOne K (.type (tyD d)) (.type "bool")=some (pB d "bool"):=by cases d <;> rfl
theorem CO (d:D):W.kitOne K (.type (tyD d)) (.type "str")=some (pB d "str"):=by cases d <;> rfl
theorem ng (d:D):W.kitOne K (.type (tyD d)) (.type "tuple")=some (pB d "tuple"):=by cases d <;> rfl
theorem Af (d:D):W.kitOne K (.type (tyD d)) (.type "list")=some (pB d "list"):=by cases d <;> rfl
end
def Th (K:W.Frag) (R:List D->D->Prop):Sp:=λvs H Q _=>∃ ds d,SG K H ds vs/\R ds d/\∀ v H',SH H H'->Dat K H' d v->Q v H'
def kL (K:W.Frag) (R:List D->List D->Prop):Sp:=λvs H Q _=>∃ ds es,SG K H ds vs/\R ds es/\∀ r us H',SH H H'->H' r=some (.lst us)->H r=none->SG K H' es us->Q (.ref r) H'
variable {vs:List V}
theorem ji {a:D} (h:SG K H [a] vs):∃ u,vs=[u]/\Dat K H a u:=by obtain ⟨u,r,e,h1,h⟩:=h.Tq;have z:=h.VZ;subst z e;exact ⟨u,rfl,h1⟩
theorem i5 {a b:D} (h:SG K H [a,b] vs):∃ u v,vs=[u,v]/\Dat K H a u/\Dat K H b v:=by obtain ⟨u,r,e,h1,h⟩:=h.Tq;obtain ⟨v,q,h2⟩:=ji h;subst q e;exact ⟨u,v,rfl,h1,h2⟩
theorem sT {a b c:D} (h:SG K H [a,b,c] vs):∃ u v w,vs=[u,v,w]/\Dat K H a u/\Dat K H b v/\Dat K H c w:=by obtain ⟨u,r,e,h1,h⟩:=h.Tq;obtain ⟨v,w,q,h2⟩:=i5 h;subst q e;exact ⟨u,v,w,rfl,h1,h2⟩
variable {σ:St} {j:Nat}
theorem nO {z:Option V} {x:Option V}:(σ.set j z).set j x=σ.set j x:=by rw [List.set_set]
variable {J:It} {item:Nat->V} {te:TE} {σ0:St} {Q:VK}
theorem ql (Ok:Hp->Prop)
  (go:∀ i H',Ok H'->i < n->J.go i H'/\∀ x T3,J.Yd i H' x T3->T3=H'/\x=item i) (stop:∀ H',Ok H'->J.stop n H') (h0:σ0.set j none=σ0)
  (D:Addr) (Pn:Nat->Hp->Prop) (p0:Pn 0 (upd H1 D (.lst []))) (ok:∀ i H',i<=n->Pn i H'->Ok H')
  (turn:∀ i H',i < n->Pn i H'->te (σ0.set j (some (item i))) H' λv H4=>∃ ys,H4 D=some (.lst ys)/\ys.length < sizeLine/\(∃ z,σ0.set j (some (item i))=σ0.set j z)/\Pn (i+1) (upd H4 D (.lst (ys++[v]))))
  (fin:∀ H',Pn n H'->Q (.ref D) H') :
  ∃ W:Nat->Nat->St->Hp->Prop,(∃ m,W 0 m σ0 (upd H1 D (.lst [])))/\∀ i m σ' H',W i m σ' H' ->
   (J.stop i H'/\Q (.ref D) H') \/
   (J.go i H'/\∃ Nx:St->Hp->Prop,(∀ σ'' T3,Nx σ'' T3->∃ m',m' < m/\W (i+1) m' σ'' T3)/\∀ x T3,J.Yd i H' x T3->d6 j x σ' T3 λσ2 H2=>jc σ2 H2 λb H3 =>
    if b=true then te σ2 H3 λv H4=>∃ ys,H4 D=some (.lst ys)/\ys.length < sizeLine/\Nx σ2 (upd H4 D (.lst (ys++[v]))) else Nx σ2 H3):=by
 refine ⟨λi m σ' H'=>m=n - i/\i<=n/\(∃ z,σ'=σ0.set j z)/\Pn i H',⟨n,by omega,Qy _,⟨none,h0.symm⟩,p0⟩,?_⟩;rintro i m σ' H' ⟨rfl,hi,⟨z,rfl⟩,p⟩;have o:=ok i H' hi p;by_cases hlt:i < n
 ·obtain ⟨g,y⟩:=go i H' o hlt;refine .inr ⟨g,λσ'' T3=>(∃ z,σ''=σ0.set j z)/\Pn (i+1) T3,λσ'' T3 q=>⟨n - (i+1),by omega,rfl,hlt,q.1,q.2⟩,λx T3 yx=>?_⟩;obtain ⟨e1,e2⟩:=y x T3 yx;subst e1 e2;simp only [d6,jc,RM,nO];exact turn i _ hlt p
 ·have e:i=n:=by omega
  subst e;exact .inl ⟨stop H' o,fin H' p⟩
theorem Hm (i:Nat) (H':Hp) (h:Tg K H' a xs) (hi:i < xs.length):(Itt K a).go i H'/\∀ x T3,(Itt K a).Yd i H' x T3->T3=H'/\x=xs.getD i .SM:=by refine ⟨⟨xs,xs[i],h,Pe hi⟩,λx T3 y=>⟨y.1,?_⟩⟩;have q:=y.2 xs h;rw [PX,q];rfl
theorem uH (i:Nat) (H':Hp) (h:SO K H' a xs) (hi:i < xs.length):(Z1 K a).go i H'/\∀ x T3,(Z1 K a).Yd i H' x T3->T3=H'/\x=xs.getD i .SM:=by refine ⟨⟨xs,xs[i],h,Pe hi⟩,λx T3 y=>⟨y.1,?_⟩⟩;have q:=y.2 xs h;rw [PX,q];rfl
theorem Hl (i:Nat) (H':Hp) (hi:i < n):(Itr 0 n).go i H'/\∀ x T3,(Itr 0 n).Yd i H' x T3->T3=H'/\x=.int i:=by refine ⟨hi,λx T3 y=>⟨y.1,?_⟩⟩;have q:=y.2;rw [q];simp
section
variable {X:Cx}
def Jb (K:W.Frag):V->V->Hp->VK->Prop:=λo i H Q=>∃ p xs k v,o=.ref p/\i=.int k/\0<=k/\SO K H p xs/\xs[k.toNat]?=some v/\Q v H
theorem xg:ID X (Jb X.K):=by intro pins s σ H o i ov iv Q I r1 r2 h;obtain ⟨p,xs,k,v,eo,ei,h0,hq,he,q⟩:=h;subst eo ei;cases r1;obtain ⟨t,rfl⟩:=r2;obtain ⟨its,r,pl,hz⟩:=I.list hq;obtain ⟨w,ew,rw'⟩:=r.get he;have hl:=r.length;have hlt:k.toNat < xs.length:=(P1.mp he).1;have hn:=mR;exact wpAny_getItem_list pl.isList h0 (by omega) (by simpa using ew) ⟨v,H,I,rw',q⟩
theorem Fl:VU X (binaryOp .Mult) (rI IntMulOk λi j=>.int (i * j)):=opI λ_ _ _ _ _ _ _ hc q=>mul_int q hc
end
theorem uO (h:j < n):YK n (j:Int)=some j:=by unfold YK;rw [Ph (by omega),Ph (by omega)];simp
theorem at0 {α:Type} {x:α} {r:List α}:YX (x::r) 0=some x:=jT (j:=0) rfl
theorem at1 {α:Type} {x y:α} {r:List α}:YX (x::y::r) 1=some y:=jT (j:=1) rfl
theorem at2 {α:Type} {x y z:α} {r:List α}:YX (x::y::z::r) 2=some z:=jT (j:=2) rfl
theorem ix0:YK (n+1) 0=some 0:=uO (j:=0) (by omega)
theorem ix1:YK (n+2) 1=some 1:=uO (j:=1) (by omega)
theorem ix2:YK (n+3) 2=some 2:=uO (j:=2) (by omega)
theorem dN:∀ ns:List Int,SG K H (ns.map D.int) (ns.map V.int)
 | []=>SG.nil
 | n::ns=>SG.cons (Dat.SK n) (dN ns)
theorem jy:∀ ns:List Int,Ti (ns.map D.int)=true
 | []=>by unfold Ti;rfl
 | n::ns=>by show Ti (D.int n::ns.map D.int)=true;unfold Ti;rw [jy ns];unfold UK;rfl
theorem i6:∀ ns:List Int,SW (ns.map D.int)=0
 | []=>by unfold SW;rfl
 | n::ns=>by show SW (D.int n::ns.map D.int)=0;unfold SW;rw [i6 ns];unfold gT;rfl
theorem qt (ns:List Int):Td (ns.map D.int) []=ns.isEmpty:=by
 cases ns with
 | nil=>unfold Td;rfl
 | cons n ns=>show Td (D.int n::ns.map D.int) []=false;unfold Td;rfl
theorem dB (h:n<=1000):n<=sizeLine:=QM (cM h)
def Yu (K:W.Frag) (H:Hp) (a:Addr) (ns:List Int):Prop:=(∃ o,H a=some (.Zo o (.lst (ns.map V.int)))) \/
 ∃ (o:Obj) (its:Array Value) (n:Nat),K.lookup a=some o/\o.cls=.type "list"/\o.dict=none/\o.data=.seq its n/\its.size<=sizeLine/\Vals (ns.map V.int) its.toList
theorem Yu.WA (h:Yu K H a ns):SO K H a (ns.map V.int):=by
 rcases h with ⟨o,h⟩ | h
 ·exact .inl (.inr ⟨o,h⟩)
 ·exact .inr h
theorem Yu.but {t:Addr} {zs:List V} (h:Yu K H a ns) (e:S4 t H H') (ht:H t=some (.lst zs)):Yu K H' a ns:=by
 rcases h with ⟨o,h⟩ | h
 ·exact .inl ⟨o,e _ _ (λz=>by rw [z,ht] at h;cases h) h⟩
 ·exact .inr h
theorem Yu.same (h:Yu K H a ns) (e:SH H H'):Yu K H' a ns:=by
 rcases h with ⟨o,h⟩ | h
 ·exact .inl ⟨o,e _ _ h⟩
 ·exact .inr h
theorem Ik (hO:Ey H) (h:SO K H a (ns.map V.int)):Yu K H a ns:=by
 rcases h with (h | ⟨o,h⟩) | h
 ·rcases hO a with z | ⟨o,xs,z⟩
  ·rw [h] at z;cases z
  ·rw [h] at z;cases z
 ·exact .inl ⟨o,h⟩
 ·exact .inr h
def rN (K:W.Frag):Sp:=λvs H Q _=>∃ (a t:Addr) (ns:List Int) (m p q:Int) (rest:List V),vs=[.ref a,.ref t,.int m]/\Yu K H a ns/\H t=some (.lst (.int p::.int q::rest))/\0<=p/\0 < m/\m<=1000000 /\
 ∀ (r:Int) (H':Hp) (p' q':Int),S4 t H H'->H' t=some (.lst (.int p'::.int q'::rest))->0<=p'->0<=r->r < m->Q (.int r) H'
def RE (K:W.Frag) (t:TE) (σ:St) (H:Hp) (d:D):Prop:=∀ H1,SH H H1->∀ Q:VK,(∀ v H',SH H1 H'->Dat K H' d v->Q v H')->t σ H1 Q
def RT (t:TT) (σ:St) (H:Hp) (b:Bool):Prop:=∀ H1,SH H H1->∀ Q:Bool->Hp->Prop,(∀ H',SH H1 H'->Q b H')->t σ H1 Q
def RA (K:W.Frag) (t:TA) (σ:St) (H:Hp) (ds:List D):Prop:=∀ H1,SH H H1->∀ Q:List V->Hp->Prop,(∀ vs H',SH H1 H'->SG K H' ds vs->Q vs H')->t σ H1 Q
section
variable {K:W.Frag} {σ:St} {H H':Hp} {d d':D} {ds:List D} {t u ta tb:TE} {tt uu:TT} {tA:TA} {i j:Int} {b c:Bool}
theorem RE.mono (h:RE K t σ H d) (e:SH H H'):RE K t σ H' d:=λH1 s Q q=>h H1 (e.trans s) Q q
theorem RA.mono (h:RA K tA σ H ds) (e:SH H H'):RA K tA σ H' ds:=λH1 s Q q=>h H1 (e.trans s) Q q
theorem RE.as (h:RE K t σ H d) (e:d=d'):RE K t σ H d':=e ▸ h
theorem RT.as (h:RT tt σ H b) (e:b=c):RT tt σ H c:=e ▸ h
theorem RE.use {Q:VK} (h:RE K t σ H d) (q:∀ v H',SH H H'->Dat K H' d v->Q v H'):t σ H Q:=h H (SH.refl H) Q q
theorem RT.use {Q:Bool->Hp->Prop} (h:RT tt σ H b) (q:∀ H',SH H H'->Q b H'):tt σ H Q:=h H (SH.refl H) Q q
theorem RA.use {Q:List V->Hp->Prop} (h:RA K tA σ H ds) (q:∀ vs H',SH H H'->SG K H' ds vs->Q vs H'):tA σ H Q:=h H (SH.refl H) Q q
theorem aG:RE K (tC (.int i)) σ H (.int i):=λH1 _ Q q=>q _ _ (SH.refl _) (Dat.SK i)
variable {x:Str}
theorem aL:RE K (tC (.str x)) σ H (.str x):=λH1 _ Q q=>q _ _ (SH.refl _) (Dat.Tf x)
theorem f7:RE K (tC (.bl b)) σ H (.bl b):=λH1 _ Q q=>q _ _ (SH.refl _) (Dat.VW b)
theorem DQ:RE K (tC .SM) σ H .SM:=λH1 _ Q q=>q _ _ (SH.refl _) Dat.X5
theorem aA {k:Nat} {v:V} (h:Dat K H d v) (e:σ[k]?=some (some v):=by rfl):RE K (fT k) σ H d:=λH1 s Q q=>⟨v,e,q _ _ (SH.refl _) (s.dat h)⟩
theorem aM:RA K dW σ H []:=λH1 _ Q q=>q _ _ (SH.refl _) SG.nil
theorem aB (h:RE K t σ H d) (r:RA K tA σ H ds):RA K (bW t tA) σ H (d::ds):=λH1 s Q q =>
 h H1 s _ λv H2 s2 q2=>r H2 (s.trans s2) _ λvs H3 s3 q3=>q _ _ (s2.trans s3) (SG.cons (s3.dat q2) q3)
theorem bF (h:RA K tA σ H ds) (hl:ds.length<=1000:=by simp):RE K (zB tA) σ H (.tup ds):=λH1 s Q q =>
 h H1 s _ λvs H2 s2 q2=>⟨by rw [<- q2.length];exact dB hl,λp hp=>q _ _ (s2.trans (aV hp _)) (Dat.tupI (Tg.of aI) ((aV hp _).SQ q2))⟩
theorem AH {g:Int->Int} (h:RE K t σ H (.int i)):RE K (tUn (rU λi=>.int (g i)) t) σ H (.int (g i)):=λH1 s Q q =>
 h H1 s _ λv H2 s2 q2=>⟨i,q2.SN,q _ _ s2 (Dat.SK _)⟩
variable {g:Int->Int->V}
theorem zk (h1:RE K ta σ H (.int i)) (h2:RE K tb σ H (.int j)) (hd:∀ H,Dat K H d (g i j)):RE K (VE (YV g) ta tb) σ H d:=λH1 s Q q =>
 h1 H1 s _ λv H2 s2 q2=>h2 H2 (s.trans s2) _ λw H3 s3 q3=>⟨i,j,q2.SN,q3.SN,q _ _ (s2.trans s3) (hd _)⟩
theorem zl {C:Int->Int->Prop} (h1:RE K ta σ H (.int i)) (h2:RE K tb σ H (.int j)) (hc:C i j) (hd:∀ H,Dat K H d (g i j)):RE K (VE (rI C g) ta tb) σ H d:=λH1 s Q q =>
 h1 H1 s _ λv H2 s2 q2=>h2 H2 (s.trans s2) _ λw H3 s3 q3=>⟨i,j,q2.SN,q3.SN,hc,q _ _ (s2.trans s3) (hd _)⟩
theorem c8 (h1:RE K ta σ H (.int i)) (h2:RE K tb σ H (.int j)):RE K (VE (YV λi j=>.int (i+j)) ta tb) σ H (.int (i+j)):=zk h1 h2 λ_=>Dat.SK _
theorem vN (h1:RE K ta σ H (.int i)) (h2:RE K tb σ H (.int j)):RE K (VE (YV λi j=>.int (i - j)) ta tb) σ H (.int (i - j)):=zk h1 h2 λ_=>Dat.SK _
variable {p:Int->Int->Bool}
theorem cQ (h1:RE K ta σ H (.int i)) (h2:RE K tb σ H (.int j)):RE K (VE (YV λi j=>.bl (p i j)) ta tb) σ H (.bl (p i j)):=zk h1 h2 λ_=>Dat.VW _
theorem mV (h1:RE K ta σ H (.int i)) (h2:RE K tb σ H (.int j)):RE K (VE rEq ta tb) σ H (.bl (decide (i=j))):=λH1 s Q q =>
 h1 H1 s _ λv H2 s2 q2=>h2 H2 (s.trans s2) _ λw H3 s3 q3=>by
  rw [q2.SN,q3.SN];refine ⟨rfl,?_⟩;have e:decide (V.int i=V.int j)=decide (i=j):=by by_cases z:i=j <;> simp [z]
  rw [e];exact q _ _ (s2.trans s3) (Dat.VW _)
theorem kI (h1:RE K ta σ H (.int i)) (h2:RE K tb σ H (.int j)):RE K (VE rNe ta tb) σ H (.bl (!decide (i=j))):=λH1 s Q q =>
 h1 H1 s _ λv H2 s2 q2=>h2 H2 (s.trans s2) _ λw H3 s3 q3=>by
  rw [q2.SN,q3.SN];refine ⟨rfl,?_⟩;have e:decide (V.int i=V.int j)=decide (i=j):=by by_cases z:i=j <;> simp [z]
  rw [e];exact q _ _ (s2.trans s3) (Dat.VW _)
theorem bI {y:Str} (h1:RE K ta σ H (.str x)) (h2:RE K tb σ H (.str y)):RE K (VE rEq ta tb) σ H (.bl (decide (x=y))):=λH1 s Q q =>
 h1 H1 s _ λv H2 s2 q2=>h2 H2 (s.trans s2) _ λw H3 s3 q3=>by
  rw [q2.S3,q3.S3];refine ⟨rfl,?_⟩;have e:decide (V.str x=V.str y)=decide (x=y):=by by_cases z:x=y <;> simp [z]
  rw [e];exact q _ _ (s2.trans s3) (Dat.VW _)
theorem BE (h1:RE K ta σ H (.bl b)) (h2:RE K tb σ H (.bl c)):RE K (VE (λx y H Q=>∃ a b,x=.bl a/\y=.bl b/\Q (.bl (a != b)) H) ta tb) σ H (.bl (b != c)):=λH1 s Q q =>
 h1 H1 s _ λv H2 s2 q2=>h2 H2 (s.trans s2) _ λw H3 s3 q3=>⟨b,c,q2.VX,q3.VX,q _ _ (s2.trans s3) (Dat.VW _)⟩
theorem a6 {k:Nat} (h1:RE K ta σ H (.tup ds)) (h2:RE K tb σ H (.int k)) (e:ds[k]?=some d):RE K (VE (sD K) ta tb) σ H d:=λH1 s Q q =>
 h1 H1 s _ λv H2 s2 q2=>h2 H2 (s.trans s2) _ λw H3 s3 q3=>by obtain ⟨a,vs,ev,hq,hd⟩:=(s3.dat q2).S7;obtain ⟨x,ex,hx⟩:=hd.get e;exact ⟨a,vs,k,x,ev,q3.SN,hq,jT ex,q _ _ (s2.trans s3) hx⟩
theorem fL (h:RE K t σ H (.tup ds)):RE K (Xy (λxs H Q=>∃ p ys,xs=[.ref p]/\(SO K H p ys\/Tg K H p ys)/\Q (.int ys.length) H) (bW t dW)) σ H (.int ds.length):=λH1 s Q q =>
 h H1 s _ λv H2 s2 q2=>by obtain ⟨a,vs,ev,hq,hd⟩:=q2.S7;subst ev;refine ⟨a,vs,rfl,.inr hq,?_⟩;rw [<- hd.length];exact q _ _ s2 (Dat.SK _)
theorem dC {T:String} (h:RE K t σ H d):RE K (Xy (λxs H Q=>∃ x d,xs=[x,.ty T]/\Dat K H d x/\Q (.bl (pB d T)) H) (bW t (bW (tC (.ty T)) dW))) σ H (.bl (pB d T)):=λH1 s Q q =>
 h H1 s _ λv H2 s2 q2=>⟨v,d,rfl,q2,q _ _ s2 (Dat.VW _)⟩
theorem bM {R:List D->D->Prop} {E:XK} (h:RA K tA σ H ds) (e:R ds d):RE K (kr (Th K R) [] E tA) σ H d:=λH1 s Q q =>
 h H1 s _ λvs H2 s2 q2=>⟨ds,d,by rw [PM];exact q2,e,λv H3 s3 q3=>q _ _ (s2.trans s3) q3⟩
variable {a:Addr} {T:List (Str × KTD.Dat)}
theorem i9 {k:Str} (h:RE K t σ H (.str k)) (ht:kW K a T):RE K (VE (λx y H Q=>∃ k a T,x=.str k/\y=.ref a/\kW K a T/\Q (.bl (KTD.inKeys k T)) H) t (tC (.ref a))) σ H (.bl (KTD.inKeys k T)):=λH1 s Q q =>
 h H1 s _ λv H2 s2 q2=>⟨k,a,T,q2.S3,rfl,ht,q _ _ s2 (Dat.VW _)⟩
theorem xS {k:Str} (h:RE K t σ H (.str k)) (ht:kW K a T) (hp:(T.all λp=>KTD.plain p.2)=true) (e:KTD.datumAt k T=some (.flat (.int i))):RE K (VE (DC K) (tC (.ref a)) t) σ H (.int i):=λH1 s Q q =>
 h H1 s _ λv H2 s2 q2=>⟨a,k,T,i,rfl,q2.S3,ht,hp,e,q _ _ s2 (Dat.SK _)⟩
theorem Jn {n:Nat}:HT.Uo (n+1) 0 (some 1)=1:=by have:=HT.Xz (n+1) 0 1;simpa using this
theorem JG (v:V) (r:List V):sf (v::r) (some 1) none=r:=by unfold sf;rw [Pp,Jn,HT.Zs];simp
theorem mh (h:RE K t σ H (.tup (d'::ds))):RE K (tSl (HX K) t (uc (tC (.int 1))) AQ) σ H (.tup ds):=λH1 s Q q =>
 h H1 s _ λv H2 s2 q2=>by
  obtain ⟨a,vs,ev,hq,hd⟩:=q2.S7;obtain ⟨w,r,er,h1,h2⟩:=hd.Tq;subst ev er;refine ⟨1,rfl,a,w::r,rfl,hq,λz=>?_,λp hp=>?_⟩
  ·rw [Pp,Jn] at z;exact absurd z.1 (by decide)
  ·rw [JG];exact q _ _ (s2.trans (aV hp _)) (Dat.tupI (Tg.of aI) ((aV hp _).SQ h2))
theorem eT (h1:RE K ta σ H (.bl b)) (h2:b=true->RE K tb σ H (.bl c)):RE K (D9 ta tb) σ H (.bl (b && c)):=λH1 s Q q =>
 h1 H1 s _ λv H2 s2 q2=>⟨b,q2.VX,by
  cases b with
  | true=>rw [Ph rfl];exact h2 rfl H2 (s.trans s2) _ λw H3 s3 q3=>q _ _ (s2.trans s3) q3
  | false=>rw [M1 Pk];exact q _ _ s2 (Dat.VW _)⟩
theorem AG (h1:RE K ta σ H (.bl b)) (h2:b=false->RE K tb σ H (.bl c)):RE K (Jv ta tb) σ H (.bl (b || c)):=λH1 s Q q =>
 h1 H1 s _ λv H2 s2 q2=>⟨b,q2.VX,by
  cases b with
  | true=>rw [Ph rfl];exact q _ _ s2 (Dat.VW _)
  | false=>rw [M1 Pk];exact h2 rfl H2 (s.trans s2) _ λw H3 s3 q3=>q _ _ (s2.trans s3) q3⟩
theorem DR (h:RE K t σ H (.bl b)):RE K (GD t) σ H (.bl (!b)):=λH1 s Q q =>
 h H1 s _ λv H2 s2 q2=>⟨b,q2.VX,q _ _ s2 (Dat.VW _)⟩
theorem lK {r:Int->Int->Bool} {k:Int} {tc:TE} (h1:RE K ta σ H (.int i)) (h2:RE K tb σ H (.int j)) (h3:p i j=true->RE K tc σ H (.int k)) :
  RE K (wj (YV λi j=>.bl (p i j)) (YV λi j=>.bl (r i j)) ta tb tc) σ H (.bl (p i j && r j k)):=λH1 s Q q =>
 h1 H1 s _ λv H2 s2 q2=>h2 H2 (s.trans s2) _ λw H3 s3 q3=>by
  refine ⟨i,j,q2.SN,q3.SN,p i j,rfl,?_⟩
  cases hp:p i j with
  | true =>simp only [RM,QH];exact h3 hp H3 (s.trans (s2.trans s3)) _ λz H4 s4 q4=>⟨j,k,q3.SN,q4.SN,q _ _ (s2.trans (s3.trans s4)) (by rw [hp];exact Dat.VW _)⟩
  | false =>simp only [Sq,Sz,Rl];exact q _ _ (s2.trans s3) (by rw [hp];exact Dat.VW _)
theorem mC (h:RT tt σ H b) (h1:b=true->RE K ta σ H d) (h2:b=false->RE K tb σ H d):RE K (tIf tt ta tb) σ H d:=λH1 s Q q =>
 h H1 s _ λH2 s2=>by
  cases b with
  | true=>rw [Ph rfl];exact h1 rfl H2 (s.trans s2) _ λw H3 s3 q3=>q _ _ (s2.trans s3) q3
  | false=>rw [M1 Pk];exact h2 rfl H2 (s.trans s2) _ λw H3 s3 q3=>q _ _ (s2.trans s3) q3
theorem aJ (h:RE K t σ H (.bl b)):RT (Ed t) σ H b:=λH1 s Q q=>h H1 s _ λv H2 s2 q2=>⟨b,q2.VX,q _ s2⟩
theorem bO (h:RE K t σ H (.bl b)):RT (λσ H Q=>t σ H λx H'=>∃ k,yn K x H' k/\Q k H') σ H b:=λH1 s Q q=>h H1 s _ λv H2 s2 q2=>by rw [q2.VX];exact ⟨b,rfl,q _ s2⟩
theorem bZ (h:RT tt σ H b):RT (Ir tt) σ H (!b):=λH1 s Q q=>h H1 s _ λH2 s2=>q _ s2
theorem vV (h:RT tt σ H b) (h2:b=true->RT uu σ H c):RT (Jq tt uu) σ H (b && c):=λH1 s Q q=>h H1 s _ λH2 s2=>by
 cases b with
 | true=>rw [Ph rfl];exact h2 rfl H2 (s.trans s2) _ λH3 s3=>q _ (s2.trans s3)
 | false=>rw [M1 Pk];exact q _ s2
theorem dP (h:RT tt σ H b) (h2:b=false->RT uu σ H c):RT (tOr tt uu) σ H (b || c):=λH1 s Q q=>h H1 s _ λH2 s2=>by
 cases b with
 | true=>rw [Ph rfl];exact q _ s2
 | false=>rw [M1 Pk];exact h2 rfl H2 (s.trans s2) _ λH3 s3=>q _ (s2.trans s3)
variable {En:kx}
theorem bJ (h:RE K t σ H d) (q:∀ v H',SH H H'->Dat K H' d v->En.rt v H'):Ec t En σ H:=h.use q
theorem Ii {k:Nat} (h:RE K t σ H d) (q:∀ v H',SH H H'->Dat K H' d v->En.nx (σ.set k (some v)) H'):rQ t (d6 k) En σ H:=h.use q
theorem jk {ts us:TS} (h:RT tt σ H b) (h1:b=true->∀ H',SH H H'->ts En σ H') (h2:b=false->∀ H',SH H H'->us En σ H'):F2 tt ts us En σ H:=h.use λH' s=>by
 cases b with
 | true=>rw [Ph rfl];exact h1 rfl H' s
 | false=>rw [M1 Pk];exact h2 rfl H' s
end
theorem bU:bootBuiltins "len"=some (.builtin "len"):=by decide +kernel
theorem cY:bootBuiltins "isinstance"=some (.builtin "isinstance"):=by decide +kernel
theorem mN:bootBuiltins "all"=some (.builtin "all"):=by decide +kernel
theorem GZ:bootBuiltins "any"=some (.builtin "any"):=by decide +kernel
theorem yr:bootBuiltins "sum"=some (.builtin "sum"):=by decide +kernel
theorem Ha:bootBuiltins "min"=some (.builtin "min"):=by decide +kernel
theorem Cg:bootBuiltins "int"=some (.type "int"):=by decide +kernel
theorem EG:bootBuiltins "bool"=some (.type "bool"):=by decide +kernel
theorem Cj:bootBuiltins "str"=some (.type "str"):=by decide +kernel
theorem fP:bootBuiltins "tuple"=some (.type "tuple"):=by decide +kernel
theorem pK:bootBuiltins "list"=some (.type "list"):=by decide +kernel
theorem Ci:bootBuiltins "range"=some (.type "range"):=by decide +kernel
theorem Hb:bootBuiltins "set"=some (.type "set"):=by decide +kernel
theorem uk:bootBuiltins "enumerate"=some (.type "enumerate"):=by decide +kernel
theorem Hc:bootBuiltins "zip"=some (.type "zip"):=by decide +kernel
theorem oR:bootBuiltins "reversed"=some (.type "reversed"):=by decide +kernel
variable {tA:TA} {ds:List D}
theorem zo (h:RA K tA σ H ds) (q:∀ p vs H1,SH H H1->H1 p=none->SG K H1 ds vs->Q (.ref p) (upd H1 p (.lst vs))) (hl:ds.length<=1000:=by simp):wm tA σ H Q :=
 h.use λvs H1 s1 q1=>⟨by rw [<- q1.length];exact dB hl,λp hp=>q p vs H1 s1 hp q1⟩
theorem kg {K:PySem.W.Frag} (go:∀ i H',SH H1 H'->i < n->J.go i H'/\∀ x T3,J.Yd i H' x T3->T3=H'/\x=item i) (stop:∀ H',SH H1 H'->J.stop n H')
  (h0:σ0.set j none=σ0) (es:List D) (hn:es.length=n) (hb:n<=1000) (turn:∀ i d,es[i]?=some d->RE K te (σ0.set j (some (item i))) H1 d)
  (fin:∀ l ys H',H1 l=none->SH H1 H'->H' l=some (.lst ys)->SG K H' es ys->Q (.ref l) H') (l:Addr) (hl:H1 l=none) :
  ∃ W:Nat->Nat->St->Hp->Prop,(∃ m,W 0 m σ0 (upd H1 l (.lst [])))/\∀ i m σ' H',W i m σ' H' ->
   (J.stop i H'/\Q (.ref l) H') \/
   (J.go i H'/\∃ Nx:St->Hp->Prop,(∀ σ'' T3,Nx σ'' T3->∃ m',m' < m/\W (i+1) m' σ'' T3)/\∀ x T3,J.Yd i H' x T3->d6 j x σ' T3 λσ2 H2=>jc σ2 H2 λb H3 =>
    if b=true then te σ2 H3 λv H4=>∃ ys,H4 l=some (.lst ys)/\ys.length < sizeLine/\Nx σ2 (upd H4 l (.lst (ys++[v]))) else Nx σ2 H3):=by
 refine ql (λH'=>SH H1 H') go stop h0 l (λi H'=>SH H1 H'/\∃ ys,H' l=some (.lst ys)/\SG K H' (es.take i) ys) ?_ ?_ ?_ ?_
 ·exact ⟨aV hl _,[],aI,by rw [QU];exact SG.nil⟩
 ·intro i H' _ p;exact p.1
 ·intro i H' hi ⟨s1,ys,hy,hd⟩;have hi':i < es.length:=by omega
  refine ((turn i es[i] (Pe hi')).mono s1).use λv H4 s4 q4=>?_;have Yh:=s4 _ _ hy;have lys:ys.length=i:=by rw [<- hd.length,Qe];omega
  refine ⟨ys,Yh,cM (by omega),⟨_,rfl⟩,λb o hb=>?_,ys++[v],aI,?_⟩
  ·rw [aS (aU hb hl)];exact s4 _ _ (s1 _ _ hb)
  ·have g:gA K H4 (upd H4 l (.lst (ys++[v]))):=S4.grow (t:=l) (S4.upd (SH.refl H4).but) Yh aI;rw [Qo,Pe hi'];exact SG.append (SG.mono g _ (s4.SQ hd)) (SG.cons (Dat.mono g _ q4) SG.nil)
 ·intro H' ⟨s1,ys,hy,hd⟩;rw [Rw (by omega)] at hd;exact fin l ys H' hl s1 hy hd
variable {tt:TT} {En:kx} {ts us:TS}
theorem aR {K:W.Frag} {b:Bool} (h:RT tt σ H b) (h1:b=true->∀ H',SH H H'->ts { En with nx:=us En } σ H') (h2:b=false->∀ H',SH H H'->us En σ H'):lX (F2 tt ts AO) us En σ H :=
 jk h h1 h2
variable {d:D}
theorem eJ {t:TE} {k:Nat} (h:RE K t σ H d) (q:∀ v H',SH H H'->Dat K H' d v->us En (σ.set k (some v)) H'):lX (rQ t (d6 k)) us En σ H:=h.use q
theorem fR {k:Nat} (h:te σ H λx H1=>us En (σ.set k (some x)) H1):lX (rQ te (d6 k)) us En σ H:=h
theorem jf (h:te σ H λ_ H1=>us En σ H1):lX (rR te) us En σ H:=h
variable {v:V}
theorem DX (h:Q v H):tC v σ H Q:=h
theorem jO (h:te σ H En.rt):Ec te En σ H:=h
theorem eB (h:ts { En with nx:=us En } σ H):lX ts us En σ H:=h
variable {tl:TE} {mk:St->St}
theorem oB {cs:List D} (h:RE K tl σ H (.tup cs)) (hc:cs.length<=1000) (es:List D) (hl:es.length=cs.length) (h0:(mk σ).set j none=mk σ)
  (turn:∀ H1 (i:Nat) c v d,SH H H1->cs[i]?=some c->es[i]?=some d->Dat K H1 c v->RE K te ((mk σ).set j (some v)) H1 d)
  (fin:∀ l ys H',H l=none->SH H H'->H' l=some (.lst ys)->SG K H' es ys->Q (.ref l) H'):jP (E3 K tl) mk (d6 j) jc te σ H Q:=by
 refine h.use λv4 H4 s4 q4=>?_;obtain ⟨a,vs,e,hq,hd⟩:=q4.S7;subst e;have l4:=hd.length;refine ⟨a,rfl,⟨vs,hq⟩,?_⟩;refine kg (K:=K) (Q:=Q) (n:=vs.length) (item:=λi=>vs.getD i .SM) (λi H' s hi=>Hm i H' (s.YB hq) hi) (λH' s=>⟨vs,s.YB hq,Pq _⟩) h0 es (by omega) (by omega) (λi d hi=>?_) (λl ys H5 YC s5=>fin l ys H5 (s4.free YC) (s4.trans s5));have hi':i < es.length:=(P1.mp hi).1;have hic:i < cs.length:=by omega
 obtain ⟨vz,ez,hz⟩:=hd.get (Pe hic);have q:=turn H4 i cs[i] vz d s4 (Pe hic) hi hz;rw [PX,ez];exact q
theorem kJ {Q:St->Hp->Prop} (h:Q (σ.set j (some v)) H):d6 j v σ H Q:=h
theorem pR (M:St->Hp->Prop) (hr:∀ σ' H',M σ' H'->us En σ' H') (h:(∀ σ' H',M σ' H'->us En σ' H')->ts { En with nx:=us En } σ H):lX ts us En σ H:=h hr
theorem iz {base:Heap} {k:Nat} {f:Addr} {ps:List Str} (no:∀ vs H Q E,¬ sp vs H Q E):Tc P w K mg base CX k f fd ps sp :=
 ⟨λvs H Q E h=>absurd h (no vs H Q E),λA outer s H args us vs Q E _ _ _ _ h=>absurd h (no vs H Q E)⟩
theorem rp (n:Nat) (h:∀ R:List V->Hp->Prop,R [.int n] H->tA σ H R) (hc:n<=1000) (h0:(mk σ).set j none=mk σ) (Pn:Addr->Nat->Hp->Prop)
  (p0:∀ l,H l=none->Pn l 0 (upd H l (.lst [])))
  (turn:∀ l i G,H l=none->i < n->Pn l i G->te ((mk σ).set j (some (.int i))) G λv H4=>∃ ys,H4 l=some (.lst ys)/\ys.length < sizeLine/\(∃ z,(mk σ).set j (some (.int i))=(mk σ).set j z)/\Pn l (i+1) (upd H4 l (.lst (ys++[v]))))
  (fin:∀ l G,H l=none->Pn l n G->Q (.ref l) G):jP (Gi tA) mk (d6 j) jc te σ H Q:=by
 refine h _ ⟨n,rfl,by omega,by omega,λl hl=>?_⟩;rw [RV];exact ql (λ_=>True) (item:=λi=>.int i) (λi H' _ hi=>Hl i H' hi) (λH' _=>Pq _) h0 l (Pn l) (p0 l hl) (λ_ _ _ _=>trivial) (λi G hi p=>turn l i G hl hi p) (λG p=>fin l G hl p)
theorem iL {ta:TE} {r:List V->Hp->VK->Prop} (h:ta σ H λx H1=>r [x] H1 Q):Xy r (bW ta dW) σ H Q:=h
variable {i:Nat}
theorem DV {e:D} (h:RA K tA σ H [d,e]) (q:∀ v w H',SH H H'->Dat K H' d v->Dat K H' e w->us En ((σ.set i (some v)).set j (some w)) H'):lX (Iu i j tA) us En σ H :=
 h.use λvs H1 s1 q1=>by obtain ⟨v,w,e,hv,hw⟩:=i5 q1;exact ⟨v,w,e,q v w H1 s1 hv hw⟩
theorem jX {e:D} (h:RE K te σ H (.tup [d,e])) (q:∀ v w H',SH H H'->Dat K H' d v->Dat K H' e w->us En ((σ.set i (some v)).set j (some w)) H') :
  lX (rQ te (A7 K 2 (mw (d6 i) (mw (d6 j) CD)))) us En σ H :=
 h.use λx H1 s1 q1=>by obtain ⟨a,vs,e1,hq,hd⟩:=q1.S7;obtain ⟨v,w,e2,hv,hw⟩:=i5 hd;subst e1 e2;exact ⟨a,_,rfl,hq,rfl,v,_,rfl,w,_,rfl,rfl,q v w H1 s1 hv hw⟩
noncomputable def Gk:Expr->Bool
 | .Starred ..=>false
 | _=>true
variable {e:Expr} {es:List Expr}
theorem BN (h:Gk e=true):starEach (e::es) env=(false,eval e env)::starEach es env:=by cases e <;> first | rfl | cases h
variable {t:TA}
theorem aD (ha:PE X e te) (hr:PA X es t) (h:Gk e=true:=by rfl):PA X (e::es) (bW te t):=dE ha hr (BN h)
theorem rW {bs:List Bool} {us:List Value}:Vals (bs.map V.bl) us->us=bs.map Value.bool:=by
 intro h
 induction bs generalizing us with
 | nil=>cases h;rfl
 | cons b bs ih =>
  cases h with
  | cons r t=>cases r;rw [ih t];rfl
theorem DK (bs:List Bool) (d:Bool):(List.range bs.length).map (λi=>(bs[i]?).getD d)=bs:=by
 apply List.ext_getElem
 ·simp
 ·intro i h1 h2;simp at h1;simp [h1]
section
variable {X:Cx}
theorem jC (hc:X.calm=true):jz X (.builtin "all") (λxs H Q=>∃ (l:Addr) (bs:List Bool),xs=[.ref l]/\SO X.K H l (bs.map V.bl)/\Q (.bl (bs.all id)) H):=by
 intro pins s σ H xs us Q I r h;obtain ⟨l,bs,rfl,hq,q⟩:=h;obtain ⟨u,rfl,ru⟩:=jd r;cases ru;obtain ⟨its,rv,p,hz⟩:=I.list hq;have ei:=rW rv;have hl:=p.isList;have hlt:l < s.heap.objs.size:=by obtain ⟨_,e,_⟩:=hl;exact PF e
 refine call_all_walk (Rj hl ?_)
 refine ⟨s.heap.objs.size,[s.heap.objs.size,l],[s.heap.objs.size],its.toArray.size,_,_,λi=>(bs[i]?).getD true,rfl,Walks.list (A:=X.A.in1) (I.ok.hd hc) _ l (Qc hlt) its.toArray,
  ⟨⟨_,P4 _ rfl,rfl,rfl⟩,hl.push _⟩,λi v s' Q' E' hP hQ=>?_,λh' tk hk=>?_⟩
 ·subst ei;have Zv:(bs.map Value.bool)[i]?=some v:=by simpa using hP
  rw [Pr] at Zv
  cases hb:bs[i]? with
  | none=>rw [hb] at Zv;cases Zv
  | some b =>rw [hb] at Zv;cases Zv;simp only [hb,Option.getD_some] at hQ;exact QB hQ
 ·have e:((List.range its.toArray.size).all λi=>(bs[i]?).getD true)=bs.all id:=by
   subst ei;rw [Pz,Pd]
   conv=>rhs;rw [<- DK bs true]
   rw [List.all_map];rfl
  rw [e];exact ⟨.bl _,H,I.kept (t':=tk) λb x e=>hk b x (λhm=>by rw [PN.mp hm] at e;exact QO _ (PF e)) (Pf _ e),rfl,q⟩
theorem Co (hc:X.calm=true):jz X (.builtin "any") (λxs H Q=>∃ (l:Addr) (bs:List Bool),xs=[.ref l]/\SO X.K H l (bs.map V.bl)/\Q (.bl (bs.any id)) H):=by
 intro pins s σ H xs us Q I r h;obtain ⟨l,bs,rfl,hq,q⟩:=h;obtain ⟨u,rfl,ru⟩:=jd r;cases ru;obtain ⟨its,rv,p,hz⟩:=I.list hq;have ei:=rW rv;have hl:=p.isList;have hlt:l < s.heap.objs.size:=by obtain ⟨_,e,_⟩:=hl;exact PF e
 refine call_any_walk (Rj hl ?_)
 refine ⟨s.heap.objs.size,[s.heap.objs.size,l],[s.heap.objs.size],its.toArray.size,_,_,λi=>(bs[i]?).getD false,rfl,Walks.list (A:=X.A.in1) (I.ok.hd hc) _ l (Qc hlt) its.toArray,
  ⟨⟨_,P4 _ rfl,rfl,rfl⟩,hl.push _⟩,λi v s' Q' E' hP hQ=>?_,λh' tk hk=>?_⟩
 ·subst ei;have Zv:(bs.map Value.bool)[i]?=some v:=by simpa using hP
  rw [Pr] at Zv
  cases hb:bs[i]? with
  | none=>rw [hb] at Zv;cases Zv
  | some b =>rw [hb] at Zv;cases Zv;simp only [hb,Option.getD_some] at hQ;exact QB hQ
 ·have e:((List.range its.toArray.size).any λi=>(bs[i]?).getD false)=bs.any id:=by
   subst ei;rw [Pz,Pd]
   conv=>rhs;rw [<- DK bs false]
   rw [List.any_map];rfl
  rw [e];exact ⟨.bl _,H,I.kept (t':=tk) λb x e=>hk b x (λhm=>by rw [PN.mp hm] at e;exact QO _ (PF e)) (Pf _ e),rfl,q⟩
end
structure FunD (K:W.Frag) (x qual:Str) (st:Stmt) (f:Addr) (fd:FuncData) (T:Addr) (ds:List Value):Prop where
 ex:∃ (oc:Value) (od:Option Addr) (kV doc pm:Value) (an:Option Addr) (cdv ct:Value) (osl:Array (Option Value)),
  fd=W.fnOf x qual (cX st) (cP st) (aK st) (.ref T) kV doc pm an cdv ct/\K.lookup f=some ⟨oc,od,.func fd,osl⟩/\W.codeIn K cdv qual=true
 kp:W.keepIn K (.ref f)=true
 df:∃ (o:Obj) (n:Nat),K.lookup T=some o/\o.data=.seq ds.toArray n
section
variable {P:Program} {w:World} {K:W.Frag} {mg:Str->Option Value} {base:Heap}
theorem FunD.ok {x qual:Str} {st:Stmt} {f T:Addr} {fd:FuncData} {ds:List Value} {N ps:List Str} {k:Nat} {sp:Sp} (F:FunD K x qual st f fd T ds) (S:SJ N ps (aK st)) (len:∀ vs H Q E,sp vs H Q E->vs.length=ps.length)
  (hbody:∀ (cdv:Value) (A:Around) (outer:List Env) (s:Shared) (H:Hp) (vs:List V) (Q:VK) (E:XK),Tw k (A.deeper (envOfC qual (aK st) s.heap.objs.size f cdv))->sp vs H Q E ->
   ∃ t,YH (yv WG P w K mg base N qual (aK st) f cdv A outer s H E).nox (cP st) t/\t { nx:=λ_ H'=>Q .SM H',rt:=Q } (start N vs) H):Tc P w K mg base WG (k+1) f fd ps sp:=by
 obtain ⟨oc,od,kV,doc,pm,an,cdv,ct,osl,rfl,lk,hcd⟩:=F.ex;refine Gh lk hcd S len λA outer s H vs Q E hr ZM=>?_;obtain ⟨t,h,q⟩:=hbody cdv A outer s H vs Q E hr ZM;exact ⟨t,h.nox,q⟩
end
section
variable {K:W.Frag} {σ:St} {H H':Hp} {d d':D} {ds:List D} {t u ta tb:TE} {tt uu:TT} {tA:TA} {i j:Int} {b c:Bool}
theorem jN (h1:RE K ta σ H (.int i)) (h2:RE K tb σ H (.int j)) (hj:0 < j):RE K (VE (rI (λ_ j=>0 < j) λi j=>.int (i % j)) ta tb) σ H (.int (i % j)):=zl h1 h2 hj λ_=>Dat.SK _
theorem vK (h1:RE K ta σ H (.int i)) (h2:RE K tb σ H (.int j)) (hc:Zr i j):RE K (VE (rI Zr λi j=>.int (i * j)) ta tb) σ H (.int (i * j)):=zl h1 h2 hc λ_=>Dat.SK _
theorem AE (h1:RE K ta σ H (.int i)) (h2:RE K tb σ H (.int j)) (hc:GF i j):RE K (VE (rI GF λi j=>.int (i / j)) ta tb) σ H (.int (i / j)):=zl h1 h2 hc λ_=>Dat.SK _
theorem zR:∀ {bs:List Bool} {vs:List V},SG K H (bs.map D.bl) vs->vs=bs.map V.bl
 | [],vs,h=>by rw [SG.VZ h];rfl
 | b::bs,vs,h=>by obtain ⟨v,r,e,h1,h2⟩:=h.Tq;rw [e,h1.VX,zR h2];rfl
theorem zj {te tl:TE} {mk:St->St} {jj:Nat} {cs:List D} (h:RE K tl σ H (.tup cs)) (hc:cs.length<=1000) (bs:List Bool) (hl:bs.length=cs.length) (h0:(mk σ).set jj none=mk σ)
  (turn:∀ H1 (i:Nat) c v b,SH H H1->cs[i]?=some c->bs[i]?=some b->Dat K H1 c v->RE K te ((mk σ).set jj (some v)) H1 (.bl b)) :
  RE K (Xy (λxs H Q=>∃ (l:Addr) (bs:List Bool),xs=[.ref l]/\SO K H l (bs.map V.bl)/\Q (.bl (bs.all id)) H) (bW (jP (E3 K tl) mk (d6 jj) jc te) dW)) σ H (.bl (bs.all id)):=λH1 s Q q =>
 iL (oB (K:=K) (h.mono s) hc (bs.map D.bl) (by rw [Pd,hl]) h0 (λH2 i c v d s2 hc2 hd2 hv=>by
  rw [Pr] at hd2
  cases hb:bs[i]? with
  | none=>rw [hb] at hd2;cases hd2
  | some b=>rw [hb] at hd2;cases hd2;exact turn H2 i c v b (s.trans s2) hc2 hb hv) (λl ys H' hl' s' hy hd=>by
  have e:=zR hd;subst e;exact ⟨l,bs,rfl,SO.of hy,q _ _ s' (Dat.VW _)⟩))
theorem zT:∀ {xs:List Str} {vs:List V},SG K H (xs.map D.str) vs->vs=xs.map V.str
 | [],vs,h=>by rw [SG.VZ h];rfl
 | x::xs,vs,h=>by obtain ⟨v,r,e,h1,h2⟩:=h.Tq;rw [e,h1.S3,zT h2];rfl
theorem EM (x y:Str):Zj (.str x) (.str y)=decide (x=y):=by unfold Zj;by_cases h:x=y <;> simp [h]
theorem uK (x:Str):∀ ys:List Str,Zt (.str x) (ys.map V.str)=decide (x ∈ ys)
 | []=>by simp [Zt]
 | y::ys=>by
  have ih:=uK x ys;unfold Zt at ih ⊢;rw [PB,QJ,ih,EM];by_cases h:y=x
  ·subst h;simp
  ·have h':¬ x=y:=λz=>h z.symm;simp [h,h']
theorem tj (ys:List Str):(ys.map V.str).all lg=true:=by rw [QF];intro v hv;obtain ⟨y,_,rfl⟩:=Qz.mp hv;rfl
variable {x:Str} {ys:List Str}
theorem j7 (h1:RE K ta σ H (.str x)) (h2:RE K tb σ H (.tup (ys.map D.str))):RE K (VE (rIn K false) ta tb) σ H (.bl (decide (x ∈ ys))):=λH1 s Q q =>
 h1 H1 s _ λv H2 s2 q2=>h2 H2 (s.trans s2) _ λw H3 s3 q3=>by obtain ⟨a,vs,ev,hq,hd⟩:=q3.S7;have e:=zT hd;subst e;rw [q2.S3];refine ⟨a,_,ev,.inr hq,rfl,tj ys,?_⟩;rw [uK];exact q _ _ (s2.trans s3) (Dat.VW _)
theorem BI (h1:RE K ta σ H (.str x)) (h2:RE K tb σ H (.tup (ys.map D.str))):RE K (VE (rIn K true) ta tb) σ H (.bl (!decide (x ∈ ys))):=λH1 s Q q =>
 h1 H1 s _ λv H2 s2 q2=>h2 H2 (s.trans s2) _ λw H3 s3 q3=>by obtain ⟨a,vs,ev,hq,hd⟩:=q3.S7;have e:=zT hd;subst e;rw [q2.S3];refine ⟨a,_,ev,.inr hq,rfl,tj ys,?_⟩;rw [uK];exact q _ _ (s2.trans s3) (Dat.VW _)
theorem vM {y:Str} (h1:RE K ta σ H (.str x)) (h2:RE K tb σ H (.str y)):RE K (VE rNe ta tb) σ H (.bl (!decide (x=y))):=λH1 s Q q =>
 h1 H1 s _ λv H2 s2 q2=>h2 H2 (s.trans s2) _ λw H3 s3 q3=>by
  rw [q2.S3,q3.S3];refine ⟨rfl,?_⟩;have e:decide (V.str x=V.str y)=decide (x=y):=by by_cases z:x=y <;> simp [z]
  rw [e];exact q _ _ (s2.trans s3) (Dat.VW _)
end
section
variable {X:Cx}
theorem FA {body:List Stmt} {t:TS} {h:ExceptHandler} {hs:List ExceptHandler} {pos:Pos} (hb:YH X body t) (hx:X.xe=(λ_ _=>False):=by rfl):PS X (.Try body (h::hs) [] [] pos) t:=by
 intro pins s σ H D I q;have w:=hb pins s σ H D I q;rw [hx] at w;refine wpAny_Try_except (RH w (λf s1 hf=>?_) λe s1 z=>z.elim)
 cases f with
 | next =>obtain ⟨σ',H',I',q'⟩:=hf;exact aQ pins s1 σ' H' D I' q'
 | ret u=>exact hf
 | brk=>exact hf
 | cont=>exact hf
theorem Do:VU X (compareOp .LtE) (λx y H Q=>∃ i j:Str,x=.str i/\y=.str j/\Q (.bl (!decide (j.cps.toList < i.cps.toList))) H):=by intro pins s σ H x y v u Q I rx ry h;obtain ⟨i,j,rfl,rfl,q⟩:=h;obtain ⟨t,rfl⟩:=rx;obtain ⟨t',rfl⟩:=ry;refine PySem.P.le_str ?_;exact ⟨.bl _,H,I,rfl,q⟩
noncomputable def Its (x:Str):It:=⟨λi _=>i < x.cps.size,λi H v H'=>H'=H/\∃ c,x.cps[i]?=some c/\v=.str ⟨#[c]⟩,λi _=>i=x.cps.size⟩
theorem ud {P:Program} {w:World} {K:PySem.W.Frag} {tg:Expr} {it:Addr} {n:String} {x:Str} {t:Tok} (hn:["enumerate","zip","dict_itemiterator","dict_reverseitemiterator","odict_iterator","itertools.zip_longest","itertools.pairwise"].contains n=false)
  (W:∀ A:Around,A.handled=none->Walks P w A it [it] [it] x.cps.size (SignAt x) (λi h=>h.IsStrIter it n x t i))
  (self:∀ (A:Around) (i:Nat) (s:Shared) (Q:Value->Shared->Prop) (E:Value->Shared->Prop),s.heap.IsStrIter it n x t i->Q (.ref it) s->wpAny (model P w) A (pyIter (.ref it)) Q E s) :
  pq P w K tg (Its x) [it] it (λi h=>h.IsStrIter it n x t i) where
 mem:=by simp
 obj:=λi h st b hb=>by
  have e:b=it:=by simpa using hb
  subst e;obtain ⟨o,e,c,d⟩:=st;exact ⟨o,e,λv z=>by rw [d] at z;cases z⟩
 keep:=λi h h' st k=>by obtain ⟨o,e,r⟩:=st;exact ⟨o,k it (by simp) o e,r⟩
 item:=by intro X hP hw hK hc i pins s σ H E I hf st hg;subst hP hw hK;obtain ⟨f0,f1,f2,f3,f4,f5⟩:=hf it (by simp);refine (W X.A (I.ok.hd hc)).item i s _ _ hg st λv h' tk hv st' kk=>?_;obtain ⟨c,u,hx,rfl⟩:=hv;have I1:Inv X pins σ H { s with heap:=h',toks:=tk }:=I.turned (λb o hb e=>kk b o (by simpa using hb) e) f0 f1 f3 f4 f5;obtain ⟨o,e,cc,d⟩:=id st';exact ⟨_,rfl,tq (s:={ s with heap:=h',toks:=tk }) e cc d hn ⟨.str ⟨#[c]⟩,H,I1,⟨u,rfl⟩,⟨rfl,c,hx,rfl⟩,st',λb hb=>(hf b hb).1⟩⟩
 done:=by intro X hP hw hK hc i pins s σ H E I hf st hg;subst hP hw hK;obtain ⟨f0,f1,f2,f3,f4,f5⟩:=hf it (by simp);have hg':i=x.cps.size:=hg;subst hg';exact (W X.A (I.ok.hd hc)).done s _ _ st λh' tk eb=>⟨rfl,I.turned (λb o hb e=>eb b o (by simpa using hb) e) f0 f1 f3 f4 f5⟩
 self:=self
variable {tg:Expr}
noncomputable def IQ (tl:TE):TI:=λσ H R=>tl σ H λv H1=>∃ x,v=.str x/\R (Its x) H1
theorem HS {l:Expr} {tl:TE} (hl:PE X l tl):PI X tg l (IQ tl):=by
 intro pins s σ H R I h;refine SY (hl pins s σ H _ I h) λv s1 ⟨xv,H1,I1,r1,q1⟩=>?_;obtain ⟨x,e,q⟩:=q1;subst e;obtain ⟨t,rfl⟩:=r1
 have fin:∀ (o:Obj) (n:String),pq X.prog X.w X.K tg (Its x) [s1.heap.objs.size] s1.heap.objs.size (λi h=>h.IsStrIter s1.heap.objs.size n x t i)->(s1.heap.push o).IsStrIter s1.heap.objs.size n x t 0->PIE X pins σ tg R (.ref s1.heap.objs.size) { s1 with heap:=s1.heap.push o }:=by
  intro o n T st;refine ⟨s1.heap.objs.size,[s1.heap.objs.size],_,_,H1,rfl,I1.kept (t':=s1.toks) λb o e=>Pf _ e,T,st,λb hb=>?_,q⟩;have e:b=s1.heap.objs.size:=by simpa using hb
  subst e;exact I1.X0 (Pq _) (I1.hok.fresh (Pq _))
 cases ha:x.cps.all (· < 128)
 ·exact wpAny_pyIter_wide ha (fin _ "str_iterator" (ud (by decide) (λA hA=>Walks.strWide hA _ x t) λA i s Q E st q=>wpAny_pyIter_striter_wide st q) ⟨_,P4 _ rfl,rfl,rfl⟩)
 ·exact wpAny_pyIter_ascii ha (fin _ "str_ascii_iterator" (ud (by decide) (λA hA=>Walks.strAscii hA _ x t) λA i s Q E st q=>wpAny_pyIter_striter_ascii st q) ⟨_,P4 _ rfl,rfl,rfl⟩)
theorem xG:VU X (compareOp .NotIn) (λx y H Q=>∃ k a T,x=.str k/\y=.ref a/\kW X.K a T/\Q (.bl (!KTD.inKeys k T)) H):=by intro pins s σ H x y v u Q I rx ry h;obtain ⟨k,a,T,ex,ey,t,q⟩:=h;subst ex ey;obtain ⟨tk,rfl⟩:=rx;cases ry;exact KTD.notin_text (h₀:=s.heap) ⟨t _ I.Wa,λ_ _ e=>e⟩ ⟨.bl _,H,I.tok _,rfl,q⟩
noncomputable def AC (K:W.Frag):R2:=λx y H Q=>∃ a k T z,x=.ref a/\y=.str k/\kW K a T/\(T.all λp=>KTD.plain p.2)=true/\KTD.datumAt k T=some (.flat (.str z))/\Q (.str z) H
theorem E8:IxR X (AC X.K):=by
 intro value slice pins s σ H x y v u Q I rx ry h hs;obtain ⟨a,k,T,z,ex,ey,t,hp,hd,q⟩:=h;subst ex ey;obtain ⟨tk,rfl⟩:=ry;cases rx;have hm:KTD.inKeys k T=true:=by rw [<- KTD.isSome_datumAt,hd];rfl
 refine KTD.item_textA (h₀:=s.heap) ⟨t _ I.Wa,λ_ _ e=>e⟩ hp hm ?_ hs;exact each T hd λt'=>⟨.str z,H,I.tok _,⟨t',rfl⟩,q⟩
where
 each {h:Heap} {k:Str} {P:Value->Prop} {z:Str}:∀ (T:List (Str × KTD.Dat)),KTD.datumAt k T=some (.flat (.str z))->(∀ t,P (.str z t))->KTD.EachL h k P T
  | [],hd,_=>by simp [KTD.datumAt] at hd
  | (x,d)::T,hd,hP=>by
   have hd':(if decide (k=x)=true then some d else KTD.datumAt k T)=some (.flat (.str z)):=hd
   by_cases hx:k=x
   ·rw [Ph (Pw hx)] at hd'
    cases hd'
    exact KTD.eachL_hit hx (KTD.opened_str hP)
   ·rw [M1 (by simp [hx])] at hd'
    exact KTD.eachL_miss hx (each T hd' hP)
noncomputable def AR (K:W.Frag) (td ty tx:TE):TE:=λσ H Q=>td σ H λx H1=>∃ a T,x=.ref a/\kW K a T/\ty σ H1 λy H2=>tx σ H2 λz H3=>∃ k i,y=.str k/\z=.int i/\(∀ p ∈ T,∃ j,p.2=.flat (.int j)) /\
 Q (.int (match KTD.datumAt k T with | some (.flat (.int j))=>j | _=>i)) H3
theorem tL {o e f:Expr} {apos cpos:Pos} {td ty tx:TE} (ho:PE X o td) (he:PE X e ty) (hf:PE X f tx) (m:M2 X o "get" apos e f cpos):PE X (.Call (.Attribute o "get" apos) [e,f] [] cpos) (AR X.K td ty tx):=by
 intro pins s σ H Q I h;refine wpAny_Call_method m.base m.few m.line F.plainAttrs_dict F.slot_dict_get F.type_dict_get (SY (ho pins s σ H _ I h) λu s1 ⟨x,H1,I1,rx,a,T,ex,tk,q1⟩=>?_);subst ex;obtain rfl:u=Value.ref a:=rx;have t1:=tk _ I1.Wa;obtain ⟨lo,ob,es,ep,hob,hex,hdat,hrows⟩:=id t1;refine ⟨⟨ob,hob,hex.1⟩,λb eb=>?_,?_⟩
 ·cases eb;exact ⟨ob,hob,hex.2.1⟩
 rw [m.trees]
 refine RY rfl (Calls.evalArgs_plain (Sn (SY (he pins s1 σ H1 _ I1 q1) λiv s2 ⟨y,H2,I2,ry,q2⟩ =>
  Sn (SY (hf pins s2 σ H2 _ I2 q2) λfv s3 ⟨z,H3,I3,rz,k,i,ey,ez,hT,q3⟩=>Calls.spliced_nil ?_))))
 subst ey ez;obtain ⟨tok1,rfl⟩:=ry;obtain ⟨tok2,rfl⟩:=rz;refine KTD.get2_text (h₀:=s3.heap) ⟨tk _ I3.Wa,λ_ _ e=>e⟩ ?_
 have fin:∀ (D:List (Str × KTD.Dat)),(∀ p ∈ D,∃ j,p.2=.flat (.int j))->Q (.int (match KTD.datumAt k D with | some (.flat (.int j))=>j | _=>i)) H3 ->
   KTD.Each s3.heap k (λv=>EP X pins σ Q v { s3 with toks:=s3.toks+1 }) (EP X pins σ Q (.int i tok2) { s3 with toks:=s3.toks+1 }) D:=by
  intro D
  induction D with
  | nil=>intro _ q;exact KTD.each_nil ⟨.int i,H3,I3.tok _,⟨_,rfl⟩,q⟩
  | cons p D ih =>
   intro hD q;obtain ⟨x,d⟩:=p;obtain ⟨j,ej⟩:=hD (x,d) P0;have ej':d=.flat (.int j):=ej;subst ej';have ed:KTD.datumAt k ((x,KTD.Dat.flat (.int j))::D)=if decide (k=x)=true then some (.flat (.int j)) else KTD.datumAt k D:=rfl;rw [ed] at q;by_cases hx:k=x
   ·rw [Ph (Pw hx)] at q;exact KTD.each_hit hx (KTD.opened_int λt=>⟨.int j,H3,I3.tok _,⟨t,rfl⟩,q⟩)
   ·rw [M1 (by simp [hx])] at q;exact KTD.each_miss hx (ih (λp hp=>hD p (PR _ hp)) q)
 exact fin T hT q3
end
structure BZ (P:Program) (w:World) (K:W.Frag) (a:Addr) (ks:List Str):Prop where
 lk:∃ o,K.lookup a=some o
 tb:∀ h:Heap,K.In h->∃ D,StrTab P w h a D/\D.map (·.1)=ks.map PyData.str
noncomputable def Itk (ks:List Str):It:=⟨λi _=>i < ks.length,λi H v H'=>H'=H/\∃ k,ks[i]?=some k/\v=.str k,λi _=>i=ks.length⟩
variable {kvs:List (Str × Value)}
theorem A6 {D:List (PyData × PyData)} {ks:List Str} (h:PyProof.V.FlatPairs PyData.str kvs D) (e:D.map (·.1)=ks.map PyData.str):kvs.map (·.1)=ks:=by
 induction h generalizing ks with
 | nil =>
  cases ks with
  | nil=>rfl
  | cons k ks=>simp at e
 | cons _ _ ih =>
  cases ks with
  | nil=>simp at e
  | cons k ks =>simp only [PB,List.cons.injEq] at e;obtain ⟨e1,e2⟩:=e;injection e1 with e1;rw [PB,ih e2,<- e1]
variable {it:Addr}
theorem El {tg:Expr} {d:Addr} {ep:Nat} (hD:∀ h:Heap,K.In h->h.DictAt (strKind P w) d kvs ep) :
  pq P w K tg (Itk (kvs.map (·.1))) [it] it (λi h=>h.IsKeyIter it d i kvs.length ep) where
 mem:=by simp
 obj:=λi h st b hb=>by
  have e:b=it:=by simpa using hb
  subst e;obtain ⟨o,e,c,d⟩:=st;exact ⟨o,e,λv z=>by rw [d] at z;cases z⟩
 keep:=λi h h' st k=>by obtain ⟨o,e,r⟩:=st;exact ⟨o,k it (by simp) o e,r⟩
 item:=by
  intro X hP hw hK hc i pins s σ H E I hf st hg;subst hP hw hK;obtain ⟨f0,f1,f2,f3,f4,f5⟩:=hf it (by simp);have hi:i < kvs.length:=by have z:i < (kvs.map (·.1)).length:=hg;simpa using z
  refine wpAny_pyNext_dict_item st (hD _ I.Wa) (Pe hi) λkey h' hk st' sb=>?_;obtain ⟨t,rfl⟩:=Value.isStrOf_shape hk;have I1:Inv X pins σ H { s with heap:=h' }:=I.turned (t':=s.toks) (λb o hb e=>(sb.2 b hb).trans e) f0 f1 f3 f4 f5;refine ⟨_,rfl,PyProof.Rows.letGo_keyiter (s':={ s with heap:=h' }) st' ⟨.str (kvs[i]).1,H,I1,⟨t,rfl⟩,⟨rfl,(kvs[i]).1,?_,rfl⟩,st',λb hb=>(hf b hb).1⟩⟩;rw [Pr,Pe hi];rfl
 done:=by
  intro X hP hw hK hc i pins s σ H E I hf st hg;subst hP hw hK;obtain ⟨f0,f1,f2,f3,f4,f5⟩:=hf it (by simp);have hi:i=kvs.length:=by have z:i=(kvs.map (·.1)).length:=hg;simpa using z
  exact wpAny_pyNext_dict_end (I.ok.hd hc) st (hD _ I.Wa) (by simp [hi]) λh' eb=>⟨rfl,I.turned (t':=s.toks) (λb o hb e=>eb b o hb e) f0 f1 f3 f4 f5⟩
 self:=λA i s Q E st q=>wpAny_pyIter_keyiter st q
section
variable {X:Cx} {tg:Expr}
noncomputable def IR (P:Program) (w:World) (K:W.Frag) (tl:TE):TI:=λσ H R=>tl σ H λv H1=>∃ a ks,v=.ref a/\BZ P w K a ks/\R (Itk ks) H1
theorem HU {l:Expr} {tl:TE} (hl:PE X l tl):PI X tg l (IR X.prog X.w X.K tl):=by
 intro pins s σ H R I h;refine SY (hl pins s σ H _ I h) λv s1 ⟨xv,H1,I1,r1,q1⟩=>?_;obtain ⟨a,ks,e,hK,q⟩:=q1;subst e;cases r1;obtain ⟨D,T,hD⟩:=hK.tb _ I1.Wa;obtain ⟨o,ho⟩:=hK.lk;obtain ⟨lo,kvs,hdo,hf⟩:=T;obtain ⟨ep,hat⟩:=hdo.dictAt;have ek:=A6 hf hD;subst ek
 have hall:∀ h:Heap,X.K.In h->h.DictAt (strKind X.prog X.w) a kvs ep:=λh x=>by obtain ⟨o',es,e1,r⟩:=hat;have z:=I1.Wa _ _ ho;rw [e1] at z;cases z;exact ⟨_,es,x _ _ ho,r⟩
 refine wpAny_pyIter_dict lo hat ?_;refine ⟨s1.heap.objs.size,[s1.heap.objs.size],_,_,H1,rfl,I1.kept (t':=s1.toks) λb o e=>Pf _ e,El hall,⟨_,P4 _ rfl,rfl,rfl⟩,λb hb=>?_,q⟩;have e:b=s1.heap.objs.size:=by simpa using hb
 subst e;exact I1.X0 (Pq _) (I1.hok.fresh (Pq _))
end
def RC (K:W.Frag) (t:TE) (σ:St) (H:Hp) (es:List D):Prop:=∀ H1,SH H H1->∀ Q:VK,(∀ l ys H',H1 l=none->SH H1 H'->H' l=some (.lst ys)->SG K H' es ys->Q (.ref l) H')->t σ H1 Q
section
variable {K:W.Frag} {σ:St} {H H':Hp} {d d':D} {ds es:List D} {t u ta tb te tl:TE} {tt uu:TT} {tA:TA} {i j:Int} {b c:Bool} {mk:St->St} {jj:Nat}
theorem RC.mono (h:RC K t σ H es) (e:SH H H'):RC K t σ H' es:=λH1 s Q q=>h H1 (e.trans s) Q q
theorem RC.as (h:RC K t σ H es) (e:es=ds):RC K t σ H ds:=e ▸ h
theorem RC.use {Q:VK} (h:RC K t σ H es) (q:∀ l ys H',H l=none->SH H H'->H' l=some (.lst ys)->SG K H' es ys->Q (.ref l) H'):t σ H Q:=h H (SH.refl H) Q q
theorem iC (h:RA K tA σ H es) (hl:es.length<=1000:=by simp):RC K (wm tA) σ H es:=λH1 s Q q =>
 zo (h.mono s) (λp vs H2 s2 hp hd=>q p vs _ (s2.free hp) (s2.trans (aV hp _)) aI ((aV hp _).SQ hd)) hl
variable {cs:List D}
theorem rn (h:RE K tl σ H (.tup cs)) (hc:cs.length<=1000) (es:List D) (hl:es.length=cs.length) (h0:(mk σ).set jj none=mk σ)
  (turn:∀ H1 (i:Nat) c v d,SH H H1->cs[i]?=some c->es[i]?=some d->Dat K H1 c v->RE K te ((mk σ).set jj (some v)) H1 d):RC K (jP (E3 K tl) mk (d6 jj) jc te) σ H es:=λH1 s Q q =>
 oB (K:=K) (h.mono s) hc es hl h0 (λH2 i c v d s2=>turn H2 i c v d (s.trans s2)) (λl ys H2 hl s2 hy hd=>q l ys H2 hl s2 hy hd)
variable {x:Str}
theorem Ia (h:RE K tl σ H (.str x)) (hc:x.cps.size<=1000) (es:List D) (hl:es.length=x.cps.size) (h0:(mk σ).set jj none=mk σ)
  (turn:∀ H1 (i:Nat) c d,SH H H1->x.cps[i]?=some c->es[i]?=some d->RE K te ((mk σ).set jj (some (.str ⟨#[c]⟩))) H1 d):RC K (jP (IQ tl) mk (d6 jj) jc te) σ H es:=λH1 s Q q=>by
 refine (h.mono s).use λv4 H4 s4 q4=>?_;have e:=q4.S3;subst e;refine ⟨x,rfl,?_⟩;refine kg (K:=K) (Q:=Q) (n:=x.cps.size) (item:=λi=>.str ⟨#[x.cps.getD i 0]⟩) (λi H' s hi=>⟨hi,λv T3 y=>⟨y.1,?_⟩⟩) (λH' s=>rfl) h0 es hl hc (λi d hi=>?_) (λl ys H5 YC s5=>q l ys H5 (s4.free YC) (s4.trans s5))
 ·obtain ⟨_,c,hc,e⟩:=y;rw [e,Array.getD_eq_getD_getElem?,hc];rfl
 ·have hi':i < es.length:=(P1.mp hi).1
  have hc:x.cps[i]?=some (x.cps.getD i 0):=by rw [Array.getD_eq_getD_getElem?,Array.getElem?_eq_getElem (by omega)];rfl
  exact turn H4 i _ d (s.trans s4) hc hi
variable {a:Addr}
theorem Ib {P:Program} {w:World} {ks:List Str} (hK:BZ P w K a ks) (hc:ks.length<=1000) (es:List D) (hl:es.length=ks.length) (h0:(mk σ).set jj none=mk σ)
  (turn:∀ H1 (i:Nat) k d,SH H H1->ks[i]?=some k->es[i]?=some d->RE K te ((mk σ).set jj (some (.str k))) H1 d):RC K (jP (IR P w K (tC (.ref a))) mk (d6 jj) jc te) σ H es:=λH1 s Q q=>by
 refine ⟨a,ks,rfl,hK,?_⟩;refine kg (K:=K) (Q:=Q) (n:=ks.length) (item:=λi=>.str (ks.getD i "")) (λi H' s hi=>⟨hi,λv T3 y=>⟨y.1,?_⟩⟩) (λH' s=>rfl) h0 es hl hc (λi d hi=>?_) q
 ·obtain ⟨_,k,hk,e⟩:=y;rw [e,PX,hk];rfl
 ·have hi':i < es.length:=(P1.mp hi).1
  have hk:ks[i]?=some (ks.getD i ""):=by rw [PX,Pe (by omega)];rfl
  exact turn H1 i _ d s hk hi
theorem FE (h:RC K tl σ H cs) (hc:cs.length<=1000) (es:List D) (hl:es.length=cs.length) (h0:(mk σ).set jj none=mk σ)
  (turn:∀ H1 (i:Nat) c v d,SH H H1->cs[i]?=some c->es[i]?=some d->Dat K H1 c v->RE K te ((mk σ).set jj (some v)) H1 d):RC K (jP (tu K tl) mk (d6 jj) jc te) σ H es:=λH1 s Q q=>by
 refine (h.mono s).use λl4 YD H4 hl4 s4 Yh Zw=>?_;have ll:=Zw.length;refine ⟨l4,rfl,⟨YD,SO.of Yh⟩,?_⟩;refine kg (K:=K) (Q:=Q) (n:=YD.length) (item:=λi=>YD.getD i .SM) (λi H' s hi=>uH i H' (SO.of (s _ _ Yh)) hi) (λH' s=>⟨YD,SO.of (s _ _ Yh),Pq _⟩) h0 es (by omega) (by omega) (λi d hi=>?_) (λl ys H5 YC s5=>q l ys H5 (s4.free YC) (s4.trans s5));have hi':i < es.length:=(P1.mp hi).1;have hic:i < cs.length:=by omega
 obtain ⟨vz,ez,hz⟩:=Zw.get (Pe hic);have q:=turn H4 i cs[i] vz d (s.trans s4) (Pe hic) hi hz;rw [PX,ez];exact q
theorem nG {R:List D->List D->Prop} {E:XK} (h:RA K tA σ H ds) (e:R ds es):RC K (kr (kL K R) [] E tA) σ H es:=λH1 s Q q =>
 h H1 s _ λvs H2 s2 q2=>⟨ds,es,by rw [PM];exact q2,e,λr us H3 s3 hr hr0 hd=>q r us H3 (s2.free hr0) (s2.trans s3) hr hd⟩
theorem me {bs:List Bool} (h:RC K t σ H (bs.map D.bl)):RE K (Xy (λxs H Q=>∃ (l:Addr) (bs:List Bool),xs=[.ref l]/\SO K H l (bs.map V.bl)/\Q (.bl (bs.all id)) H) (bW t dW)) σ H (.bl (bs.all id)):=λH1 s Q q =>
 iL ((h.mono s).use λl ys H' _ s' hy hd=>⟨l,bs,rfl,by rw [<- zR hd];exact SO.of hy,q _ _ s' (Dat.VW _)⟩)
theorem FG {bs:List Bool} (h:RC K t σ H (bs.map D.bl)):RE K (Xy (λxs H Q=>∃ (l:Addr) (bs:List Bool),xs=[.ref l]/\SO K H l (bs.map V.bl)/\Q (.bl (bs.any id)) H) (bW t dW)) σ H (.bl (bs.any id)):=λH1 s Q q =>
 iL ((h.mono s).use λl ys H' _ s' hy hd=>⟨l,bs,rfl,by rw [<- zR hd];exact SO.of hy,q _ _ s' (Dat.VW _)⟩)
theorem tO (h:RC K t σ H es):RE K (Xy (λxs H Q=>∃ p ys,xs=[.ref p]/\((SO K H p ys/\∀ l,H l=none->Q (.ref l) (upd H l (.tup ys)))\/(Tg K H p ys/\Q (.ref p) H))) (bW t dW)) σ H (.tup es):=λH1 s Q q =>
 iL ((h.mono s).use λl ys H' _ s' hy hd=>⟨l,ys,rfl,.inl ⟨SO.of hy,λp hp=>q _ _ (s'.trans (aV hp _)) (Dat.tupI (Tg.of aI) ((aV hp _).SQ hd))⟩⟩)
theorem BJ (h:RE K t σ H (.tup es)):RE K (Xy (λxs H Q=>∃ p ys,xs=[.ref p]/\((SO K H p ys/\∀ l,H l=none->Q (.ref l) (upd H l (.tup ys)))\/(Tg K H p ys/\Q (.ref p) H))) (bW t dW)) σ H (.tup es):=λH1 s Q q =>
 iL ((h.mono s).use λv H' s' hd=>by
  obtain ⟨a,vs,e,hq,hds⟩:=hd.S7;subst e;exact ⟨a,vs,rfl,.inr ⟨hq,q _ _ s' (Dat.tupI hq hds)⟩⟩)
theorem FI (h:RC K t σ H es):RE K (Xy (λxs H Q=>∃ p ys,xs=[.ref p]/\(SO K H p ys\/Tg K H p ys)/\Q (.int ys.length) H) (bW t dW)) σ H (.int es.length):=λH1 s Q q =>
 iL ((h.mono s).use λl ys H' _ s' hy hd=>⟨l,ys,rfl,.inl (SO.of hy),by rw [<- hd.length];exact q _ _ s' (Dat.SK _)⟩)
theorem FJ (h:RE K t σ H (.str x)) (hx:x.length<=sizeLine):RE K (Xy (λxs H Q=>∃ z:Str,xs=[.str z]/\z.length<=sizeLine/\Q (.int z.length) H) (bW t dW)) σ H (.int x.length):=λH1 s Q q =>
 iL ((h.mono s).use λv H' s' hd=>by
  rw [hd.S3];exact ⟨x,rfl,hx,q _ _ s' (Dat.SK _)⟩)
theorem gY {us:TS} {En:kx} {k:Nat} (h:RC K t σ H es) (q:∀ l ys H',H l=none->SH H H'->H' l=some (.lst ys)->SG K H' es ys->us En (σ.set k (some (.ref l))) H'):lX (rQ t (d6 k)) us En σ H:=h.use q
variable {z:Str}
theorem BD {tc:TE} {y:Str} {p q':Str->Str->Bool} (h1:RE K ta σ H (.str x)) (h2:RE K tb σ H (.str y)) (h3:p x y=true->RE K tc σ H (.str z)) :
  RE K (wj (λu v H Q=>∃ i j:Str,u=.str i/\v=.str j/\Q (.bl (p i j)) H) (λu v H Q=>∃ i j:Str,u=.str i/\v=.str j/\Q (.bl (q' i j)) H) ta tb tc) σ H (.bl (p x y && q' y z)):=λH1 s Q q =>
 h1 H1 s _ λv H2 s2 q2=>h2 H2 (s.trans s2) _ λw H3 s3 q3=>by
  refine ⟨x,y,q2.S3,q3.S3,p x y,rfl,?_⟩
  cases hp:p x y with
  | true =>simp only [RM,QH];exact h3 hp H3 (s.trans (s2.trans s3)) _ λz' H4 s4 q4=>⟨y,z,q3.S3,q4.S3,q _ _ (s2.trans (s3.trans s4)) (by rw [hp];exact Dat.VW _)⟩
  | false =>simp only [Sq,Sz,Rl];exact q _ _ (s2.trans s3) (by rw [hp];exact Dat.VW _)
variable {T:List (Str × KTD.Dat)}
theorem xU {k:Str} (h:RE K t σ H (.str k)) (ht:kW K a T):RE K (VE (λx y H Q=>∃ k a T,x=.str k/\y=.ref a/\kW K a T/\Q (.bl (!KTD.inKeys k T)) H) t (tC (.ref a))) σ H (.bl (!KTD.inKeys k T)):=λH1 s Q q =>
 h H1 s _ λv H2 s2 q2=>⟨k,a,T,q2.S3,rfl,ht,q _ _ s2 (Dat.VW _)⟩
theorem BF {k:Str} (h:RE K t σ H (.str k)) (ht:kW K a T) (hp:(T.all λp=>KTD.plain p.2)=true) (e:KTD.datumAt k T=some (.flat (.str z))):RE K (VE (AC K) (tC (.ref a)) t) σ H (.str z):=λH1 s Q q =>
 h H1 s _ λv H2 s2 q2=>⟨a,k,T,z,rfl,q2.S3,ht,hp,e,q _ _ s2 (Dat.Tf _)⟩
noncomputable def j9 (k:Str) (T:List (Str × KTD.Dat)) (i:Int):Int:=match KTD.datumAt k T with | some (.flat (.int j))=>j | _=>i
theorem tN {k:Str} (ht:kW K a T) (h1:RE K ta σ H (.str k)) (h2:RE K tb σ H (.int i)) (hT:∀ p ∈ T,∃ j,p.2=.flat (.int j)):RE K (AR K (tC (.ref a)) ta tb) σ H (.int (j9 k T i)):=λH1 s Q q =>
 ⟨a,T,rfl,ht,h1 H1 s _ λv H2 s2 q2=>h2 H2 (s.trans s2) _ λw H3 s3 q3=>⟨k,i,(s3.dat q2).S3,q3.SN,hT,q _ _ (s2.trans s3) (Dat.SK _)⟩⟩
variable {lo hi:Nat}
theorem zQ {vs:List V}:sf vs (some (lo:Int)) (some (hi:Int))=(vs.drop lo).take (hi - lo):=by
 unfold sf;rw [HT.Xz,HT.Xz];apply List.ext_getElem?;intro i;simp only [List.getElem?_take,List.getElem?_drop];by_cases h1:i < hi - lo
 ·rw [Ph h1];by_cases h2:i < min hi vs.length - min lo vs.length
  ·rw [Ph h2];congr 1;omega
  ·rw [M1 h2,RD (by omega)]
 ·rw [M1 h1,M1 (by omega)]
theorem SG.Zx:∀ {n:Nat} {ds:List D} {vs:List V},SG K H ds vs->SG K H (ds.drop n) (vs.drop n)
 | 0,_,_,h=>h
 | n+1,[],_,h=>by rw [h.VZ];exact SG.nil
 | n+1,d::ds,_,h=>by obtain ⟨v,r,e,h1,h2⟩:=h.Tq;subst e;exact SG.Zx (n:=n) h2
theorem SG.Zy:∀ {n:Nat} {ds:List D} {vs:List V},SG K H ds vs->SG K H (ds.take n) (vs.take n)
 | 0,_,_,h=>by rw [QU,QU];exact SG.nil
 | n+1,[],_,h=>by rw [h.VZ];exact SG.nil
 | n+1,d::ds,_,h=>by obtain ⟨v,r,e,h1,h2⟩:=h.Tq;subst e;exact SG.cons h1 (SG.Zy (n:=n) h2)
theorem Ic (h:RE K t σ H (.tup ds)) (h1:RE K ta σ H (.int lo)) (h2:RE K tb σ H (.int hi)) (hl:1<=lo) (hd:0 < ds.length):RE K (tSl (HX K) t (uc ta) (uc tb)) σ H (.tup ((ds.drop lo).take (hi - lo))):=λH1 s Q q =>
 h H1 s _ λv H2 s2 q2=>h1 H2 (s.trans s2) _ λv3 H3 s3 q3=>⟨lo,q3.SN,h2 H3 (s.trans (s2.trans s3)) _ λv4 H4 s4 q4=>⟨hi,q4.SN,by
  obtain ⟨a,vs,ev,hq,hds⟩:=((s3.trans s4).dat q2).S7;have ll:=hds.length;refine ⟨a,vs,ev,hq,λz=>?_,λp hp=>?_⟩
  ·rw [HT.Xz] at z;omega
  ·rw [zQ];exact q _ _ (s2.trans (s3.trans (s4.trans (aV hp _)))) (Dat.tupI (Tg.of aI) ((aV hp _).SQ (SG.Zy (SG.Zx hds))))⟩⟩
end
mutual
noncomputable def hX (K:W.Frag):D->Value->Bool
 | .SM,u=>(match u with | .none=>true | _=>false)
 | .bl b,u=>(match u with | .bool c=>b == c | _=>false)
 | .int i,u=>(match u with | .int j _=>i == j | _=>false)
 | .str x,u=>(match u with | .str y _=>x == y | _=>false)
 | .tup ds,u=>(match u with | .ref a=>(match K.lookup a with | some ⟨.type "tuple",_,.seq its _,_⟩=>decide (its.size<=1000) && W4 K ds its.toList | _=>false) | _=>false)
 | .lst,_=>false
noncomputable def W4 (K:W.Frag):List D->List Value->Bool
 | [],us=>us.isEmpty
 | d::ds,us=>(match us with | u::r=>hX K d u && W4 K ds r | []=>false)
end
mutual
variable {K:W.Frag}
theorem oV (H:Hp):∀ (d:D) (u:Value),hX K d u=true->∃ v,RelV v u/\Dat K H d v
 | .SM,u,h=>by unfold hX at h;cases u <;> first | (exact ⟨.SM,rfl,Dat.X5⟩) | cases h
 | .bl b,u,h=>by
  unfold hX at h;cases u <;> first | cases h | skip
  rename_i c;have e:b=c:=by simpa using h
  subst e;exact ⟨.bl b,rfl,Dat.VW _⟩
 | .int i,u,h=>by
  unfold hX at h;cases u <;> first | cases h | skip
  rename_i j t;have e:i=j:=by simpa using h
  subst e;exact ⟨.int i,⟨t,rfl⟩,Dat.SK _⟩
 | .str x,u,h=>by
  unfold hX at h;cases u <;> first | cases h | skip
  rename_i y t;have e:x=y:=by simpa using h
  subst e;exact ⟨.str x,⟨t,rfl⟩,Dat.Tf _⟩
 | .tup ds,u,h=>by
  unfold hX at h;cases u <;> first | cases h | skip
  rename_i a;dsimp only at h;split at h
  ·rename_i od its n sl e;rw [Px] at h;obtain ⟨vs,r,hd⟩:=VF H ds its.toList h.2;refine ⟨.ref a,rfl,Dat.tupI (.inr ⟨_,its,n,e,rfl,rfl,?_,r⟩) hd⟩;exact Qd (Po h.1) (by decide)
  ·cases h
 | .lst,u,h=>by unfold hX at h;cases h
theorem VF (H:Hp):∀ (ds:List D) (us:List Value),W4 K ds us=true->∃ vs,Vals vs us/\SG K H ds vs
 | [],us,h=>by
  unfold W4 at h
  cases us with
  | nil=>exact ⟨[],.nil,SG.nil⟩
  | cons u r=>cases h
 | d::ds,us,h=>by
  unfold W4 at h
  cases us with
  | nil=>cases h
  | cons u r =>dsimp only at h;rw [Px] at h;obtain ⟨v,r1,h1⟩:=oV H d u h.1;obtain ⟨vs,r2,h2⟩:=VF H ds r h.2;exact ⟨v::vs,.cons r1 r2,SG.cons h1 h2⟩
end
theorem JH (h:hX K (.tup ds) (.ref a)=true) (H:Hp):Dat K H (.tup ds) (.ref a):=by obtain ⟨v,r,hd⟩:=oV H _ _ h;obtain ⟨b,vs,e,_⟩:=id hd.S7;subst e;have z:Value.ref a=.ref b:=r;cases z;exact hd
theorem lN (h:hX K (.tup ds) (.ref a)=true):RE K (tC (.ref a)) σ H (.tup ds):=λH1 _ Q q=>q _ _ (SH.refl _) (JH h H1)
section
variable {X:Cx}
theorem Cp:jz X (.type "range") (λxs H Q=>∃ n:Nat,xs=[.int n]/\∀ p,H p=none->Q (.ref p) (upd H p (.Zn 0 n))):=by intro pins s σ H xs us Q I r h;obtain ⟨n,rfl,q⟩:=h;obtain ⟨u,rfl,ru⟩:=jd r;obtain ⟨t,rfl⟩:=ru;refine call_range_1 ⟨.ref s.heap.objs.size,_,I.laid (λb o e=>Pf _ e) (Pq _) (show S9 X.prog X.w _ _ _ (.Zn 0 n) from ⟨_,_,_,P4 _ rfl⟩),rfl,q _ (I.hok.fresh (Pq _))⟩
theorem Es {n:Nat} {acc:Array Value} (h:ItemsOf (λi v=>∃ t,v=.int ((0:Int)+(i:Nat) * 1) t) acc n):Vals ((List.range n).map λi:Nat=>V.int i) acc.toList:=by
 obtain ⟨hs,hi⟩:=h
 have all:∀ (l:List Value) (k:Nat),(∀ (j:Nat) (v:Value),l[j]?=some v->∃ t,v=Value.int ((0:Int)+((k+j:Nat):Int) * 1) t)->Vals ((List.range' k l.length).map λi:Nat=>V.int i) l:=by
  intro l
  induction l with
  | nil=>intro k _;exact .nil
  | cons u l ih =>
   intro k hj;rw [Pp,List.range'_succ,PB];refine .cons ?_ (ih (k+1) λj v e=>?_)
   ·obtain ⟨t,e⟩:=hj 0 u rfl;refine ⟨t,?_⟩;rw [e];congr 1;simp
   ·obtain ⟨t,e'⟩:=hj (j+1) v (by simpa using e);refine ⟨t,?_⟩;rw [e'];congr 1;have:k+(j+1)=k+1+j:=by omega
    rw [this]
 have q:=all acc.toList 0 λj v e=>by rw [Nat.zero_add];exact hi j v (by simpa using e)
 rw [List.range_eq_range'];rw [Q4,hs] at q;exact q
theorem r9 (hc:X.calm=true):jz X (.type "list") (λxs H Q=>∃ (p:Addr) (n:Nat),xs=[.ref p]/\H p=some (.Zn 0 n)/\n<=1000/\∀ l,H l=none->Q (.ref l) (upd H l (.lst ((List.range n).map λi:Nat=>V.int i)))):=by
 intro pins s σ H xs us Q I r h;obtain ⟨p,n,rfl,hp,hn,q⟩:=h;obtain ⟨u,rfl,rx⟩:=jd r;cases rx;obtain ⟨t,u,v,e⟩:=(show S9 X.prog X.w H s.heap p (.Zn 0 n) from I.hok p _ hp)
 refine call_list_range (n:=n) (I.ok.hd hc) (show IsRange s.heap p 0 n 1 t u v from e) (small_one (by omega) (by omega) (by omega) (by omega)) ?_ (by omega) λh' tk acc' c' kp e' hacc=>?_
 ·rw [rangeSize_one];split <;> omega
 ·have hv:=Es hacc;have hl:=hv.length;refine ⟨.ref s.heap.objs.size,_,I.laid kp (Pq _) (show S9 X.prog X.w _ h' _ (.lst _) from ⟨?_,acc'.toList,c',hv,by simpa using e'⟩),rfl,q _ (I.hok.fresh (Pq _))⟩;simp only [Pd,List.length_range];exact Qd hn (by decide)
def IB (K:W.Frag) (a:Addr) (xs:List V):Prop:=∃ (its:Array Value) (n:Nat),K.lookup a=some ⟨.type "list",none,.seq its n,#[]⟩/\its.size<=1000/\Vals xs its.toList
def VG (K:W.Frag) (H:Hp) (a:Addr) (xs:List V):Prop:=H a=some (.lst xs)\/IB K a xs
variable {H:Hp} {a:Addr} {xs:List V}
theorem VG.WA {K:W.Frag} (h:VG K H a xs):SO K H a xs:=by
 rcases h with h | ⟨its,n,e,hz,r⟩
 ·exact SO.of h
 ·exact .inr ⟨_,its,n,e,rfl,rfl,rfl,Qd hz (by decide),r⟩
theorem VG.at {pins:List (Addr × Obj)} {σ:St} {s:Shared} (I:Inv X pins σ H s) (h:VG X.K H a xs):∃ (its:List Value) (n:Nat),Vals xs its/\s.heap.get? a=some { cls:=.type "list",data:=.seq its.toArray n }:=by
 rcases h with h | ⟨its,n,e,hz,r⟩
 ·obtain ⟨z,its,n,r,hl,e⟩:=I.Zu h;exact ⟨its,n,r,e⟩
 ·exact ⟨its.toList,n,r,by simpa using I.Wa _ _ e⟩
noncomputable def Gp (K:W.Frag):R2:=λx y H Q=>∃ l b xs zs,x=.ref l/\y=.ref b/\VG K H l xs/\VG K H b zs/\xs.length+zs.length<=1000/\∀ p,H p=none->Q (.ref p) (upd H p (.lst (xs++zs)))
theorem jr:VU X (binaryOp .Add) (Gp X.K):=by
 intro pins s σ H x y v u Q I rx ry h;obtain ⟨l,b,xs,zs,rfl,rfl,hH,hB,hz,q⟩:=h;cases rx;cases ry;obtain ⟨its,n,r,e⟩:=hH.at I;obtain ⟨its2,n2,r2,e2⟩:=hB.at I;have l1:=r.length;have l2:=r2.length;have hz':xs.length+zs.length<=sizeLine:=Qd hz (by decide);refine PySem.P.add_list e e2 ?_ (by rw [Pz,Pz];omega);have ea:its.toArray++its2.toArray=(its++its2).toArray:=by simp
 rw [ea];exact ⟨.ref _,_,I.lnew (t':=s.toks) (r.append r2) (by rw [tB];omega),rfl,q _ I.fresh⟩
end
section
variable {K:W.Frag} {σ:St} {H:Hp} {t:TE} {n:Nat}
noncomputable def qL (K:W.Frag) (ds:List D) (a:Addr):Bool:=match K.lookup a with
 | some ⟨.type "list",none,.seq its _,sl⟩=>decide (its.size<=1000) && (sl.isEmpty && W4 K ds its.toList)
 | _=>false
theorem uR {K:W.Frag} {ds:List D} {a:Addr} (h:qL K ds a=true) (H:Hp):∃ vs,IB K a vs/\SG K H ds vs:=by
 unfold qL at h;split at h
 ·rename_i its n sl e;rw [Px,Px] at h;obtain ⟨vs,r,hd⟩:=VF H ds its.toList h.2.2;have es:sl=#[]:=by simpa using h.2.1
  subst es;exact ⟨vs,⟨its,n,e,Po h.1,r⟩,hd⟩
 ·cases h
theorem vI (h:RE K t σ H (.int n)) (hn:n<=1000):RC K (Xy (λxs H Q=>∃ (p:Addr) (n:Nat),xs=[.ref p]/\H p=some (.Zn 0 n)/\n<=1000/\∀ l,H l=none->Q (.ref l) (upd H l (.lst ((List.range n).map λi:Nat=>V.int i))))
  (bW (Xy (λxs H Q=>∃ n:Nat,xs=[.int n]/\∀ p,H p=none->Q (.ref p) (upd H p (.Zn 0 n))) (bW t dW)) dW)) σ H ((List.range n).map λi:Nat=>D.int i):=λH1 s Q q =>
 iL (iL ((h.mono s).use λv H2 s2 q2=>by
  rw [q2.SN];refine ⟨n,rfl,λp hp=>⟨p,n,rfl,aI,hn,λl hl=>?_⟩⟩;have s3:=s2.trans ((aV hp (.Zn 0 n)).trans (aV hl (.lst ((List.range n).map λi:Nat=>V.int i))));refine q l _ _ ((s2.trans (aV hp _)).free hl) s3 aI ?_
  have z:∀ m:List Nat,SG K (upd (upd H2 p (.Zn 0 n)) l (.lst ((List.range n).map λi:Nat=>V.int i))) (m.map λi:Nat=>D.int i) (m.map λi:Nat=>V.int i):=by
   intro m
   induction m with
   | nil=>exact SG.nil
   | cons a m ih=>exact SG.cons (Dat.SK _) ih
  exact z _))
end
structure X6 (l0 l1 l2:Addr) (H:Hp) (a b c:List V):Prop where
 h0:H l0=some (.lst a)
 h1:H l1=some (.lst b)
 h2:H l2=some (.lst c)
 n01:l0≠l1
 n02:l0≠l2
 n12:l1≠l2
def Wn (l0 l1 l2:Addr) (H H':Hp):Prop:=∀ b o,b≠l0->b≠l1->b≠l2->H b=some o->H' b=some o
section
variable {K:W.Frag} {l0 l1 l2:Addr} {H H' H2:Hp} {a b c a' b' c':List V} {v:V}
theorem SH.Vg (e:SH H H'):Wn l0 l1 l2 H H':=λb o _ _ _ h=>e b o h
theorem Wn.trans (x:Wn l0 l1 l2 H H') (y:Wn l0 l1 l2 H' H2):Wn l0 l1 l2 H H2:=λb o n0 n1 n2 h=>y b o n0 n1 n2 (x b o n0 n1 n2 h)
theorem X6.same (t:X6 l0 l1 l2 H a b c) (e:SH H H'):X6 l0 l1 l2 H' a b c:=⟨e _ _ t.h0,e _ _ t.h1,e _ _ t.h2,t.n01,t.n02,t.n12⟩
theorem Wn.grow (e:Wn l0 l1 l2 H H') (t:X6 l0 l1 l2 H a b c) (t':X6 l0 l1 l2 H' a' b' c'):gA K H H':=by
 have key:∀ (x:Addr) (o:HO),H x=some o->(∀ xs,o≠.lst xs)->H' x=some o:=λx o h ho =>
  e x o (λz=>by rw [z,t.h0] at h;cases h;exact ho _ rfl) (λz=>by rw [z,t.h1] at h;cases h;exact ho _ rfl) (λz=>by rw [z,t.h2] at h;cases h;exact ho _ rfl) h
 refine ⟨λx xs h=>?_,λx xs h=>?_⟩
 ·rcases h with (h | ⟨o,h⟩) | h
  ·exact .inl (.inl (key _ _ h (λ_ z=>by cases z)))
  ·exact .inl (.inr ⟨o,key _ _ h (λ_ z=>by cases z)⟩)
  ·exact .inr h
 ·by_cases z0:x=l0
  ·rw [z0];exact ⟨_,SO.of t'.h0⟩
  by_cases z1:x=l1
  ·rw [z1];exact ⟨_,SO.of t'.h1⟩
  by_cases z2:x=l2
  ·rw [z2];exact ⟨_,SO.of t'.h2⟩
  refine ⟨xs,?_⟩;rcases h with (h | ⟨o,h⟩) | h
  ·exact .inl (.inl (e _ _ z0 z1 z2 h))
  ·exact .inl (.inr ⟨o,e _ _ z0 z1 z2 h⟩)
  ·exact .inr h
theorem X6.p0 (t:X6 l0 l1 l2 H a b c):X6 l0 l1 l2 (upd H l0 (.lst (a++[v]))) (a++[v]) (b++[]) (c++[])/\Wn l0 l1 l2 H (upd H l0 (.lst (a++[v]))):=by rw [PM,PM];exact ⟨⟨aI,by rw [aS (PL t.n01)];exact t.h1,by rw [aS (PL t.n02)];exact t.h2,t.n01,t.n02,t.n12⟩,λx o n0 _ _ h=>by rw [aS n0];exact h⟩
theorem X6.p1 (t:X6 l0 l1 l2 H a b c):X6 l0 l1 l2 (upd H l1 (.lst (b++[v]))) (a++[]) (b++[v]) (c++[])/\Wn l0 l1 l2 H (upd H l1 (.lst (b++[v]))):=by rw [PM,PM];exact ⟨⟨by rw [aS t.n01];exact t.h0,aI,by rw [aS (PL t.n12)];exact t.h2,t.n01,t.n02,t.n12⟩,λx o _ n1 _ h=>by rw [aS n1];exact h⟩
theorem X6.p2 (t:X6 l0 l1 l2 H a b c):X6 l0 l1 l2 (upd H l2 (.lst (c++[v]))) (a++[]) (b++[]) (c++[v])/\Wn l0 l1 l2 H (upd H l2 (.lst (c++[v]))):=by rw [PM,PM];exact ⟨⟨by rw [aS t.n02];exact t.h0,by rw [aS t.n12];exact t.h1,aI,t.n01,t.n02,t.n12⟩,λx o _ _ n2 h=>by rw [aS n2];exact h⟩
theorem X6.nil (t:X6 l0 l1 l2 H a b c):X6 l0 l1 l2 H (a++[]) (b++[]) (c++[]):=by rw [PM,PM,PM];exact t
variable {σ:St} {j:Nat} {l:Addr}
theorem iZ {te:TE} {us:TS} {En:kx} {G:Hp} {xs:List V} {d:D} (h:RE K te σ G d) (hl:G l=some (.lst xs)) (hx:xs.length<=900)
  (q:∀ y G',S4 l G G'->G' l=some (.lst (xs++[y]))->Dat K G' d y->us En σ G') (hv:σ[j]?=some (some (.ref l)):=by rfl):lX (rR (Z3 K "list" kH (fT j) (bW te dW))) us En σ G:=by
 refine ⟨_,hv,.inl ⟨rfl,_,SO.of hl⟩,h.use λy H1 s1 q1=>?_⟩;have hl1:=s1 _ _ hl;refine ⟨l,xs,y,rfl,rfl,hl1,cM (by omega),?_⟩;have b:S4 l H1 (upd H1 l (.lst (xs++[y]))):=S4.upd (SH.refl _).but;exact q y _ (s1.but.trans b) aI (Dat.mono (b.grow hl1 aI) _ q1)
theorem oE {f:Addr} {x:Str} {kvs:List (Key × V)} {ys:List V} {es:List D} (hf:H f=some (.dK kvs)) (hk:mY kvs (Sum.inr x)=some (.ref l)) (hl:H l=some (.lst ys)) (hd:SG K H es ys) (hv:σ[j]?=some (some (.ref f)):=by rfl) :
  RE K (Xy (λxs H Q=>∃ p ys,xs=[.ref p]/\((SO K H p ys/\∀ l,H l=none->Q (.ref l) (upd H l (.tup ys)))\/(Tg K H p ys/\Q (.ref p) H))) (bW (GC (fT j) (tC (.str x))) dW)) σ H (.tup es):=λH1 s Q q =>
 ⟨_,hv,f,.ref l,rfl,by have g:=Yr.k (k:=Sum.inr x) (s _ _ hf);rw [hk] at g;exact g,l,ys,rfl,.inl ⟨SO.of (s _ _ hl),λp hp=>q _ _ (aV hp _) (Dat.tupI (Tg.of aI) ((aV hp _).SQ (s.SQ hd)))⟩⟩
end
theorem uM:∀ {ns:List Int} {us:List Value},Vals (ns.map V.int) us->IntsAre us ns
 | [],us,h=>by cases h;exact .nil
 | n::ns,us,h=>by
  cases h with
  | cons r t =>obtain ⟨tk,rfl⟩:=r;exact .cons n tk (uM t)
section
variable {X:Cx}
theorem qi (hc:X.calm=true):jz X (.builtin "sum") (λxs H Q=>∃ (l:Addr) (ns:List Int),xs=[.ref l]/\SO X.K H l (ns.map V.int)/\Q (.int ns.sum) H):=by
 intro pins s σ H xs us Q I r h;obtain ⟨l,ns,rfl,hq,q⟩:=h;obtain ⟨u,rfl,ru⟩:=jd r;cases ru;obtain ⟨its,rv,p,hz⟩:=I.list hq;have hi:=uM rv;obtain ⟨zs,hzs⟩:=hi.allInts.items;refine sum_intListG (I.ok.hd hc) (show s.heap.IsList l (intItems zs) from hzs ▸ p.isList) λh' tk t' hk=>?_
 have a1:zs.toList.map (·.1)=ns:=by have z:=hi.numsOf;rw [show its=(intItems zs).toList by rw [<- hzs]] at z;rw [<- z,nums_intItems]
 have a2:preSum (numAt zs) zs.size=ns.sum:=by rw [preSum_eq,<- a1,Rw (by simp)]
 rw [a2];exact ⟨.int ns.sum,H,I.kept (t':=tk) hk,⟨t',rfl⟩,q⟩
noncomputable def Itv (K:W.Frag) (a:Addr) (xs:List V):It:=⟨λi H=>i < xs.length/\SO K H a xs,λi H x H'=>H'=H/\xs[xs.length - 1 - i]?=some x,λi _=>i=xs.length⟩
theorem Ek {P:Program} {w:World} {K:W.Frag} {tg:Expr} (a it:Addr) (xs:List V):pq P w K tg (Itv K a xs) [it] it (λi h=>h.IsRevIter it a ((xs.length:Int) - 1 - (i:Int))) where
 mem:=by simp
 obj:=λi h st b hb=>by
  have e:b=it:=by simpa using hb
  subst e;obtain ⟨o,e,c,d⟩:=st;exact ⟨o,e,λv z=>by rw [d] at z;cases z⟩
 keep:=λi h h' st k=>by obtain ⟨o,e,r⟩:=st;exact ⟨o,k it (by simp) o e,r⟩
 item:=by
  intro X hP hw hK hc i pins s σ H E I hf st hg;subst hP hw hK;obtain ⟨hi,hq⟩:=hg;obtain ⟨its,rv,p,hz⟩:=I.list hq;obtain ⟨f0,f1,f2,f3,f4,f5⟩:=hf it (by simp);have lr:=rv.length;have hx:xs[xs.length - 1 - i]?=some (xs[xs.length - 1 - i]'(by omega)):=Pe (by omega);obtain ⟨u,hu,ru⟩:=rv.get hx;have e1:(xs.length:Int) - 1 - (i:Int)=((xs.length - 1 - i:Nat):Int):=by omega
  have st1:s.heap.IsRevIter it a ((xs.length - 1 - i:Nat):Int):=by rw [<- e1];exact st
  refine wpAny_pyNext_rev_item st1 p.isList (x:=u) (by simpa using hu) λh' st' sb=>?_;have e2:((xs.length - 1 - i:Nat):Int) - 1=(xs.length:Int) - 1 - ((i+1:Nat):Int):=by omega
  rw [e2] at st';have I1:Inv X pins σ H { s with heap:=h' }:=I.turned (t':=s.toks) (λb o hb e=>(sb.2 b hb).trans e) f0 f1 f3 f4 f5;obtain ⟨o,e,c,d⟩:=id st';exact ⟨u,rfl,tq (s:={ s with heap:=h' }) e c d (by decide) ⟨_,H,I1,ru,⟨rfl,hx⟩,st',λb hb=>(hf b hb).1⟩⟩
 done:=by
  intro X hP hw hK hc i pins s σ H E I hf st hg;subst hP hw hK;obtain ⟨f0,f1,f2,f3,f4,f5⟩:=hf it (by simp);have hg':i=xs.length:=hg;subst hg';have e1:(xs.length:Int) - 1 - (xs.length:Int)=-1:=by omega
  rw [e1] at st;exact wpAny_pyNext_rev_end (I.ok.hd hc) st λh' eb=>⟨rfl,I.turned (t':=s.toks) (λb o hb e=>eb b o hb e) f0 f1 f3 f4 f5⟩
 self:=λA i s Q E st q=>wpAny_pyIter_revIter st q
variable {tg:Expr}
noncomputable def IM (K:W.Frag) (ta:TA):TI:=λσ H R=>ta σ H λvs H1=>∃ a xs,vs=[.ref a]/\SO K H1 a xs/\R (Itv K a xs) H1
theorem HR {a:Expr} {ta:TA} {p pos:Pos} (hg:Gl X "reversed") (hm:X.mg "reversed"=none) (ha:PA X [a] ta) (hs:starEach [a] X.env=[(false,eval a X.env)]:=by rfl):PI X tg (.Call (.Name "reversed" p) [a] [] pos) (IM X.K ta):=by
 intro pins s σ H R I h;refine Call_ (lj I hg hm oR (QD (SY (ha pos pins s σ H _ I h) λus s1 ⟨vs,H1,I1,r1,q1⟩=>?_) hs rfl));obtain ⟨l,xs,e,hq,q⟩:=q1;subst e;obtain ⟨u,rfl,ru⟩:=jd r1;cases ru;obtain ⟨its,rv,pl,hz⟩:=I1.list hq;have lr:=rv.length;refine call_reversed_list pl.isList ?_;have st:(s1.heap.push (revObj l ((its.toArray.size:Int) - 1))).IsRevIter s1.heap.objs.size l ((xs.length:Int) - 1 - ((0:Nat):Int)):=⟨_,P4 _ rfl,rfl,by simp [revObj,lr]⟩
 refine wpAny_pyIter_revIter (s:={ s1 with heap:=s1.heap.push (revObj l ((its.toArray.size:Int) - 1)) }) st ?_;refine ⟨s1.heap.objs.size,[s1.heap.objs.size],_,_,H1,rfl,I1.kept (t':=s1.toks) λb o e=>Pf _ e,Ek l _ xs,st,λb hb=>?_,q⟩;have e:b=s1.heap.objs.size:=by simpa using hb
 subst e;exact I1.X0 (Pq _) (I1.hok.fresh (Pq _))
end
noncomputable def met (f:Nat->Str) (i:Nat):List Str:=((List.range i).map f).foldl step_dedup []
theorem lC (f:Nat->Str) (i:Nat):met f (i+1)=step_dedup (met f i) (f i):=by unfold met;rw [List.range_succ,PY,List.foldl_append];rfl
theorem uz (l:List Str) (x:Str):(step_dedup l x).length=if l.any (· == x) then l.length else l.length+1:=by unfold step_dedup;split <;> simp
theorem zX (l:List Str) (x y:Str):(step_dedup l x).any (· == y)=(l.any (· == y) || decide (y=x)):=by
 unfold step_dedup;split
 ·rename_i h;by_cases e:y=x
  ·subst e;rw [h];rfl
  ·rw [Pj e,Bool.or_false]
 ·rw [List.any_append];congr 1;by_cases e:y=x
  ·subst e;simp
  ·have e':¬ x=y:=λz=>e z.symm;simp [e,e']
theorem uS (f:Nat->Str):∀ i,(met f i).length<=i
 | 0=>by simp [met]
 | i+1=>by rw [lC,uz];have:=uS f i;split <;> omega
theorem Ep {R:Result->Shared->Prop} {fp wr:List Addr} {G:Array GenState->Array GenState->Prop} {Pv:Nat->Value->Prop} {St:Nat->Shared->Prop}
  (W:WalksS P w A.in1 it fp wr G n Pv St) (sa:Addr) (nsa:sa ∉ fp) (f:Nat->Str) (hf:∀ i v,Pv i v->∃ t,v=.str (f i) t) (few:n+1 < scanBound) :
  ∀ (m i:Nat) (s:Shared),n - i=m->i<=n->St i s->s.heap.SetOf (strKind P w) sa (λy=>(met f i).any (· == y)) (met f i).length ->
   (∀ s',Moved (sa::wr) G s s'->s'.heap.SetOf (strKind P w) sa (λy=>(met f n).any (· == y)) (met f n).length->R (.ok (.ret .none)) s')->codeAny (model P w) A (.builtin "set.update.loop" ⟨[.ref sa,.ref it],[]⟩) R s:=by
 have nw:sa ∉ wr:=λz=>nsa (W.sub _ z);have more:∀ b ∈ wr,b ∈ sa::wr:=λb z=>PR _ z;intro m
 induction m with
 | zero =>
  intro i s e1 e2 st so fin;obtain rfl:i=n:=by omega
  refine codeAny_builtin RP ?_;rw [Around.under_plainId Q9 _];show wpAny _ A.in1 (pyNext (.ref it) >>= _) _ _ s;refine Pg (W.done s _ _ st λs2 mv=>?_);show wpAny _ A.in1 (ret Value.none) _ _ s2;obtain ⟨o,es,ep,tb,g,rest⟩:=so;exact PC (fin s2 (mv.mono more) ⟨o,es,ep,tb,mv.heap sa _ nw g,rest⟩)
 | succ m ih =>
  intro i s e1 e2 st so fin;have lt:i < n:=by omega
  refine codeAny_builtin RP ?_;rw [Around.under_plainId Q9 _];show wpAny _ A.in1 (pyNext (.ref it) >>= _) _ _ s;refine Pg (W.item i s _ _ lt st λv s2 pv st2 mv=>?_);obtain ⟨tk,rfl⟩:=hf i v pv;have so2:s2.heap.SetOf (strKind P w) sa (λy=>(met f i).any (· == y)) (met f i).length:=let ⟨o,es,ep,tb,g,rest⟩:=so;⟨o,es,ep,tb,mv.heap sa _ nw g,rest⟩;show wpAny _ A.in1 (holding [Value.str (f i) tk] (setAdd sa (.str (f i) tk)) >>= _) _ _ s2;refine Pg (Rp ?_);unfold setAdd;refine Rp (Pg ((strKind P w).pyHash (k:=f i) (strKind_is P w _ _) ?_));have rm:(met f i).length+1 < scanBound:=by have:=uS f i;omega
  refine wpAny_setAddHashed_of (knd:=strKind P w) (s:={ s2 with toks:=s2.toks+1 }) (strKind_is P w _ _) rfl so2 rm λh' sb so3=>?_;have so4:h'.SetOf (strKind P w) sa (λy=>(met f (i+1)).any (· == y)) (met f (i+1)).length:=SetOf_congr so3 (λy=>by rw [lC,zX]) (by rw [lC,uz]);refine PC ⟨plainId_quiet Q9 _,ih (i+1) _ (by omega) lt (W.frame _ s2 _ _ st2 (RX _) λb z o g=>?_) so4 λs3 mv3 so5=>?_⟩
  ·rw [sb.2 b (λq:b=sa=>nsa (by rw [<- q];exact z))];exact g
  ·refine fin s3 (Moved.trans W.gtrans ((mv.mono more).then_heap (RX _) λb o z g=>?_) mv3) so5;rw [sb.2 b (λq:b=sa=>z (by rw [q];exact P0))];exact g
noncomputable abbrev vX (led:Bool):Obj:={ cls:=.type "set",dict:=none,data:=.set #[] 0 (.fresh 0 0 led) }
theorem AZ {E:Value->Shared->Prop} {s:Shared} {items:Array Value} {f:Nat->Str} {Q:Value->Shared->Prop} (hh:A.handled=none) (hl:s.heap.IsList l items)
  (hi:∀ (i:Nat) (v:Value),items[i]?=some v->∃ t,v=.str (f i) t) (few:items.size+1 < scanBound)
  (fin:∀ (h':Heap) (tk:Nat),h'.SetOf (strKind P w) s.heap.objs.size (λy=>(met f items.size).any (· == y)) (met f items.size).length->(∀ b o,b < s.heap.objs.size->s.heap.get? b=some o->h'.get? b=some o)->Q (.ref s.heap.objs.size) { s with heap:=h',toks:=tk }) :
  wpAny (model P w) A (call (.type "set") [.ref l]) Q E s:=by
 obtain ⟨c,tl,mro⟩:=Rm.mro;have made:=Rm.made;have sub:=Rm.sub;refine wpAny_call (codeAny_of_tree ?_);show wpAny _ _ (callAny (.type "set") _) _ _ _;refine PC ⟨Code.quiet_builtin _ (by decide +kernel),codeAny_builtin F.entry_type_call ?_⟩;rw [Around.under_plain (weight_type_call_type "set" [.ref l] []) rfl];have k1:=Rm.notType;have k2:=Rm.canCreate;have k3:=F.typeCall_set_1 (.ref l)
 repeat (any_goals (first | assumption | wp_step))
 refine Rz (code_set_new_1 (.ref l) (E:=E) (Q₁:=λobj s1=>∃ led:Bool,obj=.ref s.heap.objs.size/\s1={ s with heap:=s.heap.push (vX led) }) λled=>⟨led,rfl,rfl⟩) λr s1 hr=>?_
 cases r with
 | error e=>exact hr
 | ok fl =>
  cases fl with
  | ret obj =>
   obtain ⟨led,rfl,rfl⟩:=hr;have g0:(s.heap.push (vX led)).get? s.heap.objs.size=some (vX led):=P4 _ rfl;have ty:Shared.TypeIs { s with heap:=s.heap.push (vX led) } (.ref s.heap.objs.size) "set":=⟨_,g0,rfl⟩
   have k4:=Rm.init.lookup;have k5:=Rm.init.bind (.ref s.heap.objs.size)
   repeat (any_goals (first | assumption | wp_step))
   refine Rz (codeAny_call_builtin (R:=wants (λr s2=>r=.none/\∃ h' tk,s2={ s with heap:=h',toks:=tk }/\h'.SetOf (strKind P w) s.heap.objs.size (λy=>(met f items.size).any (· == y)) (met f items.size).length /\
     (∀ b o,b < s.heap.objs.size->s.heap.get? b=some o->h'.get? b=some o)) E) Rm.init.plain F.entry_set_init (check_set_init_1 ty ?_)) λr2 s2 hr2=>?_
   ·obtain ⟨ol,g1,g2,nl,g3⟩:=hl;obtain ⟨oc,od,ob,os⟩:=ol;simp only at g2 g3;subst g2;subst g3;have g4:(s.heap.push (vX led)).get? l=some { cls:=.type "list",dict:=od,data:=.seq items nl,slots:=os }:=Pf _ g1;have m1:=F.sub_list_set;have m2:=F.sub_list_frozenset;have m3:(Value.type "list" == Value.type "dict")=false:=by decide
    have il:(s.heap.push (vX led)).IsList l items:=⟨_,g4,rfl,nl,rfl⟩
    unfold Builtin.«set.__init__» noKeywords Builtin.Frozenset.updateFrom;generalize hPI:pyIter=PI
    wp_walk
    subst hPI;refine Rj il (Pg (wpAny_runValue ?_));have ll:l < s.heap.objs.size:=PF g1;have h3:A.in1.in1.in1.handled=none:=by simp [hh]
    have n1:l≠(s.heap.push (vX led)).objs.size:=by rw [Qs];exact Qc (Sv ll)
    have n2:s.heap.objs.size ∉ [(s.heap.push (vX led)).objs.size,l]:=by rw [Qs];simp only [Py,PN,P8,Qx,not_or];exact ⟨Qc (RI _),QN ll⟩
    refine Ep ((Walks.list h3 _ l n1 items).toS) s.heap.objs.size n2 f hi few (items.size - 0) 0 _ (by omega) (Qy _) ⟨⟨_,P4 _ rfl,rfl,rfl⟩,(il.push _)⟩ ?so ?fi
    case so=>exact SetOf_congr ((setObjOf_fresh (knd:=strKind P w) led).setOf (Pf _ g0) (by unfold scanBound;omega)) (λ_=>rfl) rfl
    case fi =>
     intro s' mv so;obtain ⟨h',g',d',tk',os'⟩:=s';obtain rfl:g'=s.gens:=mv.gens;obtain rfl:d'=s.drawn:=mv.drawn;obtain rfl:os'=s.os:=mv.os;show wpAny _ _ _ _ _ _;refine PC ?_;show wpAny _ _ (ret Value.none) _ _ _;refine PC ⟨rfl,h',tk',rfl,so,λb o z g=>?_⟩;have z1:b≠s.heap.objs.size:=Qc z;have z2:b≠(s.heap.push (vX led)).objs.size:=by rw [Qs];exact Qc (Sv z)
     exact mv.heap b o (by simp only [Py,PN,P8,Qx,not_or];exact ⟨z1,z2⟩) (Pf _ (Pf _ g))
   ·cases r2 with
    | error e=>exact hr2
    | ok fl2 =>
     cases fl2 with
     | ret r =>
      obtain ⟨rfl,h',tk,rfl,so,kp⟩:=hr2
      repeat (any_goals (first | assumption | wp_step))
      exact fin _ _ so kp
     | _=>exact hr2.elim
  | _=>exact hr.elim
def zt (a:Addr) (n:Nat) (h:Heap):Prop:=∃ o es ep t,h.get? a=some o/\o.ExactSet/\o.data=.set es ep t/\t.fits es.size=true/\es.size=n
section
variable {X:Cx}
theorem AM:∀ {zs:List Str} {us:List Value} (i:Nat) (v:Value),Vals (zs.map V.str) us->us[i]?=some v->∃ t,v=.str (zs.getD i "") t
 | [],us,i,v,h,e=>by cases h;simp at e
 | z::zs,us,i,v,h,e=>by
  cases h with
  | cons r t =>
   obtain ⟨tk,rfl⟩:=r
   cases i with
   | zero =>
    have e':Value.str z tk=v:=by simpa using e
    exact ⟨tk,e'.symm⟩
   | succ i =>obtain ⟨t',e'⟩:=AM (zs:=zs) i v t (by simpa using e);exact ⟨t',by simpa using e'⟩
noncomputable def uy (zs:List Str):Nat:=(met (λi=>zs.getD i "") zs.length).length
theorem A0 (hc:X.calm=true):jz X (.type "set") (λxs H Q=>∃ (l:Addr) (zs:List Str),xs=[.ref l]/\SO X.K H l (zs.map V.str)/\zs.length<=100/\∀ p,H p=none->Q (.ref p) (upd H p (.ext (zt p (uy zs))))):=by
 intro pins s σ H xs us Q I r h;obtain ⟨l,zs,rfl,hq,hz,q⟩:=h;obtain ⟨u,rfl,ru⟩:=jd r;cases ru;obtain ⟨its,rv,p,_⟩:=I.list hq;have lr:=rv.length;rw [Pd] at lr;refine AZ (f:=λi=>zs.getD i "") (I.ok.hd hc) p.isList (λi v e=>AM i v rv (by simpa using e)) (by unfold scanBound;simp;omega) λh' tk so kp=>?_
 have so':zt s.heap.objs.size (uy zs) h':=by obtain ⟨o,es,ep,t,a1,a2,a3,_,_,_,a4,a5⟩:=so;refine ⟨o,es,ep,t,a1,a2,a3,a4,?_⟩;rw [a5];unfold uy;rw [lr];simp
 refine ⟨.ref s.heap.objs.size,_,I.laid (t':=tk) (λb o e=>kp b o (PF e) e) (Pq _) (show S9 X.prog X.w _ h' _ (.ext (zt s.heap.objs.size (uy zs))) from ⟨so',?_,λh1 h2 z k=>?_⟩),rfl,q _ (I.hok.fresh (Pq _))⟩
 ·obtain ⟨o,_,_,_,a1,_⟩:=so';exact ⟨o,a1⟩
 ·obtain ⟨o,es,ep,t,a1,rest⟩:=z;exact ⟨o,es,ep,t,k _ a1,rest⟩
theorem wL:jz X (.builtin "len") (λxs H Q=>∃ (p:Addr) (n:Nat),xs=[.ref p]/\H p=some (.ext (zt p n))/\n<=1000/\Q (.int n) H):=by
 intro pins s σ H xs us Q I r h;obtain ⟨p,n,rfl,hp,hn,q⟩:=h;obtain ⟨u,rfl,ru⟩:=jd r;cases ru;obtain ⟨⟨o,es,ep,t,a1,a2,a3,a4,a5⟩,_⟩:=(show S9 X.prog X.w H s.heap p (.ext (zt p n)) from I.hok p _ hp)
 subst a5;exact call_len_set a1 a2 a3 a4 (by omega) ⟨.int (es.size:Nat),H,I.tok _,⟨_,rfl⟩,q⟩
end
theorem SH.VG (e:SH H H') (h:VG K H a xs):VG K H' a xs:=h.elim (λz=>.inl (e _ _ z)) .inr
def LD (K:W.Frag) (H:Hp) (ds:List D) (v:V):Prop:=∃ a vs,v=.ref a/\VG K H a vs/\SG K H ds vs
theorem SH.ld (e:SH H H') (h:LD K H ds v):LD K H' ds v:=by obtain ⟨a,vs,e1,h1,h2⟩:=h;exact ⟨a,vs,e1,e.VG h1,e.SQ h2⟩
theorem LD.lst (h:LD K H ds v):Dat K H .lst v:=by obtain ⟨a,vs,rfl,h1,_⟩:=h;exact Dat.lstI h1.WA
theorem LD.of (h:H a=some (.lst vs)) (hd:SG K H ds vs):LD K H ds (.ref a):=⟨a,vs,rfl,.inl h,hd⟩
inductive Ar where
 | d (x:D)
 | l (ds:List D)
def Ze (K:W.Frag) (H:Hp):Ar->V->Prop
 | .d x,v=>Dat K H x v
 | .l ds,v=>LD K H ds v
inductive Y4 (K:W.Frag) (H:Hp):List Ar->List V->Prop
 | nil:Y4 K H [] []
 | cons {a v as vs}:Ze K H a v->Y4 K H as vs->Y4 K H (a::as) (v::vs)
theorem SH.ari {a:Ar} (e:SH H H') (h:Ze K H a v):Ze K H' a v:=by
 cases a with
 | d x=>exact e.dat h
 | l ds=>exact e.ld h
theorem Y4.length {as:List Ar} (h:Y4 K H as vs):as.length=vs.length:=by
 induction h with
 | nil=>rfl
 | cons _ _ ih=>simp [ih]
theorem AS {a:Ar} (h:Y4 K H [a] vs):∃ u,vs=[u]/\Ze K H a u:=by
 cases h with
 | cons h1 h2=>cases h2;exact ⟨_,rfl,h1⟩
variable {b:Ar}
theorem yp {a:Ar} (h:Y4 K H [a,b] vs):∃ u v,vs=[u,v]/\Ze K H a u/\Ze K H b v:=by
 cases h with
 | cons h1 h2=>obtain ⟨v,rfl,q⟩:=AS h2;exact ⟨_,v,rfl,h1,q⟩
variable {c:Ar}
theorem IF {a:Ar} (h:Y4 K H [a,b,c] vs):∃ u v w,vs=[u,v,w]/\Ze K H a u/\Ze K H b v/\Ze K H c w:=by
 cases h with
 | cons h1 h2=>obtain ⟨v,w,rfl,q,q'⟩:=yp h2;exact ⟨_,v,w,rfl,h1,q,q'⟩
theorem EB {a d:Ar} (h:Y4 K H [a,b,c,d] vs):∃ u v w x,vs=[u,v,w,x]/\Ze K H a u/\Ze K H b v/\Ze K H c w/\Ze K H d x:=by
 cases h with
 | cons h1 h2=>obtain ⟨v,w,x,rfl,q,q',q''⟩:=IF h2;exact ⟨_,v,w,x,rfl,h1,q,q',q''⟩
def Xq (K:W.Frag) (R:List Ar->D->Prop):Sp:=λvs H Q _=>∃ as d,Y4 K H as vs/\R as d/\∀ v H',SH H H'->Dat K H' d v->Q v H'
def lV (K:W.Frag) (R:List Ar->List D->Prop):Sp:=λvs H Q _=>∃ as es,Y4 K H as vs/\R as es/\∀ r us H',SH H H'->H' r=some (.lst us)->H r=none->SG K H' es us->Q (.ref r) H'
def RL (K:W.Frag) (t:TE) (σ:St) (H:Hp) (ds:List D):Prop:=∀ H1,SH H H1->∀ Q:VK,(∀ v H',SH H1 H'->LD K H' ds v->Q v H')->t σ H1 Q
def RB (K:W.Frag) (t:TA) (σ:St) (H:Hp) (as:List Ar):Prop:=∀ H1,SH H H1->∀ Q:List V->Hp->Prop,(∀ vs H',SH H1 H'->Y4 K H' as vs->Q vs H')->t σ H1 Q
section
variable {K:W.Frag} {σ:St} {H H':Hp} {d d':D} {ds es:List D} {t u ta tb te tl:TE} {tt uu:TT} {tA:TA} {i j:Int} {b c:Bool} {mk:St->St} {jj:Nat} {ar:List Ar}
theorem RL.mono (h:RL K t σ H es) (e:SH H H'):RL K t σ H' es:=λH1 s Q q=>h H1 (e.trans s) Q q
theorem RL.use {Q:VK} (h:RL K t σ H es) (q:∀ v H',SH H H'->LD K H' es v->Q v H'):t σ H Q:=h H (SH.refl H) Q q
theorem RB.use {Q:List V->Hp->Prop} (h:RB K tA σ H ar) (q:∀ vs H',SH H H'->Y4 K H' ar vs->Q vs H'):tA σ H Q:=h H (SH.refl H) Q q
theorem dU:RB K dW σ H []:=λH1 _ Q q=>q _ _ (SH.refl _) .nil
theorem iK (h:RE K t σ H d) (r:RB K tA σ H ar):RB K (bW t tA) σ H (.d d::ar):=λH1 s Q q =>
 h H1 s _ λv H2 s2 q2=>r H2 (s.trans s2) _ λvs H3 s3 q3=>q _ _ (s2.trans s3) (.cons (s3.ari (a:=.d d) q2) q3)
theorem gB (h:RL K t σ H ds) (r:RB K tA σ H ar):RB K (bW t tA) σ H (.l ds::ar):=λH1 s Q q =>
 h H1 s _ λv H2 s2 q2=>r H2 (s.trans s2) _ λvs H3 s3 q3=>q _ _ (s2.trans s3) (.cons (s3.ari (a:=.l ds) q2) q3)
variable {v:V}
theorem a8 {k:Nat} (h:LD K H ds v) (e:σ[k]?=some (some v):=by rfl):RL K (fT k) σ H ds:=λH1 s Q q=>⟨v,e,q _ _ (SH.refl _) (s.ld h)⟩
theorem jW (h:RC K t σ H es):RL K t σ H es:=λH1 s Q q=>h H1 s _ λl ys H' _ s' hy hd=>q _ _ s' (LD.of hy hd)
theorem Ih {a:Addr} (h:qL K ds a=true):RL K (tC (.ref a)) σ H ds:=λH1 _ Q q=>by obtain ⟨vs,h1,h2⟩:=uR h H1;exact q _ _ (SH.refl _) ⟨a,vs,rfl,.inr h1,h2⟩
variable {E:XK}
theorem eF {R:List Ar->D->Prop} (h:RB K tA σ H ar) (e:R ar d):RE K (kr (Xq K R) [] E tA) σ H d:=λH1 s Q q =>
 h H1 s _ λvs H2 s2 q2=>⟨ar,d,by rw [PM];exact q2,e,λv H3 s3 q3=>q _ _ (s2.trans s3) q3⟩
theorem gU {R:List Ar->List D->Prop} (h:RB K tA σ H ar) (e:R ar es):RC K (kr (lV K R) [] E tA) σ H es:=λH1 s Q q =>
 h H1 s _ λvs H2 s2 q2=>⟨ar,es,by rw [PM];exact q2,e,λr us H3 s3 hr hr0 hd=>q r us H3 (s2.free hr0) (s2.trans s3) hr hd⟩
theorem iD {k:Nat} (h1:RL K ta σ H ds) (h2:RE K tb σ H (.int k)) (e:ds[k]?=some d):RE K (VE (BC K) ta tb) σ H d:=λH1 s Q q =>
 h1 H1 s _ λv H2 s2 q2=>h2 H2 (s.trans s2) _ λw H3 s3 q3=>by obtain ⟨a,vs,ev,hq,hd⟩:=s3.ld q2;obtain ⟨x,ex,hx⟩:=hd.get e;exact ⟨a,vs,k,x,ev,q3.SN,hq.WA,jT ex,q _ _ (s2.trans s3) hx⟩
theorem SG.snocE {b:D}:∀ {as:List D} {vs:List V},SG K H (as++[b]) vs->∃ us v,vs=us++[v]/\SG K H as us/\Dat K H b v
 | [],vs,h=>by obtain ⟨v,rfl,q⟩:=ji h;exact ⟨[],v,rfl,SG.nil,q⟩
 | a::as,vs,h=>by obtain ⟨v,r,rfl,h1,h2⟩:=h.Tq;obtain ⟨us,w,rfl,q1,q2⟩:=SG.snocE (as:=as) h2;exact ⟨v::us,w,rfl,SG.cons h1 q1,q2⟩
theorem mf (h1:RL K ta σ H (ds++[d])) (h2:RE K tb σ H (.int (-1))):RE K (VE (BC K) ta tb) σ H d:=λH1 s Q q =>
 h1 H1 s _ λv H2 s2 q2=>h2 H2 (s.trans s2) _ λw H3 s3 q3=>by obtain ⟨a,vs,ev,hq,hd⟩:=s3.ld q2;obtain ⟨us,x,rfl,hu,hx⟩:=hd.snocE;exact ⟨a,_,-1,x,ev,q3.SN,hq.WA,Ce us x,q _ _ (s2.trans s3) hx⟩
theorem eA (h:RL K t σ H es):RE K (Xy (λxs H Q=>∃ p ys,xs=[.ref p]/\(SO K H p ys\/Tg K H p ys)/\Q (.int ys.length) H) (bW t dW)) σ H (.int es.length):=λH1 s Q q =>
 iL ((h.mono s).use λv H' s' hd=>by
  obtain ⟨l,ys,rfl,hy,hd⟩:=hd;exact ⟨l,ys,rfl,.inl hy.WA,by rw [<- hd.length];exact q _ _ s' (Dat.SK _)⟩)
theorem qm:∀ {ns:List Int} {vs:List V},SG K H (ns.map D.int) vs->vs=ns.map V.int
 | [],vs,h=>by rw [SG.VZ h];rfl
 | n::ns,vs,h=>by obtain ⟨v,r,e,h1,h2⟩:=h.Tq;rw [e,h1.SN,qm h2];rfl
theorem vO {ns:List Int} (h:RL K t σ H (ns.map D.int)):RE K (Xy (λxs H Q=>∃ (l:Addr) (ns:List Int),xs=[.ref l]/\SO K H l (ns.map V.int)/\Q (.int ns.sum) H) (bW t dW)) σ H (.int ns.sum):=λH1 s Q q =>
 iL ((h.mono s).use λv H' s' hd=>by
  obtain ⟨l,ys,rfl,hy,hd⟩:=hd;exact ⟨l,ns,rfl,by rw [<- qm hd];exact hy.WA,q _ _ s' (Dat.SK _)⟩)
noncomputable def isN:D->Bool
 | .SM=>true
 | _=>false
theorem Ai (h:Dat K H d v):decide (v=.SM)=isN d:=by
 cases d with
 | SM=>rw [h.Vh];rfl
 | bl b=>rw [h.VX];rfl
 | int i=>rw [h.SN];rfl
 | str x=>rw [h.S3];rfl
 | tup ds=>obtain ⟨a,vs,e,_⟩:=h.S7;rw [e];rfl
 | lst=>obtain ⟨a,vs,e,_⟩:=h.YM;rw [e];rfl
theorem oC (h:RE K ta σ H d):RE K (VE (λx y H Q=>y=.SM/\Q (.bl (decide (x=.SM))) H) ta (tC .SM)) σ H (.bl (isN d)):=λH1 s Q q =>
 h H1 s _ λv H2 s2 q2=>⟨rfl,by rw [Ai q2];exact q _ _ s2 (Dat.VW _)⟩
theorem AF (h:RE K ta σ H d):RE K (VE (λx y H Q=>y=.SM/\Q (.bl (!decide (x=.SM))) H) ta (tC .SM)) σ H (.bl (!isN d)):=λH1 s Q q =>
 h H1 s _ λv H2 s2 q2=>⟨rfl,by rw [Ai q2];exact q _ _ s2 (Dat.VW _)⟩
theorem jM {cs:List D} (h:RL K tl σ H cs) (hc:cs.length<=1000) (es:List D) (hl:es.length=cs.length) (h0:(mk σ).set jj none=mk σ)
  (turn:∀ H1 (i:Nat) c v d,SH H H1->cs[i]?=some c->es[i]?=some d->Dat K H1 c v->RE K te ((mk σ).set jj (some v)) H1 d):RC K (jP (tu K tl) mk (d6 jj) jc te) σ H es:=λH1 s Q q=>by
 refine (h.mono s).use λv4 H4 s4 q4=>?_;obtain ⟨l4,YD,rfl,Yh,Zw⟩:=q4;have ll:=Zw.length;refine ⟨l4,rfl,⟨YD,Yh.WA⟩,?_⟩;refine kg (K:=K) (Q:=Q) (n:=YD.length) (item:=λi=>YD.getD i .SM) (λi H' s hi=>uH i H' (s.seq Yh.WA) hi) (λH' s=>⟨YD,s.seq Yh.WA,Pq _⟩) h0 es (by omega) (by omega) (λi d hi=>?_) (λl ys H5 YC s5=>q l ys H5 (s4.free YC) (s4.trans s5));have hi':i < es.length:=(P1.mp hi).1;have hic:i < cs.length:=by omega
 obtain ⟨vz,ez,hz⟩:=Zw.get (Pe hic);have q:=turn H4 i cs[i] vz d (s.trans s4) (Pe hic) hi hz;rw [PX,ez];exact q
theorem zi (h:RL K t σ H es):RC K (Xy (λxs H Q=>∃ p ys,xs=[.ref p]/\(SO K H p ys\/Tg K H p ys)/\∀ l,H l=none->Q (.ref l) (upd H l (.lst ys))) (bW t dW)) σ H es:=λH1 s Q q =>
 iL ((h.mono s).use λv H' s' hd=>by
  obtain ⟨p,ys,rfl,hy,hd⟩:=hd;exact ⟨p,ys,rfl,.inl hy.WA,λl hl=>q l ys _ (s'.free hl) (s'.trans (aV hl _)) aI ((aV hl _).SQ hd)⟩)
theorem js (h1:RL K ta σ H ds) (h2:RL K tb σ H es) (hl:ds.length+es.length<=1000):RC K (VE (Gp K) ta tb) σ H (ds++es):=λH1 s Q q =>
 h1 H1 s _ λv H2 s2 q2=>h2 H2 (s.trans s2) _ λw H3 s3 q3=>by obtain ⟨a,xs,rfl,ha,da⟩:=s3.ld q2;obtain ⟨b,ys,rfl,hb,db⟩:=q3;have l1:=da.length;have l2:=db.length;exact ⟨a,b,xs,ys,rfl,rfl,ha,hb,by omega,λp hp=>q p _ _ ((s2.trans s3).free hp) (s2.trans (s3.trans (aV hp _))) aI ((aV hp _).SQ (SG.append da db))⟩
end
section
variable {K:W.Frag} {σ:St} {H H':Hp} {d d':D} {ds es:List D} {t u ta tb te tl:TE}
theorem BG {zs:List Str} (h:RC K t σ H (zs.map D.str)) (hz:zs.length<=100):RE K (Xy (λxs H Q=>∃ (p:Addr) (n:Nat),xs=[.ref p]/\H p=some (.ext (zt p n))/\n<=1000/\Q (.int n) H)
  (bW (Xy (λxs H Q=>∃ (l:Addr) (zs:List Str),xs=[.ref l]/\SO K H l (zs.map V.str)/\zs.length<=100/\∀ p,H p=none->Q (.ref p) (upd H p (.ext (zt p (uy zs))))) (bW t dW)) dW)) σ H (.int (uy zs)):=λH1 s Q q =>
 iL (iL ((h.mono s).use λl ys H2 _ s2 hy hd=>by
  refine ⟨l,zs,rfl,by rw [<- zT hd];exact SO.of hy,hz,λp hp=>⟨p,uy zs,rfl,aI,?_,q _ _ (s2.trans (aV hp _)) (Dat.SK _)⟩⟩;have:=uS (λi=>zs.getD i "") zs.length;unfold uy;omega))
theorem zY (zs:List Str):∀ i,i<=zs.length->((∀ y,(met (λi=>zs.getD i "") i).any (· == y)=decide (y ∈ zs.take i))/\((met (λi=>zs.getD i "") i).length=i↔(zs.take i).Nodup))
 | 0,_=>⟨λy=>by simp [met],by simp [met]⟩
 | i+1,h=>by
  obtain ⟨i1,i2⟩:=zY zs i (by omega);have hle:=uS (λi=>zs.getD i "") i;have hi:i < zs.length:=h;have et:zs.take (i+1)=zs.take i++[zs[i]]:=by rw [Qo,Pe hi];rfl
  have eg:zs.getD i ""=zs[i]:=by rw [PX,Pe hi];rfl
  refine ⟨λy=>?_,?_⟩
  ·rw [lC,zX,i1,et];simp only [eg,P9,PN];by_cases h1:y ∈ zs.take i <;> by_cases h2:y=zs[i] <;> simp [h1,h2]
  ·rw [lC,uz,i1,et];simp only [eg];rw [List.nodup_append];by_cases hm:zs[i] ∈ zs.take i
   ·rw [Ph (Pw hm)];constructor
    ·intro z;omega
    ·rintro ⟨_,_,z⟩;exact absurd rfl (z _ hm _ (PN.mpr rfl))
   ·rw [M1 (by simpa using hm)];constructor
    ·intro z;refine ⟨i2.mp (by omega),by simp,?_⟩;rintro a ha b hb rfl;rw [PN.mp hb] at ha;exact hm ha
    ·rintro ⟨z,_⟩;have:=i2.mpr z;omega
theorem EJ (zs:List Str):uy zs=zs.length↔zs.Nodup:=by have h:=(zY zs zs.length (Pq _)).2;rw [QI] at h;exact h
end
def pP (K:W.Frag):V->List V->Hp->VK->Prop:=λx vs H Q=>∃ l xs y ds d j,x=.ref l/\vs=[y]/\VG K H l xs/\SG K H ds xs/\Dat K H d y/\Ti ds=true/\UK d=true/\SW ds<=20/\xs.length<=1000 /\
 (∃ e,ds[j]?=some e/\S0 e d=true)/\(∀ (m:Nat) e,m < j->ds[m]?=some e->S0 e d=false)/\Q (.int (j:Nat)) H
section
variable {X:Cx}
theorem Bk {k:Nat} (hr:Tw k X.A):MtM X "list.index" (pP X.K):=by
 intro pins s σ H x vs v us Q I rx rv h;obtain ⟨l,xs,y,ds,d,j,rfl,rfl,hH,hds,hd,n1,n2,dp,hx,⟨e0,he0,hit⟩,hno,q⟩:=h;cases rx;obtain ⟨u,rfl,ru⟩:=jd rv;obtain ⟨its,n,r,e⟩:=hH.at I;have hl:=r.length;have ll:=hds.length
 have item:∀ (m:Nat) (w:Value),its[m]?=some w->∃ g,ds[m]?=some g/\∃ xv,RelV xv w/\Dat X.K H g xv:=λm w hw=>by have hm:m < its.length:=(P1.mp hw).1;obtain ⟨g,hg,dg⟩:=hds.Wb (i:=m) (v:=xs[m]'(by omega)) (Pe (by omega));obtain ⟨w',hw',rr⟩:=r.get (i:=m) (x:=xs[m]'(by omega)) (Pe (by omega));rw [hw] at hw';cases hw';exact ⟨g,hg,_,rr,dg⟩
 have relInj:∀ {x1 x2:V} {w:Value},RelV x1 w->RelV x2 w->x1=x2:=λ{x1 x2 w} h1 h2=>RelV.inj h1 h2
 classical
 let eq:Value->Bool:=λw=>if hw:∃ m:Nat,its[m]?=some w then (match ds[Classical.choose hw]? with | some g=>S0 g d | none=>false) else false
 have eqAt:∀ (m:Nat) (w:Value) (g:D),its[m]?=some w->ds[m]?=some g->eq w=S0 g d:=λm w g hw hg=>by
  have hw':∃ m:Nat,its[m]?=some w:=⟨m,hw⟩
  show (if hw:∃ m:Nat,its[m]?=some w then _ else false)=_;rw [dif_pos hw'];have hc:=Classical.choose_spec hw';obtain ⟨g',hg',xv',r1,d1⟩:=item _ w hc;obtain ⟨g2,hg2,xv,r2,d2⟩:=item m w hw;rw [hg] at hg2;cases hg2;rw [hg'];have ex:=relInj r1 r2;subst ex;have:=ux I g' g (kj n1 hg') d1 d2 (kj n1 hg);rw [this]
 have hj:j < ds.length:=(P1.mp he0).1
 have hu:X.A.in1.units+20+1 < cLine:=by have:=hr.un;show X.A.units+1+20+1 < cLine;omega
 refine call_meets F.slot_list_index ⟨_,e,rfl⟩ F.entry_list_index (F.args_list_index_2 _ _) (SeqAt.list_indexAt l its.toArray n none #[] u eq j (by simp;omega) (by omega) ?_ ?_) ⟨e,?_,?_⟩
 ·have hw:its[j]?=some (its[j]'(by omega)):=Pe (by omega);have:=eqAt j _ e0 hw he0;simpa [this] using hit
 ·intro m hm hmj;have hm':m < its.length:=by simpa using hm
  have hw:its[m]?=some (its[m]'hm'):=Pe hm';obtain ⟨g,hg,_⟩:=item m _ hw;have:=eqAt m _ g hw hg;simpa [this] using hno m g hmj hg
 ·intro w hw;obtain ⟨m,hm,rfl⟩:=Array.getElem_of_mem hw;have hm':m < its.length:=by simpa using hm
  have hw2:its[m]?=some (its[m]'hm'):=Pe hm';obtain ⟨g,hg,xv,r1,d1⟩:=item m _ hw2;have z1:its.toArray[m]=its[m]'hm':=by simp
  rw [z1,eqAt m _ g hw2 hg];exact yw I 20 X.A.in1 g d xv y _ u hu (Qd (mO hg) dp) (kj n1 hg) n2 d1 hd r1 ru
 ·exact ⟨.int (j:Nat),H,I.tok _,⟨_,rfl⟩,q⟩
theorem Bl {k:Nat} (hr:Tw k X.A):MtR X "list.index" (pP X.K):=Bk hr
end
section
variable {K:W.Frag} {σ:St} {H:Hp} {te:TE}
theorem DP {k j:Nat} {v:V} {ds:List D} {d:D} (hv:LD K H ds v) (h:RE K te σ H d) (n1:Ti ds=true) (n2:UK d=true) (dp:SW ds<=20) (hl:ds.length<=1000) (h1:∃ e,ds[j]?=some e/\S0 e d=true) (h2:∀ (m:Nat) e,m < j->ds[m]?=some e->S0 e d=false) (e:σ[k]?=some (some v):=by rfl) :
  RE K (Z3 K "list" (pP K) (fT k) (bW te dW)) σ H (.int (j:Nat)):=λH1 s Q q=>by
 obtain ⟨a,vs,rfl,hq,hd⟩:=s.ld hv;have ll:=hd.length;refine ⟨_,e,.inl ⟨rfl,_,hq.WA⟩,h H1 s _ λy H2 s2 q2=>?_⟩;exact ⟨a,vs,y,ds,d,j,rfl,rfl,s2.VG hq,s2.SQ hd,q2,n1,n2,dp,by omega,h1,h2,q _ _ s2 (Dat.SK _)⟩
end
theorem EU {K:PySem.W.Frag} {g:TG} {tb:TS} {D:kx} (Pv:Nat->St->Hp->Prop) (h0:Pv 0 σ H) (hl:∀ i σ H,i<=xs.length->Pv i σ H->SO K H a xs)
  (hs:∀ i x σ H,i < xs.length->xs[xs.length - 1 - i]?=some x->Pv i σ H->g x σ H λσ2 H2=>tb { D with nx:=Pv (i+1),ct:=Pv (i+1),bk:=D.nx } σ2 H2) (hd:∀ σ H,Pv xs.length σ H->D.nx σ H) :
  ∃ W:Nat->Nat->St->Hp->Prop,(∃ m,W 0 m σ H)/\∀ i m σ H,W i m σ H ->
   ((Itv K a xs).stop i H/\D.nx σ H)\/((Itv K a xs).go i H/\∃ N:St->Hp->Prop,(∀ σ' H',N σ' H'->∃ m',m' < m/\W (i+1) m' σ' H')/\∀ x H',(Itv K a xs).Yd i H x H'->g x σ H' λσ2 H2=>tb { D with nx:=N,ct:=N,bk:=D.nx } σ2 H2):=by
 refine ⟨λi m σ H=>m=xs.length - i/\i<=xs.length/\Pv i σ H,⟨xs.length,by simp,Qy _,h0⟩,?_⟩;rintro i m σ H ⟨rfl,hi,p⟩;have q:=hl i σ H hi p;by_cases hlt:i < xs.length
 ·refine .inr ⟨⟨hlt,q⟩,Pv (i+1),λσ' H' p'=>⟨xs.length - (i+1),by omega,rfl,hlt,p'⟩,λx H' y=>?_⟩;obtain ⟨e,y⟩:=y;subst e;exact hs i x σ _ hlt y p
 ·have e:i=xs.length:=by omega
  subst e;exact .inl ⟨rfl,hd σ H p⟩
theorem oT (Ok:Hp->Prop)
  (go:∀ i H',Ok H'->i < n->J.go i H'/\∀ x T3,J.Yd i H' x T3->T3=H'/\x=item i) (stop:∀ H',Ok H'->J.stop n H') (h0:σ0.set j none=σ0)
  (D:Addr) (Pn:Nat->Hp->Prop) (p0:Pn 0 (upd H1 D (.lst []))) (ok:∀ i H',i<=n->Pn i H'->Ok H')
  (turn:∀ i H',i < n->Pn i H'->tt (σ0.set j (some (item i))) H' λb H3=>if b=true then te (σ0.set j (some (item i))) H3 λv H4=>∃ ys,H4 D=some (.lst ys)/\ys.length < sizeLine/\(∃ z,σ0.set j (some (item i))=σ0.set j z)/\Pn (i+1) (upd H4 D (.lst (ys++[v]))) else (∃ z,σ0.set j (some (item i))=σ0.set j z)/\Pn (i+1) H3)
  (fin:∀ H',Pn n H'->Q (.ref D) H') :
  ∃ W:Nat->Nat->St->Hp->Prop,(∃ m,W 0 m σ0 (upd H1 D (.lst [])))/\∀ i m σ' H',W i m σ' H' ->
   (J.stop i H'/\Q (.ref D) H') \/
   (J.go i H'/\∃ Nx:St->Hp->Prop,(∀ σ'' T3,Nx σ'' T3->∃ m',m' < m/\W (i+1) m' σ'' T3)/\∀ x T3,J.Yd i H' x T3->d6 j x σ' T3 λσ2 H2=>tt σ2 H2 λb H3 =>
    if b=true then te σ2 H3 λv H4=>∃ ys,H4 D=some (.lst ys)/\ys.length < sizeLine/\Nx σ2 (upd H4 D (.lst (ys++[v]))) else Nx σ2 H3):=by
 refine ⟨λi m σ' H'=>m=n - i/\i<=n/\(∃ z,σ'=σ0.set j z)/\Pn i H',⟨n,by omega,Qy _,⟨none,h0.symm⟩,p0⟩,?_⟩;rintro i m σ' H' ⟨rfl,hi,⟨z,rfl⟩,p⟩;have o:=ok i H' hi p;by_cases hlt:i < n
 ·obtain ⟨g,y⟩:=go i H' o hlt;refine .inr ⟨g,λσ'' T3=>(∃ z,σ''=σ0.set j z)/\Pn (i+1) T3,λσ'' T3 q=>⟨n - (i+1),by omega,rfl,hlt,q.1,q.2⟩,λx T3 yx=>?_⟩;obtain ⟨e1,e2⟩:=y x T3 yx;subst e1 e2;simp only [d6,nO];exact turn i _ hlt p
 ·have e:i=n:=by omega
  subst e;exact .inl ⟨stop H' o,fin H' p⟩
theorem HH {o:Expr} {to:TE} {name:Str} {apos cpos:Pos} {T id:String} {r:V->List V->Hp->VK->Prop} (K:W.Frag) (hK:X.K=K) (pa:PlainAttrs T) (slot:Slot T name id) (hty:typeOf (.builtin id)=pure (.type "method_descriptor")) (hm:MtR X id r) (ho:PE X o to) (ha:PA X (e::es) t)
  (hbase:attributeBase o name X.env (eval o X.env)=eval o X.env:=by rfl)
  (hfew:((backTo cpos (starEach (e::es) X.env)).all (λx=>!x.1) && (backToKw cpos (keywordEach [] X.env)).all (λx=>x.1.isSome)
   && decide ((e::es).length+([]:List Keyword).length+(if ([]:List Keyword).isEmpty then 0 else 1) < 30))=true:=by rfl)
  (hline:(apos.endLine == cpos.line)=true:=by rfl) (hs:starEach (e::es) X.env=(false,eval e X.env)::starEach es X.env:=by rfl) (hplain:(backTo cpos (starEach es X.env)).any (·.1)=false:=by rfl) :
  PE X (.Call (.Attribute o name apos) (e::es) [] cpos) (Z3 K T r to t):=by
 subst hK;exact fF pa slot hty hm ho ha hbase hfew hline hs hplain
theorem dO (a b:D) (r q:List D):Td (a::r) (b::q)=(S0 a b && Td r q):=by rw [Td]
theorem fA:Td [] []=true:=by rw [Td]
theorem fO (b:D) (q:List D):Td [] (b::q)=false:=by unfold Td;rfl
theorem e8 (a:D) (r:List D):Td (a::r) []=false:=by unfold Td;rfl
theorem gQ (a b:List D):S0 (.tup a) (.tup b)=Td a b:=by rw [S0]
theorem gP (a b:Str):S0 (.str a) (.str b)=decide (a=b):=by unfold S0;by_cases h:a=b <;> simp [h]
theorem gO (a b:Int):S0 (.int a) (.int b)=decide (a=b):=by unfold S0;by_cases h:a=b <;> simp [h]
theorem xQ (M:Addr->List V->Hp->Prop) (h:∀ R:VK,(∀ r us H1,H1 r=some (.lst us)->M r us H1->R (.ref r) H1)->tl σ H R) (h0:(mk σ).set j none=mk σ)
  (body:∀ r us H1 l,H1 r=some (.lst us)->M r us H1->H1 l=none->∃ Pn:Nat->Hp->Prop,Pn 0 (upd H1 l (.lst []))/\(∀ i G,i<=us.length->Pn i G->SO K G r us) /\
   (∀ i G,i < us.length->Pn i G->tt ((mk σ).set j (some (us.getD i .SM))) G λb H3=>if b=true then te ((mk σ).set j (some (us.getD i .SM))) H3 λv H4=>∃ ys,H4 l=some (.lst ys)/\ys.length < sizeLine/\(∃ z,(mk σ).set j (some (us.getD i .SM))=(mk σ).set j z)/\Pn (i+1) (upd H4 l (.lst (ys++[v]))) else (∃ z,(mk σ).set j (some (us.getD i .SM))=(mk σ).set j z)/\Pn (i+1) H3) /\
   ∀ G,Pn us.length G->Q (.ref l) G):jP (tu K tl) mk (d6 j) tt te σ H Q:=by
 refine h _ λr us H1 hr hM=>⟨r,rfl,⟨us,SO.of hr⟩,λl hl=>?_⟩
 obtain ⟨Pn,b1,b2,b3,b4⟩:=body r us H1 l hr hM hl;exact oT (J:=Z1 K r) (n:=us.length) (item:=λi=>us.getD i .SM) (λG=>SO K G r us) (λi G o hi=>uH i G o hi) (λG o=>⟨us,o,Pq _⟩) h0 l Pn b1 b2 b3 b4
section
variable {P:Program} {w:World} {H H':Hp} {h h1 h2:Heap} {a b T:Addr} {o:HO} {fs:List Addr}
end
section
variable {X:Cx} {pins:List (Addr × Obj)} {σ:St} {H:Hp} {s s':Shared} {E:XK} {e:Value}
end
section
variable {X:Cx} {CX:Zi} {k:Nat} {f C:Addr} {fd:FuncData} {ps:List Str} {sp:Sp} {Wm:List V} {ds:List Value} {E:St->XK} {x m:Str} {p pos apos:Pos} {e o:Expr} {es:List Expr} {ta:TE} {t:TA}
end
section
variable {X:Cx} {pins Yb:List (Addr × Obj)} {σ:St} {H:Hp} {s:Shared} {xe:Value->Shared->Prop} {e:Value}
end
end L2
namespace L2
open PySem PySem.Spec PySem.Calls PyProof.Rows PySem.W PySem.Builtin PySem.Builtin.ObjectAttr PySem.Builtin.Getset_descriptor
section
variable {prog:Program} {w:World} {A:Around} {E:Value->Shared->Prop} {s:Shared} {K:Frag} {x D:Addr} {ox:Obj} {od:Option Obj} {name:Str}
end
section
variable {X:Cx} {pins:List (Addr × Obj)} {σ:St} {H H':Hp} {s s2:Shared} {a:Addr} {o:HO}
end
end L2
namespace L2
open PySem PySem.Spec PySem.Calls PyProof.Rows
section
variable {P:Program} {w:World} {K:W.Frag} {mg:Str->Option Value} {base:Heap}
end
section
variable {X:Cx} {k:Nat} {f:Addr} {fd:FuncData} {ps:List Str} {sp:Sp} {Wm:List V} {ds:List Value} {E:XK} {x:Str} {p pos:Pos} {e:Expr} {es:List Expr} {t:TA}
end
section
variable {X:Cx}
end
section
variable {P:Program} {w:World} {K:W.Frag} {mg:Str->Option Value} {base:Heap}
end
section
variable {X:Cx} {CX:Zi} {k:Nat} {f C:Addr} {fd:FuncData} {ps ks:List Str} {sp:Sp} {E:St->XK} {x m:Str} {p pos apos kpos:Pos} {e o:Expr} {es:List Expr} {kws:List Keyword} {te ta:TE} {t tk:TA} {nm:Option Str} {g:List Value->List Value->List Value} {gV:List V->List V->List V}
end
section
variable {K:W.Frag} {σ:St} {H:Hp} {tA tK:TA} {ds es fs:List D} {d e:D} {Wm:List V} {R:List D->D->Prop} {B:List D->Addr->Prop} {E:XK} {Q:VK} {C:Addr} {gV:List V->List V->List V} {ta tb:TE}
theorem FL (h1:RE K ta σ H d) (h2:RE K tb σ H e) (n1:UK d=true) (n2:UK e=true) (dp:gT d<=20):RE K (VE (HW K true) ta tb) σ H (.bl (!S0 d e)):=λH1 s Q q =>
 h1 H1 s _ λv H2 s2 q2=>h2 H2 (s.trans s2) _ λw H3 s3 q3=>⟨d,e,s3.dat q2,q3,n1,n2,dp,q _ _ (s2.trans s3) (Dat.VW _)⟩
end
section
variable {X:Cx}
end
end L2
namespace L2
open PySem PySem.Spec PySem.Calls PyProof.Rows PySem.W PySem.Builtin PySem.Builtin.ObjectAttr
section
variable {prog:Program} {w:World} {A:Around} {E:Value->Shared->Prop} {K:Frag} {C fI:Addr} {us:List Value}
end
section
variable {h:Heap} {x b:Addr} {o:Obj} {vs:Array Value}
end
section
variable {prog:Program} {w:World} {A:Around} {E:Value->Shared->Prop} {s:Shared} {K:Frag} {x C:Addr} {ox:Obj} {name:Str} {v:Value} {vs:Array Value}
end
section
variable {X:Cx} {pins:List (Addr × Obj)} {σ:St} {H:Hp} {s s':Shared} {C fI e:Addr} {fd:FuncData} {k:Nat} {ps:List Str} {a0:Value}
end
end L2
namespace L2
open PySem PySem.Spec PySem.Calls PyProof.Rows
abbrev gK (h:Heap) (it t:Addr) (i:Nat):Prop:=h.get? it=some { cls:=.type "tuple_iterator",dict:=none,data:=.fields #[.ref t,rawInt i],slots:=#[] }
section
variable {prog:Program} {w:World} {A:Around} {E:Value->Shared->Prop} {s:Shared} {it t:Addr} {i:Nat} {items:Array Value}
theorem rV {x:Value} {Q:Value->Shared->Prop} (a1:gK s.heap it t i) (a2:s.heap.IsTuple t items) (hx:items[i]?=some x)
  (q:∀ h',gK h' it t (i+1)->Heap.SameBut it s.heap h'->Q x { s with heap:=h' }):wpAny (model prog w) A (Builtin.SmallTypes.nextOf (.ref it)) Q E s:=by
 have ty:s.TypeIs (.ref it) "tuple_iterator":=⟨_,a1,rfl⟩
 obtain ⟨⟨c2,d2,Z8,s2⟩,a2,hc,n,hd⟩:=a2;obtain rfl:c2=.type "tuple":=hc;obtain rfl:Z8=.seq items n:=hd;unfold Builtin.SmallTypes.nextOf;refine Pg (QE (name:=Str.ofString "__next__") ty Rh (QS Rh ty F.entry_tuple_iterator_next ?_ (F.args_tuple_iterator_next_1 _)));obtain ⟨h0,g0,d0,t0,o0⟩:=s;unfold gK rawInt at a1
 wp_walk
 rw [RV,hx];refine Pg (QV a1 (by simp) λh' b1 b2=>PC ⟨x,rfl,PC (q h' ?_ b2)⟩);show h'.get? it=some _;have e:((i+1:Nat):Int)=(i:Int)+1:=by omega
 rw [e];exact b1
theorem zC {Q:Value->Shared->Prop} (hh:A.handled=none) (a1:gK s.heap it t i) (a2:s.heap.IsTuple t items) (hx:items[i]?=none)
  (q:∀ h' e,Heap.ExtBut it s.heap h'->(∃ o,h'.get? e=some o/\o.cls=.type "StopIteration")->E (.ref e) { s with heap:=h' }):wpAny (model prog w) A (Builtin.SmallTypes.nextOf (.ref it)) Q E s:=by
 have ty:s.TypeIs (.ref it) "tuple_iterator":=⟨_,a1,rfl⟩
 obtain ⟨⟨c2,d2,Z8,s2⟩,a2,hc,n,hd⟩:=a2;obtain rfl:c2=.type "tuple":=hc;obtain rfl:Z8=.seq items n:=hd;unfold Builtin.SmallTypes.nextOf;refine Pg (QE (name:=Str.ofString "__next__") ty Rh (QS Rh ty F.entry_tuple_iterator_next ?_ (F.args_tuple_iterator_next_1 _)));obtain ⟨h0,g0,d0,t0,o0⟩:=s;unfold gK rawInt at a1
 wp_walk
 rw [RV,hx];refine Pg (wpAny_rule (Pg (QV a1 (by simp) λh' b1 b2=>?_)));unfold Builtin.SmallTypes.stopIteration
 wp_walk
 exact wpAny_raiseNew_none hh (q _ _ ((b2.extBut.push _).push _) ⟨_,P4 _ rfl,rfl⟩)
end
noncomputable abbrev Eb (t:Addr):Obj:={ cls:=.type "tuple_iterator",data:=.fields #[.ref t,.int 0 0] }
noncomputable abbrev sX (it:Addr):Obj:={ cls:=.type "enumerate",data:=.fields #[.none,.bool false,.ref it,rawInt 0,.none,.none] }
variable {X:Cx} {s:Shared}
theorem Inv.Yo {pins:List (Addr × Obj)} {σ:St} {H:Hp} {h':Heap} {t':Nat} {its:List Addr} (I:Inv X pins σ H s) (k:∀ b o,b ∉ its->s.heap.get? b=some o->h'.get? b=some o)
  (ok:∀ b ∈ its,H b=none/\b≠X.env.locals/\(b ∈ X.ex\/X.s₀.heap.objs.size<=b)/\(∀ x c,X.env.cells.lookup x=some c->c≠b)/\∀ p ∈ X.pn++pins,p.1≠b):Inv X pins σ H { s with heap:=h',toks:=t' }:=by
 have out:∀ b u,H b=some u->b ∉ its:=λb u e z=>by rw [(ok b z).1] at e;cases e
 refine I.step (g':=s.gens) (d':=s.drawn) (ch:=its) (λb hb=>⟨(ok b hb).2.2.1,(ok b hb).2.1,(ok b hb).2.2.2⟩) (λb o _ _ hc e _=>k b o hc e) (λb o _ _ hc e _=>⟨o.slots,k b o hc e⟩) (λ_ _ _ _ n=>n)
  (λb o hc e=>⟨o,k b o hc e⟩) (λ_ _ e=>e) (λ_ _ _ e=>e) (λb ps e=>⟨#[],by rw [Array.append_empty];exact e⟩) (λm hm=>?_) (λb u e=>?_) I.bare
 ·obtain ⟨o,es,ep,ho,r⟩:=hm;exact ⟨o,es,ep,k _ o (λz=>(ok _ z).2.1 rfl) ho,r⟩
 ·refine (I.hok b u e).stay (λc v hc q=>k c v ?_ q) (λ_ q=>q) λ_ _ q=>q;rcases hc with z | z
  ·rw [z];exact out b u e
  ·exact out c _ z
section
variable {prog:Program} {w:World} {A:Around} {E:Value->Shared->Prop} {s:Shared} {z TI TO i1 i2 t1 t2:Addr} {k:Nat} {xs ys:Array Value}
variable {a b:Value}
theorem BX {x y:Value} {Q:Value->Shared->Prop} (hz:IsZip s.heap z TI TO .none) (hI:IsPair s.heap TI (.ref i1) (.ref i2)) (hO:IsPair s.heap TO a b) (h1:gK s.heap i1 t1 k) (h2:gK s.heap i2 t2 k)
  (l1:s.heap.IsTuple t1 xs) (l2:s.heap.IsTuple t2 ys) (hx:xs[k]?=some x) (hy:ys[k]?=some y) (D:ZipApart z TI TO i1 i2 t1 t2)
  (q:∀ h',IsZip h' z TI TO (rawInt s.heap.objs.size)->IsPair h' TO x y->gK h' i1 t1 (k+1)->gK h' i2 t2 (k+1)->h'.get? s.heap.objs.size=some { cls:=.type "tuple",data:=.seq #[x,y] } ->
   (∀ b o,b≠z->b≠TO->b≠i1->b≠i2->s.heap.get? b=some o->h'.get? b=some o)->Q (.ref s.heap.objs.size) { s with heap:=h' }):wpAny (model prog w) A (Builtin.«zip.__next__» ⟨[.ref z],[]⟩) (λfin s'=>∃ v,fin=.done (.ret v)/\Q v s') E s:=by
 show wpAny _ _ (field (.ref z) 2 >>= _) _ _ _;refine Pg (QY hz rfl rfl ?_);show wpAny _ _ (field (.ref z) 3 >>= _) _ _ _;refine Pg (QY hz rfl rfl ?_);refine Pg (RU hI rfl ?_);refine Pg (Pg (QY hz rfl rfl (PC ?_)));refine Pg (wpAny_rule ?_);refine Pg (QY hz rfl rfl ?_);refine Pg (QV hz (by simp) λha za sa=>?_)
 replace za:IsZip ha z TI TO .ellipsis:=za
 rw [show (#[Value.ref i1,Value.ref i2]:Array Value).toList.zipIdx=[(.ref i1,0),(.ref i2,1)] from rfl,R9];have h1a:gK ha i1 t1 k:=(sa.2 i1 D.i1z).trans h1;have h2a:gK ha i2 t2 k:=(sa.2 i2 D.i2z).trans h2;have l1a:ha.IsTuple t1 xs:=l1.extBut sa.extBut D.l1z;have l2a:ha.IsTuple t2 ys:=l2.extBut sa.extBut D.l2z;have hOa:IsPair ha TO a b:=(sa.2 TO D.TOz).trans hO;refine Pg (Pg (Pg (wpAny_onRaise (Pg (rV (s:={ s with heap:=ha }) h1a l1a hx λhb h1b sb=>PC ?_)))))
 replace sb:Heap.SameBut i1 ha hb:=sb
 have hOb:IsPair hb TO a b:=(sb.2 TO D.TOi1).trans hOa;refine Pg (RU (s:={ s with heap:=hb }) hOb rfl ?_);refine Pg (wpAny_updateSeq_pair (s:={ s with heap:=hb }) hOb λhc hOc sc=>?_)
 replace sc:Heap.SameBut TO hb hc:=sc
 replace hOc:IsPair hc TO x b:=hOc
 refine Pg (wpAny_letGo (PC ?_));have h2c:gK hc i2 t2 k:=(sc.2 i2 (PL D.TOi2)).trans ((sb.2 i2 (PL D.i12)).trans h2a);have l2c:hc.IsTuple t2 ys:=(l2a.extBut sb.extBut D.l2i1).extBut sc.extBut D.l2TO;show wpAny _ _ (forIn [(Value.ref i2,1)] _ _) _ _ _;rw [R9];refine Pg (Pg (wpAny_onRaise (Pg (rV (s:={ s with heap:=hc }) h2c l2c hy λhd h2d sd=>PC ?_))))
 replace sd:Heap.SameBut i2 hc hd:=sd
 have hOd:IsPair hd TO x b:=(sd.2 TO D.TOi2).trans hOc;refine Pg (RU (s:={ s with heap:=hd }) hOd rfl ?_);refine Pg (wpAny_updateSeq_pair (s:={ s with heap:=hd }) hOd λhe hOe se=>?_)
 replace se:Heap.SameBut TO hd he:=se
 replace hOe:IsPair he TO x y:=hOe
 refine Pg (wpAny_letGo (PC ?_));show wpAny _ _ (forIn [] _ _) _ _ _;rw [List.forIn_nil];refine PC ?_;show wpAny _ _ (seqItems? (.ref TO) >>= _) _ _ _;refine Pg (RU (s:={ s with heap:=he }) hOe rfl ?_);refine Pg (wpAny_newTuple ?_);have sze:he.objs.size=s.heap.objs.size:=by rw [se.1,sd.1,sc.1,sb.1,sa.1]
 have ze:IsZip he z TI TO .ellipsis:=(se.2 z (PL D.TOz)).trans ((sd.2 z (PL D.i2z)).trans ((sc.2 z (PL D.TOz)).trans ((sb.2 z (PL D.i1z)).trans za)));have zf:IsZip (he.push { cls:=.type "tuple",data:=.seq #[x,y] }) z TI TO .ellipsis:=Pf _ ze;have tf:(he.push { cls:=.type "tuple",data:=.seq #[x,y] }).get? s.heap.objs.size=some { cls:=.type "tuple",data:=.seq #[x,y] }:=Qv sze.symm rfl;have of:IsPair (he.push { cls:=.type "tuple",data:=.seq #[x,y] }) TO x y:=Pf _ hOe;have f1:gK (he.push { cls:=.type "tuple",data:=.seq #[x,y] }) i1 t1 (k+1):=Pf _ ((se.2 i1 (PL D.TOi1)).trans ((sd.2 i1 D.i12).trans ((sc.2 i1 (PL D.TOi1)).trans h1b)));have f2:gK (he.push { cls:=.type "tuple",data:=.seq #[x,y] }) i2 t2 (k+1):=Pf _ ((se.2 i2 (PL D.TOi2)).trans h2d)
 have kf:∀ b o,b≠z->b≠TO->b≠i1->b≠i2->s.heap.get? b=some o->(he.push { cls:=.type "tuple",data:=.seq #[x,y] }).get? b=some o:=λb o n1 n2 n3 n4 e =>
  Pf _ ((se.2 b n2).trans ((sd.2 b n4).trans ((sc.2 b n2).trans ((sb.2 b n3).trans ((sa.2 b n1).trans e)))))
 generalize he.push { cls:=.type "tuple",data:=.seq #[x,y] }=hf at zf tf of f1 f2 kf;have lz:z < s.heap.objs.size:=PF hz;show wpAny _ _ (Builtin.SmallTypes.ownedTupleHandOut (.ref z) (.ref he.objs.size) >>= _) _ _ _;rw [sze];refine Pg (Pg (QV (s:={ s with heap:=hf }) zf (by simp) λhg zg sg=>QV (s:={ s with heap:=hg }) zg (by simp) λhh zh sh=>PC ⟨_,rfl,?_⟩))
 replace sg:Heap.SameBut z hf hg:=sg
 replace sh:Heap.SameBut z hg hh:=sh
 have on:∀ b,b≠z->hh.get? b=hf.get? b:=λb n=>(sh.2 b n).trans (sg.2 b n);refine q hh zh ?_ ?_ ?_ ?_ λb o n1 n2 n3 n4 e=>(on b n1).trans (kf b o n1 n2 n3 n4 e)
 ·exact (on TO D.TOz).trans of
 ·exact (on i1 D.i1z).trans f1
 ·exact (on i2 D.i2z).trans f2
 ·exact (on _ (QN lz)).trans tf
theorem BW {Q:Fin->Shared->Prop} (hh:A.handled=none) (hz:IsZip s.heap z TI TO .none) (hI:IsPair s.heap TI (.ref i1) (.ref i2)) (hO:IsPair s.heap TO a b) (h1:gK s.heap i1 t1 k)
  (l1:s.heap.IsTuple t1 xs) (hx:xs[k]?=none) (D:ZipApart z TI TO i1 i2 t1 t2)
  (q:∀ h' e,(∀ b o,b≠z->b≠i1->s.heap.get? b=some o->h'.get? b=some o)->(∃ o,h'.get? e=some o/\o.cls=.type "StopIteration")->E (.ref e) { s with heap:=h' }):wpAny (model prog w) A (Builtin.«zip.__next__» ⟨[.ref z],[]⟩) Q E s:=by
 show wpAny _ _ (field (.ref z) 2 >>= _) _ _ _;refine Pg (QY hz rfl rfl ?_);show wpAny _ _ (field (.ref z) 3 >>= _) _ _ _;refine Pg (QY hz rfl rfl ?_);refine Pg (RU hI rfl ?_);refine Pg (Pg (QY hz rfl rfl (PC ?_)));refine Pg (wpAny_rule ?_);refine Pg (QY hz rfl rfl ?_);refine Pg (QV hz (by simp) λha za sa=>?_)
 replace za:IsZip ha z TI TO .ellipsis:=za
 rw [show (#[Value.ref i1,Value.ref i2]:Array Value).toList.zipIdx=[(.ref i1,0),(.ref i2,1)] from rfl,R9];have h1a:gK ha i1 t1 k:=(sa.2 i1 D.i1z).trans h1;have l1a:ha.IsTuple t1 xs:=l1.extBut sa.extBut D.l1z;refine Pg (Pg (Pg (wpAny_onRaise (Pg (zC (s:={ s with heap:=ha }) hh h1a l1a hx λhb e sb he=>?_)))))
 replace sb:Heap.ExtBut i1 ha hb:=sb
 have zb:IsZip hb z TI TO .ellipsis:=sb z _ (PL D.i1z) za;obtain ⟨oe,hoe,hce⟩:=he;have nez:e≠z:=λy=>by rw [y,zb] at hoe;cases hoe;simp at hce
 refine QV (s:={ s with heap:=hb }) zb (by simp) λhc zc sc=>q hc e (λb o n1 n2 hb'=>?_) ⟨oe,(sc.2 e nez).trans hoe,hce⟩;exact (sc.2 b n1).trans (sb b o n2 ((sa.2 b n1).trans hb'))
end
theorem Ex (t1 t2:Addr) (xs ys:Array Value) :
  Meets (Builtin.«zip.__new__» ⟨[.type "zip",.ref t1,.ref t2],[]⟩) (λ_ R s=>s.heap.IsTuple t1 xs/\s.heap.IsTuple t2 ys /\
   ∀ h',IsZip h' (s.heap.objs.size+4) (s.heap.objs.size+2) (s.heap.objs.size+3) .none->IsPair h' (s.heap.objs.size+2) (.ref s.heap.objs.size) (.ref (s.heap.objs.size+1))->IsPair h' (s.heap.objs.size+3) .none .none ->
    gK h' s.heap.objs.size t1 0->gK h' (s.heap.objs.size+1) t2 0->(∀ b o,s.heap.get? b=some o->h'.get? b=some o)->R (.ok (.ret (.ref (s.heap.objs.size+4)))) { s with heap:=h' }) :=
 .of_wp λ_ _ _ _ s q=>by
  obtain ⟨h0,g0,d0,t0,o0⟩:=s;obtain ⟨a1,a2,q⟩:=q;have self1:=sub_zip;have b1:Heap.IsTuple (Shared.heap ⟨h0,g0,d0,t0,o0⟩) t1 xs:=a1;have b2:Heap.IsTuple (Shared.heap ⟨h0.push (Eb t1),g0,d0,t0,o0⟩) t2 ys:=Heap.IsTuple.push a2 _
  wp_walk using Sm b1,Sm b2
  refine ⟨_,rfl,?_⟩;have n1:(h0.push (Eb t1)).objs.size=h0.objs.size+1:=Qs _ _;simp only [Qs];refine q _ ?_ ?_ ?_ ?_ ?_ λb o e=>?_
  ·exact Qv (by simp [Qs]) rfl
  ·exact Pf _ (Pf _ (Qv (by simp [Qs]) rfl))
  ·exact Pf _ (Qv (by simp [Qs]) rfl)
  ·exact Pf _ (Pf _ (Pf _ (Pf _ (Qv (by simp [Qs]) rfl))))
  ·exact Pf _ (Pf _ (Pf _ (Qv (by simp [Qs]) rfl)))
  ·exact Pf _ (Pf _ (Pf _ (Pf _ (Pf _ e))))
variable {w:World}
theorem A1 {prog:Program} {A:Around} {E:Value->Shared->Prop} {t1 t2:Addr} {xs ys:Array Value} {Q:Value->Shared->Prop} (a1:s.heap.IsTuple t1 xs) (a2:s.heap.IsTuple t2 ys)
  (q:∀ h',IsZip h' (s.heap.objs.size+4) (s.heap.objs.size+2) (s.heap.objs.size+3) .none->IsPair h' (s.heap.objs.size+2) (.ref s.heap.objs.size) (.ref (s.heap.objs.size+1))->IsPair h' (s.heap.objs.size+3) .none .none ->
   gK h' s.heap.objs.size t1 0->gK h' (s.heap.objs.size+1) t2 0->(∀ b o,s.heap.get? b=some o->h'.get? b=some o)->Q (.ref (s.heap.objs.size+4)) { s with heap:=h' }):wpAny (model prog w) A (call (.type "zip") [.ref t1,.ref t2]) Q E s :=
 callType_new F.called_zip (by decide) (F.typeCall_zip_2 _ _) (F.newCall_zip_2 _ _) (λo=>F.args_object_init_3 o _ _) F.entry_zip_new (Ex t1 t2 xs ys) ⟨a1,a2,λh' z1 z2 z3 z4 z5 kk=>⟨⟨_,z1,rfl⟩,q h' z1 z2 z3 z4 z5 kk⟩⟩
noncomputable def Itz (K:W.Frag) (a b:Addr) (xs ys:List V):It:=⟨λi H=>i < xs.length/\i < ys.length/\Tg K H a xs/\Tg K H b ys,λi H x H'=>∃ p u v,H p=none/\x=.ref p/\xs[i]?=some u/\ys[i]?=some v/\H'=upd H p (.tup [u,v]),λi H=>i=xs.length/\Tg K H a xs⟩
variable {elts:List Expr} {ps:Pos}
theorem Em {P:Program} {K:W.Frag} {c1} (a b z TI TO i1 i2:Addr) (xs ys:List V) (D:ZipApart z TI TO i1 i2 a b):pq P w K (.Tuple elts c1 ps) (Itz K a b xs ys) [z,TI,TO,i1,i2] z
  (λi h=>∃ c d,IsZip h z TI TO .none/\IsPair h TI (.ref i1) (.ref i2)/\IsPair h TO c d/\gK h i1 a i/\gK h i2 b i) where
 mem:=by simp
 obj:=λi h ⟨c,d,q1,q2,q3,q4,q5⟩ b hb=>by
  simp only [Py,P8,Qx] at hb;rcases hb with rfl | rfl | rfl | rfl | rfl
  ·exact ⟨_,q1,λv e=>by cases e⟩
  ·exact ⟨_,q2,λv e=>by cases e⟩
  ·exact ⟨_,q3,λv e=>by cases e⟩
  ·exact ⟨_,q4,λv e=>by cases e⟩
  ·exact ⟨_,q5,λv e=>by cases e⟩
 keep:=λi h h' ⟨c,d,q1,q2,q3,q4,q5⟩ k=>⟨c,d,k z (by simp) _ q1,k TI (by simp) _ q2,k TO (by simp) _ q3,k i1 (by simp) _ q4,k i2 (by simp) _ q5⟩
 item:=by
  intro X hP hw hK hc i pins s σ H E I hf st hg;subst hP hw hK;obtain ⟨c,d,q1,q2,q3,q4,q5⟩:=st;obtain ⟨hi,hj,ha,hb⟩:=hg;obtain ⟨us,ru,pu,_⟩:=I.tuple ha;obtain ⟨vs,rv,pv,_⟩:=I.tuple hb;have hx:xs[i]?=some xs[i]:=Pe hi;have hy:ys[i]?=some ys[i]:=Pe hj;obtain ⟨u,hu,r1⟩:=ru.get hx;obtain ⟨v,hv,r2⟩:=rv.get hy;have ty:s.TypeIs (.ref z) "zip":=⟨_,q1,rfl⟩
  unfold pyNext;refine Pg (R0 (QE (name:=Str.ofString "__next__") ty Sb (QS Sb ty F.entry_zip_next ?_ (F.args_zip_next_1 _))));refine BX (x:=u) (y:=v) q1 q2 q3 q4 q5 (show s.heap.IsTuple a us.toArray from pu) (show s.heap.IsTuple b vs.toArray from pv) (by simpa using hu) (by simpa using hv) D λh' w1 w2 w3 w4 w5 w6=>PC ⟨_,rfl,?_⟩;refine wpAny_letOwnedTupleGo_zip (s:={ s with heap:=h' }) w1 λh2 e2 same=>?_
  replace same:Heap.SameBut z h' h2:=same
  have lz:z < s.heap.objs.size:=PF q1;have lTI:TI < s.heap.objs.size:=PF q2;have lTO:TO < s.heap.objs.size:=PF q3;have l1:i1 < s.heap.objs.size:=PF q4;have l2:i2 < s.heap.objs.size:=PF q5
  have low:∀ b ∈ [z,TI,TO,i1,i2],b < s.heap.objs.size:=λb hb=>by simp only [Py,P8,Qx] at hb;rcases hb with rfl | rfl | rfl | rfl | rfl <;> assumption
  have tup2:h2.get? s.heap.objs.size=some { cls:=.type "tuple",data:=.seq #[u,v] }:=(same.2 _ (QN lz)).trans w5
  have I1:Inv X pins σ (upd H s.heap.objs.size (.tup [xs[i],ys[i]])) { s with heap:=s.heap.push { cls:=.type "tuple",data:=.seq #[u,v] },toks:=s.toks } :=
   I.laid (o:=.tup [xs[i],ys[i]]) (λb ob q=>Pf _ q) (Pq _) ⟨by rw [Rv];simp,[u,v],.cons r1 (.cons r2 .nil),Sl _ _⟩
  have frees:∀ b,b < s.heap.objs.size->upd H s.heap.objs.size (.tup [xs[i],ys[i]]) b=H b:=λb hb=>aS (Qc hb)
  have I2:Inv X pins σ (upd H s.heap.objs.size (.tup [xs[i],ys[i]])) { s with heap:=h2,toks:=s.toks }:=by
   refine Inv.Yo (s:={ s with heap:=s.heap.push { cls:=.type "tuple",data:=.seq #[u,v] },toks:=s.toks }) (h':=h2) (its:=[z,TI,TO,i1,i2]) (t':=s.toks) I1 (λb o hb q=>?_) (λb hb=>?_)
   ·simp only [Py,P8,Qx,not_or] at hb;obtain ⟨n1,n2,n3,n4,n5⟩:=hb;by_cases ZN:b=s.heap.objs.size
    ·subst ZN;have q':(s.heap.push { cls:=.type "tuple",data:=.seq #[u,v] }).get? s.heap.objs.size=some o:=q;rw [Qv rfl rfl] at q';cases q';exact tup2
    ·have q':s.heap.get? b=some o:=(Heap.get?_push_ne _ _ _ ZN).symm.trans q;exact (same.2 b n1).trans (w6 b o n1 n3 n4 n5 q')
   ·obtain ⟨f0,f1,f2,f3,f4,f5⟩:=hf b hb;exact ⟨by rw [frees b (low b hb)];exact f0,f1,f3,f4,f5⟩
  refine ⟨.ref s.heap.objs.size,_,I2,rfl,⟨_,_,_,I.hok.fresh (Pq _),rfl,hx,hy,rfl⟩,⟨u,v,e2,?_,?_,?_,?_⟩,λb hb=>?_⟩
  ·exact (same.2 TI D.TIz).trans (w6 TI _ D.TIz D.TITO D.TIi1 D.TIi2 q2)
  ·exact (same.2 TO D.TOz).trans w2
  ·exact (same.2 i1 D.i1z).trans w3
  ·exact (same.2 i2 D.i2z).trans w4
  ·rw [frees b (low b hb)];exact (hf b hb).1
 done:=by
  intro X hP hw hK hc i pins s σ H E I hf st hg;subst hP hw hK;obtain ⟨c,d,q1,q2,q3,q4,q5⟩:=st;obtain ⟨hi,ha⟩:=hg;obtain ⟨us,ru,pu,_⟩:=I.tuple ha;have lr:=ru.length;have ty:s.TypeIs (.ref z) "zip":=⟨_,q1,rfl⟩
  unfold pyNext;refine Pg (R0 (QE (name:=Str.ofString "__next__") ty Sb (QS Sb ty F.entry_zip_next ?_ (F.args_zip_next_1 _))));refine BW (I.ok.hd hc) q1 q2 q3 q4 (show s.heap.IsTuple a us.toArray from pu) (by simp;omega) D λh' e kk ⟨o,ho,hco⟩=>?_;refine Pg (wpAny_isInstance (T:="StopIteration") (b:=true) ⟨o,ho,hco⟩ isSubtype_stop (PC ⟨rfl,?_⟩));refine Inv.Yo (s:=s) (h':=h') (its:=[z,i1]) (t':=s.toks) I (λb o hb q=>kk b o (λy=>hb (by simp [y])) (λy=>hb (by simp [y])) q) (λb hb=>?_)
  obtain ⟨f0,f1,f2,f3,f4,f5⟩:=hf b (by
   simp only [Py,P8,Qx] at hb;rcases hb with rfl | rfl <;> simp)
  exact ⟨f0,f1,f3,f4,f5⟩
 self:=λA i s Q E ⟨_,_,q1,_⟩ q=>wpAny_pyIter_zip q1 q
noncomputable def IS (K:W.Frag) (ta:TA):TI:=λσ H R=>ta σ H λvs H1=>∃ a b xs ys,vs=[.ref a,.ref b]/\Tg K H1 a xs/\Tg K H1 b ys/\R (Itz K a b xs ys) H1
theorem Dv {a b:Expr} {ta:TA} {p pos:Pos} {c1} (hg:Gl X "zip") (hm:X.mg "zip"=none) (ha:PA X [a,b] ta) (hs:starEach [a,b] X.env=(false,eval a X.env)::starEach [b] X.env:=by rfl) (hpl:(backTo pos (starEach [b] X.env)).any (·.1)=false:=by rfl) :
  PI X (.Tuple elts c1 ps) (.Call (.Name "zip" p) [a,b] [] pos) (IS X.K ta):=by
 intro pins s σ H R I h;refine Call_ (lj I hg hm Hc (QD (SY (ha pos pins s σ H _ I h) λus s1 ⟨vs,H1,I1,r1,q1⟩=>?_) hs hpl));obtain ⟨t1,t2,xs,ys,ev,hq1,hq2,q⟩:=q1;subst ev
 cases r1 with
 | cons e1 rt =>
  obtain ⟨u2,rfl,e2⟩:=jd rt;cases e1;cases e2;obtain ⟨us,ru,pu,_⟩:=I1.tuple hq1;obtain ⟨vs,rv,pv,_⟩:=I1.tuple hq2;have lt1:t1 < s1.heap.objs.size:=pu.lt;have lt2:t2 < s1.heap.objs.size:=pv.lt;refine A1 pu pv λh' z1 z2 z3 z4 z5 kk=>?_;refine wpAny_pyIter_zip (s:={ s1 with heap:=h' }) z1 ?_;have ne:∀ {x y:Nat},x < y->x≠y:=λh=>Qc h;have gt:∀ {x y:Nat},y < x->x≠y:=λh=>QN h
  have ap:ZipApart (s1.heap.objs.size+4) (s1.heap.objs.size+2) (s1.heap.objs.size+3) s1.heap.objs.size (s1.heap.objs.size+1) t1 t2 :=
   ⟨ne (by omega),ne (by omega),ne (by omega),ne (by omega),ne (by omega),gt (by omega),gt (by omega),gt (by omega),gt (by omega),ne (by omega),ne (PV lt1 (by omega)),ne (PV lt1 (by omega)),ne lt1,ne (PV lt1 (by omega)),
    ne (PV lt2 (by omega)),ne (PV lt2 (by omega)),ne lt2,ne (PV lt2 (by omega))⟩
  refine ⟨s1.heap.objs.size+4,[s1.heap.objs.size+4,s1.heap.objs.size+2,s1.heap.objs.size+3,s1.heap.objs.size,s1.heap.objs.size+1],_,_,H1,rfl,I1.kept (t':=s1.toks) kk,Em t1 t2 _ _ _ _ _ xs ys ap,⟨.none,.none,z1,z2,z3,z4,z5⟩,λb hb=>?_,q⟩
  have lb:s1.heap.objs.size<=b:=by
   simp only [Py,P8,Qx] at hb;rcases hb with rfl | rfl | rfl | rfl | rfl
   ·exact R3 _ _
   ·exact R3 _ _
   ·exact R3 _ _
   ·exact Pq _
   ·exact R3 _ _
  exact I1.X0 lb (I1.hok.fresh lb)
section
variable {prog:Program} {w:World} {A:Around} {E:Value->Shared->Prop} {s:Shared} {z TI TO i1 i2 t1 t2:Addr} {k:Nat} {xs ys:Array Value}
end
theorem AI (σ:St) {i j:Nat} (ne:i≠j) (a b c d:Option V):((((σ.set i a).set j b).set i c).set j d)=(σ.set i c).set j d:=by rw [List.set_comm _ _ (PL ne),List.set_set,List.set_set]
section
variable {K:W.Frag} {σ:St} {H:Hp} {tA:TA} {ar:List Ar} {d:D} {R:List Ar->D->Prop} {B:List Ar->Addr->Prop} {E:XK} {Q:VK} {C:Addr}
end
end L2
namespace L2
open PySem PySem.Spec PyProof.Rows
section
variable {X:Cx}
def Jc (K:W.Frag):List V->Hp->VK->Prop:=λxs H Q=>∃ (l:Addr) (ns:List Int),xs=[.ref l]/\SO K H l (ns.map V.int)/\0 < ns.length/\∀ M,M ∈ ns->(∀ a ∈ ns,M<=a)->Q (.int M) H
theorem AX (hc:X.calm=true):jz X (.builtin "min") (Jc X.K):=by
 intro pins s σ H xs us Q I r h;obtain ⟨l,ns,rfl,hq,hn,q⟩:=h;obtain ⟨u,rfl,ru⟩:=jd r;cases ru;obtain ⟨its,rv,p,hz⟩:=I.list hq;have hi:=uM rv;obtain ⟨zs,hzs⟩:=hi.allInts.items
 have en:zs.toList.map (·.1)=ns:=by have z:=hi.numsOf;rw [show its=(intItems zs).toList by rw [<- hzs]] at z;rw [<- z,nums_intItems]
 have sz:zs.size=ns.length:=by rw [<- en];simp
 refine min_intList (I.ok.hd hc) (show s.heap.IsList l (intItems zs) from hzs ▸ p.isList) (by omega) λv h' tk hv hk=>?_;obtain ⟨t,rfl⟩:=intItems_at hv;have best:=argBest_lt (numAt zs) (zs.size - 1);refine ⟨.int _,H,I.kept (t':=tk) hk,⟨t,rfl⟩,q _ ?_ λa ha=>?_⟩
 ·rw [<- en,numAt_eq];exact getD_mem (by rw [Pd,Q4];have:=best.1;omega)
 ·rw [<- en] at ha;obtain ⟨j,hj,ej⟩:=mem_getD ha;rw [Pd,Q4] at hj;have le:=best.2 j (by omega);rw [<- ej,<- numAt_eq];exact le
end
noncomputable def Y5:Option Int->D
 | none=>.SM
 | some i=>.int i
noncomputable def opV:Option Int->V
 | none=>.SM
 | some i=>.int i
section
variable {K:W.Frag} {σ:St} {H H':Hp} {d d':D} {ds es:List D} {t u ta tb te tl:TE} {tA:TA} {mk:St->St} {jj:Nat}
theorem zS:∀ {os:List (Option Int)} {vs:List V},SG K H (os.map Y5) vs->vs=os.map opV
 | [],vs,h=>by rw [SG.VZ h];rfl
 | none::os,vs,h=>by obtain ⟨v,r,e,h1,h2⟩:=h.Tq;rw [e,Dat.Vh h1,zS h2];rfl
 | some i::os,vs,h=>by obtain ⟨v,r,e,h1,h2⟩:=h.Tq;rw [e,Dat.SN h1,zS h2];rfl
theorem pM:∀ os:List (Option Int),Zt .SM (os.map opV)=os.any Option.isNone
 | []=>rfl
 | none::os=>by have ih:=pM os;unfold Zt at ih ⊢;rw [PB,QJ,ih];rfl
 | some i::os=>by have ih:=pM os;unfold Zt at ih ⊢;rw [PB,QJ,ih];rfl
theorem Aa (os:List (Option Int)):(os.map opV).all lg=true:=by rw [QF];intro v hv;obtain ⟨o,_,rfl⟩:=Qz.mp hv;cases o <;> rfl
variable {os:List (Option Int)}
theorem Ie (h:RL K tb σ H (os.map Y5)):RE K (VE (rIn K false) (tC .SM) tb) σ H (.bl (os.any Option.isNone)):=λH1 s Q q =>
 h H1 s _ λw H3 s3 q3=>by obtain ⟨a,vs,ev,hq,hd⟩:=q3;have e:=zS hd;subst e;refine ⟨a,_,ev,.inl hq.WA,rfl,Aa os,?_⟩;rw [pM];exact q _ _ s3 (Dat.VW _)
theorem BH (h:RL K tb σ H (os.map Y5)):RE K (VE (rIn K true) (tC .SM) tb) σ H (.bl (!os.any Option.isNone)):=λH1 s Q q =>
 h H1 s _ λw H3 s3 q3=>by obtain ⟨a,vs,ev,hq,hd⟩:=q3;have e:=zS hd;subst e;refine ⟨a,_,ev,.inl hq.WA,rfl,Aa os,?_⟩;rw [pM];exact q _ _ s3 (Dat.VW _)
theorem FK {ns:List Int} {m:Int} (h:RL K t σ H (ns.map D.int)) (hm:m ∈ ns) (lo:∀ a ∈ ns,m<=a):RE K (Xy (Jc K) (bW t dW)) σ H (.int m):=λH1 s Q q =>
 iL ((h.mono s).use λv H' s' hd=>by
  obtain ⟨l,ys,rfl,hy,hd⟩:=hd;refine ⟨l,ns,rfl,by rw [<- qm hd];exact hy.WA,List.length_pos_of_mem hm,λM h1 h2=>?_⟩;have e:M=m:=Int.le_antisymm (h2 m hm) (lo M h1);subst e;exact q _ _ s' (Dat.SK _))
inductive XY (K:W.Frag) (H:Hp):List (List D)->List V->Prop
 | nil:XY K H [] []
 | cons {es:List D} {v:V} {SX:List (List D)} {vs:List V}:LD K H es v->XY K H SX vs->XY K H (es::SX) (v::vs)
variable {SX:List (List D)} {vs:List V}
theorem XY.length (h:XY K H SX vs):SX.length=vs.length:=by
 induction h with
 | nil=>rfl
 | cons _ _ ih=>simp [ih]
theorem XY.map (h:XY K H SX vs) (f:∀ es v,LD K H es v->LD K H' es v):XY K H' SX vs:=by
 induction h with
 | nil=>exact .nil
 | cons h1 _ ih=>exact .cons (f _ _ h1) ih
theorem SH.lds (e:SH H H') (h:XY K H SX vs):XY K H' SX vs:=h.map λ_ _ z=>e.ld z
theorem XY.snoc {es:List D} {v:V} (h:XY K H SX vs) (h1:LD K H es v):XY K H (SX++[es]) (vs++[v]):=by
 induction h with
 | nil=>exact .cons h1 .nil
 | cons k _ ih=>exact .cons k ih
def RCL (K:W.Frag) (t:TE) (σ:St) (H:Hp) (SX:List (List D)):Prop:=∀ H1,SH H H1->∀ Q:VK,(∀ l ys H',H1 l=none->SH H1 H'->H' l=some (.lst ys)->XY K H' SX ys->Q (.ref l) H')->t σ H1 Q
theorem RCL.use {Q:VK} (h:RCL K t σ H SX) (q:∀ l ys H',H l=none->SH H H'->H' l=some (.lst ys)->XY K H' SX ys->Q (.ref l) H'):t σ H Q:=h H (SH.refl H) Q q
def Off (K:W.Frag) (H:Hp) (l:Addr) (vs:List V):Prop:=∀ v ∈ vs,v≠.ref l
theorem XY.grown {l:Addr} {zs zs':List V} (h:XY K H SX vs) (off:Off K H l vs) (e:S4 l H H') (h1:H l=some (.lst zs)) (h2:H' l=some (.lst zs')):XY K H' SX vs:=by
 have g:gA K H H':=e.grow h1 h2
 induction h with
 | nil=>exact .nil
 | cons k _ ih =>refine .cons ?_ (ih λv hv=>off v (PR _ hv));obtain ⟨a,us,rfl,ha,hd⟩:=k;have na:a≠l:=λz=>off _ P0 (by rw [z]);refine ⟨a,us,rfl,?_,SG.mono g _ hd⟩;exact ha.elim (λz=>.inl (e _ _ na z)) .inr
end
end L2
namespace L2
open PySem PySem.Spec PySem.Calls PyProof.Rows
variable {K:W.Frag} {σ:St} {H:Hp} {te:TE} {mk:St->St} {cs:List D}
theorem FF {ta:TA} {i j:Nat} {ds:List D} (h:RA K ta σ H [.tup cs,.tup ds]) (hl:cs.length=ds.length) (hc:cs.length<=1000) (SX:List (List D)) (hn:SX.length=cs.length) (ne:i≠j)
  (h0:((mk σ).set i none).set j none=mk σ)
  (turn:∀ H1 (k:Nat) c d es v w,SH H H1->cs[k]?=some c->ds[k]?=some d->SX[k]?=some es->Dat K H1 c v->Dat K H1 d w->RC K te (((mk σ).set i (some v)).set j (some w)) H1 es) :
  RCL K (jP (IS K ta) mk (A7 K 2 (mw (d6 i) (mw (d6 j) CD))) jc te) σ H SX:=λH1 s Q q=>by
 refine h H1 s _ λvs H2 s2 q2=>?_;obtain ⟨v1,v2,e,k1,k2⟩:=i5 q2;subst e;obtain ⟨a,us,e1,ha,da⟩:=k1.S7;obtain ⟨b,ws,e2,hb,db⟩:=k2.S7;subst e1 e2;have lu:=da.length;have lw:=db.length;refine ⟨a,b,us,ws,rfl,ha,hb,λl hl2=>?_⟩;have s02:SH H H2:=s.trans s2;refine ⟨λn m σ' G=>m=us.length - n/\n<=us.length/\(∃ z1 z2,σ'=((mk σ).set i z1).set j z2)/\SH H2 G/\∃ ys,G l=some (.lst ys)/\XY K G (SX.take n) ys/\Off K G l ys,⟨us.length,by omega,Qy _,⟨none,none,h0.symm⟩,aV hl2 _,[],aI,by rw [QU];exact .nil,λv hv=>by cases hv⟩,?_⟩;rintro n m σ' G ⟨rfl,hle,⟨z1,z2,rfl⟩,sG,ys,hy,dy,off⟩;by_cases hlt:n < us.length
 ·refine .inr ⟨⟨hlt,by omega,sG.YB ha,sG.YB hb⟩,λσ'' G'=>(∃ z1 z2,σ''=((mk σ).set i z1).set j z2)/\SH H2 G'/\∃ ys,G' l=some (.lst ys)/\XY K G' (SX.take (n+1)) ys/\Off K G' l ys,λσ'' G' w=>⟨us.length - (n+1),by omega,rfl,hlt,w.1,w.2⟩,λx G' y=>?_⟩;obtain ⟨p,u,w,hp,rfl,hu,hw,rfl⟩:=y;have sn:SH G (upd G p (.tup [u,w])):=aV hp _;have s2n:=sG.trans sn;obtain ⟨c,ec,hcv⟩:=da.Wb hu;obtain ⟨d,ed,hdv⟩:=db.Wb hw;have hne:n < SX.length:=by omega
  refine ⟨p,[u,w],rfl,Tg.of aI,rfl,u,_,rfl,w,_,rfl,rfl,?_⟩;simp only [jc,RM];rw [AI _ ne];refine RC.use (turn _ n c d SX[n] u w (s02.trans s2n) ec ed (Pe hne) (s2n.dat hcv) (s2n.dat hdv)) λr zs G4 hr s4 hz dz=>?_;have Yh:=s4 _ _ (sn _ _ hy);have nrl:r≠l:=λz=>by rw [z,sn _ _ hy] at hr;cases hr
  have lys:ys.length=n:=by rw [<- dy.length,Qe];omega
  refine ⟨ys,Yh,cM (by omega),⟨_,_,rfl⟩,λx o hx=>?_,ys++[.ref r],aI,?_,?_⟩
  ·rw [aS (aU hx hl2)];exact s4 _ _ (s2n _ _ hx)
  ·have bl:S4 l G4 (upd G4 l (.lst (ys++[.ref r]))):=S4.upd (SH.refl G4).but;have g:gA K G4 (upd G4 l (.lst (ys++[.ref r]))):=bl.grow Yh aI;rw [Qo,Pe hne];exact XY.snoc (XY.grown (s4.lds (sn.lds dy)) off bl Yh aI) (LD.of (bl _ _ nrl hz) (SG.mono g _ dz))
  ·intro v hv;rcases P9.mp hv with hv | hv
   ·exact off v hv
   ·rw [PN.mp hv];exact λz=>nrl (by injection z)
 ·have e:n=us.length:=by omega
  subst e;refine .inl ⟨⟨rfl,sG.YB ha⟩,?_⟩;rw [Rw (by omega)] at dy;exact q l ys G (s2.free hl2) (s2.trans sG) hy dy
theorem FD {tl:TE} {tt:TT} {jj:Nat} (h:RL K tl σ H cs) (hc:cs.length<=1000) (p:D->Bool) (h0:(mk σ).set jj none=mk σ)
  (turn:∀ H1 (i:Nat) c v,SH H H1->cs[i]?=some c->Dat K H1 c v->RT tt ((mk σ).set jj (some v)) H1 (p c)/\RE K te ((mk σ).set jj (some v)) H1 c):RC K (jP (tu K tl) mk (d6 jj) tt te) σ H (cs.filter p):=λH1 s Q q=>by
 refine (h.mono s).use λv4 H4 s4 q4=>?_;obtain ⟨l4,YD,rfl,Yh,Zw⟩:=q4;have ll:=Zw.length;refine ⟨l4,rfl,⟨YD,Yh.WA⟩,λl hl=>?_⟩;refine oT (J:=Z1 K l4) (n:=YD.length) (item:=λi=>YD.getD i .SM) (λG=>SO K G l4 YD) (λi G o hi=>uH i G o hi) (λG o=>⟨YD,o,Pq _⟩) h0 l (λi G=>SH H4 G/\∃ zs,G l=some (.lst zs)/\SG K G ((cs.take i).filter p) zs) ⟨aV hl _,[],aI,by rw [QU];exact SG.nil⟩ (λi G _ w=>w.1.seq Yh.WA) (λi G hi w=>?_) (λG w=>?_)
 ·obtain ⟨sG,zs,hz,dz⟩:=w;have hic:i < cs.length:=by omega
  obtain ⟨vz,ez,hv⟩:=(sG.SQ Zw).get (Pe hic);have e1:YD.getD i .SM=vz:=by rw [PX,ez];rfl
  simp only [e1];obtain ⟨t1,t2⟩:=turn G i cs[i] vz (s.trans (s4.trans sG)) (Pe hic) hv;have et:cs.take (i+1)=cs.take i++[cs[i]]:=by rw [Qo,Pe hic];rfl
  have lz:zs.length<=1000:=by rw [<- dz.length];exact Qd (List.length_filter_le _ _) (by rw [Qe];omega)
  have lz':zs.length < 1000:=by rw [<- dz.length];exact So (List.length_filter_le _ _) (by rw [Qe];omega)
  refine t1.use λG2 s2=>?_
  cases hp:p cs[i] with
  | true =>
   refine j4 ((t2.mono s2).use λv3 G3 s3 q3=>?_);have hz3:=(s2.trans s3) _ _ hz;have bl:S4 l G3 (upd G3 l (.lst (zs++[v3]))):=S4.upd (SH.refl G3).but;have g:gA K G3 (upd G3 l (.lst (zs++[v3]))):=bl.grow hz3 aI;refine ⟨zs,hz3,cM (by omega),⟨_,rfl⟩,λx o hx=>?_,zs++[v3],aI,?_⟩
   ·rw [aS (aU hx hl)];exact (s2.trans s3) _ _ (sG _ _ hx)
   ·rw [et,List.filter_append];have e2:[cs[i]].filter p=[cs[i]]:=by rw [RJ,Ph hp];rfl
    rw [e2];exact SG.append (SG.mono g _ ((s2.trans s3).SQ dz)) (SG.cons (Dat.mono g _ q3) SG.nil)
  | false =>
   refine j0 ⟨⟨_,rfl⟩,sG.trans s2,zs,s2 _ _ hz,?_⟩;rw [et,List.filter_append];have e2:[cs[i]].filter p=[]:=by rw [RJ,M1 (by rw [hp];exact Pk)];rfl
   rw [e2,PM];exact s2.SQ dz
 ·obtain ⟨sG,zs,hz,dz⟩:=w;rw [<- ll,QI] at dz;exact q l zs G (s4.free hl) (s4.trans sG) hz dz
variable {X:Cx} {es:List Expr} {t:ZY} {n:Nat} {pos:Pos}
theorem Aw {k:Nat} (hK:X.K=K) (hc:X.calm=true) (h:PGs X es t)
  (hn:(assignEach es X.env).length=n:=by rfl) (hst:(assignEach es X.env).findIdx? (·.1)=none:=by rfl):PG X (.Tuple es k pos) (A7 K n t):=by
 subst hK;exact gF hc h hn hst
section
variable {K:W.Frag} {σ:St} {H H':Hp} {d d':D} {ds es:List D} {t u ta tb te tl:TE} {tA:TA} {mk:St->St} {jj:Nat} {o:Option (List D)} {os:List (Option (List D))} {vs:List V} {ar:List Ar}
theorem sL:∀ {os:List (Option (List D))},os.any Option.isNone=false->∃ SX:List (List D),os=SX.map some
 | [],_=>⟨[],rfl⟩
 | none::os,h=>by cases h
 | some es::os,h=>by rw [QJ] at h;obtain ⟨SX,e⟩:=sL (os:=os) (by simpa using h);exact ⟨es::SX,by rw [e];rfl⟩
theorem FU {En:kx} {G:Hp} {j:Nat} {l:Addr} {xs:List V} (h:RC K te σ G es) (hl:G l=some (.lst xs)) (hx:xs.length+es.length<=1000)
  (q:∀ ys G',S4 l G G'->G' l=some (.lst (xs++ys))->SG K G' es ys->En.nx σ G') (hv:σ[j]?=some (some (.ref l)):=by rfl):rR (Z3 K "list" AB (fT j) (bW te dW)) En σ G:=by
 refine ⟨_,hv,.inl ⟨rfl,_,SO.of hl⟩,h.use λp vs H1 hp s1 hv1 q1=>?_⟩;have hl1:=s1 _ _ hl;have lv:=q1.length;refine ⟨l,p,xs,vs,rfl,rfl,hl1,hv1,dB (by omega),?_⟩;have b:S4 l H1 (upd H1 l (.lst (xs++vs))):=S4.upd (SH.refl _).but;exact q vs _ (s1.but.trans b) aI (SG.mono (b.grow hl1 aI) _ q1)
end
theorem EV {K:PySem.W.Frag} {a b:Addr} {xs ys:List V} {g:TG} {tb:TS} {D:kx} (Pv:Nat->St->Hp->Prop) (ll:xs.length=ys.length) (h0:Pv 0 σ H) (hl:∀ i σ H,i<=xs.length->Pv i σ H->Tg K H a xs/\Tg K H b ys)
  (hs:∀ i u v p σ H,xs[i]?=some u->ys[i]?=some v->H p=none->Pv i σ H->g (.ref p) σ (upd H p (.tup [u,v])) λσ2 H2=>tb { D with nx:=Pv (i+1),ct:=Pv (i+1),bk:=D.nx } σ2 H2) (hd:∀ σ H,Pv xs.length σ H->D.nx σ H) :
  ∃ W:Nat->Nat->St->Hp->Prop,(∃ m,W 0 m σ H)/\∀ i m σ H,W i m σ H ->
   ((Itz K a b xs ys).stop i H/\D.nx σ H)\/((Itz K a b xs ys).go i H/\∃ N:St->Hp->Prop,(∀ σ' H',N σ' H'->∃ m',m' < m/\W (i+1) m' σ' H')/\∀ x H',(Itz K a b xs ys).Yd i H x H'->g x σ H' λσ2 H2=>tb { D with nx:=N,ct:=N,bk:=D.nx } σ2 H2):=by
 refine ⟨λi m σ H=>m=xs.length - i/\i<=xs.length/\Pv i σ H,⟨xs.length,by simp,Qy _,h0⟩,?_⟩;rintro i m σ H ⟨rfl,hi,p⟩;have q:=hl i σ H hi p;by_cases hlt:i < xs.length
 ·refine .inr ⟨⟨hlt,by omega,q.1,q.2⟩,Pv (i+1),λσ' H' p'=>⟨xs.length - (i+1),by omega,rfl,hlt,p'⟩,λx H' y=>?_⟩;obtain ⟨r,u,v,hr,rfl,hu,hv,rfl⟩:=y;exact hs i u v r σ H hu hv hr p
 ·have e:i=xs.length:=by omega
  subst e;exact .inl ⟨⟨rfl,q.1⟩,hd σ H p⟩
noncomputable def IK (K:W.Frag) (n:Nat) (t:ZY):TG:=λv σ H Q=>∃ a xs,v=.ref a/\SO K H a xs/\xs.length=n/\t xs σ H Q
theorem Fv {k:Nat} (hc:X.calm=true) (h:PGs X es t)
  (hn:(assignEach es X.env).length=n:=by rfl) (hst:(assignEach es X.env).findIdx? (·.1)=none:=by rfl):PG X (.Tuple es k pos) (IK X.K n t):=λpins s σ H v u Q I r ⟨a,xs,ev,hq,hl,hw⟩=>by
 subst ev;cases r;obtain ⟨its,rv,pl,hz⟩:=I.list hq;have en:(assignEach es X.env).length=its.toArray.size:=by rw [hn,<- hl,rv.length,Pz]
 rw [assign_Tuple];refine Pg (RK ?_);unfold unpack;rw [en,hst];refine Pg (Rp (W.kun_itemsOf (I.ok.hd hc) pl.isList λh' hx=>?_));exact h pins _ σ H xs _ Q (I.kept (t':=s.toks) λb o e=>hx b o (Qc (PF e)) e) (by simpa using rv) hw
section
variable {prog:Program} {w:World} {A:Around} {E:Value->Shared->Prop} {s:Shared}
end
section
variable {K:W.Frag} {σ:St} {H H':Hp} {d:D} {ds es:List D} {t u ta tb te:TE} {n:Nat}
end
end L2
namespace L2
open PySem
end L2
namespace L2
open PySem PySem.Spec PySem.Calls PyProof.Rows PySem.W PySem.Builtin PySem.Builtin.ObjectAttr
section
variable {X:Cx} {pins:List (Addr × Obj)} {σ:St} {H:Hp} {s s':Shared} {E:XK} {e:Value}
end
section
variable {H:Hp} {e C dx b:Addr} {a0:Value} {f:Str} {v:V}
end
section
variable {X:Cx} {pins:List (Addr × Obj)} {σ:St} {H:Hp} {s s':Shared} {C fI e dx:Addr} {fd:FuncData} {k:Nat} {ps:List Str} {a0:Value} {f:Str} {v:V}
end
theorem AD {K:W.Frag} {σ:St} {H:Hp} {t ta tb:TE} {ds:List D} {lo hi:Nat} (h:RL K t σ H ds) (h1:RE K ta σ H (.int lo)) (h2:RE K tb σ H (.int hi)):RC K (tSl (Je K) t (uc ta) (uc tb)) σ H ((ds.drop lo).take (hi - lo)):=λH1 s Q q =>
 h H1 s _ λv H2 s2 q2=>h1 H2 (s.trans s2) _ λv3 H3 s3 q3=>⟨lo,q3.SN,h2 H3 (s.trans (s2.trans s3)) _ λv4 H4 s4 q4=>⟨hi,q4.SN,by
  obtain ⟨a,vs,rfl,hq,hds⟩:=(s3.trans s4).ld q2;refine ⟨a,vs,rfl,hq.WA,λp hp=>?_⟩;rw [zQ];exact q p _ _ ((s2.trans (s3.trans s4)).free hp) (s2.trans (s3.trans (s4.trans (aV hp _)))) aI ((aV hp _).SQ (SG.Zy (SG.Zx hds)))⟩⟩
section
variable {K:W.Frag} {σ:St} {H:Hp} {tA:TA} {ar:List Ar} {d:D} {f:Str} {es:List D} {R:List Ar->D->Prop} {RL:List Ar->List D->Prop} {B:List Ar->Addr->Int->Prop} {E:XK} {Q:VK} {C:Addr} {i:Int}
end
end L2
namespace L2
open PySem PySem.Spec PySem.Calls PyProof.Rows
noncomputable abbrev rq (t:Addr) (i:Int):Obj:={ cls:=.type "reversed",data:=.fields #[.ref t,rawInt i] }
theorem sF:Slot "reversed" "__init__" "object.__init__":=.of (owner:="object") (n:="__init__") (by rw [RO,Rc];kernel_rfl) (by decide +kernel) (by decide +kernel) (by decide +kernel) (by first | exact .inl (by decide +kernel) | exact .inr (by decide +kernel)) (by rw [Sh];kernel_rfl)
theorem yu:TypeCalled "reversed" "reversed.__new__" "object.__init__":=⟨by decide +kernel,by decide +kernel,⟨_,_,F.mro_reversed⟩,F.made_reversed,by decide +kernel,F.sub_reversed_self,sF⟩
theorem TZ:Slot "reversed" "__next__" "reversed.__next__":=.of (owner:="reversed") (n:="__next__") (by rw [RO,Rc];kernel_rfl) (by decide +kernel) (by decide +kernel) (by decide +kernel) (by first | exact .inl (by decide +kernel) | exact .inr (by decide +kernel)) (by rw [Sh];kernel_rfl)
theorem mJ:Slot "reversed" "__iter__" "reversed.__iter__":=.of (owner:="reversed") (n:="__iter__") (by rw [RO,Rc];kernel_rfl) (by decide +kernel) (by decide +kernel) (by decide +kernel) (by first | exact .inl (by decide +kernel) | exact .inr (by decide +kernel)) (by rw [Sh];kernel_rfl)
theorem kY:entryFor table "reversed.__next__"=some Builtin.«reversed.__next__»:=entryFor_of_tree (by kernel_rfl)
theorem qp:entryFor table "reversed.__iter__"=some Builtin.«dict_keyiterator.__iter__»:=entryFor_alias (id':="dict_keyiterator.__iter__") (by kernel_rfl) (by first | rfl | decide +kernel | (unfold String.splitOn;simp +decide [String.splitOnAux])) (by decide +kernel) (by kernel_rfl)
theorem tI:Manifest.owners.lookup (String.ofList ['d','e','s','r','e','v','e','r'].reverse)=some Manifest.sig_reversed:=by kernel_rfl
theorem mr (a:Value):argsOk "reversed.__next__" ⟨[a],[]⟩:=by unfold argsOk;rw [signature?_of (id:="reversed.__next__") (n:=['_','_','t','x','e','n','_','_']) (o:=['d','e','s','r','e','v','e','r']) (by kernel_rfl) tI];kernel_rfl
theorem r6 (a:Value):argsOk "reversed.__iter__" ⟨[a],[]⟩:=by unfold argsOk;rw [signature?_of (id:="reversed.__iter__") (n:=['_','_','r','e','t','i','_','_']) (o:=['d','e','s','r','e','v','e','r']) (by kernel_rfl) tI];kernel_rfl
theorem BR:typeLookup (.type "tuple") "__reversed__"=pure none:=by rw [RO,Rc];kernel_rfl
theorem zD:isSubtype (.type "tuple") (.type "dict")=pure false:=by rw [Sh];kernel_rfl
theorem pj:typeLookup (.type "tuple") "__getitem__"=pure (some (.builtin "tuple.__getitem__")):=by rw [RO,Rc];kernel_rfl
theorem DS (t:Addr) (items:Array Value) (n:Nat) (d2:Option Addr) (s2:Array (Option Value)) :
  Meets (Builtin.«reversed.__new__» ⟨[.type "reversed",.ref t],[]⟩) (λ_ R s=>s.heap.get? t=some { cls:=.type "tuple",dict:=d2,data:=.seq items n,slots:=s2 } /\
   (items.size:Int) < 2 ^ 63/\R (.ok (.ret (.ref s.heap.objs.size))) { s with heap:=s.heap.push (rq t ((items.size:Int) - 1)),toks:=s.toks+2 }) :=
 .of_wp λ_ _ _ _ s q=>by
  obtain ⟨h0,g0,d0,t0,o0⟩:=s;obtain ⟨a1,fit,q⟩:=q;have isT:Heap.IsTuple (Shared.heap ⟨h0,g0,d0,t0,o0⟩) t items:=⟨_,a1,rfl,n,rfl⟩
  have self1:=F.sub_reversed_self
  wp_walk
  show wpAny _ _ (typeLookup (.type "tuple") "__reversed__") _ _ _;rw [BR];refine PC ?_;dsimp only
  wp_walk
  show wpAny _ _ (isSubtype (.type "tuple") (.type "dict")) _ _ _;rw [zD];refine PC ?_;rw [M1 (by decide)]
  wp_walk
  show wpAny _ _ (typeLookup (.type "tuple") "__getitem__") _ _ _;rw [pj];refine PC ?_;dsimp only;rw [Ph (by decide +kernel)];refine PC ?_;rw [M1 (by decide)];refine Pg ?_;refine PyProof.Rows.len_tuple isT fit ?_
  wp_walk
  exact ⟨_,rfl,q⟩
variable {prog:Program} {w:World} {A:Around} {s:Shared} {t:Addr} {items:Array Value}
theorem AY {E:Value->Shared->Prop} {Q:Value->Shared->Prop} (a1:s.heap.IsTuple t items) (fit:(items.size:Int) < 2 ^ 63)
  (q:Q (.ref s.heap.objs.size) { s with heap:=s.heap.push (rq t ((items.size:Int) - 1)),toks:=s.toks+2 }):wpAny (model prog w) A (call (.type "reversed") [.ref t]) Q E s:=by
 obtain ⟨⟨c2,d2,Z8,s2⟩,a1,hc,n,hd⟩:=a1;obtain rfl:c2=.type "tuple":=hc;obtain rfl:Z8=.seq items n:=hd;refine callType_new yu (by decide) (F.typeCall_reversed_1 _) (F.newCall_reversed_1 _) (λo=>F.args_object_init_2 o _) F.entry_reversed_new (DS t items n d2 s2) ⟨a1,fit,?_⟩;show _/\_;exact ⟨⟨_,Qv rfl rfl,rfl⟩,q⟩
variable {i:Nat}
theorem sx {n:Nat} (h:i < n):seqIndex? (i:Int) n=some i:=(uP (by unfold YK;rw [Ph (by omega),Ph (by omega)];rfl)).1
abbrev oP (h:Heap) (it t:Addr) (i:Int):Prop:=h.get? it=some (rq t i)
section
variable {prog:Program} {w:World} {A:Around} {E:Value->Shared->Prop} {s:Shared} {it t:Addr} {items:Array Value}
theorem zq {i:Nat} {x:Value} {Q:Option Value->Shared->Prop} (a1:oP s.heap it t i) (a2:s.heap.IsTuple t items) (fit:(items.size:Int) < 2 ^ 63) (hx:items[i]?=some x)
  (q:∀ h' tk,oP h' it t ((i:Int) - 1)->Heap.SameBut it s.heap h'->Q (some x) { s with heap:=h',toks:=tk }):wpAny (model prog w) A (pyNext (.ref it)) Q E s:=by
 have ty:s.TypeIs (.ref it) "reversed":=⟨_,a1,rfl⟩
 have lt:i < items.size:=(Array.getElem?_eq_some_iff.mp hx).1;unfold pyNext;refine Pg (R0 (QE (name:=Str.ofString "__next__") ty TZ (QS TZ ty kY ?_ (mr _))));obtain ⟨⟨c2,d2,Z8,s2⟩,b2,hc,n,hd⟩:=id a2;obtain rfl:c2=.type "tuple":=hc;obtain rfl:Z8=.seq items n:=hd;obtain ⟨h0,g0,d0,t0,o0⟩:=s;unfold oP rq rawInt at a1
 wp_walk
 show wpAny _ _ (typeLookup (.type "tuple") "__getitem__") _ _ _;rw [pj];refine PC ?_;rw [M1 (by decide)];refine Pg (wpAny_mkInt (Pg (R0 ?_)));show wpAny _ _ (getItem (.ref t) (.int (i:Int) _)) _ _ _;refine PyProof.Rows.getItem_tuple (j:=i) a2 (by omega) (by omega) (sx lt) hx ?_
 wp_walk
 exact ⟨x,rfl,PC (q _ _ (Heap.get?_update_self _ a1 rfl) (Heap.SameBut.update ..))⟩
theorem zp {Q:Option Value->Shared->Prop} (hh:A.handled=none) (a1:oP s.heap it t (-1)) (q:∀ h',Heap.ExtBut it s.heap h'->Q none { s with heap:=h' }):wpAny (model prog w) A (pyNext (.ref it)) Q E s:=by
 have ty:s.TypeIs (.ref it) "reversed":=⟨_,a1,rfl⟩
 unfold pyNext;refine Pg (R0 (QE (name:=Str.ofString "__next__") ty TZ (QS TZ ty kY ?_ (mr _))));obtain ⟨h0,g0,d0,t0,o0⟩:=s;unfold oP rq rawInt at a1
 wp_walk
 refine wpAny_raiseNew_none hh ?_;refine Pg (wpAny_isInstance (T:="StopIteration") (b:=true) ⟨_,P4 _ rfl,rfl⟩ isSubtype_stop (PC (q _ λb o hb e=>?_)));exact Pf _ (Pf _ ((Heap.get?_update_ne _ _ _ _ hb).trans ((Heap.get?_update_ne _ _ _ _ hb).trans e)))
theorem xV {i:Int} {Q:Value->Shared->Prop} (a1:oP s.heap it t i) (h:Q (.ref it) s):wpAny (model prog w) A (pyIter (.ref it)) Q E s:=by
 have ty:s.TypeIs (.ref it) "reversed":=⟨_,a1,rfl⟩
 refine wpAny_pyIter_slot ty mJ (QS mJ ty qp ?_ (r6 _));show wpAny _ _ (ret (.ref it)) _ _ s;exact PC ⟨_,rfl,"reversed",_,ty,TZ.lookup,h⟩
end
noncomputable def Itw (K:W.Frag) (a:Addr) (xs:List V):It:=⟨λi H=>i < xs.length/\Tg K H a xs,λi H x H'=>H'=H/\xs[xs.length - 1 - i]?=some x,λi _=>i=xs.length⟩
variable {P:Program} {K:W.Frag}
theorem BU {tg:Expr} (a it:Addr) (xs:List V):pq P w K tg (Itw K a xs) [it] it (λi h=>oP h it a ((xs.length:Int) - 1 - (i:Int))) where
 mem:=by simp
 obj:=λi h st b hb=>by
  have e:b=it:=by simpa using hb
  subst e;exact ⟨_,st,λv z=>by cases z⟩
 keep:=λi h h' st k=>k it (by simp) _ st
 item:=by
  intro X hP hw hK hc i pins s σ H E I hf st hg;subst hP hw hK;obtain ⟨hi,hq⟩:=hg;obtain ⟨its,rv,p,hz⟩:=I.tuple hq;obtain ⟨f0,f1,f2,f3,f4,f5⟩:=hf it (by simp);have lr:=rv.length;have hx:xs[xs.length - 1 - i]?=some (xs[xs.length - 1 - i]'(by omega)):=Pe (by omega);obtain ⟨u,hu,ru⟩:=rv.get hx;have e1:(xs.length:Int) - 1 - (i:Int)=((xs.length - 1 - i:Nat):Int):=by omega
  rw [e1] at st;refine zq st p (by rw [Pz];rw [Rv] at hz;omega) (x:=u) (by simpa using hu) λh' tk st' sb=>?_;have e2:((xs.length - 1 - i:Nat):Int) - 1=(xs.length:Int) - 1 - ((i+1:Nat):Int):=by omega
  rw [e2] at st';have I1:Inv X pins σ H { s with heap:=h',toks:=tk }:=I.turned (t':=tk) (λb o hb e=>(sb.2 b hb).trans e) f0 f1 f3 f4 f5;exact ⟨u,rfl,tq (s:={ s with heap:=h',toks:=tk }) st' rfl rfl (by decide) ⟨_,H,I1,ru,⟨rfl,hx⟩,st',λb hb=>(hf b hb).1⟩⟩
 done:=by
  intro X hP hw hK hc i pins s σ H E I hf st hg;subst hP hw hK;obtain ⟨f0,f1,f2,f3,f4,f5⟩:=hf it (by simp);have hg':i=xs.length:=hg;subst hg';have e1:(xs.length:Int) - 1 - (xs.length:Int)=-1:=by omega
  rw [e1] at st;exact zp (I.ok.hd hc) st λh' eb=>⟨rfl,I.turned (t':=s.toks) (λb o hb e=>eb b o hb e) f0 f1 f3 f4 f5⟩
 self:=λA i s Q E st q=>xV st q
section
variable {X:Cx} {tg:Expr}
noncomputable def IP (K:W.Frag) (ta:TA):TI:=λσ H R=>ta σ H λvs H1=>∃ a xs,vs=[.ref a]/\Tg K H1 a xs/\R (Itw K a xs) H1
theorem Fw {a:Expr} {ta:TA} {p pos:Pos} (hg:Gl X "reversed") (hm:X.mg "reversed"=none) (ha:PA X [a] ta) (hs:starEach [a] X.env=[(false,eval a X.env)]:=by rfl):PI X tg (.Call (.Name "reversed" p) [a] [] pos) (IP X.K ta):=by
 intro pins s σ H R I h;refine Call_ (lj I hg hm oR (QD (SY (ha pos pins s σ H _ I h) λus s1 ⟨vs,H1,I1,r1,q1⟩=>?_) hs rfl));obtain ⟨l,xs,e,hq,q⟩:=q1;subst e;obtain ⟨u,rfl,ru⟩:=jd r1;cases ru;obtain ⟨its,rv,pl,hz⟩:=I1.tuple hq;have lr:=rv.length;refine AY pl (by rw [Pz];rw [Rv] at hz;omega) ?_;have ez:((its.toArray.size:Nat):Int) - 1=(xs.length:Int) - 1 - ((0:Nat):Int):=by rw [Pz,lr];omega
 rw [ez];have st:oP (s1.heap.push (rq l ((xs.length:Int) - 1 - ((0:Nat):Int)))) s1.heap.objs.size l ((xs.length:Int) - 1 - ((0:Nat):Int)):=P4 _ rfl;refine xV (s:={ s1 with heap:=s1.heap.push (rq l ((xs.length:Int) - 1 - ((0:Nat):Int))),toks:=s1.toks+2 }) st ?_;refine ⟨s1.heap.objs.size,[s1.heap.objs.size],_,_,H1,rfl,I1.kept (t':=s1.toks+2) λb o e=>Pf _ e,BU l _ xs,st,λb hb=>?_,q⟩;have e:b=s1.heap.objs.size:=by simpa using hb
 subst e;exact I1.X0 (Pq _) (I1.hok.fresh (Pq _))
end
variable {σ:St} {H:Hp}
theorem CC {K:PySem.W.Frag} {a:Addr} {xs:List V} {g:TG} {tb:TS} {D:kx} (Pv:Nat->St->Hp->Prop) (h0:Pv 0 σ H) (hl:∀ i σ H,i<=xs.length->Pv i σ H->Tg K H a xs)
  (hs:∀ i x σ H,i < xs.length->xs[xs.length - 1 - i]?=some x->Pv i σ H->g x σ H λσ2 H2=>tb { D with nx:=Pv (i+1),ct:=Pv (i+1),bk:=D.nx } σ2 H2) (hd:∀ σ H,Pv xs.length σ H->D.nx σ H) :
  ∃ W:Nat->Nat->St->Hp->Prop,(∃ m,W 0 m σ H)/\∀ i m σ H,W i m σ H ->
   ((Itw K a xs).stop i H/\D.nx σ H)\/((Itw K a xs).go i H/\∃ N:St->Hp->Prop,(∀ σ' H',N σ' H'->∃ m',m' < m/\W (i+1) m' σ' H')/\∀ x H',(Itw K a xs).Yd i H x H'->g x σ H' λσ2 H2=>tb { D with nx:=N,ct:=N,bk:=D.nx } σ2 H2):=by
 refine ⟨λi m σ H=>m=xs.length - i/\i<=xs.length/\Pv i σ H,⟨xs.length,by simp,Qy _,h0⟩,?_⟩;rintro i m σ H ⟨rfl,hi,p⟩;have q:=hl i σ H hi p;by_cases hlt:i < xs.length
 ·refine .inr ⟨⟨hlt,q⟩,Pv (i+1),λσ' H' p'=>⟨xs.length - (i+1),by omega,rfl,hlt,p'⟩,λx H' y=>?_⟩;obtain ⟨e,y⟩:=y;subst e;exact hs i x σ _ hlt y p
 ·have e:i=xs.length:=by omega
  subst e;exact .inl ⟨rfl,hd σ H p⟩
section
variable {X:Cx} {pins:List (Addr × Obj)} {σ:St} {H:Hp} {a:Addr} {cls C:Value} {dx:Option Addr} {s:Shared} {D:kx} {x n:Str} {i:Nat} {np hpos:Pos} {b₀:Stmt} {suite:List Stmt} {rest:List ExceptHandler} {th:TS} {b:Bool}
end
noncomputable abbrev oW (t:Addr):Obj:={ cls:=.type "list_iterator",data:=.fields #[.ref t,.int 0 0] }
theorem A4 (t:Addr) (items:Array Value) (n:Nat) (d2:Option Addr) (s2:Array (Option Value)) :
  Meets (Builtin.«enumerate.__new__» ⟨[.type "enumerate",.ref t],[]⟩) (λ_ R s=>s.heap.get? t=some { cls:=.type "list",dict:=d2,data:=.seq items n,slots:=s2 } /\
   R (.ok (.ret (.ref (s.heap.push (oW t)).objs.size))) { s with heap:=(s.heap.push (oW t)).push (sX s.heap.objs.size) }) :=
 .of_wp λ_ _ _ _ s q=>by
  obtain ⟨h0,g0,d0,t0,o0⟩:=s;obtain ⟨a1,q⟩:=q;have isL:Heap.IsList (Shared.heap ⟨h0,g0,d0,t0,o0⟩) t items:=⟨_,a1,rfl,n,rfl⟩
  have self1:=sub_enumerate
  wp_walk
  refine wpAny_stack_any λrows=>?_;refine PC ?_;split
  ·rename_i cl _ _ _ _ _;cases (cl == Value.type "enumerate") <;> (wp_walk using Rj isL;exact ⟨_,rfl,q⟩)
  ·wp_walk using Rj isL
   exact ⟨_,rfl,q⟩
theorem yt {E:Value->Shared->Prop} {Q:Value->Shared->Prop} (a1:s.heap.IsList t items)
  (q:Q (.ref (s.heap.objs.size+1)) { s with heap:=(s.heap.push (oW t)).push (sX s.heap.objs.size) }):wpAny (model prog w) A (call (.type "enumerate") [.ref t]) Q E s:=by
 obtain ⟨⟨c2,d2,Z8,s2⟩,a1,hc,n,hd⟩:=a1;obtain rfl:c2=.type "list":=hc;obtain rfl:Z8=.seq items n:=hd;have sz:(s.heap.push (oW t)).objs.size=s.heap.objs.size+1:=Qs _ _;refine callType_new F.called_enumerate (by decide) (F.typeCall_enumerate_1 _) (F.newCall_enumerate_1 _) (λo=>F.args_object_init_2 o _) F.entry_enumerate_new (A4 t items n d2 s2) ⟨a1,?_⟩;show _/\_;rw [sz];refine ⟨⟨sX s.heap.objs.size,?_,rfl⟩,q⟩;exact Qv sz.symm rfl
noncomputable def IA (K:W.Frag) (a:Addr) (xs:List V):It:=⟨λi H=>i < xs.length/\SO K H a xs,λi H x H'=>∃ p y,H p=none/\x=.ref p/\xs[i]?=some y/\H'=upd H p (.tup [.int i,y]),λi H=>i=xs.length/\SO K H a xs⟩
variable {elts:List Expr} {ps:Pos}
theorem zE {c1} (a e it:Addr) (xs:List V) (ne:e≠it):pq P w K (.Tuple elts c1 ps) (IA K a xs) [e,it] e (λi h=>a≠it/\a≠e/\∃ old,IsEnum h e it i old/\h.IsListIter it a i) where
 mem:=by simp
 obj:=λi h st b hb=>by
  obtain ⟨_,_,old,q1,q2⟩:=st;rcases Py.mp hb with z | z
  ·subst z;exact ⟨_,q1,λv z=>by cases z⟩
  ·have z:b=it:=by simpa using z
   subst z;obtain ⟨o,e,c,d⟩:=q2;exact ⟨o,e,λv z=>by rw [d] at z;cases z⟩
 keep:=λi h h' ⟨n1,n2,old,q1,q2⟩ k=>⟨n1,n2,old,k e (by simp) _ q1,q2.at λo z=>k it (by simp) o z⟩
 item:=by
  intro X hP hw hK hc i pins s σ H E I hf st hg;subst hP hw hK;obtain ⟨hi,hq⟩:=hg;obtain ⟨nai,nae,old,q1,q2⟩:=st;obtain ⟨its,rv,p,hz⟩:=I.list hq;have hx:xs[i]?=some xs[i]:=Pe hi;obtain ⟨u,hu,ru⟩:=rv.get hx;have isT:s.heap.IsList a its.toArray:=p.isList;have lr:=rv.length;refine wpAny_pyNext_enum_itemD (Draws.list (A:=X.A.in1) (I.ok.hd hc) it a nai its.toArray) q1 ⟨q2,isT⟩ (by rw [Pz];omega) ne (by simp [ne,PL nae]) λy h' tk hy out st' tup sz kk=>⟨_,rfl,?_⟩
  have ey:y=u:=by
   have h1:its[i]?=some y:=by simpa using hy
   rw [hu] at h1;exact (Qf h1).symm
  subst ey;refine wpAny_letOwnedTupleGo_enum (s:={ s with heap:=h',toks:=tk+1 }) out λh2 e2 same=>?_;have le:e < s.heap.objs.size:=PF q1;have li:it < s.heap.objs.size:=let ⟨_,z,_⟩:=q2;PF z;have tup2:h2.get? s.heap.objs.size=some { cls:=.type "tuple",data:=.seq #[.int i tk,y] }:=(same.2 _ (QN le)).trans tup
  have I1:Inv X pins σ (upd H s.heap.objs.size (.tup [.int i,xs[i]])) { s with heap:=s.heap.push { cls:=.type "tuple",data:=.seq #[.int i tk,y] },toks:=s.toks } :=
   I.laid (o:=.tup [.int i,xs[i]]) (λb ob q=>Pf _ q) (Pq _) ⟨by rw [Rv];simp,[.int i tk,y],.cons ⟨_,rfl⟩ (.cons ru .nil),Sl _ _⟩
  have frees:∀ b,b < s.heap.objs.size->upd H s.heap.objs.size (.tup [.int i,xs[i]]) b=H b:=λb hb=>aS (Qc hb)
  have I2:Inv X pins σ (upd H s.heap.objs.size (.tup [.int i,xs[i]])) { s with heap:=h2,toks:=tk+1 }:=by
   refine Inv.Yo (s:={ s with heap:=s.heap.push { cls:=.type "tuple",data:=.seq #[.int i tk,y] },toks:=s.toks }) (h':=h2) (its:=[e,it]) (t':=tk+1) I1 (λb o hb q=>?_) (λb hb=>?_)
   ·have h1:b≠e:=λz=>hb (by simp [z]);have h3:b≠it:=λz=>hb (by simp [z]);by_cases ZN:b=s.heap.objs.size
    ·subst ZN;have q':(s.heap.push { cls:=.type "tuple",data:=.seq #[.int i tk,y] }).get? s.heap.objs.size=some o:=q;rw [Qv rfl rfl] at q';cases q';exact tup2
    ·have q':s.heap.get? b=some o:=by
      have lt:b < s.heap.objs.size:=by have l1:b < (s.heap.push { cls:=.type "tuple",data:=.seq #[.int i tk,y] }).objs.size:=PF q;rw [Qs] at l1;exact Nat.lt_of_le_of_ne (Nat.le_of_lt_succ l1) ZN
      exact (Heap.get?_push_ne _ _ _ ZN).symm.trans q
     exact (same.2 b h1).trans (kk b o h1 h3 q')
   ·have lb:b < s.heap.objs.size:=by
     rcases Py.mp hb with z | z
     ·rw [z];exact le
     ·rw [show b=it by simpa using z];exact li
    obtain ⟨f0,f1,f2,f3,f4,f5⟩:=hf b hb;exact ⟨by rw [frees b lb];exact f0,f1,f3,f4,f5⟩
  refine ⟨.ref s.heap.objs.size,_,I2,rfl,⟨_,_,I.hok.fresh (Pq _),rfl,hx,rfl⟩,⟨nai,nae,y,?_,?_⟩,λb hb=>?_⟩
  ·have ec:((i+1:Nat):Int)=(i:Int)+1:=by omega
   rw [ec];exact e2
  ·exact st'.1.at λo z=>(same.2 it (PL ne)).trans z
  ·have lb:b < s.heap.objs.size:=by
    rcases Py.mp hb with z | z
    ·rw [z];exact le
    ·rw [show b=it by simpa using z];exact li
   rw [frees b lb];exact (hf b hb).1
 done:=by
  intro X hP hw hK hc i pins s σ H E I hf st hg;subst hP hw hK;obtain ⟨hi,hq⟩:=hg;obtain ⟨nai,nae,old,q1,q2⟩:=st;obtain ⟨its,rv,p,hz⟩:=I.list hq;have lr:=rv.length;have isT:s.heap.IsList a its.toArray:=p.isList;obtain ⟨f0,f1,f2,f3,f4,f5⟩:=hf it (by simp);refine wpAny_pyNext_enum_endD (Draws.list (A:=X.A.in1) (I.ok.hd hc) it a nai its.toArray) q1 (by rw [Pz,<- lr,<- hi];exact ⟨q2,isT⟩) λh' eb=>⟨rfl,?_⟩
  exact I.turned (t':=s.toks) (λb o hb q=>eb b o hb q) f0 f1 f3 f4 f5
 self:=λA i s Q E ⟨_,_,_,q1,_⟩ q=>wpAny_pyIter_enum q1 q
noncomputable def CQ (K:W.Frag) (ta:TA):TI:=λσ H R=>ta σ H λvs H1=>∃ a xs,vs=[.ref a]/\SO K H1 a xs/\R (IA K a xs) H1
theorem Du {X:Cx} {a:Expr} {ta:TA} {p pos:Pos} {c1} (hg:Gl X "enumerate") (hm:X.mg "enumerate"=none) (ha:PA X [a] ta) (hs:starEach [a] X.env=[(false,eval a X.env)]:=by rfl):PI X (.Tuple elts c1 ps) (.Call (.Name "enumerate" p) [a] [] pos) (CQ X.K ta):=by
 intro pins s σ H R I h;refine Call_ (lj I hg hm uk (QD (SY (ha pos pins s σ H _ I h) λus s1 ⟨vs,H1,I1,r1,q1⟩=>?_) hs rfl));obtain ⟨t,xs,ev,hq,q⟩:=q1;subst ev;obtain ⟨u,rfl,ru⟩:=jd r1;cases ru;obtain ⟨its,rv,pt,hz⟩:=I1.list hq;have lt:t < s1.heap.objs.size:=let ⟨_,z,_⟩:=pt.isList;PF z;refine yt pt.isList ?_;have sz:(s1.heap.push (oW t)).objs.size=s1.heap.objs.size+1:=Qs _ _;have q1:IsEnum ((s1.heap.push (oW t)).push (sX s1.heap.objs.size)) (s1.heap.objs.size+1) s1.heap.objs.size ((0:Nat):Int) .none:=Qv sz.symm rfl;have q2:((s1.heap.push (oW t)).push (sX s1.heap.objs.size)).IsListIter s1.heap.objs.size t 0:=⟨_,Pf _ (Qv rfl rfl),rfl,rfl⟩
 refine wpAny_pyIter_enum (s:={ s1 with heap:=(s1.heap.push (oW t)).push (sX s1.heap.objs.size) }) q1 ?_;refine ⟨s1.heap.objs.size+1,[s1.heap.objs.size+1,s1.heap.objs.size],_,_,H1,rfl,I1.kept (t':=s1.toks) (λb o e=>Pf _ (Pf _ e)),zE t _ _ xs (QN (RI _)),⟨Qc lt,Qc (Sv lt),.none,q1,q2⟩,λb hb=>?_,q⟩;rcases Py.mp hb with z | z
 ·subst z;exact I1.X0 (RX _) (I1.hok.fresh (RX _))
 ·have z:b=s1.heap.objs.size:=by simpa using z
  subst z;exact I1.X0 (Pq _) (I1.hok.fresh (Pq _))
theorem DM {tl:TE} {te:TE} {mk:St->St} {j:Nat} {cs:List D} (h:RL K tl σ H cs) (hc:cs.length<=1000) (es:List D) (hn:es.length=cs.length) (ne:i≠j)
  (h0:((mk σ).set i none).set j none=mk σ)
  (turn:∀ H1 (k:Nat) c e w,SH H H1->cs[k]?=some c->es[k]?=some e->Dat K H1 c w->RE K te (((mk σ).set i (some (.int k))).set j (some w)) H1 e) :
  RC K (jP (CQ K (bW tl dW)) mk (A7 K 2 (mw (d6 i) (mw (d6 j) CD))) jc te) σ H es:=λH1 s Q q=>by
 refine h H1 s _ λvs H2 s2 q2=>?_;obtain ⟨a,us,e1,ha,da⟩:=q2;subst e1;have lu:=da.length;refine ⟨a,us,rfl,ha.WA,λl hl2=>?_⟩;have s02:SH H H2:=s.trans s2;refine ⟨λn m σ' G=>m=us.length - n/\n<=us.length/\(∃ z1 z2,σ'=((mk σ).set i z1).set j z2)/\SH H2 G/\∃ ys,G l=some (.lst ys)/\SG K G (es.take n) ys,⟨us.length,by omega,Qy _,⟨none,none,h0.symm⟩,aV hl2 _,[],aI,by rw [QU];exact SG.nil⟩,?_⟩;rintro n m σ' G ⟨rfl,hle,⟨z1,z2,rfl⟩,sG,ys,hy,dy⟩;by_cases hlt:n < us.length
 ·refine .inr ⟨⟨hlt,(sG.VG ha).WA⟩,λσ'' G'=>(∃ z1 z2,σ''=((mk σ).set i z1).set j z2)/\SH H2 G'/\∃ ys,G' l=some (.lst ys)/\SG K G' (es.take (n+1)) ys,λσ'' G' w=>⟨us.length - (n+1),by omega,rfl,hlt,w.1,w.2⟩,λx G' y=>?_⟩;obtain ⟨p,w,hp,rfl,hw,rfl⟩:=y;have sn:SH G (upd G p (.tup [.int n,w])):=aV hp _;have s2n:=sG.trans sn;obtain ⟨c,ec,hcv⟩:=da.Wb hw;have hne:n < es.length:=by omega
  refine ⟨p,[.int n,w],rfl,Tg.of aI,rfl,.int n,_,rfl,w,_,rfl,rfl,?_⟩;simp only [jc,RM];rw [AI _ ne];refine RE.use (turn _ n c es[n] w (s02.trans s2n) ec (Pe hne) (s2n.dat hcv)) λv G4 s4 q4=>?_;have Yh:=s4 _ _ (sn _ _ hy);have lys:ys.length=n:=by rw [<- dy.length,Qe];omega
  refine ⟨ys,Yh,cM (by omega),⟨_,_,rfl⟩,λx o hx=>?_,ys++[v],aI,?_⟩
  ·rw [aS (aU hx hl2)];exact s4 _ _ (s2n _ _ hx)
  ·have g:gA K G4 (upd G4 l (.lst (ys++[v]))):=S4.grow (t:=l) (S4.upd (SH.refl G4).but) Yh aI;rw [Qo,Pe hne];exact SG.append (SG.mono g _ (s4.SQ (sn.SQ dy))) (SG.cons (Dat.mono g _ q4) SG.nil)
 ·have e:n=us.length:=by omega
  subst e;refine .inl ⟨⟨rfl,(sG.VG ha).WA⟩,?_⟩;rw [Rw (by omega)] at dy;exact q l ys G (s2.free hl2) (s2.trans sG) hy dy
section
variable {prog:Program} {w:World} {A:Around} {E:Value->Shared->Prop} {s:Shared} {z TI TO i1 i2 i3 l1 l2 l3:Addr} {k:Nat} {xs ys zs:Array Value}
end
end L2
namespace L2
open PySem PySem.Spec PyProof.Rows
section
variable {X:Cx}
end
section
variable {K:W.Frag} {σ:St} {H:Hp} {t ta tb:TE} {d:D} {ds:List D}
end
end L2
namespace My
open PySem L2 PyProof.Rows
abbrev TL:List (Str × KTD.Dat):=[("num",.flat (.int 9999)),("arg",.flat (.int 3))]
abbrev TB:List (Str × KTD.Dat):=[("add",.flat (.int 2)),("sub",.flat (.int 2)),("mul",.flat (.int 2)),("less",.flat (.int 2)),("pick",.flat (.int 3))]
abbrev TM:List (Str × KTD.Dat):=[("hole",.flat (.int 2)),("gap",.flat (.int 3)),("slot",.flat (.int 2))]
abbrev TF:List (Str × KTD.Dat):=[("low",.flat (.str "gap")),("high",.flat (.str "gap")),("arg",.flat (.str "slot"))]
abbrev Y6:List (Str × KTD.Dat):=[("load",.flat (.int 3)),("skip",.flat (.int 9)),("zero",.flat (.int 9))]
abbrev AHE:List D:=[.int 10,.int 11]
abbrev BAS:List D:=[.tup [.str "one",.tup [.str "gap",.int 0,.int 99],.tup [.int 1,.tup [.str "low",.int 0]]],.tup [.str "two",.tup [.str "gap",.int 0,.int 9999],.tup [.int 2,.tup [.str "low",.int 0],.tup [.str "high",.int 0]]],.tup [.str "slot",.tup [.str "slot",.int 0],.tup [.int 3,.tup [.str "arg",.int 0]]],.tup [.str "add",.tup [.str "add",.tup [.str "hole",.int 0],.tup [.str "hole",.int 1]],.tup [.int 4]],.tup [.str "sub",.tup [.str "sub",.tup [.str "hole",.int 0],.tup [.str "hole",.int 1]],.tup [.int 5]],.tup [.str "mul",.tup [.str "mul",.tup [.str "hole",.int 0],.tup [.str "hole",.int 1]],.tup [.int 6]],.tup [.str "less",.tup [.str "less",.tup [.str "hole",.int 0],.tup [.str "hole",.int 1]],.tup [.int 7]],.tup [.str "more",.tup [.str "add",.tup [.str "hole",.int 0],.tup [.str "gap",.int 0,.int 99]],.tup [.int 12,.tup [.str "low",.int 0]]]]
abbrev BEH:List D:=[.int 8,.int 9]
abbrev INS:List D:=[.tup [.str "end",.int 0],.tup [.str "put",.int 1],.tup [.str "far",.int 2],.tup [.str "load",.int 1],.tup [.str "add",.int 0],.tup [.str "sub",.int 0],.tup [.str "mul",.int 0],.tup [.str "less",.int 0],.tup [.str "skip",.int 1],.tup [.str "jump",.int 2],.tup [.str "zero",.int 1],.tup [.str "none",.int 2],.tup [.str "more",.int 1],.tup [.str "twice",.int 0],.tup [.str "about",.int 0],.tup [.str "call",.int 2],.tup [.str "back",.int 0]]
abbrev STR:List D:=[.str "put",.str "far",.str "load",.str "add",.str "sub",.str "mul",.str "less",.str "more",.str "twice",.str "about"]
abbrev WAY:List D:=[.str "skip",.str "jump",.str "zero",.str "none",.str "call",.str "back"]
noncomputable def qk (s:Stmt) (j:Nat):Stmt:=match s with
 | .ClassDef _ _ _ b _ _ _ _ _ _ _=>b.getD j (.Pass ⟨0,0,0,0⟩)
 | _=>.Pass ⟨0,0,0,0⟩
noncomputable abbrev rH:Stmt:=top 15
theorem Xg:SJ ["thing","low","high"] ["thing","low","high"] (aK rH):=.TN
noncomputable abbrev o8:Stmt:=top 16
theorem WH:SJ ["thing"] ["thing"] (aK o8):=.TN
noncomputable abbrev tT:Stmt:=top 25
theorem XA:SJ ["thing","kind"] ["thing"] (aK tT):=.TN
noncomputable abbrev lU:Stmt:=top 26
theorem VI:SJ ["tree"] ["tree"] (aK lU):=.TN
noncomputable abbrev oH:Stmt:=top 27
theorem XC:SJ ["thing","waiting","parts","part","deep"] ["thing"] (aK oH):=.TN
noncomputable abbrev ph:Stmt:=top 28
theorem WI:SJ ["tree"] ["tree"] (aK ph):=.TN
noncomputable abbrev xY:Stmt:=top 30
theorem Yi:SJ ["tree","parts","within"] ["tree"] (aK xY):=.TN
noncomputable abbrev oG:Stmt:=top 17
theorem XD:SJ ["thing"] ["thing"] (aK oG):=.TN
noncomputable abbrev kq:Stmt:=top 42
theorem Tt:SJ ["cells","place","name","many","behind"] ["cells","place"] (aK kq):=.TN
noncomputable abbrev tS:Stmt:=top 57
theorem XE:SJ ["thing"] ["thing"] (aK tS):=.TN
noncomputable abbrev iE:Stmt:=top 58
theorem UP:SJ ["thing","deep"] ["thing","deep"] (aK iE):=.TN
noncomputable abbrev rJ:Stmt:=top 59
theorem Xh:SJ ["pattern","kind","marks","within"] ["pattern","kind"] (aK rJ):=.TN
noncomputable abbrev j8:Stmt:=top 60
theorem V0:SJ ["pattern","kind","numbers"] ["pattern","kind"] (aK j8):=.TN
noncomputable abbrev kK:Stmt:=top 61
theorem Wd:SJ ["thing"] ["thing"] (aK kK):=.TN
noncomputable abbrev nK:Stmt:=top 62
theorem We:SJ ["thing","pattern"] ["thing","pattern"] (aK nK):=.TN
noncomputable abbrev tR:Stmt:=top 63
theorem XF:SJ ["thing","pattern"] ["thing","pattern"] (aK tR):=.TN
noncomputable abbrev hV:Stmt:=top 64
theorem UL:SJ ["cells","pattern","place","name","behind"] ["cells","pattern"] (aK hV):=.TN
noncomputable abbrev rG:Stmt:=top 65
theorem Xi:SJ ["thing","name","pattern","cells"] ["thing"] (aK rG):=.TN
noncomputable abbrev nL:Stmt:=top 66
theorem Yj:SJ ["thing"] ["thing"] (aK nL):=.TN
noncomputable abbrev rK:Stmt:=top 67
theorem Xj:SJ ["some"] ["some"] (aK rK):=.TN
noncomputable abbrev kQ:Stmt:=top 68
theorem Vi:SJ ["mark","tree"] ["mark","tree"] (aK kQ):=.TN
noncomputable abbrev tU:Stmt:=top 69
theorem XG:SJ ["pattern","tree","found","kind"] ["pattern","tree","found"] (aK tU):=.TN
noncomputable abbrev rF:Stmt:=top 70
theorem Xk:SJ ["piece","tree","found"] ["piece","tree"] (aK rF):=.TN
noncomputable abbrev mG:Stmt:=top 71
theorem V1:SJ ["cell","nums","ks"] ["cell","nums","ks"] (aK mG):=.TN
noncomputable abbrev o9:Stmt:=top 77
theorem WJ:SJ ["many","kinds","near","far"] ["many","kinds"] (aK o9):=.TN
noncomputable abbrev kP:Stmt:=top 78
theorem Vj:SJ ["second","third","behind","ahead"] ["second","third"] (aK kP):=.TN
noncomputable abbrev tW:Stmt:=top 79
theorem XH:SJ ["tree","some","ways","piece","found"] ["tree","some"] (aK tW):=.TN
noncomputable abbrev pd:Stmt:=top 80
theorem WK:SJ ["name","cells","lengths","own","ahead","behind"] ["name","cells","lengths"] (aK pd):=.TN
noncomputable abbrev fS:Stmt:=top 81
theorem VJ:SJ ["tree","some","done","bests","best","name","cells","trees","within","length"] ["tree","some","done","bests"] (aK fS):=.TN
noncomputable abbrev kO:Stmt:=top 82
theorem Vk:SJ ["tree","some","done","bests","part"] ["tree","some"] (aK kO):=.TN
noncomputable abbrev lR:Stmt:=top 86
theorem WL:SJ ["tree","some","cover","places","first","second","third","ahead","behind"] ["tree","some","cover","places"] (aK lR):=.TN
noncomputable abbrev ju:Stmt:=top 87
theorem Wf:SJ ["tree","some","cover","places","name","within","piece","holes","nums","ks","cells","hole","inner"] ["tree","some","cover","places"] (aK ju):=.TN
noncomputable abbrev nM:Stmt:=top 88
theorem Wg:SJ ["tree","some","cover","places","place"] ["tree","some","cover","places"] (aK nM):=.TN
noncomputable abbrev tQ:Stmt:=top 89
theorem XI:SJ ["tree","some","length","cover"] ["tree","some"] (aK tQ):=.TN
noncomputable abbrev Gu:Stmt:=top 90
theorem Zz:SJ ["tree","some"] ["tree","some"] (aK Gu):=.TN
noncomputable abbrev fV:Stmt:=top 18
theorem WM:SJ ["size","most"] ["size","most"] (aK fV):=.TN
noncomputable abbrev lS:Stmt:=top 19
theorem WN:SJ ["args","size"] ["args","size"] (aK lS):=.TN
noncomputable abbrev kR:Stmt:=top 29
theorem Vl:SJ ["kind","first","second","size"] ["kind","first","second","size"] (aK kR):=.TN
noncomputable abbrev oF:Stmt:=top 40
theorem XJ:SJ ["thing"] ["thing"] (aK oF):=.TN
noncomputable abbrev pf:Stmt:=top 41
theorem WO:SJ ["code"] ["code"] (aK pf):=.TN
noncomputable abbrev mH:Stmt:=top 43
theorem V2:SJ ["behind","number","cell"] ["behind"] (aK mH):=.TN
noncomputable abbrev cH:Stmt:=qk (top 44) 0
theorem UM:SJ ["self","cells","given","size","pile"] ["self","cells","given","size","pile"] (aK cH):=.TN
noncomputable abbrev dJ:Stmt:=qk (top 44) 1
theorem VL:SJ ["self"] ["self"] (aK dJ):=.TN
noncomputable abbrev dH:Stmt:=qk (top 44) 2
theorem VM:SJ ["self","number"] ["self","number"] (aK dH):=.TN
noncomputable abbrev dZ:Stmt:=qk (top 44) 4
theorem V3:SJ ["self","name","number","onward"] ["self","name","number","onward"] (aK dZ):=.TN
noncomputable abbrev cV:Stmt:=qk (top 44) 5
theorem U9:SJ ["self"] ["self"] (aK cV):=.TN
noncomputable abbrev cU:Stmt:=qk (top 44) 6
theorem Va:SJ ["self","name","number","upper","lower"] ["self","name","number"] (aK cU):=.TN
noncomputable abbrev dI:Stmt:=qk (top 44) 3
theorem VN:SJ ["self","name","behind","number","onward"] ["self"] (aK dI):=.TN
noncomputable abbrev tV:Stmt:=top 45
theorem XM:SJ ["code","args","size","steps"] ["code","args","size","steps"] (aK tV):=.TN
noncomputable abbrev mI:Stmt:=top 46
theorem ZA:SJ ["code","args","size","steps","machine","done"] ["code","args","size","steps"] (aK mI):=.TN
noncomputable abbrev xX:Stmt:=top 47
theorem Yk:SJ ["code","rows","place","name","behind"] ["code"] (aK xX):=.TN
noncomputable abbrev o3:Stmt:=top 92
theorem WQ:SJ ["_law_script","_law_town","_law_many","_law_one","_law_at","_law_mixed"] ["_law_script","_law_town","_law_many"] (aK o3):=.TN
noncomputable abbrev o6:Stmt:=top 93
theorem WR:SJ ["_law_script","_law_town","_law_some"] ["_law_script","_law_town","_law_some"] (aK o6):=.TN
noncomputable abbrev lQ:Stmt:=top 94
theorem WT:SJ ["_law_script","_law_town","_law_room","_law_leaf","_law_name","_law_many"] ["_law_script","_law_town","_law_room"] (aK lQ):=.TN
noncomputable abbrev lO:Stmt:=top 95
theorem WU:SJ ["_law_script","_law_town","_law_base"] ["_law_script","_law_town","_law_base"] (aK lO):=.TN
noncomputable abbrev o7:Stmt:=top 96
theorem WV:SJ ["_law_script","_law_town"] ["_law_script","_law_town"] (aK o7):=.TN
noncomputable abbrev rE:Stmt:=top 97
theorem Xl:SJ ["_law_name","_law_one","_law_other","_law_base"] ["_law_name","_law_one","_law_other","_law_base"] (aK rE):=.TN
noncomputable abbrev nJ:Stmt:=top 98
theorem Wh:SJ ["_law_tree_here","_law_args_here","_law_base"] ["_law_tree_here","_law_args_here","_law_base"] (aK nJ):=.TN
noncomputable abbrev nI:Stmt:=top 99
theorem Wi:SJ ["_law_first"] [] (aK nI):=.TN
noncomputable abbrev mD:Stmt:=top 100
theorem V4:SJ ["_law_number"] ["_law_number"] (aK mD):=.TN
noncomputable abbrev o4:Stmt:=top 101
theorem WW:SJ ["_law_name","_law_number","_law_on","_law_pile","_law_ways"] ["_law_name","_law_number","_law_on","_law_pile","_law_ways"] (aK o4):=.TN
noncomputable abbrev o2:Stmt:=top 102
theorem WX:SJ ["_law_name","_law_number","_law_pile","_law_args_here","_law_base","_law_other","_law_one"] ["_law_name","_law_number","_law_pile","_law_args_here","_law_base"] (aK o2):=.TN
noncomputable abbrev lP:Stmt:=top 104
theorem WY:SJ ["_law_code","_law_args_here","_law_base","_law_most","_law_at","_law_ways","_law_pile","_law_did","_law_k","_law_name","_law_many","_law_cells","_law_number","_law_on","_law_now"] ["_law_code","_law_args_here","_law_base","_law_most","_law_at","_law_ways"] (aK lP):=.TN
noncomputable abbrev rD:Stmt:=top 103
theorem Xm:SJ ["_law_code","_law_args_here","_law_base","_law_most"] ["_law_code","_law_args_here","_law_base","_law_most"] (aK rD):=.TN
noncomputable abbrev mE:Stmt:=top 105
theorem V5:SJ ["_law_hole","_law_other","_law_gap","_law_made"] [] (aK mE):=.TN
noncomputable abbrev mW:Stmt:=top 106
theorem Xn:SJ ["_law_script","_law_town","_law_more"] ["_law_script","_law_town"] (aK mW):=.TN
noncomputable abbrev rC:Stmt:=top 107
theorem Xo:SJ ["_law_pattern","_law_tree_here","_law_found"] ["_law_pattern","_law_tree_here","_law_found"] (aK rC):=.TN
noncomputable abbrev o5:Stmt:=top 108
theorem WZ:SJ ["_law_cells"] ["_law_cells"] (aK o5):=.TN
noncomputable abbrev jt:Stmt:=top 109
theorem Wj:SJ ["_law_tree_here","_law_some","_law_three","_law_last","_law_lengths","_law_piece","_law_found","_law_holes"] ["_law_tree_here","_law_some"] (aK jt):=.TN
noncomputable abbrev Gs:Stmt:=top 113
theorem ZC:SJ ["_law_script","_law_town","_law_tree_here","_law_some","_law_code","_law_k","_law_base","_law_args_here","_law_due"] ["_law_script"] (aK Gs):=.TN
structure Df (K:W.Frag) (mg:Str->Option Value) (n:Str) (st:Stmt) (ps:List Str) where
 a:Addr
 d:FuncData
 f:YZ K n n st a d
 m:mg n=some (.ref a)
 b:Binds K d ps []
abbrev Ok (P:Program) (w:World) (base:Heap) (k:Nat) {K:W.Frag} {mg:Str->Option Value} {n:Str} {st:Stmt} {ps:List Str} (D:Df K mg n st ps) (sp:Sp):Prop:=Tc P w K mg base WG k D.a D.d ps sp
theorem pc {X:Cx} {k:Nat} {n:Str} {st:Stmt} {ps:List Str} {sp:Sp} {e:Expr} {es:List Expr} {t:TA} {p pos:Pos} {D:Df X.K X.mg n st ps} (F:Tc X.prog X.w X.K X.mg X.base WG k D.a D.d ps sp) (hr:Tw k X.A) (ha:PA X (e::es) t) (hg:Gl X n:=by rfl) (hdb:(n == ("__debug__":Str))=false:=by decide) (he:starEach (e::es) X.env=(false,eval e X.env)::starEach es X.env:=by rfl) (hpl:(backTo pos (starEach es X.env)).any (·.1)=false:=by rfl):PE X (.Call (.Name n p) (e::es) [] pos) (kr sp [] E0 t):=Au F hr hg D.m D.f.kp D.b .nil gN ha hdb he hpl
set_option genInjectivity false in
set_option genSizeOfSpec false in
structure Dfs (K:W.Frag) (mg:Str->Option Value) where
 JV:Df K mg "is_whole" rH ["thing","low","high"]
 KF:Df K mg "is_tagged" o8 ["thing"]
 L8:Df K mg "is_node" tT ["thing"]
 J3:Df K mg "trees_within" lU ["tree"]
 MZ:Df K mg "is_tree" oH ["thing"]
 Mw:Df K mg "need_tree" ph ["tree"]
 Mj:Df K mg "walked" xY ["tree"]
 MY:Df K mg "is_name" oG ["thing"]
 JW:Df K mg "instruction_at" kq ["cells","place"]
 MX:Df K mg "is_mark" tS ["thing"]
 J6:Df K mg "is_pattern_part" iE ["thing","deep"]
 KH:Df K mg "marks_in" rJ ["pattern","kind"]
 LH:Df K mg "is_numbered" j8 ["pattern","kind"]
 L4:Df K mg "is_pattern" kK ["thing"]
 L3:Df K mg "is_filling" nK ["thing","pattern"]
 MW:Df K mg "is_cell" tR ["thing","pattern"]
 KG:Df K mg "are_instructions" hV ["cells","pattern"]
 MI:Df K mg "is_piece" rG ["thing"]
 Ni:Df K mg "is_set" nL ["thing"]
 MJ:Df K mg "need_set" rK ["some"]
 La:Df K mg "may_stand_for" kQ ["mark","tree"]
 Ll:Df K mg "matches" tU ["pattern","tree","found"]
 LB:Df K mg "found_in" rF ["piece","tree"]
 LG:Df K mg "filled_cell" mG ["cell","nums","ks"]
 LZ:Df K mg "jump_over" o9 ["many","kinds"]
 Ko:Df K mg "jumps_of_pick" kP ["second","third"]
 M4:Df K mg "ways_of" tW ["tree","some"]
 Mu:Df K mg "length_by" pd ["name","cells","lengths"]
 Lv:Df K mg "best_by_ways" fS ["tree","some","done","bests"]
 K9:Df K mg "best_covering" kO ["tree","some"]
 Mt:Df K mg "laid_pick" lR ["tree","some","cover","places"]
 L5:Df K mg "laid_piece" ju ["tree","some","cover","places"]
 Kf:Df K mg "laid_cells" nM ["tree","some","cover","places"]
 MV:Df K mg "code_of" tQ ["tree","some"]
 OA:Df K mg "lay" Gu ["tree","some"]
 Mv:Df K mg "need_args" lS ["args","size"]
 Lb:Df K mg "worth_of_both" kR ["kind","first","second","size"]
 L7:Df K mg "is_code" oF ["thing"]
 Lm:Df K mg "need_code" pf ["code"]
 LI:Df K mg "number_told" mH ["behind"]
 M0:Df K mg "started" tV ["code","args","size","steps"]
 Nj:Df K mg "listed" xX ["code"]
 J8:Df K mg "_law_draw" o3 ["_law_script","_law_town","_law_many"]
 Kr:Df K mg "_law_pick" o6 ["_law_script","_law_town","_law_some"]
 KY:Df K mg "_law_tree" lQ ["_law_script","_law_town","_law_room"]
 Mo:Df K mg "_law_args" lO ["_law_script","_law_town","_law_base"]
 Ms:Df K mg "_law_size" o7 ["_law_script","_law_town"]
 LA:Df K mg "_law_two" rE ["_law_name","_law_one","_law_other","_law_base"]
 Ka:Df K mg "_law_worth" nJ ["_law_tree_here","_law_args_here","_law_base"]
 K4:Df K mg "_law_names" nI []
 LF:Df K mg "_law_behind" mD ["_law_number"]
 Mr:Df K mg "_law_goes" o4 ["_law_name","_law_number","_law_on","_law_pile","_law_ways"]
 Mp:Df K mg "_law_does" o2 ["_law_name","_law_number","_law_pile","_law_args_here","_law_base"]
 Mq:Df K mg "_law_from" lP ["_law_code","_law_args_here","_law_base","_law_most","_law_at","_law_ways"]
 MG:Df K mg "_law_run" rD ["_law_code","_law_args_here","_law_base","_law_most"]
 KJ:Df K mg "_law_pieces" mE []
 MH:Df K mg "_law_set" mW ["_law_script","_law_town"]
 KW:Df K mg "_law_fit" rC ["_law_pattern","_law_tree_here","_law_found"]
 LY:Df K mg "_law_over" o5 ["_law_cells"]
 Kq:Df K mg "_law_least" jt ["_law_tree_here","_law_some"]
 Om:Df K mg "law" Gs ["_law_script"]
set_option genInjectivity false in
set_option genSizeOfSpec false in
structure Txt (P:Program) (w:World) (K:W.Frag) (mg:Str->Option Value) extends Dfs K mg where
 LL:Addr
 LM:FuncData
 MP:Addr
 Mn:Tok
 LN:FunD K "need_size" "need_size" fV LL LM MP [.int 10000 Mn]
 Nu:mg "need_size"=some (.ref LL)
 Oi:Addr
 NU:FuncData
 OL:YZ K "run" "run" mI Oi NU
 O2:mg "run"=some (.ref Oi)
 OR:Tok
 w_run:∀ (z:Setting) (x_code XN XO:Value),W.peek K z (bindArgs NU ⟨[x_code,XN],[("size",XO)]⟩)=some ([("code",x_code),("args",XN),("size",XO),("steps",.int 1000 OR)]:List (Str × Value))
 JU:Addr
 L6:mg "Machine"=some (.ref JU)
 SI:X3 K JU
 Kj:Addr
 Kk:FuncData
 Lc:YZ K "__init__" "Machine.__init__" cH Kj Kk
 XQ:Mk K JU Kj
 Kx:Addr
 KB:FuncData
 Mf:YZ K "take" "Machine.take" dJ Kx KB
 Tj:uh K JU "take" Kx
 KO:Addr
 KR:FuncData
 Md:YZ K "push" "Machine.push" dH KO KR
 SR:uh K JU "push" KO
 K6:Addr
 K7:FuncData
 Mz:YZ K "way" "Machine.way" dZ K6 K7
 V6:uh K JU "way" K6
 Kw:Addr
 KA:FuncData
 Lx:YZ K "finish" "Machine.finish" cV Kw KA
 Vb:uh K JU "finish" Kw
 Kv:Addr
 Kz:FuncData
 Lw:YZ K "change" "Machine.change" cU Kv Kz
 Vc:uh K JU "change" Kv
 KP:Addr
 KS:FuncData
 Me:YZ K "step" "Machine.step" dI KP KS
 VO:uh K JU "step" KP
 UQ:S2 K JU "cells"
 UR:S2 K JU "given"
 Vd:S2 K JU "size"
 TQ:S2 K JU "pile"
 Tz:S2 K JU "place"
 T9:S2 K JU "kept"
 Up:S2 K JU "ended"
 Ls:Tok
 K2:mg "MOST_PARTS"=some (.int 40 Ls)
 LS:Tok
 Lf:mg "MOST_DEEP"=some (.int 8 LS)
 KU:Tok
 KC:mg "LONGEST_NAME"=some (.int 8 KU)
 LR:Tok
 KD:mg "MOST_CELL"=some (.int 99 LR)
 Ke:Tok
 J7:mg "MOST_PATTERN_DEEP"=some (.int 3 Ke)
 Mi:Tok
 Ly:mg "MOST_GAP"=some (.int 9999 Mi)
 Kn:Tok
 J9:mg "MOST_PIECE_CELLS"=some (.int 12 Kn)
 K8:Tok
 KI:mg "MOST_PIECES"=some (.int 16 K8)
 LV:Tok
 Lh:mg "MOST_NEAR"=some (.int 9 LV)
 Lq:Tok
 K0:mg "CALL_CELLS"=some (.int 3 Lq)
 Ol:Tok
 NV:mg "END"=some (.int 0 Ol)
 NK:Tok
 Np:mg "CALL"=some (.int 15 NK)
 Lr:Tok
 K1:mg "MOST_CELLS"=some (.int 1000 Lr)
 LQ:Tok
 Le:mg "MANY_ARGS"=some (.int 4 LQ)
 LX:Tok
 LO:mg "MOST_SIZE"=some (.int 10000 LX)
 Lu:Tok
 K3:mg "MOST_STEPS"=some (.int 100000 Lu)
 LW:Tok
 Li:mg "MOST_PILE"=some (.int 64 LW)
 LU:Tok
 Lg:mg "MOST_KEPT"=some (.int 16 LU)
 KN:Addr
 Kl:mg "MOST_IN_LEAF"=some (.ref KN)
 Km:kW K KN TL
 Kd:Addr
 J1:mg "TREES_IN_BRANCH"=some (.ref Kd)
 J2:kW K Kd TB
 Ki:Addr
 Kc:mg "MARK_LENGTHS"=some (.ref Ki)
 JZ:kW K Ki TM
 K5:Addr
 Ks:mg "FILLED_FROM"=some (.ref K5)
 Kt:kW K K5 TF
 Mm:Addr
 Lj:mg "MOST_TOLD"=some (.ref Mm)
 Lk:kW K Mm Y6
 Kh:Addr
 J5:mg "INSTRUCTIONS"=some (.ref Kh)
 KQ:hX K (.tup INS) (.ref Kh)=true
 ME:Addr
 Lz:mg "STRAIGHT"=some (.ref ME)
 NH:hX K (.tup STR) (.ref ME)=true
 NB:Addr
 MT:mg "AHEAD"=some (.ref NB)
 Ox:hX K (.tup AHE) (.ref NB)=true
 Nh:Addr
 MB:mg "BEHIND"=some (.ref Nh)
 Oj:hX K (.tup BEH) (.ref Nh)=true
 N0:Addr
 Nq:mg "WAYS"=some (.ref N0)
 OK:hX K (.tup WAY) (.ref N0)=true
 NC:Addr
 MU:mg "BASIC"=some (.ref NC)
 Oy:qL K BAS NC=true
 MO:BZ P w K Ki ["hole","gap","slot"]
 JY:mg "len"=none
 J4:mg "isinstance"=none
 OO:mg "int"=none
 OM:mg "bool"=none
 OP:mg "str"=none
 KL:mg "tuple"=none
 NJ:mg "list"=none
 MF:mg "range"=none
 Nv:mg "all"=none
 O3:mg "any"=none
 O5:mg "set"=none
 Oz:mg "sum"=none
 Nd:mg "reversed"=none
 OQ:mg "zip"=none
 Nw:mg "enumerate"=none
 O4:mg "min"=none
section
variable {P:Program} {w:World} {K:W.Frag} {mg:Str->Option Value} {base:Heap} {k:Nat}
theorem Hy {α:Type} {us:List α} (h:us.length=1):∃ a0,us=[a0]:=match us,h with | [a0],_=>⟨a0,rfl⟩
theorem JL {α:Type} {us:List α} (h:us.length=2):∃ a0 a1,us=[a0,a1]:=match us,h with | [a0,a1],_=>⟨a0,a1,rfl⟩
theorem JM {α:Type} {us:List α} (h:us.length=3):∃ a0 a1 a2,us=[a0,a1,a2]:=match us,h with | [a0,a1,a2],_=>⟨a0,a1,a2,rfl⟩
theorem JN {α:Type} {us:List α} (h:us.length=4):∃ a0 a1 a2 a3,us=[a0,a1,a2,a3]:=match us,h with | [a0,a1,a2,a3],_=>⟨a0,a1,a2,a3,rfl⟩
theorem JO {α:Type} {us:List α} (h:us.length=5):∃ a0 a1 a2 a3 a4,us=[a0,a1,a2,a3,a4]:=match us,h with | [a0,a1,a2,a3,a4],_=>⟨a0,a1,a2,a3,a4,rfl⟩
theorem wH (T:Txt P w K mg):Binds K T.LM ["size","most"] [.int 10000 T.Mn]:=by
 obtain ⟨oc,od,kV,doc,pm,an,cdv,ct,osl,e,lk,hcd⟩:=T.LN.ex;obtain ⟨o,n,l,h⟩:=T.LN.df;intro s us hK hl;have hl':us.length=1:=by simpa using hl
 match us,hl' with
 | [u0],_=>rw [e];exact .of_defaults (T:=T.MP) rfl (hK _ _ l) h rfl rfl
theorem yc (T:Txt P w K mg):Vals [V.int 10000] [Value.int 10000 T.Mn]:=.cons ⟨_,rfl⟩ .nil
theorem mL (T:Txt P w K mg):Binds K T.Kk ["self","cells","given","size","pile"] []:=T.Lc.binds λ_ _ _ _ _ _ us hl=>by obtain ⟨_,_,_,_,_,rfl⟩:=JO hl;rfl
theorem h9 (T:Txt P w K mg):Binds K T.KB ["self"] []:=T.Mf.binds λ_ _ _ _ _ _ us hl=>by obtain ⟨_,rfl⟩:=Hy hl;rfl
theorem d4 (T:Txt P w K mg):Binds K T.KR ["self","number"] []:=T.Md.binds λ_ _ _ _ _ _ us hl=>by obtain ⟨_,_,rfl⟩:=JL hl;rfl
theorem r8 (T:Txt P w K mg):Binds K T.K7 ["self","name","number","onward"] []:=T.Mz.binds λ_ _ _ _ _ _ us hl=>by obtain ⟨_,_,_,_,rfl⟩:=JN hl;rfl
theorem nU (T:Txt P w K mg):Binds K T.KA ["self"] []:=T.Lx.binds λ_ _ _ _ _ _ us hl=>by obtain ⟨_,rfl⟩:=Hy hl;rfl
theorem nT (T:Txt P w K mg):Binds K T.Kz ["self","name","number"] []:=T.Lw.binds λ_ _ _ _ _ _ us hl=>by obtain ⟨_,_,_,rfl⟩:=JM hl;rfl
theorem qa (T:Txt P w K mg):Binds K T.KS ["self"] []:=T.Me.binds λ_ _ _ _ _ _ us hl=>by obtain ⟨_,rfl⟩:=Hy hl;rfl
noncomputable def yA {α:Type} (z:α):List α->List α->List α
 | [x0,x1],[y0]=>[x0,x1,y0,z]
 | _,_=>[]
noncomputable abbrev CF:List V->List V->List V:=yA (.int 1000)
theorem IG (T:Txt P w K mg):yi K T.NU ["code","args","size","steps"] ["size"] (yA (.int 1000 T.OR)) CF:=by
 refine ⟨λs us ws hK hl=>?_,λ{vs us zs ws} h1 h2=>?_⟩
 ·unfold yA at hl ⊢;split at hl
  ·exact λM A E Q hq=>(W.Looks.of_peek hK (T.w_run _ _ _ _)).here hq
  ·cases hl
 ·unfold CF
  cases h1 with
  | nil=>exact .nil
  | cons r1 t1 =>
   cases t1 with
   | nil=>exact .nil
   | cons r2 t2 =>
    cases t2 with
    | cons _ _=>exact .nil
    | nil =>
     cases h2 with
     | nil=>exact .nil
     | cons p1 z1 =>
      cases z1 with
      | cons _ _=>exact .nil
      | nil=>exact (.cons r1 (.cons r2 (.cons p1 (.cons ⟨_,rfl⟩ .nil))))
noncomputable def dM (d:D) (lo hi:Int):Bool:=match d with
 | .int i=>decide (lo<=i) && decide (i<=hi)
 | _=>false
def fW (ds:List D) (d:D):Prop:=∃ x lo hi,ds=[x,.int lo,.int hi]/\d=.bl (dM x lo hi)
noncomputable def f9:D->Bool
 | .tup (.str _::_)=>true
 | _=>false
def pJ (ds:List D) (d:D):Prop:=∃ x,ds=[x]/\d=.bl (f9 x)
noncomputable def mX (k:Str) (T:List (Str × KTD.Dat)):Int:=match KTD.datumAt k T with
 | some (.flat (.int i))=>i
 | _=>0
noncomputable def fM:D->Bool
 | .tup (.str k::r)=>if KTD.inKeys k TL=true then decide ((r.length:Int)+1=2) && dM (r.getD 0 .SM) 0 (mX k TL) else KTD.inKeys k TB && decide ((r.length:Int)+1=1+mX k TB)
 | _=>false
def B7 (ds:List D) (d:D):Prop:=∃ x,ds=[x]/\d=.bl (fM x)
noncomputable def dQ:D->List D
 | .tup (.str k::r)=>if KTD.inKeys k TB=true then r else []
 | _=>[]
def jl (ds:List D) (d:D):Prop:=∃ k r,ds=[.tup (.str k::r)]/\d=.tup (dQ (.tup (.str k::r)))
theorem Jx {T:List (Str × KTD.Dat)} {k:Str} (hT:∀ p ∈ T,∃ i,p.2=.flat (.int i)) (h:KTD.inKeys k T=true):KTD.datumAt k T=some (.flat (.int (mX k T))):=by
 unfold mX
 cases e:KTD.datumAt k T with
 | none=>exact absurd e (KTD.at_of_mem h)
 | some d =>
  have all:∀ (T:List (Str × KTD.Dat)),(∀ p ∈ T,∃ i,p.2=.flat (.int i))->KTD.datumAt k T=some d->∃ i,d=.flat (.int i):=by
   intro T
   induction T with
   | nil=>intro _ e;simp [KTD.datumAt] at e
   | cons p r ih =>
    intro hp e;obtain ⟨x,y⟩:=p;have e':(if decide (k=x)=true then some y else KTD.datumAt k r)=some d:=e;by_cases hx:k=x
    ·rw [Ph (Pw hx)] at e';cases e';exact hp _ P0
    ·rw [M1 (by simp [hx])] at e';exact ih (λp hp'=>hp p (PR _ hp')) e'
  obtain ⟨i,rfl⟩:=all T hT e;rfl
theorem GS:∀ p ∈ TL,∃ i,p.2=.flat (.int i):=by intro p hp;simp only [TL,Py,P8,Qx] at hp;rcases hp with rfl | rfl <;> exact ⟨_,rfl⟩
theorem GQ:∀ p ∈ TB,∃ i,p.2=.flat (.int i):=by intro p hp;simp only [TB,Py,P8,Qx] at hp;rcases hp with rfl | rfl | rfl | rfl | rfl <;> exact ⟨_,rfl⟩
theorem xD (T:Txt P w K mg)  : Ok P w base (k+1) T.JV (Th K fW):=by
 refine T.JV.f.ok Xg (λvs H Q E h=>?_) (λcdv A outer s H vs Q E hr h=>?_)
 ·obtain ⟨ds,d,hd,⟨x,lo,hi,rfl,rfl⟩,_⟩:=h;exact hd.length.symm
 have nd:=Xg.nd;obtain ⟨ds,d,hd,⟨x,lo,hi,rfl,rfl⟩,post⟩:=h;obtain ⟨v0,v1,v2,rfl,h0,h1,h2⟩:=sT hd;have g1:=h1.SN;have g2:=h2.SN;subst g1 g2;refine ⟨_,(aH (aP (jH (aX (gC CN) rfl T.J4 cY (dE (pv 0) (dE (iB (v:=.ty "int") rfl T.OO Cg rfl) aC))) (jH (HI (aX (gC E2) rfl T.J4 cY (dE (pv 0) (dE (iB (v:=.ty "bool") rfl T.OM EG rfl) aC)))) (jI (xI jV jV (pv 1) (pv 0) (pv 2))))))),?_⟩;refine bJ (K:=K) (d:=.bl (dM x lo hi)) ?_ post
 cases x with
 | int i=>exact RE.as (eT (dC (aA h0)) λ_=>eT (DR (dC (aA h0))) λ_=>lK (aA h1) (aA h0) λ_=>aA h2) rfl
 | bl y=>exact RE.as (eT (c:=false) (dC (aA h0)) λ_=>RE.as (eT (c:=true) (DR (dC (aA h0))) λz=>nomatch z) rfl) rfl
 | SM=>exact RE.as (eT (c:=true) (dC (aA h0)) λz=>nomatch z) rfl
 | str y=>exact RE.as (eT (c:=true) (dC (aA h0)) λz=>nomatch z) rfl
 | tup y=>exact RE.as (eT (c:=true) (dC (aA h0)) λz=>nomatch z) rfl
 | lst=>exact RE.as (eT (c:=true) (dC (aA h0)) λz=>nomatch z) rfl
theorem vi (T:Txt P w K mg)  : Ok P w base (k+1) T.KF (Th K pJ):=by
 refine T.KF.f.ok WH (λvs H Q E h=>?_) (λcdv A outer s H vs Q E hr h=>?_)
 ·obtain ⟨ds,d,hd,⟨x,rfl,rfl⟩,_⟩:=h;exact hd.length.symm
 have nd:=WH.nd;obtain ⟨ds,d,hd,⟨x,rfl,rfl⟩,post⟩:=h;obtain ⟨v0,rfl,h0⟩:=ji hd;refine ⟨_,(aH (aP (jH (aX (gC ng) rfl T.J4 cY (dE (pv 0) (dE (iB (v:=.ty "tuple") rfl T.KL fP rfl) aC))) (jH (eU kl (aX aW rfl T.JY bU (aD (pv 0) aC)) aF (aT _)) (jI (aX (gC CO) rfl T.J4 cY (dE (aY aZ (pv 0) aF) (dE (iB (v:=.ty "str") rfl T.OP Cj rfl) aC)))))))),?_⟩;refine bJ (K:=K) (d:=.bl (f9 x)) ?_ post
 cases x with
 | tup ds =>
  cases ds with
  | nil=>exact RE.as (eT (c:=false) (dC (aA h0)) λ_=>RE.as (eT (c:=true) (cQ (fL (aA h0)) aG) λz=>nomatch z) rfl) rfl
  | cons y r =>have l:decide ((0:Int) < (((y::r).length:Nat):Int))=true:=Pw (by rw [Pp];omega);refine RE.as (eT (dC (aA h0)) λ_=>eT (RE.as (cQ (fL (aA h0)) aG) (PZ D.bl l)) λ_=>dC (a6 (k:=0) (aA h0) aG (show (y::r)[0]?=some y from rfl))) ?_;cases y <;> rfl
 | int i=>exact RE.as (eT (c:=true) (dC (aA h0)) λz=>nomatch z) rfl
 | bl y=>exact RE.as (eT (c:=true) (dC (aA h0)) λz=>nomatch z) rfl
 | SM=>exact RE.as (eT (c:=true) (dC (aA h0)) λz=>nomatch z) rfl
 | str y=>exact RE.as (eT (c:=true) (dC (aA h0)) λz=>nomatch z) rfl
 | lst=>exact RE.as (eT (c:=true) (dC (aA h0)) λz=>nomatch z) rfl
theorem yR (T:Txt P w K mg) (LJ:Ok P w base k T.KF (Th K pJ)) (JX:Ok P w base k T.JV (Th K fW)):Ok P w base (k+1) T.L8 (Th K B7):=by
 refine T.L8.f.ok XA (λvs H Q E h=>?_) (λcdv A outer s H vs Q E hr h=>?_)
 ·obtain ⟨ds,d,hd,⟨x,rfl,rfl⟩,_⟩:=h;exact hd.length.symm
 have nd:=XA.nd;obtain ⟨ds,d,hd,⟨x,rfl,rfl⟩,post⟩:=h;obtain ⟨v0,rfl,h0⟩:=ji hd;refine ⟨_,(aE (bE (cW (bR (pc (D:=T.KF) LJ hr (aD (pv 0) aC)) (λ_=>rfl))) (aH (aP d8)) aQ)
 (aE (bQ (i:=1) nd rfl (Or.inl rfl) (aY aZ (pv 0) aF))
 (aE (bE (aN nC (pv 1) (bT (v:=.ref T.KN) rfl T.Kl rfl) (by with_unfolding_all rfl)) (aH (aP (jH (eU bV (aX aW rfl T.JY bU (aD (pv 0) aC)) aF (aT _)) (jI (pc (D:=T.JV) JX hr (aD (aY aZ (pv 0) aF) (aD aF (aD (aY CS (bT (v:=.ref T.KN) rfl T.Kl rfl) (pv 1)) aC)))))))) aQ)
 (aH (aP (jH (eU nC (pv 1) (bT (v:=.ref T.Kd) rfl T.J1 rfl) (by with_unfolding_all rfl)) (jI (eU bV (aX aW rfl T.JY bU (aD (pv 0) aC)) (bL cJ aF (aY CS (bT (v:=.ref T.Kd) rfl T.J1 rfl) (pv 1))) (aT _))))))))),?_⟩
 refine aR (K:=K) (b:=!f9 x) (bZ (bO (bM (aB (aA h0) aM) ⟨x,rfl,rfl⟩))) (λc H1 s1=>?_) (λc H1 s1=>?_)
 ·refine bJ (K:=K) (d:=.bl (fM x)) ?_ λv H' s q=>post v H' (s1.trans s) q
  have e:fM x=false:=by
   unfold fM;split
   ·unfold f9 at c;simp at c
   ·rfl
  rw [e];exact f7
 ·have h0':=s1.dat h0;have c':f9 x=true:=by simpa using c
  unfold f9 at c';split at c'
  ·rename_i kd r;refine eJ (K:=K) (d:=.str kd) (a6 (k:=0) (aA h0') aG rfl) λv1 H2 s2 q2=>?_;have h2:=s2.dat h0';have ev:=q2.S3;subst ev;refine aR (K:=K) (b:=KTD.inKeys kd TL) (aJ (i9 (aA q2) T.Km)) (λcL H3 s3=>?_) (λcL H3 s3=>?_)
   ·have h3:=s3.dat h2
    have e:fM (.tup (.str kd::r))=(decide ((r.length:Int)+1=2) && dM (r.getD 0 .SM) 0 (mX kd TL)):=by show (if KTD.inKeys kd TL=true then _ else _)=_;rw [Ph cL]
    refine bJ (K:=K) (d:=.bl (fM (.tup (.str kd::r)))) ?_ λv H' s q=>post v H' (s1.trans (s2.trans (s3.trans s))) q;rw [e];have el:((((D.str kd)::r).length:Nat):Int)=(r.length:Int)+1:=by rw [Pp];omega
    have b1:=mV (K:=K) (fL (aA (σ:=(start ["thing","kind"] [v0]).set 1 (some (.str kd))) (k:=0) h3)) (aG (i:=2));rw [el] at b1;refine eT b1 λhl=>?_;have hl':(r.length:Int)+1=2:=Po hl
    obtain ⟨y,er⟩:∃ y,r=[y]:=by
     match r,hl' with
     | [],h=>simp at h
     | [y],_=>exact ⟨y,rfl⟩
     | _::_::_,h=>simp at h;omega
    subst er;refine bM (E:=E0) (R:=fW) (aB (a6 (k:=1) (aA h3) aG rfl) (aB aG (aB (xS (aA (s3.dat q2)) T.Km (by rfl) (Jx GS cL)) aM))) ⟨y,0,mX kd TL,rfl,rfl⟩
   ·have h3:=s3.dat h2
    have e:fM (.tup (.str kd::r))=(KTD.inKeys kd TB && decide ((r.length:Int)+1=1+mX kd TB)):=by show (if KTD.inKeys kd TL=true then _ else _)=_;rw [M1 (by rw [cL];exact Pk)]
    refine bJ (K:=K) (d:=.bl (fM (.tup (.str kd::r)))) ?_ λv H' s q=>post v H' (s1.trans (s2.trans (s3.trans s))) q;rw [e];have el:((((D.str kd)::r).length:Nat):Int)=(r.length:Int)+1:=by rw [Pp];omega
    refine eT (i9 (aA (s3.dat q2)) T.J2) λcB=>?_;have b1:=mV (K:=K) (fL (aA (σ:=(start ["thing","kind"] [v0]).set 1 (some (.str kd))) (k:=0) h3)) (c8 (aG (i:=1)) (xS (aA (σ:=(start ["thing","kind"] [v0]).set 1 (some (.str kd))) (k:=1) (s3.dat q2)) T.J2 (by rfl) (Jx GQ cB)));rw [el] at b1;exact b1
  ·cases c'
theorem pG (T:Txt P w K mg)  : Ok P w base (k+1) T.J3 (Th K jl):=by
 refine T.J3.f.ok VI (λvs H Q E h=>?_) (λcdv A outer s H vs Q E hr h=>?_)
 ·obtain ⟨ds,d,hd,⟨kd,r,rfl,rfl⟩,_⟩:=h;exact hd.length.symm
 have nd:=VI.nd;obtain ⟨ds,d,hd,⟨kd,r,rfl,rfl⟩,post⟩:=h;obtain ⟨v0,rfl,h0⟩:=ji hd;refine ⟨_,(aE (bE (aN nC (aY aZ (pv 0) aF) (bT (v:=.ref T.Kd) rfl T.J1 rfl) (by with_unfolding_all rfl)) (aH (aP (jJ rL (pv 0) (iY aF) pO))) aQ)
 (aH (aP (bA aC)))),?_⟩
 refine aR (K:=K) (b:=KTD.inKeys kd TB) (aJ (i9 (a6 (k:=0) (aA h0) aG rfl) T.J2)) (λc H1 s1=>?_) (λc H1 s1=>?_)
 ·refine bJ (K:=K) (d:=.tup r) (mh (aA (s1.dat h0))) λv H' s q=>post v H' (s1.trans s) ?_;show Dat K H' (.tup (if KTD.inKeys kd TB=true then r else [])) v;rw [Ph c];exact q
 ·refine bJ (K:=K) (σ:=start ["tree"] [v0]) (d:=.tup []) (bF aM) λv H' s q=>post v H' (s1.trans s) ?_;show Dat K H' (.tup (if KTD.inKeys kd TB=true then r else [])) v;rw [M1 (by rw [c];exact Pk)];exact q
theorem Dw {ns:List Int} {k:Int} (h0:0<=k) (h1:k < (ns.length:Int)):∃ z,YX (ns.map V.int) k=some (.int z):=by
 have hk:k.toNat < ns.length:=by omega
 refine ⟨ns[k.toNat],?_⟩;have e:k=((k.toNat:Nat):Int):=by omega
 have q:YX (ns.map V.int) ((k.toNat:Nat):Int)=some (.int ns[k.toNat]):=jT (by rw [Pr,Pe hk] <;> rfl);rw [<- e] at q;exact q
theorem uW (T:Txt P w K mg)  : Ok P w base (k+1) T.J8 (rN K):=by
 refine T.J8.f.ok WQ (λvs H Q E h=>?_) (λcdv A outer s H vs Q E hr h=>?_)
 ·obtain ⟨a,t,ns,m,p,q,rest,rfl,_⟩:=h;rfl
 have nd:=WQ.nd;obtain ⟨a,t,ns,m,p,q,rest,rfl,hS,hT,hp,hm,hm2,post⟩:=h;refine ⟨_,(aE (bE (aN kl (aY bX (pv 1) aF) aF (aT _)) (aE (bQ (i:=3) nd rfl (Or.inl rfl) (bL eZ (aY bX (pv 1) aF) (pv 2)))
 (aE (gH (bL nB (aY bX (pv 1) aF) (pv 2)) (vF (pv 1) aF nN))
 (aH (aP (pv 3))))) aQ)
 (aE (bQ (i:=4) nd rfl (Or.inl rfl) (aY bX (pv 1) aF))
 (aE (Ax (pv 1) aF xg aF uN nN)
 (aE (bE (aN (vA hr) (pv 0) (bY aC) (aT _)) (aH (aP (bL eZ (pv 4) (pv 2)))) aQ)
 (aE (bE (PW.pt (rj (aN km (pv 4) (aX aW rfl T.JY bU (aD (pv 0) aC)) (aT _)) (nF (aN tH (aY bX (pv 0) (pv 4)) (bL vC aF aF) (aT _))))) (aE (gH (bL eZ (bL nB (aY bX (pv 0) (pv 4)) (pv 2)) (bL Fl (bL vC aF aF) (bL vC aF aF))) (vF (pv 1) aF nN))
 (aH (aP (bL eZ (aY bX (pv 0) (pv 4)) (pv 2))))) aQ)
 (aE (bQ (i:=5) nd rfl (Or.inl rfl) (bL eZ (bL cJ (bL cJ (bL ow (aY bX (pv 0) (bL eZ (pv 4) (aX aW rfl T.JY bU (aD (pv 0) aC)))) aF) (bL ow aF (pv 4))) aF) aF))
 (aH (aP (bL eZ (bL eZ (bL eZ (bL vC (pv 5) aF) aF) aF) (pv 2)))))))))),?_⟩
 refine ⟨_,rfl,t,_,1,_,rfl,rfl,SO.of hT,at1,q,0,rfl,rfl,_,rfl,?_⟩;refine sj (λc=>?_) (λc=>?_)
 ·refine ⟨_,rfl,t,_,1,_,rfl,rfl,SO.of hT,at1,_,rfl,q,m,rfl,rfl,hm,?_⟩;refine ⟨_,rfl,t,_,1,_,rfl,rfl,SO.of hT,at1,_,rfl,q,m,rfl,rfl,⟨hm,by omega⟩,?_⟩;refine ⟨_,rfl,t,_,1,1,rfl,rfl,hT,ix1,?_⟩;refine ⟨_,rfl,?_⟩;exact post (q % m) _ p (q / m) (S4.upd (SH.refl H).but) aI hp (Qn _ (by omega)) (Qh _ hm)
 refine ⟨_,rfl,t,_,0,_,rfl,rfl,SO.of hT,at0,?_⟩;refine ⟨_,rfl,t,_,0,_,rfl,rfl,RN 0,SO.of hT,rfl,p,1,rfl,rfl,t,_,0,0,rfl,rfl,hT,ix0,?_⟩;refine ⟨_,rfl,(by show 0<=sizeLine;decide),λl hl=>?_⟩;have bt1:S4 t H (upd H t (.lst ((V.int p::.int q::rest).set 0 (.int (p+1))))):=S4.upd (SH.refl H).but;have hlt:l≠t:=λz=>by rw [z,aI] at hl;cases hl
 have bt3:=bt1.trans (aV hl (.lst [])).but
 have ht3:upd (upd H t (.lst ((V.int p::.int q::rest).set 0 (.int (p+1))))) l (.lst []) t=some (.lst (.int (p+1)::.int q::rest)):=by rw [aS (PL hlt)];exact aI
 have ZO:=(hS.but bt3 hT).WA;have hlen:((ns.map V.int).length:Int)=(ns.length:Int):=by rw [Pd]
 refine ⟨a,l,_,[],ns.map D.int,[],rfl,rfl,ZO,SO.of aI,dN ns,SG.nil,jy ns,(by unfold Ti;rfl),(by rw [i6];decide),_,rfl,?_⟩;show (if Td (ns.map D.int) []=true then _ else _);rw [qt];refine sj (λc0=>?_) (λc0=>?_)
 ·refine ⟨_,rfl,_,rfl,p,m,rfl,rfl,hm,?_⟩;exact post _ _ (p+1) q bt3 ht3 (by omega) (Qn _ (by omega)) (Qh _ hm)
 have X4:(0:Int) < ((ns.map V.int).length:Int):=by
  rw [hlen]
  cases ns with
  | nil=>exact absurd rfl c0
  | cons n ns=>rw [Pp];omega
 refine ⟨_,rfl,_,rfl,a,_,rfl,.inl ZO,p,_,rfl,rfl,_,rfl,?_⟩;refine sj (λc1=>?_) (λc1=>?_)
 ·have c1':p < ((ns.map V.int).length:Int):=Po c1;obtain ⟨z,hz⟩:=Dw (ns:=ns) hp (by rw [<- hlen];exact c1');refine ⟨_,rfl,_,rfl,a,_,p,_,rfl,rfl,ZO,hz,10,18,rfl,rfl,⟨by decide,by decide,by decide⟩,z,_,rfl,rfl,_,rfl,?_⟩;refine sj (λc2=>?_) (λc2=>?_)
  ·refine ⟨_,rfl,_,rfl,a,_,p,_,rfl,rfl,ZO,hz,_,rfl,z,m,rfl,rfl,⟨hm,by omega⟩,10,60,rfl,rfl,⟨by decide,by decide,by decide⟩,10,60,rfl,rfl,⟨by decide,by decide,by decide⟩,_,_,rfl,rfl,IntMulOk.of_bits (by decide +kernel) (by decide +kernel),_,_,rfl,rfl,(by show (0:Int) < 10 ^ (60:Int).toNat * 10 ^ (60:Int).toNat;decide +kernel),?_⟩;refine ⟨_,rfl,t,_,1,1,rfl,rfl,ht3,ix1,?_⟩;refine ⟨_,rfl,_,rfl,a,_,p,_,rfl,rfl,(hS.but bt3.upd hT).WA,hz,_,rfl,z,m,rfl,rfl,hm,?_⟩;exact post _ _ (p+1) _ bt3.upd aI (by omega) (Qn _ (by omega)) (Qh _ hm)
  ·refine ⟨_,rfl,_,rfl,_,rfl,a,_,rfl,.inl ZO,p,_,rfl,rfl,X4,?_⟩;obtain ⟨z2,hz2⟩:=Dw (ns:=ns) (Qn p (by omega:((ns.map V.int).length:Int)≠0)) (by rw [<- hlen];exact Qh p X4);refine ⟨a,_,_,_,rfl,rfl,ZO,hz2,z2,1103515245,rfl,rfl,.inr ⟨by decide,by decide⟩,_,rfl,7919,p,rfl,rfl,.inl ⟨by decide,by decide⟩,_,_,rfl,rfl,_,_,rfl,rfl,_,_,rfl,rfl,(by show (0:Int) < 2147483647;decide),?_⟩;have m1:=Qn (z2 * 1103515245+7919 * p+12345) (by decide:(2147483647:Int)≠0);have m2:=Qh (z2 * 1103515245+7919 * p+12345) (by decide:(0:Int) < 2147483647);refine ⟨_,rfl,_,5,rfl,rfl,⟨by decide,by decide,by omega⟩,_,_,rfl,rfl,(by show (0:Int) < 2147483647;decide),_,_,rfl,rfl,(by show (0:Int) < 999983;decide),_,rfl,_,m,rfl,rfl,hm,?_⟩;exact post _ _ (p+1) q bt3 ht3 (by omega) (Qn _ (by omega)) (Qh _ hm)
 ·refine ⟨_,rfl,_,rfl,_,rfl,a,_,rfl,.inl ZO,p,_,rfl,rfl,X4,?_⟩;obtain ⟨z2,hz2⟩:=Dw (ns:=ns) (Qn p (by omega:((ns.map V.int).length:Int)≠0)) (by rw [<- hlen];exact Qh p X4);refine ⟨a,_,_,_,rfl,rfl,ZO,hz2,z2,1103515245,rfl,rfl,.inr ⟨by decide,by decide⟩,_,rfl,7919,p,rfl,rfl,.inl ⟨by decide,by decide⟩,_,_,rfl,rfl,_,_,rfl,rfl,_,_,rfl,rfl,(by show (0:Int) < 2147483647;decide),?_⟩;have m1:=Qn (z2 * 1103515245+7919 * p+12345) (by decide:(2147483647:Int)≠0);have m2:=Qh (z2 * 1103515245+7919 * p+12345) (by decide:(0:Int) < 2147483647);refine ⟨_,rfl,_,5,rfl,rfl,⟨by decide,by decide,by omega⟩,_,_,rfl,rfl,(by show (0:Int) < 2147483647;decide),_,_,rfl,rfl,(by show (0:Int) < 999983;decide),_,rfl,_,m,rfl,rfl,hm,?_⟩;exact post _ _ (p+1) q bt3 ht3 (by omega) (Qn _ (by omega)) (Qh _ hm)
def wc (K:W.Frag):Sp:=λvs H Q _=>∃ (a t l:Addr) (ns:List Int) (xs:List V) (p q:Int) (rest:List V),vs=[.ref a,.ref t,.ref l]/\Yu K H a ns/\SO K H l xs/\l≠t/\0 < xs.length/\xs.length<=1000000 /\
 H t=some (.lst (.int p::.int q::rest))/\0<=p/\∀ (i:Nat) (x:V) (H':Hp) (p' q':Int),S4 t H H'->H' t=some (.lst (.int p'::.int q'::rest))->0<=p'->xs[i]?=some x->Q x H'
theorem va (T:Txt P w K mg) (Kp:Ok P w base k T.J8 (rN K)):Ok P w base (k+1) T.Kr (wc K):=by
 refine T.Kr.f.ok WR (λvs H Q E h=>?_) (λcdv A outer s H vs Q E hr h=>?_)
 ·obtain ⟨a,t,l,ns,xs,p,q,rest,rfl,_⟩:=h;rfl
 have nd:=WR.nd;obtain ⟨a,t,l,ns,xs,p,q,rest,rfl,hS,hL,hlt,hx0,hx1,hT,hp,post⟩:=h;refine ⟨_,(aH (aP (aY bX (pv 2) (pc (D:=T.J8) Kp hr (aD (pv 0) (aD (pv 1) (aD (aX aW rfl T.JY bU (aD (pv 2) aC)) aC))))))),?_⟩;refine ⟨_,rfl,_,rfl,_,rfl,_,rfl,l,xs,rfl,.inl hL,a,t,ns,(xs.length:Int),p,q,rest,rfl,hS,hT,hp,by omega,by omega,λr H1 p1 q1 b1 t1 g1 r0 r1=>?_⟩;have hr':r.toNat < xs.length:=by omega
 have er:r=((r.toNat:Nat):Int):=by omega
 have z:YX xs ((r.toNat:Nat):Int)=some xs[r.toNat]:=jT (Pe hr');rw [<- er] at z;exact ⟨l,xs,r,xs[r.toNat],rfl,rfl,b1.WA hlt hL,z,post r.toNat _ H1 p1 q1 b1 t1 g1 (Pe hr')⟩
end
inductive Tr where
 | num (n:Int)
 | arg (k:Int)
 | two (o:Str) (a b:Tr)
 | pick (a b c:Tr)
noncomputable def toD:Tr->D
 | .num n=>.tup [.str "num",.int n]
 | .arg k=>.tup [.str "arg",.int k]
 | .two o a b=>.tup [.str o,toD a,toD b]
 | .pick a b c=>.tup [.str "pick",toD a,toD b,toD c]
def UO:Tr->Prop
 | .num n=>0<=n/\n<=9999
 | .arg k=>0<=k/\k<=3
 | .two o a b=>(o="add"\/o="sub"\/o="mul"\/o="less")/\UO a/\UO b
 | .pick a b c=>UO a/\UO b/\UO c
noncomputable def a9:Tr->Nat
 | .num _=>1
 | .arg _=>1
 | .two _ a b=>max (a9 a) (a9 b)+1
 | .pick a b c=>max (a9 a) (max (a9 b) (a9 c))+1
noncomputable def bB:Tr->Nat
 | .num _=>1
 | .arg _=>1
 | .two _ a b=>bB a+bB b+1
 | .pick a b c=>bB a+bB b+bB c+1
noncomputable def dR:Tr->List Tr
 | .num _=>[]
 | .arg _=>[]
 | .two _ a b=>[a,b]
 | .pick a b c=>[a,b,c]
noncomputable def bC:Tr->List Tr
 | .num n=>[.num n]
 | .arg k=>[.arg k]
 | .two o a b=>.two o a b::(bC a++bC b)
 | .pick a b c=>.pick a b c::(bC a++bC b++bC c)
theorem cE:∀ t:Tr,(bC t).length=bB t
 | .num _=>rfl
 | .arg _=>rfl
 | .two _ a b=>by simp only [bC,bB,Pp,tB,cE a,cE b]
 | .pick a b c=>by simp only [bC,bB,Pp,tB,cE a,cE b,cE c]
theorem kh (t:Tr):1<=a9 t:=by cases t <;> simp [a9]
theorem Dg {o:Str} (h:o="add"\/o="sub"\/o="mul"\/o="less"):KTD.inKeys o TL=false/\KTD.inKeys o TB=true/\mX o TB=2:=by rcases h with rfl | rfl | rfl | rfl <;> decide +kernel
theorem Bq:KTD.inKeys ("pick":Str) TL=false/\KTD.inKeys ("pick":Str) TB=true/\mX ("pick":Str) TB=3:=by decide +kernel
theorem De:KTD.inKeys ("num":Str) TL=true/\KTD.inKeys ("num":Str) TB=false/\mX ("num":Str) TL=9999:=by decide +kernel
theorem Dd:KTD.inKeys ("arg":Str) TL=true/\KTD.inKeys ("arg":Str) TB=false/\mX ("arg":Str) TL=3:=by decide +kernel
variable {r:List D}
theorem qQ {k:Str} (h:KTD.inKeys k TL=true):fM (.tup (.str k::r))=(decide ((r.length:Int)+1=2) && dM (r.getD 0 .SM) 0 (mX k TL)):=by unfold fM;dsimp only;rw [Ph h]
theorem qP {k:Str} (h:KTD.inKeys k TL=false):fM (.tup (.str k::r))=(KTD.inKeys k TB && decide ((r.length:Int)+1=1+mX k TB)):=by unfold fM;dsimp only;rw [M1 (by rw [h];exact Pk)]
theorem xk {k:Str} (h:KTD.inKeys k TB=true):dQ (.tup (.str k::r))=r:=by unfold dQ;dsimp only;rw [Ph h]
theorem oh {k:Str} (h:KTD.inKeys k TB=false):dQ (.tup (.str k::r))=[]:=by unfold dQ;dsimp only;rw [M1 (by rw [h];exact Pk)]
theorem nr:∀ t:Tr,UO t->fM (toD t)=true/\dQ (toD t)=(dR t).map toD
 | .num n,h=>by obtain ⟨h1,h2,h3⟩:=De;refine ⟨?_,oh h2⟩;unfold toD;rw [qQ h1,h3];show (decide ((1:Int)+1=2) && (decide (0<=n) && decide (n<=9999)))=true;simp [h.1,h.2]
 | .arg n,h=>by obtain ⟨h1,h2,h3⟩:=Dd;refine ⟨?_,oh h2⟩;unfold toD;rw [qQ h1,h3];show (decide ((1:Int)+1=2) && (decide (0<=n) && decide (n<=3)))=true;simp [h.1,h.2]
 | .two o a b,h=>by obtain ⟨h1,h2,h3⟩:=Dg h.1;refine ⟨?_,xk h2⟩;unfold toD;rw [qP h1,h2,h3];rfl
 | .pick a b c,h=>by obtain ⟨h1,h2,h3⟩:=Bq;refine ⟨?_,xk h2⟩;unfold toD;rw [qP h1,h2,h3];rfl
noncomputable def mz:Nat->List (D × Int)->Int->Bool
 | 0,_,_=>false
 | _+1,[],_=>true
 | n+1,(d,dp)::st,p=>if (decide (40 < p+1) || (decide (8 < dp) || !fM d))=true then false else mz n (((dQ d).map λx=>(x,dp+1)).reverse++st) (p+1)
noncomputable def iW (d:D):Bool:=mz 50 [(d,1)] 0
theorem md {n:Nat} {d:D} {dp:Int} {st:List (D × Int)} {p:Int} (h1:p+1<=40) (h2:dp<=8) (h3:fM d=true):mz (n+1) ((d,dp)::st) p=mz n (((dQ d).map λx=>(x,dp+1)).reverse++st) (p+1):=by show (if _=true then false else _)=_;rw [M1];simp [h3];omega
theorem jx:∀ (t:Tr),UO t->∀ (n:Nat) (dp:Int) (st:List (D × Int)) (p:Int),(a9 t:Int)+dp<=9->p+(bB t:Int)<=40->mz (n+bB t) ((toD t,dp)::st) p=mz n st (p+bB t)
 | .num m,h,n,dp,st,p,h1,h2=>by obtain ⟨e1,e2⟩:=nr (.num m) h;simp only [a9,bB] at h1 h2 ⊢;rw [md (by omega) (by omega) e1,e2];rfl
 | .arg m,h,n,dp,st,p,h1,h2=>by obtain ⟨e1,e2⟩:=nr (.arg m) h;simp only [a9,bB] at h1 h2 ⊢;rw [md (by omega) (by omega) e1,e2];rfl
 | .two o a b,h,n,dp,st,p,h1,h2=>by
  obtain ⟨e1,e2⟩:=nr (.two o a b) h;have d1:=kh a;simp only [a9,bB] at h1 h2 ⊢;have g1:(a9 a:Int)+(dp+1)<=9:=by omega
  have g2:(a9 b:Int)+(dp+1)<=9:=by omega
  rw [show n+(bB a+bB b+1)=(n+bB a+bB b)+1 by omega,md (by omega) (by omega) e1,e2];show mz (n+bB a+bB b) ((toD b,dp+1)::(toD a,dp+1)::st) (p+1)=_;rw [jx b h.2.2 (n+bB a) (dp+1) ((toD a,dp+1)::st) (p+1) g2 (by omega),jx a h.2.1 n (dp+1) st _ g1 (by omega)];congr 1;omega
 | .pick a b c,h,n,dp,st,p,h1,h2=>by
  obtain ⟨e1,e2⟩:=nr (.pick a b c) h;have d1:=kh a;simp only [a9,bB] at h1 h2 ⊢;have g1:(a9 a:Int)+(dp+1)<=9:=by omega
  have g2:(a9 b:Int)+(dp+1)<=9:=by omega
  have g3:(a9 c:Int)+(dp+1)<=9:=by omega
  rw [show n+(bB a+bB b+bB c+1)=(n+bB a+bB b+bB c)+1 by omega,md (by omega) (by omega) e1,e2];show mz (n+bB a+bB b+bB c) ((toD c,dp+1)::(toD b,dp+1)::(toD a,dp+1)::st) (p+1)=_;rw [jx c h.2.2 (n+bB a+bB b) (dp+1) _ (p+1) g3 (by omega),jx b h.2.1 (n+bB a) (dp+1) _ _ g2 (by omega),jx a h.1 n (dp+1) st _ g1 (by omega)];congr 1;omega
theorem F6 {t:Tr} (h:UO t) (h1:a9 t<=8) (h2:bB t<=40):iW (toD t)=true:=by
 have q:=jx t h (50 - bB t) 1 [] 0 (by omega) (by omega);rw [show 50 - bB t+bB t=50 by omega] at q;unfold iW;rw [q];obtain ⟨m,e⟩:∃ m,50 - bB t=m+1:=⟨50 - bB t - 1,by omega⟩
 rw [e];rfl
section
variable {P:Program} {w:World} {K:W.Frag} {mg:Str->Option Value} {base:Heap} {k:Nat}
noncomputable def mu2 (σ:L2.St) (_:Hp):Nat:=match σ[2]? with
 | some (some (V.int p))=>(50 - p).toNat
 | _=>0
def zH (ds:List D) (d:D):Prop:=∃ x,ds=[x]/\d=.bl (iW x)
noncomputable abbrev pr (x:D × Int):D:=.tup [x.1,.int x.2]
variable {H:Hp}
theorem sU {K:W.Frag} {b:D}:∀ {as:List D} {vs:List V},SG K H (as++[b]) vs->∃ us v,vs=us++[v]/\SG K H as us/\Dat K H b v
 | [],vs,h=>by obtain ⟨v,e,q⟩:=ji h;exact ⟨[],v,e,SG.nil,q⟩
 | a::as,vs,h=>by obtain ⟨u,r,e,h1,h2⟩:=h.Tq;obtain ⟨us,v,e2,h3,h4⟩:=sU h2;subst e2 e;exact ⟨u::us,v,rfl,SG.cons h1 h3,h4⟩
theorem F9 (k:Str):mX k TB<=3:=by
 unfold mX;split
 ·rename_i i e;simp only [TB,KTD.datumAt] at e
  repeat' split at e
  all_goals first
   | (cases e;decide)
   | cases e
 ·decide
variable {d:D}
theorem qH (h:fM d=true):(dQ d).length<=3:=by
 unfold fM at h;split at h
 ·rename_i k r;unfold dQ;dsimp only;split
  ·rename_i hb;split at h
   ·rw [Px] at h;have z:=Po h.1;omega
   ·rw [Px] at h;have z:=Po h.2;have z2:=F9 k;omega
  ·exact Qy _
 ·cases h
theorem qR (h:fM d=true):∃ k r,d=.tup (.str k::r):=by
 unfold fM at h;split at h
 ·exact ⟨_,_,rfl⟩
 ·cases h
theorem yS (T:Txt P w K mg) (Nn:Ok P w base k T.L8 (Th K B7)) (Kg:Ok P w base k T.J3 (Th K jl)):Ok P w base (k+1) T.MZ (Th K zH):=by
 refine T.MZ.f.ok XC (λvs H Q E h=>?_) (λcdv A outer s H vs Q E hr h=>?_)
 ·obtain ⟨ds,d,hd,⟨x,rfl,rfl⟩,_⟩:=h;exact hd.length.symm
 have nd:=XC.nd;obtain ⟨ds,d,hd,⟨x,rfl,rfl⟩,post⟩:=h;obtain ⟨v0,rfl,h0⟩:=ji hd;refine ⟨_,(aE (bQ (i:=1) nd rfl (Or.inl rfl) (bY (aD (bA (aD (pv 0) (aD aF aC))) aC)))
 (aE (bQ (i:=2) nd rfl (Or.inl rfl) aF)
 (aE (rh Qt (bR (pv 1) (λ_=>rfl)) (aE (gH (lJ PD QK QZ lD (pv 1)) (gF rfl (bN (a7 (i:=3) nd rfl (Or.inl rfl)) (bN (a7 (i:=4) nd rfl (Or.inr rfl)) eH))))
 (aE (yZ (i:=2) nd rfl (Or.inl rfl) aF uN)
 (aE (bE (PW.pt (fH (aN kl (pv 2) (bT (v:=.int 40) rfl T.K2 ⟨_,rfl⟩) (aT _)) (fH (aN kl (pv 4) (bT (v:=.int 8) rfl T.Lf ⟨_,rfl⟩) (aT _)) (eR (cW (bR (pc (D:=T.L8) Nn hr (aD (pv 3) aC)) (λ_=>rfl))))))) (aH (aP d8)) aQ)
 (aH (bP (fF PD Q8 Ru ki (pv 1) (aD (eV (own:=["within"]) (fr:=[4]) (N':=["within","deep"]) (kE (pc (D:=T.J3) Kg hr (aD (pv 3) aC))) rfl (by show dS ["thing","waiting","parts","part","deep"] (λx=>(aK oH).names.lookup x) _ _ _ _=true;decide +kernel) rfl (λ_ _ _ _ _=>(a7 (i:=0) (by show List.Nodup [("within":Str),("deep":Str)];decide +kernel) rfl (Or.inl rfl))) (λ_ _ _ _ _=>c7) (λ_ _ _ _ _=>(bA (aD (pv 0) (aD (bL cJ (pv 1) aF) aC))))) aC))))))))
 (aH (aP d8))))),?_⟩
 refine fR (zo (K:=K) (aB (bF (aB (aA h0) (aB aG aM))) aM) λwl vs1 H1 s1 hw q1=>?_);have hw0:H wl=none:=s1.free hw;have s1':SH H (upd H1 wl (.lst vs1)):=s1.trans (aV hw _)
 refine fR (DX (eB (rX (λσ G=>∃ (st:List (D × Int)) (p:Int) (n:Nat) (xs:List V) (z3 z4:Option V),σ=[some v0,some (.ref wl),some (.int p),z3,z4]/\G wl=some (.lst xs)/\SG K G (st.reverse.map pr) xs/\SH H G/\mz n st p=iW x/\0<=p/\p<=40/\(n:Int)=50 - p/\(xs.length:Int)<=1+3 * p)
  mu2 ?_ ?_ ?_)))
 ·refine ⟨[(x,1)],0,50,vs1,none,none,rfl,aI,(aV hw _).SQ q1,s1',rfl,by decide,by decide,by decide,?_⟩;rw [<- q1.length];simp
 ·rintro σ G ⟨st,p,n,xs,z3,z4,rfl,hG,hd,sG,lp,p0,p1,en,lx⟩;refine ⟨_,rfl,!xs.isEmpty,.inl ⟨xs,SO.of hG,rfl⟩,?_⟩
  cases st with
  | nil =>
   have ex:=hd.VZ;subst ex;rw [M1 (by simp)];obtain ⟨m,rfl⟩:∃ m,n=m+1:=⟨n - 1,by omega⟩
   have lp':iW x=true:=lp.symm;refine post _ _ sG ?_;rw [lp'];exact Dat.VW _
  | cons e st =>
   obtain ⟨y,dp⟩:=e;rw [Ry,PY] at hd;obtain ⟨us,v,ex,hu,hv⟩:=sU hd;subst ex;obtain ⟨a,ws,ev,hq,hws⟩:=hv.S7;obtain ⟨vy,vd,ew,hy,hdp⟩:=i5 hws;have edp:=hdp.SN;subst edp ew ev;rw [Ph (by simp)];refine ⟨_,rfl,.inl ⟨rfl,_,SO.of hG⟩,wl,us++[.ref a],.ref a,rfl,rfl,hG,(by simp),?_⟩;rw [Q0];have bt:S4 wl G (upd G wl (.lst us)):=S4.upd (SH.refl G).but;have g2:gA K G (upd G wl (.lst us)):=bt.grow hG aI;refine ⟨a,[vy,.int dp],rfl,bt.YB hG hq,rfl,vy,_,rfl,.int dp,_,rfl,rfl,?_⟩;have s2:SH H (upd G wl (.lst us)):=λb o hb=>bt b o (aU hb hw0) (sG b o hb);have hy2:=Dat.mono g2 _ hy;have hu2:=SG.mono g2 _ hu;refine ⟨_,rfl,p,1,rfl,rfl,?_⟩;dsimp only;refine aR (K:=K) (b:=decide (40 < p+1) || (decide (8 < dp) || !fM y)) ?_ (λc H3 s3=>?_) (λc H3 s3=>?_)
   ·exact dP (aJ (cQ (aA (K:=K) (Dat.SK (p+1))) aG)) λ_=>dP (aJ (cQ (aA (K:=K) (Dat.SK dp)) aG)) λ_=>bZ (bO (bM (aB (aA hy2) aM) ⟨y,rfl,rfl⟩))
   ·refine post _ _ (s2.trans s3) ?_;obtain ⟨m,rfl⟩:∃ m,n=m+1:=⟨n - 1,by omega⟩
    have lp':iW x=false:=by rw [<- lp];show (if (decide (40 < p+1) || (decide (8 < dp) || !fM y))=true then false else _)=false;rw [Ph c]
    rw [lp'];exact Dat.VW _
   ·obtain ⟨m,rfl⟩:∃ m,n=m+1:=⟨n - 1,by omega⟩
    have lp':mz m (((dQ y).map λx=>(x,dp+1)).reverse++st) (p+1)=iW x:=by
     rw [<- lp];show _=(if (decide (40 < p+1) || (decide (8 < dp) || !fM y))=true then false else _)
     rw [M1 (by rw [c];exact Pk)]
    simp only [QG,decide_eq_false_iff_not,RQ] at c;obtain ⟨c1,c2,c3⟩:=c;obtain ⟨kd,r,ey⟩:=qR c3;have few:=qH c3;have hw3:=s3 _ _ (show upd G wl (.lst us) wl=some (.lst us) from aI);refine ⟨_,rfl,.inl ⟨rfl,_,SO.of hw3⟩,?_⟩;refine oB (K:=K) (cs:=dQ y) (bM (R:=jl) (aB (aA (s3.dat hy2)) aM) ⟨kd,r,by rw [ey],by rw [ey]⟩) (by omega) ((dQ y).map λz=>pr (z,dp+1)) (Pd _) rfl (λH4 i z vz d s4 hz hi hvz=>?_) (λl ys H5 hl s5 YC hd5=>?_)
    ·rw [Pr,hz] at hi;cases hi;exact bF (aB (aA hvz) (aB (c8 (aA (Dat.SK dp)) aG) aM))
    ·have hw5:=s5 _ _ hw3;have ly:ys.length=(dQ y).length:=by rw [<- hd5.length,Pd]
     have lu:us.length=st.length:=by rw [<- hu.length,Pd,Qj]
     rw [tB,R5] at lx;have b5:S4 wl H5 (upd H5 wl (.lst (us++ys))):=S4.upd (SH.refl H5).but;have g5:gA K H5 (upd H5 wl (.lst (us++ys))):=b5.grow hw5 aI;refine ⟨wl,l,us,ys,rfl,rfl,hw5,YC,dB (by omega),?_⟩;refine ⟨⟨_,p+1,m,us++ys,_,_,rfl,aI,?_,?_,lp',by omega,by omega,by omega,?_⟩,?_⟩
     ·rw [List.reverse_append,List.reverse_reverse,PY,Ra];exact SG.append (SG.mono g5 _ ((s3.trans s5).SQ hu2)) (SG.mono g5 _ hd5)
     ·exact λb o hb=>b5 b o (aU hb hw0) (s5 _ _ (s3 _ _ (s2 _ _ hb)))
     ·rw [tB];omega
     ·show (50 - (p+1)).toNat < (50 - p).toNat;omega
 ·intro σ G Q1 Q2 hQ hc;obtain ⟨v,e,k',tr,q⟩:=hc;exact ⟨v,e,k',tr,hQ _ _ q⟩
theorem vt (T:Txt P w K mg) (OF:Ok P w base k T.MZ (Th K zH)):Ok P w base (k+1) T.Mw (Th K λds d=>∃ x,ds=[x]/\iW x=true/\d=.SM):=by
 refine T.Mw.f.ok WI (λvs H Q E h=>?_) (λcdv A outer s H vs Q E hr h=>?_)
 ·obtain ⟨ds,d,hd,⟨x,rfl,_,rfl⟩,_⟩:=h;exact hd.length.symm
 have nd:=WI.nd;obtain ⟨ds,d,hd,⟨x,rfl,hx,rfl⟩,post⟩:=h;obtain ⟨v0,rfl,h0⟩:=ji hd;refine ⟨_,(aH (bE (cW (bR (pc (D:=T.MZ) OF hr (aD (pv 0) aC)) (λ_=>rfl))) (aH dF) aQ)),?_⟩;refine jk (b:=!iW x) (bZ (bO (bM (aB (aA h0) aM) ⟨x,rfl,rfl⟩))) (λc H1 s1=>?_) (λc H1 s1=>?_)
 ·rw [hx] at c;cases c
 ·exact post _ _ s1 Dat.X5
def nR (n:Nat) (ds es:List D):Prop:=∃ t,ds=[toD t]/\UO t/\a9 t<=n/\bB t<=200/\es=(bC t).map toD
theorem hU (t:Tr):bC t=t::(dR t).flatMap bC:=by cases t <;> simp [bC,dR]
variable {t x:Tr}
theorem E9 (h:UO t) (hx:x ∈ dR t):UO x/\a9 x+1<=a9 t/\bB x+1<=bB t:=by
 cases t with
 | num n=>simp [dR] at hx
 | arg n=>simp [dR] at hx
 | two o a b =>
  simp only [dR,Py,P8,Qx] at hx;rcases hx with rfl | rfl
  ·exact ⟨h.2.1,by simp only [a9];omega,by simp only [bB];omega⟩
  ·exact ⟨h.2.2,by simp only [a9];omega,by simp only [bB];omega⟩
 | pick a b c =>
  simp only [dR,Py,P8,Qx] at hx;rcases hx with rfl | rfl | rfl
  ·exact ⟨h.1,by simp only [a9];omega,by simp only [bB];omega⟩
  ·exact ⟨h.2.1,by simp only [a9];omega,by simp only [bB];omega⟩
  ·exact ⟨h.2.2,by simp only [a9];omega,by simp only [bB];omega⟩
noncomputable def yb (t:Tr) (i:Nat):List Tr:=t::((dR t).take i).flatMap bC
variable {i:Nat}
theorem BV (h:(dR t)[i]?=some x):yb t (i+1)=yb t i++bC x:=by unfold yb;rw [Qo,h];simp
theorem Er (t:Tr):yb t (dR t).length=bC t:=by unfold yb;rw [QI,hU]
theorem F8 (t:Tr) (i:Nat):(yb t i).length<=bB t:=by
 rw [<- cE t,hU];unfold yb;rw [Pp,Pp]
 have h:((dR t).take i).flatMap bC++((dR t).drop i).flatMap bC=(dR t).flatMap bC:=by rw [<- List.flatMap_append,RG]
 have h2:=PZ List.length h;rw [tB] at h2;omega
theorem F5 (t:Tr):∃ kd r,toD t=.tup (.str kd::r):=by cases t <;> exact ⟨_,_,rfl⟩
variable {n:Nat}
theorem Bu (T:Txt P w K mg) (Kg:Ok P w base k T.J3 (Th K jl)) (NG:Ok P w base k T.Mj (kL K (nR n))):Ok P w base (k+1) T.Mj (kL K (nR (n+1))):=by
 refine T.Mj.f.ok Yi (λvs H Q E h=>?_) (λcdv A outer s H vs Q E hr h=>?_)
 ·obtain ⟨ds,es,hd,⟨t,rfl,_⟩,_⟩:=h;exact hd.length.symm
 have nd:=Yi.nd;obtain ⟨ds,es,hd,⟨t,rfl,ht,hn,hz,rfl⟩,post⟩:=h;obtain ⟨v0,rfl,h0⟩:=ji hd;refine ⟨_,(aE (bQ (i:=1) nd rfl (Or.inl rfl) (bY (aD (pv 0) aC)))
 (aE (jK Qt rfl (kE (pc (D:=T.J3) Kg hr (aD (pv 0) aC))) (a7 (i:=2) nd rfl (Or.inl rfl)) (aH (bP (fF PD Q8 Ru ki (pv 1) (aD (pc (D:=T.Mj) NG hr (aD (pv 2) aC)) aC)))))
 (aH (aP (pv 1))))),?_⟩
 refine fR (zo (K:=K) (aB (aA h0) aM) λwl vs1 H1 s1 hw q1=>?_);have hw0:H wl=none:=s1.free hw;have s1':SH H (upd H1 wl (.lst vs1)):=s1.trans (aV hw _);obtain ⟨kd,r,ek⟩:=F5 t;refine eB (RE.use (bM (R:=jl) (d:=.tup (dQ (toD t))) (aB (aA (K:=K) (k:=0) (s1'.dat h0)) aM) ⟨kd,r,by rw [ek],by rw [ek]⟩) λv4 H4 s4 q4=>?_);rw [(nr t ht).2] at q4;obtain ⟨a,vs,ea,hq,hds⟩:=q4.S7;subst ea;have hl:=hds.length;rw [Pd] at hl;refine ⟨a,rfl,⟨vs,hq⟩,Ab (xs:=vs) (λi σ G=>∃ (z:Option V) (ys:List V),σ=[some v0,some (.ref wl),z]/\SH H G/\Tg K G a vs/\SG K G ((dR t).map toD) vs/\G wl=some (.lst ys)/\SG K G ((yb t i).map toD) ys) ?_ (λi σ G _ ⟨z,ys,_,_,p,_⟩=>p) ?_ ?_⟩
 ·exact ⟨none,vs1,rfl,s1'.trans s4,hq,hds,s4 _ _ aI,(show SG K H4 ([t].map toD) vs1 from ((aV hw _).trans s4).SQ q1)⟩
 ·rintro i vx σ G hi ⟨z,ys,rfl,sG,hqG,Zf,YE,ZD⟩;obtain ⟨dx,ex,hx⟩:=Zf.Wb hi;rw [Pr] at ex
  cases hk:(dR t)[i]? with
  | none=>rw [hk] at ex;cases ex
  | some x =>
   rw [hk] at ex;cases ex;obtain ⟨k1,k2,k3⟩:=E9 ht (PJ hk);refine ⟨_,rfl,.inl ⟨rfl,_,SO.of YE⟩,_,rfl,[toD x],_,(SG.cons hx SG.nil:SG K G [toD x] [vx]),⟨x,rfl,k1,by omega,by omega,rfl⟩,λr us H5 s5 hr5 _ hd5=>?_⟩;have hw5:=s5 _ _ YE;have b6:S4 wl H5 (upd H5 wl (.lst (ys++us))):=S4.upd (SH.refl H5).but;have g6:gA K H5 (upd H5 wl (.lst (ys++us))):=b6.grow hw5 aI;have ly:ys.length<=bB t:=by rw [<- ZD.length,Pd];exact F8 t i
   have lu:us.length=bB x:=by rw [<- hd5.length,Pd,cE]
   refine ⟨wl,r,ys,us,rfl,rfl,hw5,hr5,dB (by omega),some vx,ys++us,rfl,λb o hb=>b6 b o (aU hb hw0) (s5 _ _ (sG _ _ hb)),g6.tup _ _ (s5.YB hqG),SG.mono g6 _ (s5.SQ Zf),aI,?_⟩;rw [BV hk,PY];exact SG.append (SG.mono g6 _ (s5.SQ ZD)) (SG.mono g6 _ hd5)
 ·rintro σ G ⟨z,ys,rfl,sG,hqG,Zf,YE,ZD⟩;refine ⟨_,rfl,post wl ys G sG YE hw0 ?_⟩;rw [<- hl,Er] at ZD;exact ZD
def rO (K:W.Frag) (n:Nat):Sp:=λvs H Q _=>∃ (a t:Addr) (ns:List Int) (room p q c:Int),vs=[.ref a,.ref t,.int room]/\Yu K H a ns/\H t=some (.lst [.int p,.int q,.int c])/\0<=p/\0<=c/\c<=60/\room<=n/\1<=n /\
 ∀ (v:V) (H':Hp) (X:Tr) (p' q' c':Int),S4 t H H'->H' t=some (.lst [.int p',.int q',.int c'])->0<=p'->0<=c'->c'<=c->UO X->((a9 X:Int)=1\/(a9 X:Int)<=room)->(bB X:Int)<=1+3 * (c - c')->Dat K H' (toD X) v->Q v H'
noncomputable def ya (Ts:List Tr):Nat:=(Ts.map bB).sum
theorem BQ (Ts:List Tr) (x:Tr):ya (Ts++[x])=ya Ts+bB x:=by simp [ya]
def Gj:Tr->Prop
 | .num n=>0<=n/\n<=9999
 | .arg k=>0<=k/\k<=3
 | _=>False
theorem Fd (h:Gj x):UO x/\a9 x=1/\bB x=1:=by
 cases x with
 | num n=>exact ⟨h,rfl,rfl⟩
 | arg n=>exact ⟨h,rfl,rfl⟩
 | two o a b=>exact h.elim
 | pick a b c=>exact h.elim
variable {nm:Str}
theorem Eg {Ts:List Tr} {room:Int} (hr:2<=room) (ok:∀ x ∈ Ts,UO x/\((a9 x:Int)=1\/(a9 x:Int)<=room - 1)) (h:(nm="pick"/\Ts.length=3)\/((nm="add"\/nm="sub"\/nm="mul"\/nm="less")/\Ts.length=2)) :
  ∃ X:Tr,toD X=.tup (.str nm::Ts.map toD)/\UO X/\(a9 X:Int)<=room/\bB X=1+ya Ts:=by
 rcases h with ⟨rfl,hl⟩ | ⟨hn,hl⟩
 ·match Ts,hl with
  | [a,b,c],_ =>
   have h1:=ok a (by simp);have h2:=ok b (by simp);have h3:=ok c (by simp);refine ⟨.pick a b c,rfl,⟨h1.1,h2.1,h3.1⟩,?_,?_⟩
   ·simp only [a9];omega
   ·simp [bB,ya];omega
 ·match Ts,hl with
  | [a,b],_ =>
   have h1:=ok a (by simp);have h2:=ok b (by simp);refine ⟨.two nm a b,rfl,⟨hn,h1.1,h2.1⟩,?_,?_⟩
   ·simp only [a9];omega
   ·simp [bB,ya];omega
theorem ve (T:Txt P w K mg) (Kp:Ok P w base k T.J8 (rN K)) (Ld:Ok P w base k T.Kr (wc K)) (ML:Ok P w base k T.KY (rO K n)):Ok P w base (k+1) T.KY (rO K (n+1)):=by
 refine T.KY.f.ok WT (λvs H Q E h=>?_) (λcdv A outer s H vs Q E hr h=>?_)
 ·obtain ⟨a,t,ns,room,p,q,c,rfl,_⟩:=h;rfl
 have nd:=WT.nd;obtain ⟨a,t,ns,room,p,q,c,rfl,hS,hT,hp,hc,hc2,hroom,_,post⟩:=h;refine ⟨_,(aE (bQ (i:=3) nd rfl (Or.inl rfl) (bA (aD aO (aD (pc (D:=T.J8) Kp hr (aD (pv 0) (aD (pv 1) (aD aF aC)))) aC))))
 (aE (bE (aN bV (pc (D:=T.J8) Kp hr (aD (pv 0) (aD (pv 1) (aD aF aC)))) aF (aT _)) (aH (bQ (i:=3) nd rfl (Or.inl rfl) (bA (aD aO (aD (pc (D:=T.Kr) Ld hr (aD (pv 0) (aD (pv 1) (aD (bY (aD aF (aD aF (aD aF (aD aF (aD aF (aD aF (aD aF (aD aF aC))))))))) aC)))) aC))))) aQ)
 (aE (bE (PW.pt (fH (aN km (pv 2) aF (aT _)) (fH (aN km (aY bX (pv 1) aF) aF (aT _)) (eR (aN bV (pc (D:=T.J8) Kp hr (aD (pv 0) (aD (pv 1) (aD aF aC)))) aF (aT _)))))) (aH (aP (pv 3))) aQ)
 (aE (Ax (pv 1) aF xg aF Hq nN)
 (aE (bQ (i:=4) nd rfl (Or.inl rfl) (pc (D:=T.Kr) Ld hr (aD (pv 0) (aD (pv 1) (aD (bY (aD aO (aD aO (aD aO (aD aO (aD aO (aD aO aC))))))) aC)))))
 (aE (bQ (i:=5) nd rfl (Or.inl rfl) (fG (aN bV (pv 4) aO (aT _)) aF aF))
 (aH (aP (bL Fk (bA (aD (pv 4) aC)) (eP dY rfl T.KL fP (aD (eV (own:=["_law_k"]) (fr:=[0,1,2]) (N':=["_law_k","_law_script","_law_town","_law_room"]) (ko rfl T.MF (aD (pv 5) aC)) rfl (by show dS ["_law_script","_law_town","_law_room","_law_leaf","_law_name","_law_many"] (λx=>(aK lQ).names.lookup x) _ _ _ _=true;decide +kernel) rfl (λ_ _ _ _ _=>(a7 (i:=0) (by show List.Nodup [("_law_k":Str),("_law_script":Str),("_law_town":Str),("_law_room":Str)];decide +kernel) rfl (Or.inl rfl))) (λ_ _ _ _ _=>c7) (λ_ _ _ _ _=>(pc (D:=T.KY) ML hr (aD (pv 1) (aD (pv 2) (aD (bL oy (pv 3) aF) aC)))))) aC))))))))))),?_⟩
 refine fR ⟨_,rfl,_,rfl,a,t,ns,4,p,q,[.int c],rfl,hS,hT,hp,by decide,by decide,λr1 H1 p1 q1 b1 t1 g1 r1a r1b=>⟨dB (by simp),λl1 hl1=>?_⟩⟩;have ne1:l1≠t:=λz=>by rw [z,t1] at hl1;cases hl1
 have b2:=b1.trans (aV hl1 (.tup [.str "arg",.int r1])).but;have t2:upd H1 l1 (.tup [.str "arg",.int r1]) t=some (.lst [.int p1,.int q1,.int c]):=by rw [aS (PL ne1)];exact t1
 have d2:Dat K (upd H1 l1 (.tup [.str "arg",.int r1])) (toD (.arg r1)) (.ref l1):=Dat.tupI (Tg.of aI) (SG.cons (Dat.Tf _) (SG.cons (Dat.SK _) SG.nil));refine pR (λσ G=>∃ (vL:V) (L:Tr) (p q:Int),σ=[some (.ref a),some (.ref t),some (.int room),some vL,none,none]/\S4 t H G/\G t=some (.lst [.int p,.int q,.int c])/\0<=p/\Gj L/\Dat K G (toD L) vL) ?_ (λhrest=>?_)
 case refine_2 =>
  refine ⟨_,rfl,_,rfl,a,t,ns,2,p1,q1,[.int c],rfl,hS.but b2 hT,t2,g1,by decide,by decide,λr3 H3 p3 q3 b3 t3 g3 r3a r3b=>?_⟩;refine ⟨rfl,_,rfl,?_⟩;refine sj (λcc=>?_) (λcc=>?_)
  ·refine ⟨_,rfl,_,rfl,dB (by decide),λl hl=>?_⟩;have nel:l≠t:=λz=>by rw [z,t3] at hl;cases hl
   have b4:=(b2.trans b3).trans (aV hl (.lst [.int 0,.int 1,.int 2,.int 5,.int 99,.int 100,.int 1234,.int 9999])).but;refine ⟨a,t,l,ns,_,p3,q3,[.int c],rfl,hS.but b4 hT,SO.of aI,nel,by decide,by decide,(by rw [aS (PL nel)];exact t3),g3,λi x H5 p5 q5 b5 t5 g5 hx=>⟨dB (by simp),λl6 hl6=>?_⟩⟩;have ne6:l6≠t:=λz=>by rw [z,t5] at hl6;cases hl6
   obtain ⟨m,em,hm⟩:∃ m:Int,x=.int m/\0<=m/\m<=9999:=by have:=PJ hx;simp only [Py,P8,Qx] at this;rcases this with e | e | e | e | e | e | e | e <;> exact ⟨_,e,by decide,by decide⟩
   subst em;exact hrest _ _ ⟨.ref l6,.num m,p5,q5,rfl,(b4.trans b5).trans (aV hl6 _).but,(by rw [aS (PL ne6)];exact t5),g5,hm,Dat.tupI (Tg.of aI) (SG.cons (Dat.Tf _) (SG.cons (Dat.SK _) SG.nil))⟩
  ·exact hrest _ _ ⟨.ref l1,.arg r1,p3,q3,rfl,b2.trans b3,t3,g3,⟨r1a,by omega⟩,Dat.mono (b3.grow t2 t3) _ d2⟩
 rintro σ G ⟨vL,L,p,q,rfl,bG,tG,hp,hL,dL⟩;obtain ⟨okL,dpL,szL⟩:=Fd hL
 have back:∀ (G':Hp) (p' q':Int),S4 t G G'->G' t=some (.lst [.int p',.int q',.int c])->0<=p'->Q vL G':=λG' p' q' b' t' g' =>
  post vL G' L p' q' c (bG.trans b') t' g' hc (RN _) okL (.inl (by omega)) (by omega) (Dat.mono (b'.grow tG t') _ dL)
 refine eB ⟨_,rfl,room,2,rfl,rfl,_,rfl,?_⟩;refine sj (λc1=>?_) (λc1=>?_)
 ·exact ⟨_,rfl,back G p q (SH.refl G).but tG hp⟩
 have c1':¬ room < 2:=Pu (RW.mpr c1);refine ⟨_,rfl,t,_,2,_,rfl,rfl,SO.of tG,at2,c,1,rfl,rfl,_,rfl,?_⟩;refine sj (λc2=>?_) (λc2=>?_)
 ·exact ⟨_,rfl,back G p q (SH.refl G).but tG hp⟩
 have c2':¬ c < 1:=Pu (RW.mpr c2);refine ⟨_,rfl,_,rfl,a,t,ns,4,p,q,[.int c],rfl,hS.but bG hT,tG,hp,by decide,by decide,λr3 H3 p3 q3 b3 t3 g3 r3a r3b=>?_⟩;refine ⟨rfl,_,rfl,?_⟩;refine sj (λc3=>?_) (λc3=>?_)
 ·exact ⟨_,rfl,back H3 p3 q3 b3 t3 g3⟩
 refine ⟨_,rfl,t,_,2,_,rfl,rfl,(by decide),SO.of t3,rfl,c,1,rfl,rfl,t,_,2,2,rfl,rfl,t3,ix2,?_⟩;have b4:S4 t H (upd H3 t (.lst [.int p3,.int q3,.int (c - 1)])):=S4.upd (bG.trans b3);refine ⟨_,rfl,_,rfl,dB (by decide),λl hl=>?_⟩;have nel:l≠t:=λz=>by rw [z,aI] at hl;cases hl
 have b5:=b4.trans (aV hl (.lst [.str "add",.str "add",.str "sub",.str "mul",.str "less",.str "pick"])).but;refine ⟨a,t,l,ns,_,p3,q3,[.int (c - 1)],rfl,hS.but b5 hT,SO.of aI,nel,by decide,by decide,(by rw [aS (PL nel)];exact aI),g3,λi x H5 p5 q5 b6 t5 g5 hx=>?_⟩;have bH:=b5.trans b6
 obtain ⟨nm,en,hnm⟩:∃ nm:Str,x=.str nm/\(nm="pick"\/(nm="add"\/nm="sub"\/nm="mul"\/nm="less")):=by
  have:=PJ hx;simp only [Py,P8,Qx] at this;rcases this with e | e | e | e | e | e
  ·exact ⟨_,e,.inr (.inl rfl)⟩
  ·exact ⟨_,e,.inr (.inl rfl)⟩
  ·exact ⟨_,e,.inr (.inr (.inl rfl))⟩
  ·exact ⟨_,e,.inr (.inr (.inr (.inl rfl)))⟩
  ·exact ⟨_,e,.inr (.inr (.inr (.inr rfl)))⟩
  ·exact ⟨_,e,.inl rfl⟩
 subst en
 obtain ⟨many,Y7,hif⟩:∃ many:Nat,((nm="pick"/\many=3)\/((nm="add"\/nm="sub"\/nm="mul"\/nm="less")/\many=2))/\∀ (A B:Prop),(A->many=3->False)->True:=by
  rcases hnm with h | h
  ·exact ⟨3,.inl ⟨h,rfl⟩,λ_ _ _=>trivial⟩
  ·exact ⟨2,.inr ⟨h,rfl⟩,λ_ _ _=>trivial⟩
 clear hif;dsimp only;refine pR (λσ G=>σ=[some (.ref a),some (.ref t),some (.int room),some vL,some (.str nm),some (.int many)]/\G=H5) ?_ (λhrest=>?_)
 case refine_2 =>
  refine ⟨_,rfl,rfl,_,rfl,?_⟩;refine sj (λcc=>?_) (λcc=>?_)
  ·have e:V.str nm=V.str "pick":=Po cc;injection e with e;rcases Y7 with ⟨_,rfl⟩ | ⟨h,_⟩
   ·exact hrest _ _ ⟨rfl,rfl⟩
   ·subst e;exact absurd h (by decide +kernel)
  ·have e:¬ V.str nm=V.str "pick":=Pu (RW.mpr cc);rcases Y7 with ⟨h,_⟩ | ⟨_,rfl⟩
   ·exact absurd (by rw [h]) e
   ·exact hrest _ _ ⟨rfl,rfl⟩
 rintro σ G ⟨rfl,rfl⟩;have many_le:2<=many/\many<=3:=by rcases Y7 with ⟨_,h⟩ | ⟨_,h⟩ <;> omega
 refine ⟨_,rfl,dB (by simp),λe he=>?_⟩;have nee:e≠t:=λz=>by rw [z,t5] at he;cases he
 have t6:upd G e (.tup [.str nm]) t=some (.lst [.int p5,.int q5,.int (c - 1)]):=by rw [aS (PL nee)];exact t5
 have b7:=bH.trans (aV he (.tup [.str nm])).but;dsimp only;refine iL ?_
 refine rp many (λR hR=>⟨_,rfl,hR⟩) (by omega) rfl
  (λl i G'=>∃ (Ts:List Tr) (ys:List V) (p' q' c':Int),S4 t (upd G e (.tup [.str nm])) G'/\G' t=some (.lst [.int p',.int q',.int c'])/\0<=p'/\0<=c'/\c'<=c - 1/\G' l=some (.lst ys)/\Ts.length=i/\(∀ x ∈ Ts,UO x/\((a9 x:Int)=1\/(a9 x:Int)<=room - 1))/\(ya Ts:Int)<=i+3 * (c - 1 - c')/\SG K G' (Ts.map toD) ys) (λl hl=>?_) (λl i G' hl hi pn=>?_) (λl G' hl pn=>?_)
 ·have nl:l≠t:=λz=>by rw [z,t6] at hl;cases hl
  exact ⟨[],[],p5,q5,c - 1,(aV hl _).but,(by rw [aS (PL nl)];exact t6),g5,by omega,RN _,aI,rfl,(λx hx=>absurd hx (by simp)),by simp [ya],SG.nil⟩
 ·obtain ⟨Ts,ys,p',q',c',bt,tt,gp,gc,gc2,hl',lT,okTs,sm,dT⟩:=pn;have nl:l≠t:=λz=>by rw [z,t6] at hl;cases hl
  have ly:ys.length=i:=by rw [<- dT.length,Pd,lT]
  refine ⟨_,rfl,_,rfl,_,rfl,room,1,rfl,rfl,a,t,ns,room - 1,p',q',c',rfl,hS.but (b7.trans bt) hT,tt,gp,gc,by omega,by omega,by omega,λv G2 X p2 q2 c2 bb t2 g2 h2 h2' ZP dpX szX dX=>?_⟩;have hl2:=bb l _ nl hl';have g1:gA K G' G2:=bb.grow tt t2;have g3:gA K G2 (upd G2 l (.lst (ys++[v]))):=S4.grow (t:=l) (S4.upd (SH.refl G2).but) hl2 aI;refine ⟨ys,hl2,cM (by omega),⟨_,rfl⟩,Ts++[X],ys++[v],p2,q2,c2,?_,?_,g2,h2,by omega,aI,by rw [tB,lT];rfl,?_,?_,?_⟩
  ·intro b o hb hbo;have nb:b≠l:=aU hbo hl;rw [aS nb];exact bb b o hb (bt b o hb hbo)
  ·rw [aS (PL nl)];exact t2
  ·intro x hx;rcases P9.mp hx with hx | hx
   ·exact okTs x hx
   ·rw [PN.mp hx];exact ⟨ZP,dpX⟩
  ·rw [BQ];omega
  ·rw [PY];exact SG.append (SG.mono g3 _ (SG.mono g1 _ dT)) (SG.cons (Dat.mono g3 _ dX) SG.nil)
 ·obtain ⟨Ts,ys,p',q',c',bt,tt,gp,gc,gc2,hl',lT,okTs,sm,dT⟩:=pn;have ly:ys.length=many:=by rw [<- dT.length,Pd,lT]
  refine ⟨l,ys,rfl,.inl ⟨SO.of hl',λu hu=>?_⟩⟩;have nu:u≠t:=λz=>by rw [z,tt] at hu;cases hu
  have se:Tg K (upd G' u (.tup ys)) e [.str nm]:=(aV hu _).YB (bt.YB t6 (Tg.of aI));refine ⟨e,u,_,ys,rfl,rfl,se,Tg.of aI,(by simp),dB (by rw [R5];omega),λz=>?_,λ_ x hx=>?_⟩
  ·rw [z] at ly;simp at ly;omega
  ·obtain ⟨X,eX,ZP,dpX,szX⟩:=Eg (nm:=nm) (Ts:=Ts) (room:=room) (by omega) okTs (Y7.elim (λh=>.inl ⟨h.1,by omega⟩) (λh=>.inr ⟨h.1,by omega⟩));have nx:x≠t:=λz=>by rw [z,aS (PL nu),tt] at hx;cases hx
   have s8:=(aV hu (.tup ys)).trans (aV hx (.tup ([.str nm]++ys)));refine post _ _ X p' q' c' ((b7.trans bt).trans s8.but) (s8 _ _ tt) gp gc (by omega) ZP (.inr dpX) (by omega) ?_;rw [eX];exact Dat.tupI (Tg.of aI) (SG.cons (Dat.Tf _) (s8.SQ dT))
theorem jZ {b:Bool} (h:(!b)=true):b=false:=by cases b with | true=>cases h | false=>rfl
theorem gZ {b:Bool} (h:(!b)=false):b=true:=by cases b with | true=>rfl | false=>cases h
noncomputable def sgn (c:Nat):Bool:=(!decide (([c]:List Nat) < ("a":Str).cps.toList)) && !decide (("z":Str).cps.toList < ([c]:List Nat))
noncomputable def lE:D->Bool
 | .str x=>(decide (1<=(x.length:Int)) && decide ((x.length:Int)<=8)) && (x.cps.toList.map sgn).all id
 | _=>false
def Gn:D->Prop
 | .str x=>x.length<=sizeLine
 | _=>True
def B6 (ds:List D) (d:D):Prop:=∃ x,ds=[x]/\Gn x/\d=.bl (lE x)
theorem yG {x:D} (h:∀ y,x≠.str y):pB x "str"=false:=by
 cases x with
 | str y=>exact absurd rfl (h y)
 | _=>rfl
theorem C3 {x:D} (h:∀ y,x≠.str y):lE x=false:=by
 cases x with
 | str y=>exact absurd rfl (h y)
 | _=>rfl
theorem yQ (T:Txt P w K mg)  : Ok P w base (k+1) T.MY (Th K B6):=by
 refine T.MY.f.ok XD (λvs H Q E h=>?_) (λcdv A outer s H vs Q E hr h=>?_)
 ·obtain ⟨ds,d,hd,⟨x,rfl,_⟩,_⟩:=h;exact hd.length.symm
 have nd:=XD.nd;obtain ⟨ds,d,hd,⟨x,rfl,hx,rfl⟩,post⟩:=h;obtain ⟨v0,rfl,h0⟩:=ji hd;refine ⟨_,(aE (bE (PW.pt (fH (cW (bR (aX (gC CO) rfl T.J4 cY (dE (pv 0) (dE (iB (v:=.ty "str") rfl T.OP Cj rfl) aC))) (λ_=>rfl))) (eR (cW (nE jV jV aF (aX um rfl T.JY bU (aD (pv 0) aC)) (bT (v:=.int 8) rfl T.KC ⟨_,rfl⟩)))))) (aH (aP d8)) aQ)
 (aH (aP (aX (jC rfl) rfl T.Nv mN (aD (eV (own:=["sign"]) (fr:=[]) (N':=["sign"]) (HS (pv 0)) rfl (by show dS ["thing"] (λx=>(aK oG).names.lookup x) _ _ _ _=true;decide +kernel) rfl (λ_ _ _ _ _=>(a7 (i:=0) (by show List.Nodup [("sign":Str)];decide +kernel) rfl (Or.inl rfl))) (λ_ _ _ _ _=>c7) (λ_ _ _ _ _=>(xI Do Do aO (pv 0) aO))) aC))))),?_⟩
 by_cases hs:∃ y,x=.str y
 ·obtain ⟨y,rfl⟩:=hs;have hx:y.length<=sizeLine:=hx;refine aR (K:=K) (b:=!(decide (1<=(y.length:Int)) && decide ((y.length:Int)<=8))) ?_ (λc H1 s1=>?_) (λc H1 s1=>?_)
  ·exact RT.as (dP (bZ (bO (dC (aA h0)))) λ_=>bZ (aJ (lK (p:=λi j=>decide (i<=j)) (r:=λi j=>decide (i<=j)) aG (FJ (aA h0) hx) λ_=>aG))) rfl
  ·refine bJ (K:=K) (d:=.bl (lE (.str y))) ?_ λv H' s q=>post v H' (s1.trans s) q
   have e:lE (.str y)=false:=by show (_ && _)=false;have c':=jZ c;rw [c',Rl]
   rw [e];exact f7
  ·have c':=gZ c
   have hy:y.cps.size<=8:=by rw [Px] at c';have:=Po c'.2;have e:y.length=y.cps.size:=rfl;omega
   refine bJ (K:=K) (d:=.bl (lE (.str y))) ?_ λv H' s q=>post v H' (s1.trans s) q
   have e:lE (.str y)=(y.cps.toList.map sgn).all id:=by show (_ && _)=_;rw [c',QH]
   rw [e];refine me (bs:=y.cps.toList.map sgn) (Ia (aA (s1.dat h0)) (by omega) _ (by simp) rfl (λH2 i c d s2 hc hd2=>?_));rw [Pr,Pr] at hd2;have hc':y.cps.toList[i]?=some c:=by simpa using hc
   rw [hc'] at hd2;cases hd2;refine RE.as (BD (p:=λi j=>!decide (j.cps.toList < i.cps.toList)) (q':=λi j=>!decide (j.cps.toList < i.cps.toList)) aL (aA (Dat.Tf _)) λ_=>aL) rfl
 ·have hs':∀ y,x≠.str y:=λy e=>hs ⟨y,e⟩;refine aR (K:=K) (b:=true) ?_ (λc H1 s1=>?_) (λc=>nomatch c)
  ·exact RT.as (dP (b:=true) (c:=true) (RT.as (bZ (bO (dC (aA h0)))) (by rw [yG hs'];rfl)) λc=>nomatch c) rfl
  ·refine bJ (K:=K) (d:=.bl (lE x)) ?_ λv H' s q=>post v H' (s1.trans s) q;rw [C3 hs'];exact f7
theorem GT:∀ p ∈ TM,∃ i,p.2=.flat (.int i):=by intro p hp;simp only [TM,Py,P8,Qx] at hp;rcases hp with rfl | rfl | rfl <;> exact ⟨_,rfl⟩
noncomputable def gL:D->Bool
 | .tup (.str k::r)=>decide ((r.length:Int)+1=j9 k TM 0) && (dM (r.getD 0 .SM) 0 1 && (!decide (k="gap") || dM (r.getD 1 .SM) 0 9999))
 | _=>false
theorem lq (k:Str) (r:List D):gL (.tup (.str k::r))=(decide ((r.length:Int)+1=j9 k TM 0) && (dM (r.getD 0 .SM) 0 1 && (!decide (k="gap") || dM (r.getD 1 .SM) 0 9999))):=rfl
def Gb (ds:List D) (d:D):Prop:=∃ x,ds=[x]/\d=.bl (gL x)
theorem xn (k:Str):j9 k TM 0=0\/j9 k TM 0=2\/(k="gap"/\j9 k TM 0=3):=by
 unfold j9;by_cases h1:k="hole"
 ·subst h1;exact .inr (.inl rfl)
 by_cases h2:k="gap"
 ·subst h2;exact .inr (.inr ⟨rfl,rfl⟩)
 by_cases h3:k="slot"
 ·subst h3;exact .inr (.inl rfl)
 have e:KTD.datumAt k TM=none:=by simp [TM,KTD.datumAt,h1,h2,h3]
 rw [e];exact .inl rfl
theorem Iw {x:D} (h:f9 x=false):gL x=false:=by
 unfold f9 at h;unfold gL;split at h
 ·cases h
 ·rename_i hn
  first
   | rfl
   | (split
      ·rename_i k r;exact absurd rfl (hn k r)
      ·rfl)
theorem yP (T:Txt P w K mg) (LJ:Ok P w base k T.KF (Th K pJ)) (JX:Ok P w base k T.JV (Th K fW)):Ok P w base (k+1) T.MX (Th K Gb):=by
 refine T.MX.f.ok XE (λvs H Q E h=>?_) (λcdv A outer s H vs Q E hr h=>?_)
 ·obtain ⟨ds,d,hd,⟨x,rfl,rfl⟩,_⟩:=h;exact hd.length.symm
 have nd:=XE.nd;obtain ⟨ds,d,hd,⟨x,rfl,rfl⟩,post⟩:=h;obtain ⟨v0,rfl,h0⟩:=ji hd;refine ⟨_,(aE (bE (PW.pt (fH (cW (bR (pc (D:=T.KF) LJ hr (aD (pv 0) aC)) (λ_=>rfl))) (eR (aN lI (aX aW rfl T.JY bU (aD (pv 0) aC)) (tL (bT (v:=.ref T.Ki) rfl T.Kc rfl) (aY aZ (pv 0) aF) aF ⟨rfl,rfl,rfl,rfl⟩) (aT _))))) (aH (aP d8)) aQ)
 (aE (bE (cW (bR (pc (D:=T.JV) JX hr (aD (aY aZ (pv 0) aF) (aD aF (aD aF aC)))) (λ_=>rfl))) (aH (aP d8)) aQ)
 (aH (aP (Ds (eU lI (aY aZ (pv 0) aF) aO (aT _)) (jI (pc (D:=T.JV) JX hr (aD (aY aZ (pv 0) aF) (aD aF (aD (bT (v:=.int 9999) rfl T.Ly ⟨_,rfl⟩) aC)))))))))),?_⟩
 cases ht:f9 x with
 | false =>
  refine aR (K:=K) (b:=true) ?_ (λc H1 s1=>?_) (λc=>nomatch c)
  ·exact RT.as (dP (b:=true) (c:=true) (RT.as (bZ (bO (bM (aB (aA h0) aM) ⟨x,rfl,rfl⟩))) (by rw [ht];rfl)) λc=>nomatch c) rfl
  ·refine bJ (K:=K) (d:=.bl (gL x)) ?_ λv H' s q=>post v H' (s1.trans s) q;rw [Iw ht];exact f7
 | true =>
  have ht':=ht;unfold f9 at ht';split at ht'
  ·rename_i kd r;have el:((((D.str kd)::r).length:Nat):Int)=(r.length:Int)+1:=by rw [Pp];omega
   refine aR (K:=K) (b:=!decide ((r.length:Int)+1=j9 kd TM 0)) ?_ (λc H1 s1=>?_) (λc H1 s1=>?_)
   ·have b1:=kI (K:=K) (fL (aA (σ:=start ["thing"] [v0]) (k:=0) h0)) (tN (i:=0) T.JZ (a6 (k:=0) (aA (σ:=start ["thing"] [v0]) (k:=0) h0) aG rfl) aG GT);rw [el] at b1;exact RT.as (dP (b:=false) (RT.as (bZ (bO (bM (aB (aA h0) aM) ⟨_,rfl,rfl⟩))) (by rw [ht];rfl)) λ_=>aJ b1) (QC _)
   ·refine bJ (K:=K) (d:=.bl (gL (.tup (.str kd::r)))) ?_ λv H' s q=>post v H' (s1.trans s) q
    have e:gL (.tup (.str kd::r))=false:=by rw [lq];rw [show decide ((r.length:Int)+1=j9 kd TM 0)=false from jZ c,Rl]
    rw [e];exact f7
   ·have c':decide ((r.length:Int)+1=j9 kd TM 0)=true:=gZ c;have hl:=Po c';have h1:=s1.dat h0
    obtain ⟨y,r',er⟩:∃ y r',r=y::r':=by
     cases r with
     | nil=>rcases xn kd with h | h | ⟨_,h⟩ <;> (rw [h] at hl;simp at hl)
     | cons y r'=>exact ⟨y,r',rfl⟩
    subst er;refine aR (K:=K) (b:=!dM y 0 1) (bZ (bO (bM (R:=fW) (aB (a6 (k:=1) (aA h1) aG rfl) (aB aG (aB aG aM))) ⟨y,0,1,rfl,rfl⟩))) (λc2 H2 s2=>?_) (λc2 H2 s2=>?_)
    ·refine bJ (K:=K) (d:=.bl (gL (.tup (.str kd::y::r')))) ?_ λv H' s q=>post v H' (s1.trans (s2.trans s)) q
     have e:gL (.tup (.str kd::y::r'))=false:=by rw [lq,c',QH];show (dM y 0 1 && _)=false;rw [show dM y 0 1=false from jZ c2,Rl]
     rw [e];exact f7
    ·refine bJ (K:=K) (d:=.bl (gL (.tup (.str kd::y::r')))) ?_ λv H' s q=>post v H' (s1.trans (s2.trans s)) q;have h2:=s2.dat h1
     have e:gL (.tup (.str kd::y::r'))=(!decide (kd="gap") || dM (r'.getD 0 .SM) 0 9999):=by rw [lq,c',QH];show (dM y 0 1 && (!decide (kd="gap") || dM (r'.getD 0 .SM) 0 9999))=_;rw [show dM y 0 1=true from gZ c2,QH]
     rw [e];refine AG (vM (a6 (k:=0) (aA h2) aG rfl) aL) λc3=>?_;have hk:kd="gap":=by simpa using c3
     obtain ⟨z,er⟩:∃ z,r'=[z]:=by
      rcases xn kd with h | h | ⟨_,h⟩
      ·rw [h] at hl;simp at hl;omega
      ·rw [hk] at h;exact absurd h (by decide +kernel)
      ·rw [h] at hl
       match r',hl with
       | [z],_=>exact ⟨z,rfl⟩
       | [],h=>simp at h
       | _::_::_,h=>simp at h;omega
     subst er;exact bM (E:=E0) (R:=fW) (aB (a6 (k:=2) (aA h2) aG rfl) (aB aG (aB aG aM))) ⟨z,0,9999,rfl,rfl⟩
  ·cases ht'
noncomputable def m5:D->Bool
 | .tup (.str k::_)=>decide (k ∈ (["arg","pick"]:List Str))
 | _=>false
noncomputable def XR:Nat->D->Bool
 | 0,_=>false
 | n+1,d=>gL d || (fM d && (!m5 d && ((dQ d).map (XR n)).all id))
def Rpp (n:Nat) (ds:List D) (d:D):Prop:=∃ x,ds=[x,.int (4 - (n:Int))]/\d=.bl (XR n x)
def Gd:Nat->List D->D->Prop
 | 0=>λ_ _=>False
 | n+1=>Rpp n
theorem jG (T:Txt P w K mg) (OD:Ok P w base k T.MX (Th K Gb)) (Nn:Ok P w base k T.L8 (Th K B7)) (Kg:Ok P w base k T.J3 (Th K jl)) (Ln:Ok P w base k T.J6 (Th K (Gd n))):Ok P w base (k+1) T.J6 (Th K (Rpp n)):=by
 refine T.J6.f.ok UP (λvs H Q E h=>?_) (λcdv A outer s H vs Q E hr h=>?_)
 ·obtain ⟨ds,d,hd,⟨x,rfl,rfl⟩,_⟩:=h;exact hd.length.symm
 have nd:=UP.nd;obtain ⟨ds,d,hd,⟨x,rfl,rfl⟩,post⟩:=h;obtain ⟨v0,v1,rfl,h0,h1⟩:=i5 hd;refine ⟨_,(aE (bE (aN kl (pv 1) (bT (v:=.int 3) rfl T.J7 ⟨_,rfl⟩) (aT _)) (aH (aP d8)) aQ)
 (aE (bE (bR (pc (D:=T.MX) OD hr (aD (pv 0) aC)) (λ_=>rfl)) (aH (aP d8)) aQ)
 (aE (bE (PW.pt (fH (cW (bR (pc (D:=T.L8) Nn hr (aD (pv 0) aC)) (λ_=>rfl))) (eR (aN eO (aY aZ (pv 0) aF) (bA (aD aO (aD aO aC))) (by with_unfolding_all rfl))))) (aH (aP d8)) aQ)
 (aH (aP (aX (jC rfl) rfl T.Nv mN (aD (eV (own:=["within"]) (fr:=[1]) (N':=["within","deep"]) (kE (pc (D:=T.J3) Kg hr (aD (pv 0) aC))) rfl (by show dS ["thing","deep"] (λx=>(aK iE).names.lookup x) _ _ _ _=true;decide +kernel) rfl (λ_ _ _ _ _=>(a7 (i:=0) (by show List.Nodup [("within":Str),("deep":Str)];decide +kernel) rfl (Or.inl rfl))) (λ_ _ _ _ _=>c7) (λ_ _ _ _ _=>(pc (D:=T.J6) Ln hr (aD (pv 0) (aD (bL cJ (pv 1) aF) aC))))) aC))))))),?_⟩
 cases n with
 | zero =>refine aR (K:=K) (b:=true) (RT.as (aJ (cQ (p:=λi j=>decide (j < i)) (aA h1) aG)) rfl) (λc H1 s1=>?_) (λc=>nomatch c);exact bJ (K:=K) (d:=.bl false) f7 λv H' s q=>post v H' (s1.trans s) q
 | succ n =>
  refine aR (K:=K) (b:=false) (RT.as (aJ (cQ (p:=λi j=>decide (j < i)) (aA h1) aG)) (Pj (by omega))) (λc=>nomatch c) (λc H1 s1=>?_);have h0:=s1.dat h0;have h1:=s1.dat h1;refine aR (K:=K) (b:=gL x) (bO (bM (aB (aA h0) aM) ⟨x,rfl,rfl⟩)) (λc H2 s2=>?_) (λc H2 s2=>?_)
  ·refine bJ (K:=K) (d:=.bl true) f7 λv H' s q=>post v H' (s1.trans (s2.trans s)) ?_;have e:XR (n+1) x=true:=by unfold XR;rw [c];rfl
   rw [e];exact q
  have h0:=s2.dat h0;have h1:=s2.dat h1
  have e1:XR (n+1) x=(fM x && (!m5 x && ((dQ x).map (XR n)).all id)):=by show (gL x || _)=_;rw [c,QC]
  cases hn:fM x with
  | false =>refine aR (K:=K) (b:=true) (RT.as (dP (b:=true) (c:=true) (RT.as (bZ (bO (bM (aB (aA h0) aM) ⟨x,rfl,rfl⟩))) (by rw [hn];rfl)) λc=>nomatch c) rfl) (λc H3 s3=>?_) (λc=>nomatch c);refine bJ (K:=K) (d:=.bl false) f7 λv H' s q=>post v H' (s1.trans (s2.trans (s3.trans s))) ?_;rw [e1,hn];exact q
  | true =>
   obtain ⟨kd,r,ek⟩:=qR hn;have few:=qH hn;have h0':Dat K H2 (.tup (.str kd::r)) v0:=by rw [<- ek];exact h0
   refine aR (K:=K) (b:=m5 x) (RT.as (dP (b:=false) (RT.as (bZ (bO (bM (aB (aA h0) aM) ⟨x,rfl,rfl⟩))) (by rw [hn];rfl)) λ_=>aJ (j7 (ys:=["arg","pick"]) (a6 (k:=0) (aA h0') aG rfl) (bF (aB aL (aB aL aM))))) (by rw [ek];exact QC _)) (λc3 H3 s3=>?_) (λc3 H3 s3=>?_)
   ·refine bJ (K:=K) (d:=.bl false) f7 λv H' s q=>post v H' (s1.trans (s2.trans (s3.trans s))) ?_;rw [e1,hn,c3];exact q
   ·have h1:=s3.dat h1;refine bJ (K:=K) (d:=.bl (((dQ x).map (XR n)).all id)) (me (rn (cs:=dQ x) (bM (R:=jl) (aB (aA (s3.dat h0)) aM) ⟨kd,r,by rw [ek],by rw [ek]⟩) (by omega) _ (by simp) rfl (λH4 i z vz d s4 hz hi hvz=>?_))) λv H' s q=>post v H' (s1.trans (s2.trans (s3.trans s))) ?_
    ·rw [Pr,Pr,hz] at hi;cases hi;exact bM (E:=E0) (R:=Rpp n) (aB (aA hvz) (aB (RE.as (c8 (aA (s4.dat h1)) aG) (PZ D.int (by omega:(4:Int) - ((n+1:Nat):Int)+1=4 - (n:Int)))) aM)) ⟨z,rfl,rfl⟩
    ·rw [e1,hn,c3];exact q
noncomputable def nZ (k:Str):D->Bool
 | .tup (.str h::_)=>decide (h=k)
 | _=>false
noncomputable def d5:Nat->Str->D->List D
 | 0,_,_=>[]
 | n+1,k,d=>if nZ k d=true then [d] else (dQ d).flatMap (d5 n k)
def kU (n:Nat) (ds es:List D):Prop:=∃ x k,ds=[x,.str k]/\n<=3/\XR n x=true/\es=d5 n k x
theorem xo (h:gL d=true):∃ k r,d=.tup (.str k::r):=by
 unfold gL at h;split at h
 ·exact ⟨_,_,rfl⟩
 ·cases h
variable {r:List D}
theorem C2 {k:Str} (h:gL (.tup (.str k::r))=true):k="hole"\/k="gap"\/k="slot":=by
 rw [lq,Px] at h;have hl:=Po h.1;unfold j9 at hl;by_cases h1:k="hole"
 ·exact .inl h1
 by_cases h2:k="gap"
 ·exact .inr (.inl h2)
 by_cases h3:k="slot"
 ·exact .inr (.inr h3)
 have e:KTD.datumAt k TM=none:=by simp [TM,KTD.datumAt,h1,h2,h3]
 rw [e] at hl;dsimp only at hl;omega
theorem rT {k:Str} (h:k="hole"\/k="gap"\/k="slot"):KTD.inKeys k TB=false/\KTD.inKeys k TL=false:=by rcases h with rfl | rfl | rfl <;> decide +kernel
theorem Bj (h:gL d=true):dQ d=[]:=by obtain ⟨k,r,rfl⟩:=xo h;exact oh (rT (C2 h)).1
theorem yY (h:XR n d=true):∃ k r,d=.tup (.str k::r):=by
 cases n with
 | zero=>cases h
 | succ n =>
  have h':(gL d || (fM d && (!m5 d && ((dQ d).map (XR n)).all id)))=true:=h;rw [Bool.or_eq_true] at h';rcases h' with h' | h'
  ·exact xo h'
  ·rw [Px] at h';exact qR h'.1
theorem vG (h:XR (n+1) d=true):(dQ d).length<=3/\∀ c ∈ dQ d,XR n c=true:=by
 have h':(gL d || (fM d && (!m5 d && ((dQ d).map (XR n)).all id)))=true:=h;rw [Bool.or_eq_true] at h';rcases h' with h' | h'
 ·rw [Bj h'];exact ⟨by simp,λc hc=>absurd hc (by simp)⟩
 ·rw [Px,Px] at h';refine ⟨qH h'.1,λc hc=>?_⟩;have z:=QF.mp h'.2.2 (XR n c) (Qz.mpr ⟨c,hc,rfl⟩);exact z
theorem zZ {α β:Type} (f:α->List β) (m:Nat):∀ l:List α,(∀ x ∈ l,(f x).length<=m)->(l.flatMap f).length<=l.length * m
 | [],_=>by simp
 | x::l,h=>by have h1:=h x (by simp);have h2:=zZ f m l λy hy=>h y (by simp [hy]);rw [List.flatMap_cons,tB,Pp,Nat.succ_mul];omega
theorem qM (k:Str):∀ (n:Nat) (d:D),XR n d=true->(d5 n k d).length<=3 ^ n
 | 0,d,h=>by cases h
 | n+1,d,h=>by
  unfold d5;split
  ·have:1<=3 ^ (n+1):=Nat.one_le_iff_ne_zero.mpr (by simp);simpa using this
  ·obtain ⟨h1,h2⟩:=vG h;have z:=zZ (d5 n k) (3 ^ n) (dQ d) λc hc=>qM k n c (h2 c hc);have z2:(dQ d).length * 3 ^ n<=3 * 3 ^ n:=Nat.mul_le_mul_right _ h1;rw [Sd,Nat.mul_comm (3 ^ n) 3];omega
theorem p3 (h:n<=3):3 ^ n<=27:=by
 match n,h with
 | 0,_=>decide
 | 1,_=>decide
 | 2,_=>decide
 | 3,_=>decide
theorem xE (T:Txt P w K mg) (Kg:Ok P w base k T.J3 (Th K jl)) (L9:Ok P w base k T.KH (kL K (kU n))):Ok P w base (k+1) T.KH (kL K (kU (n+1))):=by
 refine T.KH.f.ok Xh (λvs H Q E h=>?_) (λcdv A outer s H vs Q E hr h=>?_)
 ·obtain ⟨ds,es,hd,⟨x,kk,rfl,_⟩,_⟩:=h;exact hd.length.symm
 have nd:=Xh.nd;obtain ⟨ds,es,hd,⟨x,kk,rfl,hn3,hp,rfl⟩,post⟩:=h;obtain ⟨v0,v1,rfl,h0,h1⟩:=i5 hd;refine ⟨_,(aE (bE (aN bV (aY aZ (pv 0) aF) (pv 1) (aT _)) (aH (aP (bY (aD (pv 0) aC)))) aQ)
 (aE (bQ (i:=2) nd rfl (Or.inl rfl) (bY aC))
 (aE (jK Qt rfl (kE (pc (D:=T.J3) Kg hr (aD (pv 0) aC))) (a7 (i:=3) nd rfl (Or.inl rfl)) (aH (bP (fF PD Q8 Ru ki (pv 2) (aD (pc (D:=T.KH) L9 hr (aD (pv 3) (aD (pv 1) aC))) aC)))))
 (aH (aP (pv 2)))))),?_⟩
 obtain ⟨kd,r,ek⟩:=yY hp;have h0':Dat K H (.tup (.str kd::r)) v0:=by rw [<- ek];exact h0
 have eh:nZ kk x=decide (kd=kk):=by rw [ek];rfl
 obtain ⟨few,kok⟩:=vG hp;have cap:=qM kk (n+1) x hp;have cap3:=p3 hn3;refine aR (K:=K) (b:=nZ kk x) (RT.as (aJ (bI (a6 (k:=0) (aA h0') aG rfl) (aA h1))) eh.symm) (λc H1 s1=>?_) (λc H1 s1=>?_)
 ·refine jO ((iC (K:=K) (es:=[x]) (aB (aA (s1.dat h0)) aM)).use λl ys H2 hl s2 hy hd2=>?_);refine post l ys H2 (s1.trans s2) hy (s1.free hl) ?_;unfold d5;rw [Ph c];exact hd2
 have em:d5 (n+1) kk x=(dQ x).flatMap (d5 n kk):=by show (if nZ kk x=true then _ else _)=_;rw [M1 (by rw [c];exact Pk)]
 rw [em] at cap post;have h0:=s1.dat h0;have h1:=s1.dat h1;have hk1:=h1.S3;refine gY (K:=K) (es:=[]) (iC aM) λwl ys0 H2 hw s2 hy0 hd0=>?_;have hw0:H wl=none:=s1.free hw;refine eB (RE.use (bM (R:=jl) (d:=.tup (dQ x)) (aB (aA (K:=K) (k:=0) (s2.dat h0)) aM) ⟨kd,r,by rw [ek],by rw [ek]⟩) λv4 H4 s4 q4=>?_);obtain ⟨a,vs,ea,hq,hds⟩:=q4.S7;subst ea;have hl:=hds.length;refine ⟨a,rfl,⟨vs,hq⟩,Ab (xs:=vs) (λi σ G=>∃ (z:Option V) (ys:List V),σ=[some v0,some v1,some (.ref wl),z]/\SH H G/\Tg K G a vs/\SG K G (dQ x) vs/\G wl=some (.lst ys)/\SG K G (((dQ x).take i).flatMap (d5 n kk)) ys) ?_ (λi σ G _ ⟨z,ys,_,_,p,_⟩=>p) ?_ ?_⟩
 ·exact ⟨none,ys0,rfl,s1.trans (s2.trans s4),hq,hds,s4 _ _ hy0,s4.SQ hd0⟩
 ·rintro i vx σ G hi ⟨z,ys,rfl,sG,hqG,Zf,YE,ZD⟩;obtain ⟨dx,ex,hx⟩:=Zf.Wb hi;have hpx:=kok dx (PJ ex);subst hk1;refine ⟨_,rfl,.inl ⟨rfl,_,SO.of YE⟩,_,rfl,_,rfl,[dx,.str kk],_,(SG.cons hx (SG.cons (Dat.Tf _) SG.nil):SG K G [dx,.str kk] [vx,.str kk]),⟨dx,kk,rfl,by omega,hpx,rfl⟩,λr us H5 s5 hr5 _ hd5=>?_⟩;have hw5:=s5 _ _ YE;have b6:S4 wl H5 (upd H5 wl (.lst (ys++us))):=S4.upd (SH.refl H5).but;have g6:gA K H5 (upd H5 wl (.lst (ys++us))):=b6.grow hw5 aI
  have et:((dQ x).take (i+1)).flatMap (d5 n kk)=((dQ x).take i).flatMap (d5 n kk)++d5 n kk dx:=by rw [Qo,ex];simp
  have lt:(((dQ x).take (i+1)).flatMap (d5 n kk)).length<=27:=by
   have e2:((dQ x).take (i+1)).flatMap (d5 n kk)++((dQ x).drop (i+1)).flatMap (d5 n kk)=(dQ x).flatMap (d5 n kk):=by rw [<- List.flatMap_append,RG]
   have:=PZ List.length e2;rw [tB] at this;omega
  have ly:=ZD.length;have lu:=hd5.length;rw [et,tB] at lt;refine ⟨wl,r,ys,us,rfl,rfl,hw5,hr5,dB (by omega),some vx,ys++us,rfl,λb o hb=>b6 b o (aU hb hw0) (s5 _ _ (sG _ _ hb)),g6.tup _ _ (s5.YB hqG),SG.mono g6 _ (s5.SQ Zf),aI,?_⟩;rw [et];exact SG.append (SG.mono g6 _ (s5.SQ ZD)) (SG.mono g6 _ hd5)
 ·rintro σ G ⟨z,ys,rfl,sG,hqG,Zf,YE,ZD⟩;refine ⟨_,rfl,post wl ys G sG YE hw0 ?_⟩;rw [<- hl,QI] at ZD;exact ZD
noncomputable def Il:D->D
 | .tup (_::y::_)=>y
 | _=>.SM
theorem yK {k:Str} (h:gL (.tup (.str k::r))=true):∃ i r',r=.int i::r':=by
 rw [lq,Px,Px] at h;have hw:=h.2.1
 cases r with
 | nil=>cases hw
 | cons y r' =>
  have hw':dM y 0 1=true:=hw
  cases y with
  | int i=>exact ⟨i,r',rfl⟩
  | _=>cases hw'
theorem lA {k:Str} (hk:k="hole"\/k="gap"\/k="slot"):∀ (n:Nat) (x m:D),XR n x=true->m ∈ d5 n k x->∃ i r,m=.tup (.str k::.int i::r)
 | 0,x,m,h,_=>by cases h
 | n+1,x,m,h,hm=>by
  unfold d5 at hm;split at hm
  ·rename_i hh;have e:m=x:=by simpa using hm
   subst e;obtain ⟨k',r,rfl⟩:=yY h;have ek:k'=k:=Po hh;subst ek;have h':(gL (.tup (.str k'::r)) || (fM (.tup (.str k'::r)) && _))=true:=h;rw [Bool.or_eq_true] at h';rcases h' with h' | h'
   ·obtain ⟨i,r',rfl⟩:=yK h';exact ⟨i,r',rfl⟩
   ·rw [Px] at h';have z:=h'.1;rw [qP (rT hk).2,(rT hk).1,Rl] at z;cases z
  ·obtain ⟨c,hc,hm'⟩:=List.mem_flatMap.mp hm;exact lA hk n c m ((vG h).2 c hc) hm'
noncomputable def Fg (k:Str) (x:D):Bool:=Td ((d5 3 k x).map Il) ((List.range (d5 3 k x).length).map λi:Nat=>D.int i)
def GN (ds:List D) (d:D):Prop:=∃ x k,ds=[x,.str k]/\XR 3 x=true/\(k="hole"\/k="gap"\/k="slot")/\d=.bl (Fg k x)
variable {σ:L2.St} {l:Addr} {ys:List V}
theorem pQ {K:W.Frag} {k:Nat} (hl:H l=some (.lst ys)) (e:σ[k]?=some (some (.ref l)):=by rfl):RE K (Xy (λxs H Q=>∃ p ys,xs=[.ref p]/\(SO K H p ys\/Tg K H p ys)/\Q (.int ys.length) H) (bW (fT k) dW)) σ H (.int ys.length):=λH1 s Q q =>
 ⟨.ref l,e,l,ys,rfl,.inl (SO.of (s _ _ hl)),q _ _ (SH.refl _) (Dat.SK _)⟩
theorem qO {l:List D} (h:∀ d ∈ l,∃ i,d=.int i):Ti l=true/\SW l=0:=by
 induction l with
 | nil=>exact ⟨by unfold Ti;rfl,by unfold SW;rfl⟩
 | cons d l ih =>
  obtain ⟨i,rfl⟩:=h d (by simp);obtain ⟨h1,h2⟩:=ih λd hd=>h d (by simp [hd]);refine ⟨?_,?_⟩
  ·unfold Ti;rw [h1];unfold UK;rfl
  ·unfold SW;rw [h2];unfold gT;rfl
theorem qX (T:Txt P w K mg) (L9:Ok P w base k T.KH (kL K (kU 3))):Ok P w base (k+1) T.LH (Th K GN):=by
 refine T.LH.f.ok V0 (λvs H Q E h=>?_) (λcdv A outer s H vs Q E hr h=>?_)
 ·obtain ⟨ds,d,hd,⟨x,kk,rfl,_⟩,_⟩:=h;exact hd.length.symm
 have nd:=V0.nd;obtain ⟨ds,d,hd,⟨x,kk,rfl,hp,hk,rfl⟩,post⟩:=h;obtain ⟨v0,v1,rfl,h0,h1⟩:=i5 hd;refine ⟨_,(aE (jL (i:=2) (own:=["mark"]) (fr:=[]) (N':=["mark"]) (gJ (pc (D:=T.KH) L9 hr (aD (pv 0) (aD (pv 1) aC)))) rfl (by show dS ["pattern","kind","numbers"] (λx=>(aK j8).names.lookup x) _ _ _ _=true;decide +kernel) rfl (λ_ _ _ _ _=>(a7 (i:=0) (by show List.Nodup [("mark":Str)];decide +kernel) rfl (Or.inl rfl))) (λ_ _ _ _ _=>c7) (λ_ _ _ _ _=>(aY (r:=sD K) aZ (pv 0) aF)) nd rfl rfl rfl)
 (aH (aP (eU (vA hr) (pv 2) (eP (r9 rfl) rfl T.NJ pK (aD (eP Cp rfl T.MF Ci (aD (aX aW rfl T.JY bU (aD (pv 2) aC)) aC)) aC)) (aT _))))),?_⟩
 have cap:=qM kk 3 x hp;refine gY (K:=K) (es:=(d5 3 kk x).map Il) (FE (cs:=d5 3 kk x) (nG (R:=kU 3) (aB (aA h0) (aB (aA h1) aM)) ⟨x,kk,rfl,by decide,hp,rfl⟩) (Qd cap (by decide)) _ (by simp) rfl (λH1 i c v d s1 hc hi hv=>?_)) λl ys H2 hl s2 hy hd2=>?_
 ·rw [Pr,hc] at hi;cases hi;obtain ⟨j,r,rfl⟩:=lA hk 3 x c hp (PJ hc);exact a6 (k:=1) (aA hv) aG rfl
 have ll:=hd2.length;rw [Pd] at ll;refine ⟨_,rfl,(vI (K:=K) (n:=ys.length) (pQ (k:=2) hy) (by rw [<- ll];exact Qd cap (by decide))).use λl2 ys2 H3 hl2 s3 hy3 hd3=>?_⟩
 have i1:∀ d ∈ (d5 3 kk x).map Il,∃ i,d=.int i:=λd hdm=>by obtain ⟨m,hm,rfl⟩:=Qz.mp hdm;obtain ⟨j,r,rfl⟩:=lA hk 3 x m hp hm;exact ⟨j,rfl⟩
 have i2:∀ d ∈ (List.range ys.length).map (λi:Nat=>D.int i),∃ i,d=.int i:=λd hdm=>by obtain ⟨m,hm,rfl⟩:=Qz.mp hdm;exact ⟨_,rfl⟩
 refine ⟨l,l2,ys,ys2,_,_,rfl,rfl,SO.of (s3 _ _ hy),SO.of hy3,s3.SQ hd2,hd3,(qO i1).1,(qO i2).1,by rw [(qO i1).2];decide,?_⟩;refine post _ _ (s2.trans s3) ?_;unfold Fg;rw [ll];exact Dat.VW _
noncomputable def vE (x:D):Bool:=XR 3 x && (!nZ "hole" x && ((["hole","gap","slot"]:List Str).map λk=>Fg k x).all id)
def GO (ds:List D) (d:D):Prop:=∃ x,ds=[x]/\d=.bl (vE x)
theorem sy (T:Txt P w K mg) (Ln:Ok P w base k T.J6 (Th K (Rpp 3))) (NS:Ok P w base k T.LH (Th K GN)):Ok P w base (k+1) T.L4 (Th K GO):=by
 refine T.L4.f.ok Wd (λvs H Q E h=>?_) (λcdv A outer s H vs Q E hr h=>?_)
 ·obtain ⟨ds,d,hd,⟨x,rfl,rfl⟩,_⟩:=h;exact hd.length.symm
 have nd:=Wd.nd;obtain ⟨ds,d,hd,⟨x,rfl,rfl⟩,post⟩:=h;obtain ⟨v0,rfl,h0⟩:=ji hd;refine ⟨_,(aE (bE (PW.pt (fH (cW (bR (pc (D:=T.J6) Ln hr (aD (pv 0) (aD aF aC))) (λ_=>rfl))) (eR (aN bV (aY aZ (pv 0) aF) aO (aT _))))) (aH (aP d8)) aQ)
 (aH (aP (aX (jC rfl) rfl T.Nv mN (aD (eV (own:=["kind"]) (fr:=[0]) (N':=["kind","thing"]) (HU (bT (v:=.ref T.Ki) rfl T.Kc rfl)) rfl (by show dS ["thing"] (λx=>(aK kK).names.lookup x) _ _ _ _=true;decide +kernel) rfl (λ_ _ _ _ _=>(a7 (i:=0) (by show List.Nodup [("kind":Str),("thing":Str)];decide +kernel) rfl (Or.inl rfl))) (λ_ _ _ _ _=>c7) (λ_ _ _ _ _=>(pc (D:=T.LH) NS hr (aD (pv 1) (aD (pv 0) aC))))) aC))))),?_⟩
 cases hp:XR 3 x with
 | false =>refine aR (K:=K) (b:=true) (RT.as (dP (b:=true) (c:=true) (RT.as (bZ (bO (bM (R:=Rpp 3) (aB (aA h0) (aB aG aM)) ⟨x,rfl,rfl⟩))) (by rw [hp];rfl)) λc=>nomatch c) rfl) (λc H3 s3=>?_) (λc=>nomatch c);refine bJ (K:=K) (d:=.bl false) f7 λv H' s q=>post v H' (s3.trans s) ?_;unfold vE;rw [hp];exact q
 | true =>
  obtain ⟨kd,r,ek⟩:=yY hp;have h0':Dat K H (.tup (.str kd::r)) v0:=by rw [<- ek];exact h0
  refine aR (K:=K) (b:=nZ "hole" x) (RT.as (dP (b:=false) (RT.as (bZ (bO (bM (R:=Rpp 3) (aB (aA h0) (aB aG aM)) ⟨x,rfl,rfl⟩))) (by rw [hp];rfl)) λ_=>aJ (bI (a6 (k:=0) (aA h0') aG rfl) aL)) (by rw [ek];exact QC _)) (λc H1 s1=>?_) (λc H1 s1=>?_)
  ·refine bJ (K:=K) (d:=.bl false) f7 λv H' s q=>post v H' (s1.trans s) ?_;unfold vE;rw [hp,c];exact q
  ·refine bJ (K:=K) (d:=.bl (((["hole","gap","slot"]:List Str).map λk=>Fg k x).all id)) (me (Ib T.MO (by decide) _ rfl rfl (λH2 i kk d s2 hk hi=>?_))) λv H' s q=>post v H' (s1.trans s) ?_
   ·rw [Pr,Pr,hk] at hi;cases hi;refine bM (E:=E0) (R:=GN) (aB (aA (s2.dat (s1.dat h0))) (aB (aA (Dat.Tf kk)) aM)) ⟨x,kk,rfl,hp,?_,rfl⟩;have:=PJ hk;simpa using this
   ·unfold vE;rw [hp,c];exact q
noncomputable def t7 (k:Str) (T:List (Str × KTD.Dat)):Str:=match KTD.datumAt k T with | some (.flat (.str z))=>z | _=>""
theorem GR {k:Str} (h:KTD.inKeys k TF=true):KTD.datumAt k TF=some (.flat (.str (t7 k TF))):=by
 unfold t7;by_cases h1:k="low"
 ·subst h1;rfl
 by_cases h2:k="high"
 ·subst h2;rfl
 by_cases h3:k="arg"
 ·subst h3;rfl
 have e:KTD.inKeys k TF=false:=by simp [TF,KTD.inKeys,h1,h2,h3]
 rw [e] at h;cases h
noncomputable def qu (p:D):D->Bool
 | .tup (.str k::r)=>decide ((r.length:Int)+1=2) && (KTD.inKeys k TF && dM (r.getD 0 .SM) 0 (((d5 3 (t7 k TF) p).length:Int) - 1))
 | _=>false
theorem wV (p:D) (k:Str) (r:List D):qu p (.tup (.str k::r))=(decide ((r.length:Int)+1=2) && (KTD.inKeys k TF && dM (r.getD 0 .SM) 0 (((d5 3 (t7 k TF) p).length:Int) - 1))):=rfl
def B4 (ds:List D) (d:D):Prop:=∃ x p,ds=[x,p]/\XR 3 p=true/\d=.bl (qu p x)
theorem ET {p x:D} (h:f9 x=false):qu p x=false:=by
 unfold f9 at h;unfold qu;split at h
 ·cases h
 ·rename_i hn
  first
   | rfl
   | (split
      ·rename_i k r;exact absurd rfl (hn k r)
      ·rfl)
theorem sv (T:Txt P w K mg) (LJ:Ok P w base k T.KF (Th K pJ)) (L9:Ok P w base k T.KH (kL K (kU 3))) (JX:Ok P w base k T.JV (Th K fW)):Ok P w base (k+1) T.L3 (Th K B4):=by
 refine T.L3.f.ok We (λvs H Q E h=>?_) (λcdv A outer s H vs Q E hr h=>?_)
 ·obtain ⟨ds,d,hd,⟨x,p,rfl,_⟩,_⟩:=h;exact hd.length.symm
 have nd:=We.nd;obtain ⟨ds,d,hd,⟨x,p,rfl,hp,rfl⟩,post⟩:=h;obtain ⟨v0,v1,rfl,h0,h1⟩:=i5 hd;refine ⟨_,(aE (bE (PW.pt (fH (cW (bR (pc (D:=T.KF) LJ hr (aD (pv 0) aC)) (λ_=>rfl))) (fH (aN lI (aX aW rfl T.JY bU (aD (pv 0) aC)) aF (aT _)) (eR (aN xG (aY aZ (pv 0) aF) (bT (v:=.ref T.K5) rfl T.Ks rfl) (by with_unfolding_all rfl)))))) (aH (aP d8)) aQ)
 (aH (aP (pc (D:=T.JV) JX hr (aD (aY aZ (pv 0) aF) (aD aF (aD (bL oy (aX aW rfl T.JY bU (aD (pc (D:=T.KH) L9 hr (aD (pv 1) (aD (aY E8 (bT (v:=.ref T.K5) rfl T.Ks rfl) (aY aZ (pv 0) aF)) aC))) aC)) aF) aC))))))),?_⟩
 cases ht:f9 x with
 | false =>
  refine aR (K:=K) (b:=true) ?_ (λc H1 s1=>?_) (λc=>nomatch c)
  ·exact RT.as (dP (b:=true) (c:=true) (RT.as (bZ (bO (bM (aB (aA h0) aM) ⟨x,rfl,rfl⟩))) (by rw [ht];rfl)) λc=>nomatch c) rfl
  ·refine bJ (K:=K) (d:=.bl (qu p x)) ?_ λv H' s q=>post v H' (s1.trans s) q;rw [ET ht];exact f7
 | true =>
  have ht':=ht;unfold f9 at ht';split at ht'
  ·rename_i kd r;have el:((((D.str kd)::r).length:Nat):Int)=(r.length:Int)+1:=by rw [Pp];omega
   have b1:=kI (K:=K) (fL (aA (σ:=start ["thing","pattern"] [v0,v1]) (k:=0) h0)) (aG (i:=2));rw [el] at b1;refine aR (K:=K) (b:=!decide ((r.length:Int)+1=2) || !KTD.inKeys kd TF) (RT.as (dP (b:=false) (RT.as (bZ (bO (bM (aB (aA h0) aM) ⟨_,rfl,rfl⟩))) (by rw [ht];rfl)) λ_=>dP (aJ b1) λ_=>aJ (xU (a6 (k:=0) (aA h0) aG rfl) T.Kt)) (QC _)) (λc H1 s1=>?_) (λc H1 s1=>?_)
   ·refine bJ (K:=K) (d:=.bl false) f7 λv H' s q=>post v H' (s1.trans s) ?_
    have e:qu p (.tup (.str kd::r))=false:=by
     rw [wV]
     cases h2:decide ((r.length:Int)+1=2) with
     | false=>rfl
     | true =>rw [h2] at c;have h3:KTD.inKeys kd TF=false:=jZ c;rw [h3];rfl
    rw [e];exact q
   ·rw [QG] at c;have c1:=gZ c.1;have c2:=gZ c.2
    obtain ⟨y,er⟩:∃ y,r=[y]:=by
     match r,Po c1 with
     | [],h=>simp at h
     | [y],_=>exact ⟨y,rfl⟩
     | _::_::_,h=>simp at h;omega
    subst er;have h0:=s1.dat h0;have h1:=s1.dat h1;refine bJ (K:=K) (d:=.bl (dM y 0 (((d5 3 (t7 kd TF) p).length:Int) - 1))) (bM (R:=fW) (aB (a6 (k:=1) (aA h0) aG rfl) (aB aG (aB (vN (FI (nG (R:=kU 3) (aB (aA h1) (aB (BF (a6 (k:=0) (aA h0) aG rfl) T.Kt (by rfl) (GR c2)) aM)) ⟨p,t7 kd TF,rfl,by decide,hp,rfl⟩)) aG) aM))) ⟨y,0,_,rfl,rfl⟩) λv H' s q=>post v H' (s1.trans s) ?_;rw [wV,c1,c2];exact q
  ·cases ht'
noncomputable def wM (p x:D):Bool:=dM x 0 99 || qu p x
def B3 (ds:List D) (d:D):Prop:=∃ x p,ds=[x,p]/\XR 3 p=true/\d=.bl (wM p x)
theorem yN (T:Txt P w K mg) (JX:Ok P w base k T.JV (Th K fW)) (NX:Ok P w base k T.L3 (Th K B4)):Ok P w base (k+1) T.MW (Th K B3):=by
 refine T.MW.f.ok XF (λvs H Q E h=>?_) (λcdv A outer s H vs Q E hr h=>?_)
 ·obtain ⟨ds,d,hd,⟨x,p,rfl,_⟩,_⟩:=h;exact hd.length.symm
 have nd:=XF.nd;obtain ⟨ds,d,hd,⟨x,p,rfl,hp,rfl⟩,post⟩:=h;obtain ⟨v0,v1,rfl,h0,h1⟩:=i5 hd;refine ⟨_,(aH (aP (Ds (pc (D:=T.JV) JX hr (aD (pv 0) (aD aF (aD (bT (v:=.int 99) rfl T.KD ⟨_,rfl⟩) aC)))) (jI (pc (D:=T.L3) NX hr (aD (pv 0) (aD (pv 1) aC))))))),?_⟩;exact bJ (K:=K) (d:=.bl (wM p x)) (AG (bM (R:=fW) (aB (aA h0) (aB aG (aB aG aM))) ⟨x,0,99,rfl,rfl⟩) λ_=>bM (R:=B4) (aB (aA h0) (aB (aA h1) aM)) ⟨x,p,rfl,hp,rfl⟩) post
noncomputable def tD (c:Int):Option (Str × Nat):=match INS[c.toNat]? with
 | some (.tup [.str nm,.int m])=>some (nm,m.toNat)
 | _=>none
variable {c:Int}
theorem Hn {m:Nat} (h:tD c=some (nm,m)):INS[c.toNat]?=some (.tup [.str nm,.int (m:Int)])/\c.toNat < 17:=by
 unfold tD at h
 have hlt:c.toNat < 17:=by
  by_cases hc:c.toNat < 17
  ·exact hc
  ·rw [RD (by show (17:Nat)<=c.toNat;omega)] at h;cases h
 refine ⟨?_,hlt⟩
 have all:∀ i:Nat,i < 17->∀ nm m,(match INS[i]? with | some (.tup [.str nm,.int m])=>some (nm,m.toNat) | _=>none)=some (nm,m)->INS[i]?=some (.tup [.str nm,.int (m:Int)]):=by
  intro i hi nm m e
  match i,hi with
  | 0,_=>cases e;rfl
  | 1,_=>cases e;rfl
  | 2,_=>cases e;rfl
  | 3,_=>cases e;rfl
  | 4,_=>cases e;rfl
  | 5,_=>cases e;rfl
  | 6,_=>cases e;rfl
  | 7,_=>cases e;rfl
  | 8,_=>cases e;rfl
  | 9,_=>cases e;rfl
  | 10,_=>cases e;rfl
  | 11,_=>cases e;rfl
  | 12,_=>cases e;rfl
  | 13,_=>cases e;rfl
  | 14,_=>cases e;rfl
  | 15,_=>cases e;rfl
  | 16,_=>cases e;rfl
  | n+17,h=>omega
 exact all c.toNat hlt nm m h
noncomputable def ky (cells:List D) (p m:Nat):List D:=(cells.drop (p+1)).take m
def B5 (ds:List D) (d:D):Prop:=∃ (cells:List D) (p:Nat) (c:Int) (nm:Str) (m:Nat),ds=[.tup cells,.int p]/\cells[p]?=some (.int c)/\0<=c/\tD c=some (nm,m)/\(ky cells p m).length=m/\d=.tup [.str nm,.tup (ky cells p m)]
theorem nz (T:Txt P w K mg)  : Ok P w base (k+1) T.JW (Th K B5):=by
 refine T.JW.f.ok Tt (λvs H Q E h=>?_) (λcdv A outer s H vs Q E hr h=>?_)
 ·obtain ⟨ds,d,hd,⟨cells,p,c,nm,m,rfl,_⟩,_⟩:=h;exact hd.length.symm
 have nd:=Tt.nd;obtain ⟨ds,d,hd,⟨cells,p,c,nm,m,rfl,hc,c0,hi,hb,rfl⟩,post⟩:=h;obtain ⟨v0,v1,rfl,h0,h1⟩:=i5 hd;refine ⟨_,(aE (bE (PW.pt (fH (aN tH (pv 1) (aX aW rfl T.JY bU (aD (pv 0) aC)) (aT _)) (eR (aN tH (aY aZ (pv 0) (pv 1)) (aX aW rfl T.JY bU (aD (bT (v:=.ref T.Kh) rfl T.J5 rfl) aC)) (aT _))))) (aH dF) aQ)
 (aE (gH (aY aZ (bT (v:=.ref T.Kh) rfl T.J5 rfl) (aY aZ (pv 0) (pv 1))) (gF rfl (bN (a7 (i:=2) nd rfl (Or.inl rfl)) (bN (a7 (i:=3) nd rfl (Or.inl rfl)) eH))))
 (aE (bQ (i:=4) nd rfl (Or.inl rfl) (eP dY rfl T.KL fP (aD (jJ rL (pv 0) (iY (bL cJ (pv 1) aF)) (iY (bL cJ (bL cJ (pv 1) aF) (pv 3)))) aC)))
 (aE (bE (aN km (aX aW rfl T.JY bU (aD (pv 4) aC)) (pv 3) (aT _)) (aH dF) aQ)
 (aH (aP (bA (aD (pv 2) (aD (pv 4) aC))))))))),?_⟩
 obtain ⟨hi,h17⟩:=Hn hi;have hp:p < cells.length:=(P1.mp hc).1;have ec:c=((c.toNat:Nat):Int):=by omega
 refine aR (K:=K) (b:=false) (RT.as (dP (b:=false) (c:=false) (RT.as (aJ (cQ (p:=λi j=>decide (j<=i)) (aA h1) (fL (aA h0)))) (Pj (by omega))) λ_=>RT.as (aJ (cQ (p:=λi j=>decide (j<=i)) (a6 (k:=p) (aA h0) (aA h1) hc) (fL (lN T.KQ)))) (Pj (by show ¬ (17:Int)<=c;omega))) rfl) (λc=>nomatch c) (λ_ H1 s1=>?_);have h0:=s1.dat h0;have h1:=s1.dat h1;refine jX (K:=K) (d:=.str nm) (e:=.int m) (a6 (k:=c.toNat) (lN T.KQ) (RE.as (a6 (k:=p) (aA h0) (aA h1) hc) (PZ D.int ec)) hi) λv2 v3 H2 s2 h2 h3=>?_;have h0:=s2.dat h0;have h1:=s2.dat h1;have el:(p:Int)+1=((p+1:Nat):Int):=by omega
 have eh:(p:Int)+1+(m:Int)=((p+1+m:Nat):Int):=by omega
 refine eJ (K:=K) (d:=.tup (ky cells p m)) (RE.as (BJ (Ic (lo:=p+1) (hi:=p+1+m) (aA h0) (RE.as (c8 (aA h1) aG) (PZ D.int el)) (RE.as (c8 (c8 (aA h1) aG) (aA h3)) (PZ D.int eh)) (by omega) (by omega))) (by unfold ky;rw [show p+1+m - (p+1)=m by omega])) λv4 H3 s3 h4=>?_;refine aR (K:=K) (b:=false) (RT.as (aJ (cQ (p:=λi j=>decide (i < j)) (fL (aA h4)) (aA (s3.dat h3)))) (Pj (by rw [hb];omega))) (λc=>nomatch c) (λ_ H4 s4=>?_);exact bJ (K:=K) (d:=.tup [.str nm,.tup (ky cells p m)]) (bF (aB (aA (s4.dat (s3.dat h2))) (aB (aA (s4.dat h4)) aM))) λv H' s q=>post v H' (s1.trans (s2.trans (s3.trans (s4.trans s)))) q
noncomputable abbrev SS:List Str:=["put","far","load","add","sub","mul","less","more","twice","about"]
noncomputable def IT (rec:Nat->Option Bool) (pat:D) (cells:List D) (p:Nat):D->Option Bool
 | .int c=>(match tD c with
  | some (nm,m)=>if (ky cells p m).length=m then (if (!decide (nm ∈ SS) || !((ky cells p m).map (wM pat)).all id)=true then some false else rec (p+1+m)) else none
  | none=>none)
 | _=>none
noncomputable def p7:Nat->D->List D->Nat->Option Bool
 | 0,_,_,_=>none
 | n+1,pat,cells,p=>match cells[p]? with
  | none=>some true
  | some x=>if dM x 0 99=false then some false else IT (p7 n pat cells) pat cells p x
def GH (ds:List D) (d:D):Prop:=∃ (cells:List D) (pat:D) (b:Bool),ds=[.tup cells,pat]/\XR 3 pat=true/\cells.length<=100/\p7 (cells.length+1) pat cells 0=some b/\d=.bl b
noncomputable def JP (σ:L2.St) (_:Hp):Nat:=match σ[2]? with
 | some (some (V.int p))=>(200 - p).toNat
 | _=>0
variable {cells:List D} {p:Nat}
theorem GW {m:Nat}:(ky cells p m).length<=cells.length:=by unfold ky;rw [Qe,Q5];omega
theorem EE {m:Nat} (h:(ky cells p m).length=m) (hp:p < cells.length):p+1+m<=cells.length:=by unfold ky at h;rw [Qe,Q5] at h;omega
theorem mn (T:Txt P w K mg) (JX:Ok P w base k T.JV (Th K fW)) (Ku:Ok P w base k T.JW (Th K B5)) (OC:Ok P w base k T.MW (Th K B3)):Ok P w base (k+1) T.KG (Th K GH):=by
 refine T.KG.f.ok UL (λvs H Q E h=>?_) (λcdv A outer s H vs Q E hr h=>?_)
 ·obtain ⟨ds,d,hd,⟨cells,pat,bb,rfl,_⟩,_⟩:=h;exact hd.length.symm
 have nd:=UL.nd;obtain ⟨ds,d,hd,⟨cells,pat,bb,rfl,hp,hl,hr2,rfl⟩,post⟩:=h;obtain ⟨v0,v1,rfl,h0,h1⟩:=i5 hd;refine ⟨_,(aE (bQ (i:=2) nd rfl (Or.inl rfl) aF)
 (aE (rh Qt (aN km (pv 2) (aX aW rfl T.JY bU (aD (pv 0) aC)) (aT _)) (aE (bE (cW (bR (pc (D:=T.JV) JX hr (aD (aY aZ (pv 0) (pv 2)) (aD aF (aD (bT (v:=.int 99) rfl T.KD ⟨_,rfl⟩) aC)))) (λ_=>rfl))) (aH (aP d8)) aQ)
 (aE (FA (aH (gH (pc (D:=T.JW) Ku hr (aD (pv 0) (aD (pv 2) aC))) (gF rfl (bN (a7 (i:=3) nd rfl (Or.inl rfl)) (bN (a7 (i:=4) nd rfl (Or.inl rfl)) eH))))))
 (aE (bE (PW.pt (fH (aN nD (pv 3) (bT (v:=.ref T.ME) rfl T.Lz rfl) (by with_unfolding_all rfl)) (eR (cW (bR (aX (jC rfl) rfl T.Nv mN (aD (eV (own:=["cell"]) (fr:=[1]) (N':=["cell","pattern"]) (kE (pv 4)) rfl (by show dS ["cells","pattern","place","name","behind"] (λx=>(aK hV).names.lookup x) _ _ _ _=true;decide +kernel) rfl (λ_ _ _ _ _=>(a7 (i:=0) (by show List.Nodup [("cell":Str),("pattern":Str)];decide +kernel) rfl (Or.inl rfl))) (λ_ _ _ _ _=>c7) (λ_ _ _ _ _=>(pc (D:=T.MW) OC hr (aD (pv 0) (aD (pv 1) aC))))) aC)) (λ_=>rfl)))))) (aH (aP d8)) aQ)
 (aH (yZ (i:=2) nd rfl (Or.inl rfl) (bL cJ aF (aX aW rfl T.JY bU (aD (pv 4) aC))) uN))))))
 (aH (aP d8)))),?_⟩
 refine fR (DX (eB (rX (λσ G=>∃ (p n:Nat) (z3 z4:Option V),σ=[some v0,some v1,some (.int p),z3,z4]/\SH H G/\p7 n pat cells p=some bb/\p<=cells.length) JP ?_ ?_ ?_)))
 ·exact ⟨0,_,none,none,rfl,SH.refl _,hr2,Qy _⟩
 ·rintro σ G ⟨p,n,z3,z4,rfl,sG,ha,hpl⟩;have g0:=sG.dat h0;have g1:=sG.dat h1;refine RT.use (b:=decide ((p:Int) < (cells.length:Int))) (aJ (cQ (p:=λi j=>decide (i < j)) (aA (K:=K) (Dat.SK (p:Int))) (fL (aA g0)))) λG1 s1=>?_
  obtain ⟨n,rfl⟩:∃ m,n=m+1:=by
   cases n with
   | zero=>cases ha
   | succ m=>exact ⟨m,rfl⟩
  by_cases hlt:p < cells.length
  ·rw [Pw (by omega:(p:Int) < (cells.length:Int))];refine j4 ?_;have hx:cells[p]?=some cells[p]:=Pe hlt;generalize cells[p]=x at hx
   have ha':(if dM x 0 99=false then some false else IT (p7 n pat cells) pat cells p x)=some bb:=by have e:p7 (n+1) pat cells p=some bb:=ha;unfold p7 at e;rw [hx] at e;exact e
   have g0:=s1.dat g0;have g1:=s1.dat g1;refine aR (K:=K) (b:=!dM x 0 99) (bZ (bO (bM (R:=fW) (aB (a6 (k:=p) (aA g0) (aA (Dat.SK (p:Int))) hx) (aB aG (aB aG aM))) ⟨x,0,99,rfl,rfl⟩))) (λcB G2 s2=>?_) (λcB G2 s2=>?_)
   ·rw [Ph (jZ cB)] at ha';cases ha';exact post _ _ (sG.trans (s1.trans s2)) (Dat.VW _)
   ·have cw:=gZ cB;rw [M1 (by rw [cw];exact λz=>nomatch z)] at ha'
    cases x with
    | int c =>
     have ha':(match tD c with
      | some (nm,m)=>if (ky cells p m).length=m then (if (!decide (nm ∈ SS) || !((ky cells p m).map (wM pat)).all id)=true then some false else p7 n pat cells (p+1+m)) else none
      | none=>none)=some bb:=ha'
     have c0:0<=c:=by have z:(decide (0<=c) && decide (c<=99))=true:=cw;rw [Px] at z;exact Po z.1
     cases hin:tD c with
     | none=>rw [hin] at ha';cases ha'
     | some nm =>
      obtain ⟨nm,m⟩:=nm;rw [hin] at ha';dsimp only at ha';by_cases hb:(ky cells p m).length=m
      ·rw [Ph hb] at ha';have g0:=s2.dat g0;have g1:=s2.dat g1;refine jX (K:=K) (d:=.str nm) (e:=.tup (ky cells p m)) (bM (R:=B5) (aB (aA g0) (aB (aA (Dat.SK (p:Int))) aM)) ⟨cells,p,c,nm,m,rfl,hx,c0,hin,hb,rfl⟩) λv3 v4 G3 s3 g3 g4=>?_;have g1:=s3.dat g1;have lb:=GW (cells:=cells) (p:=p) (m:=m);refine aR (K:=K) (b:=!decide (nm ∈ SS) || !((ky cells p m).map (wM pat)).all id) (dP (aJ (BI (ys:=SS) (aA g3) (lN T.NH))) λ_=>bZ (bO (me (rn (aA g4) (by omega) _ (by simp) rfl (λG4 i z vz d s4 hz hi hvz=>?_))))) (λc2 G4 s4=>?_) (λc2 G4 s4=>?_)
       ·rw [Pr,Pr,hz] at hi;cases hi;exact bM (E:=E0) (R:=B3) (aB (aA hvz) (aB (aA (s4.dat g1)) aM)) ⟨z,pat,rfl,hp,rfl⟩
       ·rw [Ph c2] at ha';cases ha';exact post _ _ (sG.trans (s1.trans (s2.trans (s3.trans s4)))) (Dat.VW _)
       ·rw [M1 (by rw [c2];exact Pk)] at ha';refine ⟨_,rfl,RE.use (c8 (K:=K) aG (fL (aA (s4.dat g4)))) λv5 G5 s5 q5=>?_⟩;refine ⟨p,1+((ky cells p m).length:Int),rfl,q5.SN,?_⟩;have ep:(p:Int)+(1+((ky cells p m).length:Int))=((p+1+m:Nat):Int):=by rw [hb];omega
        have he:=EE hb hlt;refine ⟨⟨p+1+m,n,some v3,some v4,by rw [<- ep];rfl,sG.trans (s1.trans (s2.trans (s3.trans (s4.trans s5)))),ha',he⟩,?_⟩;show (200 - ((p:Int)+(1+((ky cells p m).length:Int)))).toNat < (200 - (p:Int)).toNat;omega
      ·rw [M1 hb] at ha';cases ha'
    | _=>cases ha'
  ·rw [Pj (by omega:¬ (p:Int) < (cells.length:Int))];refine j0 ?_
   have e:p7 (n+1) pat cells p=some true:=by unfold p7;rw [RD (by omega)]
   rw [e] at ha;cases ha;exact post _ _ (sG.trans s1) (Dat.VW _)
 ·intro σ G Q1 Q2 hQ hc;obtain ⟨v,e,v',e',p,ys,e2,hq,i,j,e3,e4,b,e5,q⟩:=hc;exact ⟨v,e,v',e',p,ys,e2,hq,i,j,e3,e4,b,e5,hQ _ _ q⟩
noncomputable def yF:D->Bool
 | .str x=>decide (x="pick")
 | _=>false
noncomputable def csD (pat:D):D->Option Bool
 | .tup l=>if (decide (1<=(l.length:Int)) && decide ((l.length:Int)<=12))=false then some false else p7 (l.length+1) pat l 0
 | _=>some false
noncomputable def rb:D->Option Bool
 | .tup [nm,pat,cs]=>if (!lE nm || (yF nm || !vE pat))=true then some false else csD pat cs
 | _=>some false
def JR:D->Prop
 | .tup (nm::_)=>Gn nm
 | _=>True
def ym (ds:List D) (d:D):Prop:=∃ (x:D) (b:Bool),ds=[x]/\JR x/\rb x=some b/\d=.bl b
variable {te:TE} {us:TS} {En:kx} {j:Nat} {e:D}
theorem vU {K:W.Frag} {l:Nat} {f:D} (h:RE K te σ H (.tup [d,e,f])) (q:∀ v w x H',SH H H'->Dat K H' d v->Dat K H' e w->Dat K H' f x->us En (((σ.set i (some v)).set j (some w)).set l (some x)) H') :
  lX (rQ te (A7 K 3 (mw (d6 i) (mw (d6 j) (mw (d6 l) CD))))) us En σ H :=
 h.use λx H1 s1 q1=>by obtain ⟨a,vs,e1,hq,hd⟩:=q1.S7;obtain ⟨v,w,x,e2,hv,hw,hx⟩:=sT hd;subst e1 e2;exact ⟨a,_,rfl,hq,rfl,v,_,rfl,w,_,rfl,x,_,rfl,rfl,q v w x H1 s1 hv hw hx⟩
theorem qG {x:D} (h:∀ y,x≠.tup y):pB x "tuple"=false:=by
 cases x with
 | tup y=>exact absurd rfl (h y)
 | _=>rfl
theorem Dz {x:D} (h:∀ a b c,x≠.tup [a,b,c]):rb x=some false:=by
 unfold rb;split
 ·rename_i a b c;exact absurd rfl (h a b c)
 ·rfl
theorem HG {x:D} (h:vE x=true):XR 3 x=true:=by unfold vE at h;rw [Px] at h;exact h.1
theorem C4 {x:D} (h:lE x=true):∃ y,x=.str y:=by
 cases x with
 | str y=>exact ⟨y,rfl⟩
 | _=>cases h
theorem xC (T:Txt P w K mg) (OE:Ok P w base k T.MY (Th K B6)) (NY:Ok P w base k T.L4 (Th K GO)) (Na:Ok P w base k T.KG (Th K GH)):Ok P w base (k+1) T.MI (Th K ym):=by
 refine T.MI.f.ok Xi (λvs H Q E h=>?_) (λcdv A outer s H vs Q E hr h=>?_)
 ·obtain ⟨ds,d,hd,⟨x,bb,rfl,_⟩,_⟩:=h;exact hd.length.symm
 have nd:=Xi.nd;obtain ⟨ds,d,hd,⟨x,bb,rfl,hok,hpc,rfl⟩,post⟩:=h;obtain ⟨v0,rfl,h0⟩:=ji hd;refine ⟨_,(aE (bE (PW.pt (fH (cW (bR (aX (gC ng) rfl T.J4 cY (dE (pv 0) (dE (iB (v:=.ty "tuple") rfl T.KL fP rfl) aC))) (λ_=>rfl))) (eR (aN lI (aX aW rfl T.JY bU (aD (pv 0) aC)) aF (aT _))))) (aH (aP d8)) aQ)
 (aE (gH (pv 0) (gF rfl (bN (a7 (i:=1) nd rfl (Or.inl rfl)) (bN (a7 (i:=2) nd rfl (Or.inl rfl)) (bN (a7 (i:=3) nd rfl (Or.inl rfl)) eH)))))
 (aE (bE (PW.pt (fH (cW (bR (pc (D:=T.MY) OE hr (aD (pv 1) aC)) (λ_=>rfl))) (fH (aN bV (pv 1) aO (aT _)) (eR (cW (bR (pc (D:=T.L4) NY hr (aD (pv 2) aC)) (λ_=>rfl))))))) (aH (aP d8)) aQ)
 (aE (bE (PW.pt (fH (cW (bR (aX (gC ng) rfl T.J4 cY (dE (pv 3) (dE (iB (v:=.ty "tuple") rfl T.KL fP rfl) aC))) (λ_=>rfl))) (eR (cW (nE jV jV aF (aX aW rfl T.JY bU (aD (pv 3) aC)) (bT (v:=.int 12) rfl T.J9 ⟨_,rfl⟩)))))) (aH (aP d8)) aQ)
 (aH (aP (pc (D:=T.KG) Na hr (aD (pv 3) (aD (pv 2) aC))))))))),?_⟩
 by_cases h3:∃ a b c,x=.tup [a,b,c]
 ·obtain ⟨nm,pat,cs,rfl⟩:=h3;refine aR (K:=K) (b:=false) (RT.as (dP (b:=false) (c:=false) (RT.as (bZ (bO (dC (aA h0)))) rfl) λ_=>RT.as (aJ (kI (fL (aA h0)) aG)) rfl) rfl) (λc=>nomatch c) (λ_ H1 s1=>?_);refine vU (K:=K) (d:=nm) (e:=pat) (f:=cs) (aA (s1.dat h0)) λv1 v2 v3 H2 s2 h1 h2 h3=>?_;have X7:(if (!lE nm || (yF nm || !vE pat))=true then some false else csD pat cs)=some bb:=hpc;refine aR (K:=K) (b:=!lE nm || (yF nm || !vE pat)) (dP (bZ (bO (bM (R:=B6) (aB (aA h1) aM) ⟨nm,rfl,hok,rfl⟩))) λc=>dP ?_ λ_=>bZ (bO (bM (R:=GO) (aB (aA h2) aM) ⟨pat,rfl,rfl⟩))) (λc H3 s3=>?_) (λc H3 s3=>?_)
  ·obtain ⟨y,rfl⟩:=C4 (gZ c);exact aJ (bI (aA h1) aL)
  ·rw [Ph c] at X7;cases X7;exact bJ (K:=K) (d:=.bl false) f7 λv H' s q=>post v H' (s1.trans (s2.trans (s3.trans s))) q
  ·rw [M1 (by rw [c];exact Pk)] at X7;rw [QG,QG] at c;have hp:=HG (gZ c.2.2);have h2:=s3.dat h2;have h3:=s3.dat h3;have S8:=s1.trans (s2.trans s3);by_cases hc:∃ l,cs=.tup l
   ·obtain ⟨l,rfl⟩:=hc;have X7:(if (decide (1<=(l.length:Int)) && decide ((l.length:Int)<=12))=false then some false else p7 (l.length+1) pat l 0)=some bb:=X7;refine aR (K:=K) (b:=!(decide (1<=(l.length:Int)) && decide ((l.length:Int)<=12))) (RT.as (dP (b:=false) (RT.as (bZ (bO (dC (aA h3)))) rfl) λ_=>bZ (aJ (lK (p:=λi j=>decide (i<=j)) (r:=λi j=>decide (i<=j)) aG (fL (aA h3)) λ_=>aG))) (QC _)) (λc4 H4 s4=>?_) (λc4 H4 s4=>?_)
    ·rw [Ph (jZ c4)] at X7;cases X7;exact bJ (K:=K) (d:=.bl false) f7 λv H' s q=>post v H' (S8.trans (s4.trans s)) q
    ·have c5:=gZ c4;rw [M1 (by rw [c5];exact λz=>nomatch z)] at X7;rw [Px] at c5;have l12:=Po c5.2;exact bJ (K:=K) (d:=.bl bb) (bM (R:=GH) (aB (aA (s4.dat h3)) (aB (aA (s4.dat h2)) aM)) ⟨l,pat,bb,rfl,hp,by omega,X7,rfl⟩) λv H' s q=>post v H' (S8.trans (s4.trans s)) q
   ·have hc':∀ y,cs≠.tup y:=λy e=>hc ⟨y,e⟩
    have e:bb=false:=by
     cases cs with
     | tup y=>exact absurd rfl (hc' y)
     | _=>cases X7;rfl
    refine aR (K:=K) (b:=true) (RT.as (dP (b:=true) (c:=true) (RT.as (bZ (bO (dC (aA h3)))) (by rw [qG hc'];rfl)) λc=>nomatch c) rfl) (λc4 H4 s4=>?_) (λc=>nomatch c);rw [e] at post;exact bJ (K:=K) (d:=.bl false) f7 λv H' s q=>post v H' (S8.trans (s4.trans s)) q
 ·have h3':∀ a b c,x≠.tup [a,b,c]:=λa b c e=>h3 ⟨a,b,c,e⟩;rw [Dz h3'] at hpc;cases hpc;refine aR (K:=K) (b:=true) ?_ (λc H1 s1=>?_) (λc=>nomatch c)
  ·by_cases ht:∃ l,x=.tup l
   ·obtain ⟨l,rfl⟩:=ht;refine RT.as (dP (b:=false) (c:=true) (RT.as (bZ (bO (dC (aA h0)))) rfl) λ_=>RT.as (aJ (kI (fL (aA h0)) aG)) ?_) rfl
    have:¬ (l.length:Int)=3:=λe=>by
     match l,e with
     | [a,b,c],_=>exact h3' a b c rfl
     | [],h=>simp at h
     | [_],h=>simp at h
     | [_,_],h=>simp at h
     | _::_::_::_::_,h=>simp at h;omega
    rw [Pj this];rfl
   ·have ht':∀ y,x≠.tup y:=λy e=>ht ⟨y,e⟩;exact RT.as (dP (b:=true) (c:=true) (RT.as (bZ (bO (dC (aA h0)))) (by rw [qG ht'];rfl)) λc=>nomatch c) rfl
  ·exact bJ (K:=K) (d:=.bl false) f7 λv H' s q=>post v H' (s1.trans s) q
variable {Wm:List V} {E:XK} {tA:TA} {Q:VK}
theorem mT {sp:Sp} (h:tA σ H λvs H1=>sp (vs++Wm) H1 Q E):kr sp Wm E tA σ H Q:=h
theorem gS {Q:List V->Hp->Prop} (h:te σ H λx H1=>tA σ H1 λxs H2=>Q (x::xs) H2):bW te tA σ H Q:=h
inductive Pa where
 | hole (i:Int)
 | gap (i m:Int)
 | slot (i:Int)
 | num (n:Int)
 | two (o:Str) (a b:Pa)
noncomputable def Xr:Pa->D
 | .hole i=>.tup [.str "hole",.int i]
 | .gap i m=>.tup [.str "gap",.int i,.int m]
 | .slot i=>.tup [.str "slot",.int i]
 | .num n=>.tup [.str "num",.int n]
 | .two o a b=>.tup [.str o,Xr a,Xr b]
abbrev ZQ (o:Str):Prop:=o="add"\/o="sub"\/o="mul"\/o="less"
def yL:Pa->Prop
 | .num n=>0<=n/\n<=9999
 | .two o a b=>ZQ o/\yL a/\yL b
 | _=>True
noncomputable def eK:Pa->Nat
 | .two _ a b=>max (eK a) (eK b)+1
 | _=>1
theorem nW (p:Pa):1<=eK p:=by cases p <;> simp [eK]
noncomputable abbrev Ve:Type:=List Tr × List Int × List Int
noncomputable def Hd (f g:Ve):Ve:=(f.1++g.1,f.2.1++g.2.1,f.2.2++g.2.2)
noncomputable def cO:Pa->Tr->Option Ve
 | .hole _,t=>some ([t],[],[])
 | .gap _ m,.num n=>if n<=m then some ([],[n],[]) else none
 | .gap _ _,_=>none
 | .slot _,.arg k=>some ([],[],[k])
 | .slot _,_=>none
 | .num n,.num m=>if m=n then some ([],[],[]) else none
 | .num _,_=>none
 | .two o a b,.two o' x y=>if o'=o then (match cO a x,cO b y with
  | some f,some g=>some (Hd f g)
  | _,_=>none) else none
 | .two _ _ _,_=>none
noncomputable def JJ:Pa->Bool
 | .hole _=>true
 | .gap _ _=>true
 | .slot _=>true
 | _=>false
theorem CM (t:Tr) (ht:UO t):∃ kd r,toD t=.tup (.str kd::r)/\(kd="num"↔∃ n,t=.num n)/\(kd="arg"↔∃ n,t=.arg n):=by
 cases t with
 | num n=>exact ⟨_,_,rfl,⟨λ_=>⟨n,rfl⟩,λ_=>rfl⟩,⟨λe=>absurd e (by decide +kernel),λ⟨m,e⟩=>nomatch e⟩⟩
 | arg n=>exact ⟨_,_,rfl,⟨λe=>absurd e (by decide +kernel),λ⟨m,e⟩=>nomatch e⟩,⟨λ_=>⟨n,rfl⟩,λ_=>rfl⟩⟩
 | two o a b =>
  have h:o="add"\/o="sub"\/o="mul"\/o="less":=ht.1;refine ⟨_,_,rfl,⟨λe=>?_,λ⟨m,e⟩=>nomatch e⟩,⟨λe=>?_,λ⟨m,e⟩=>nomatch e⟩⟩
  ·subst e;exact absurd h (by decide +kernel)
  ·subst e;exact absurd h (by decide +kernel)
 | pick a b c=>exact ⟨_,_,rfl,⟨λe=>absurd e (by decide +kernel),λ⟨m,e⟩=>nomatch e⟩,⟨λe=>absurd e (by decide +kernel),λ⟨m,e⟩=>nomatch e⟩⟩
def mZ (ds:List D) (d:D):Prop:=∃ p t,ds=[Xr p,toD t]/\JJ p=true/\UO t/\d=.bl (cO p t).isSome
theorem xf {i m:Int} (h:∀ n,t≠.num n):cO (.gap i m) t=none:=by
 cases t with
 | num n=>exact absurd rfl (h n)
 | _=>rfl
theorem tY {i:Int} (h:∀ n,t≠.arg n):cO (.slot i) t=none:=by
 cases t with
 | arg n=>exact absurd rfl (h n)
 | _=>rfl
theorem oo (T:Txt P w K mg)  : Ok P w base (k+1) T.La (Th K mZ):=by
 refine T.La.f.ok Vi (λvs H Q E h=>?_) (λcdv A outer s H vs Q E hr h=>?_)
 ·obtain ⟨ds,d,hd,⟨p,t,rfl,_⟩,_⟩:=h;exact hd.length.symm
 have nd:=Vi.nd;obtain ⟨ds,d,hd,⟨p,t,rfl,hm,ht,rfl⟩,post⟩:=h;obtain ⟨v0,v1,rfl,h0,h1⟩:=i5 hd;refine ⟨_,(aE (bE (aN bV (aY aZ (pv 0) aF) aO (aT _)) (aH (aP (jH (eU bV (aY aZ (pv 1) aF) aO (aT _)) (jI (eU jV (aY aZ (pv 1) aF) (aY aZ (pv 0) aF) (aT _)))))) aQ)
 (aH (aP (Ds (eU bV (aY aZ (pv 0) aF) aO (aT _)) (jI (eU bV (aY aZ (pv 1) aF) aO (aT _))))))),?_⟩
 obtain ⟨kd,r,ek,hnum,harg⟩:=CM t ht;have Y3:Dat K H (.tup (.str kd::r)) v1:=by rw [<- ek];exact h1
 cases p with
 | hole i =>have h0:Dat K H (.tup [.str "hole",.int i]) v0:=h0;refine aR (K:=K) (b:=false) (RT.as (aJ (bI (a6 (k:=0) (aA h0) aG rfl) aL)) (Pj (by decide +kernel))) (λc=>nomatch c) (λ_ H1 s1=>?_);exact bJ (K:=K) (d:=.bl true) (RE.as (AG (b:=true) (c:=true) (RE.as (bI (a6 (k:=0) (aA (s1.dat h0)) aG rfl) aL) (PZ D.bl (Pw rfl))) λc=>nomatch c) rfl) λv H' s q=>post v H' (s1.trans s) q
 | gap i m =>
  have h0:Dat K H (.tup [.str "gap",.int i,.int m]) v0:=h0;refine aR (K:=K) (b:=true) (RT.as (aJ (bI (a6 (k:=0) (aA h0) aG rfl) aL)) (Pw rfl)) (λ_ H1 s1=>?_) (λc=>nomatch c);by_cases hn:∃ n,t=.num n
  ·obtain ⟨n,rfl⟩:=hn;have h1:Dat K H (.tup [.str "num",.int n]) v1:=h1;refine bJ (K:=K) (d:=.bl (decide (n<=m))) (RE.as (eT (b:=true) (RE.as (bI (a6 (k:=0) (aA (s1.dat h1)) aG rfl) aL) (PZ D.bl (Pw rfl))) λ_=>cQ (p:=λi j=>decide (i<=j)) (a6 (k:=1) (aA (s1.dat h1)) aG rfl) (a6 (k:=2) (aA (s1.dat h0)) aG rfl)) rfl) λv H' s q=>post v H' (s1.trans s) ?_
   have e:(cO (.gap i m) (.num n)).isSome=decide (n<=m):=by
    show (if n<=m then some _ else none).isSome=_;by_cases z:n<=m
    ·rw [Ph z,Pw z];rfl
    ·rw [M1 z,Pj z];rfl
   rw [e];exact q
  ·refine bJ (K:=K) (d:=.bl false) (RE.as (eT (b:=false) (c:=true) (RE.as (bI (a6 (k:=0) (aA (s1.dat Y3)) aG rfl) aL) (PZ D.bl (Pj (λe=>hn (hnum.mp e))))) λc=>nomatch c) rfl) λv H' s q=>post v H' (s1.trans s) ?_;rw [xf λn e=>hn ⟨n,e⟩];exact q
 | slot i =>
  have h0:Dat K H (.tup [.str "slot",.int i]) v0:=h0;refine aR (K:=K) (b:=false) (RT.as (aJ (bI (a6 (k:=0) (aA h0) aG rfl) aL)) (Pj (by decide +kernel))) (λc=>nomatch c) (λ_ H1 s1=>?_);refine bJ (K:=K) (d:=.bl (decide (kd="arg"))) (RE.as (AG (b:=false) (RE.as (bI (a6 (k:=0) (aA (s1.dat h0)) aG rfl) aL) (PZ D.bl (Pj (by decide +kernel)))) λ_=>bI (a6 (k:=0) (aA (s1.dat Y3)) aG rfl) aL) (PZ D.bl (QC _))) λv H' s q=>post v H' (s1.trans s) ?_;by_cases ha:∃ n,t=.arg n
  ·rw [Pw (harg.mpr ha)] at q;obtain ⟨n,rfl⟩:=ha;exact q
  ·rw [Pj (λe=>ha (harg.mp e))] at q;rw [tY λn e=>ha ⟨n,e⟩];exact q
 | num n=>cases hm
 | two o a b=>cases hm
def mK (K:W.Frag) (o:Addr->Addr->Addr->HO) (n:Nat):Sp:=λvs H Q _=>∃ (p:Pa) (t:Tr) (v0 v1:V) (f l0 l1 l2:Addr) (a b c:List V),vs=[v0,v1,.ref f]/\yL p/\UO t/\a9 t<=8/\eK p<=n/\n<=3/\Dat K H (Xr p) v0/\Dat K H (toD t) v1 /\
 H f=some (o l0 l1 l2)/\f≠l0/\f≠l1/\f≠l2/\X6 l0 l1 l2 H a b c/\a.length+2 ^ n<=100/\b.length+2 ^ n<=100/\c.length+2 ^ n<=100 /\
 ∀ (H':Hp) (a' b' c':List V),Wn l0 l1 l2 H H'->X6 l0 l1 l2 H' (a++a') (b++b') (c++c')->a'.length<=2 ^ n->b'.length<=2 ^ n->c'.length<=2 ^ n ->
  (∀ fd:Ve,cO p t=some fd->SG K H' (fd.1.map toD) a'/\SG K H' (fd.2.1.map D.int) b'/\SG K H' (fd.2.2.map D.int) c')->Q (.bl (cO p t).isSome) H'
noncomputable def oD (l0 l1 l2:Addr):HO:=.dK [(Sum.inr "hole",.ref l0),(Sum.inr "gap",.ref l1),(Sum.inr "slot",.ref l2)]
theorem Ao (l0 l1 l2:Addr):mY ([(Sum.inr "hole",V.ref l0),(Sum.inr "gap",.ref l1),(Sum.inr "slot",.ref l2)]:List (Key × V)) (Sum.inr "hole")=some (.ref l0):=rfl
theorem Dk (l0 l1 l2:Addr):mY ([(Sum.inr "hole",V.ref l0),(Sum.inr "gap",.ref l1),(Sum.inr "slot",.ref l2)]:List (Key × V)) (Sum.inr "gap")=some (.ref l1):=rfl
theorem Ap (l0 l1 l2:Addr):mY ([(Sum.inr "hole",V.ref l0),(Sum.inr "gap",.ref l1),(Sum.inr "slot",.ref l2)]:List (Key × V)) (Sum.inr "slot")=some (.ref l2):=rfl
variable {v:V}
theorem CG {f:Addr} {kvs:List (Key × V)} {x:Str} (h:H f=some (.dK kvs)) (e:mY kvs (Sum.inr x)=some v):Yr H f (.str x) (some v):=by have g:=Yr.k (k:=Sum.inr x) h;rw [e] at g;exact g
theorem rS {k:Str} (h:k="hole"\/k="gap"\/k="slot"):KTD.inKeys k TM=true:=by rcases h with rfl | rfl | rfl <;> decide +kernel
variable {o:Str}
theorem ED (h:ZQ o):KTD.inKeys o TM=false/\¬ o="num":=by rcases h with rfl | rfl | rfl | rfl <;> decide +kernel
theorem DB (n:Nat):1<=2 ^ n:=Nat.one_le_iff_ne_zero.mpr (by simp)
theorem oA {α:Type} {x y:List α} (h1:x.length<=2 ^ n) (h2:y.length<=2 ^ n):(x++y).length<=2 ^ (n+1):=by rw [tB,Sd];omega
variable {y:Tr}
theorem fC {o':Str} {a b:Pa} {fd:Ve} (h:cO (.two o a b) (.two o' x y)=some fd):o'=o/\∃ f g,cO a x=some f/\cO b y=some g/\fd=Hd f g:=by
 unfold cO at h;by_cases e:o'=o
 ·rw [Ph e] at h
  cases h1:cO a x with
  | none=>rw [h1] at h;cases h
  | some f =>
   cases h2:cO b y with
   | none=>rw [h1,h2] at h;cases h
   | some g =>rw [h1,h2] at h;cases h;exact ⟨e,f,g,rfl,rfl,rfl⟩
 ·rw [M1 e] at h;cases h
theorem jU {a b:Pa} (h:cO a x=none):cO (.two o a b) (.two o x y)=none:=by unfold cO;rw [Ph rfl,h]
theorem qx {a b:Pa} {f:Ve} (h:cO a x=some f):(cO (.two o a b) (.two o x y)).isSome=(cO b y).isSome:=by show (if o=o then _ else none:Option Ve).isSome=_;rw [Ph rfl,h];cases cO b y <;> rfl
variable {kd:Str}
theorem wY {a b:Pa} (hp:ZQ o) (ek:toD t=.tup (.str kd::r)) (h:¬ kd=o):cO (.two o a b) t=none:=by
 cases t with
 | two o' x y =>unfold cO;rw [M1];intro e;apply h;have z:toD (.two o' x y)=.tup [.str o',toD x,toD y]:=rfl;rw [z] at ek;injection ek with ek;injection ek with ek _;injection ek with ek;rw [<- ek,e]
 | _=>rfl
theorem xh (ho:ZQ o) (ek:toD t=.tup (.str kd::r)) (h:kd=o):∃ x y,t=.two o x y:=by
 subst h
 cases t with
 | two o' x y =>have z:toD (.two o' x y)=.tup [.str o',toD x,toD y]:=rfl;rw [z] at ek;injection ek with ek;injection ek with ek _;injection ek with ek;subst ek;exact ⟨x,y,rfl⟩
 | num n =>have z:toD (.num n)=.tup [.str "num",.int n]:=rfl;rw [z] at ek;injection ek with ek;injection ek with ek _;injection ek with ek;subst ek;exact absurd ho (by decide +kernel)
 | arg n =>have z:toD (.arg n)=.tup [.str "arg",.int n]:=rfl;rw [z] at ek;injection ek with ek;injection ek with ek _;injection ek with ek;subst ek;exact absurd ho (by decide +kernel)
 | pick x y u =>have z:toD (.pick x y u)=.tup [.str "pick",toD x,toD y,toD u]:=rfl;rw [z] at ek;injection ek with ek;injection ek with ek _;injection ek with ek;subst ek;exact absurd ho (by decide +kernel)
theorem Am {o:Addr->Addr->Addr->HO} (vs:List V) (H:Hp) (Q:VK) (E:XK):¬ mK K o 0 vs H Q E:=λ⟨p,_,_,_,_,_,_,_,_,_,_,_,_,_,_,h,_⟩=>by have:=nW p;omega
theorem yT (T:Txt P w K mg) (Nz:Ok P w base k T.La (Th K mZ)) (MR:Ok P w base k T.Ll (mK K oD n)):Ok P w base (k+1) T.Ll (mK K oD (n+1)):=by
 refine T.Ll.f.ok XG (λvs H Q E h=>?_) (λcdv A outer s H vs Q E hr h=>?_)
 ·obtain ⟨p,t,v0,v1,f,l0,l1,l2,a,b,c,rfl,_⟩:=h;rfl
 have nd:=XG.nd;obtain ⟨p,t,v0,v1,f,l0,l1,l2,a,b,c,rfl,W0,Vm,XS,hn,hn3,h0,h1,hf,f0,f1,f2,W5,la,lb,lc,post⟩:=h;refine ⟨_,(aE (bQ (i:=3) nd rfl (Or.inl rfl) (aY aZ (pv 0) aF))
 (aE (bE (aN nC (pv 3) (bT (v:=.ref T.Ki) rfl T.Kc rfl) (by with_unfolding_all rfl)) (aE (bE (cW (bR (pc (D:=T.La) Nz hr (aD (pv 0) (aD (pv 1) aC))) (λ_=>rfl))) (aH (aP d8)) aQ)
 (aE (bP (fF PD P5 P7 cC (pN (Ag hr) (pv 2) (pv 3) (λ_ _=>rfl)) (aD (fG (aN bV (pv 3) aO (aT _)) (pv 1) (aY aZ (pv 1) aF)) aC)))
 (aH (aP d8)))) aQ)
 (aE (bE (aN lI (aY aZ (pv 1) aF) (pv 3) (aT _)) (aH (aP d8)) aQ)
 (aE (bE (aN bV (pv 3) aO (aT _)) (aH (aP (eU bV (aY aZ (pv 1) aF) (aY aZ (pv 0) aF) (aT _)))) aQ)
 (aH (aP (jH (pc (D:=T.Ll) MR hr (aD (aY aZ (pv 0) aF) (aD (aY aZ (pv 1) aF) (aD (pv 2) aC)))) (jI (pc (D:=T.Ll) MR hr (aD (aY aZ (pv 0) aF) (aD (aY aZ (pv 1) aF) (aD (pv 2) aC)))))))))))),?_⟩
 obtain ⟨kd,r,ek,hnum,harg⟩:=CM t Vm;have hf':∀ {G:Hp},Wn l0 l1 l2 H G->G f=some (oD l0 l1 l2):=λbb=>bb _ _ f0 f1 f2 hf;have p1:=DB (n+1);have p2:2 ^ (n+1)=2 * 2 ^ n:=by rw [Sd,Nat.mul_comm]
 cases p with
 | hole i =>have h0:Dat K H (.tup [.str "hole",.int i]) v0:=h0;refine eJ (K:=K) (d:=.str "hole") (a6 (k:=0) (aA h0) aG rfl) λv3 H1 s1 q3=>?_;have ev:=q3.S3;subst ev;refine aR (K:=K) (b:=true) (RT.as (aJ (i9 (aA q3) T.JZ)) (rS (.inl rfl))) (λ_ H2 s2=>?_) (λc=>nomatch c);have s12:=s1.trans s2;refine aR (K:=K) (b:=!true) (bZ (bO (bM (R:=mZ) (d:=.bl true) (aB (aA (s12.dat h0)) (aB (aA (s12.dat h1)) aM)) ⟨.hole i,t,rfl,rfl,Vm,rfl⟩))) (λc=>nomatch c) (λ_ H3 s3=>?_);have S8:=s12.trans s3;refine eB ⟨_,rfl,_,rfl,f,.ref l0,rfl,CG (S8 _ _ hf) (Ao l0 l1 l2),.inl ⟨rfl,_,SO.of (S8 _ _ W5.h0)⟩,?_⟩;refine RE.use (K:=K) (d:=toD t) (mC (b:=true) (RT.as (aJ (K:=K) (bI (aA (Dat.Tf "hole")) aL)) (Pw rfl)) (λ_=>aA (S8.dat h1)) (λc=>nomatch c)) λy H4 s4 q4=>?_;have Uv:=S8.trans s4;have VH:=W5.same Uv;refine ⟨l0,a,y,rfl,rfl,VH.h0,cM (by omega),?_⟩;obtain ⟨t5,b5⟩:=VH.p0 (v:=y);refine post _ [y] [] [] (Uv.Vg.trans b5) t5 (by simpa using p1) (by simp) (by simp) λfd e=>?_;cases e;exact ⟨SG.cons (Dat.mono (b5.grow VH t5) _ q4) SG.nil,SG.nil,SG.nil⟩
 | gap i m =>
  have h0:Dat K H (.tup [.str "gap",.int i,.int m]) v0:=h0;refine eJ (K:=K) (d:=.str "gap") (a6 (k:=0) (aA h0) aG rfl) λv3 H1 s1 q3=>?_;have ev:=q3.S3;subst ev;refine aR (K:=K) (b:=true) (RT.as (aJ (i9 (aA q3) T.JZ)) (rS (.inr (.inl rfl)))) (λ_ H2 s2=>?_) (λc=>nomatch c);have s12:=s1.trans s2;refine aR (K:=K) (b:=!(cO (.gap i m) t).isSome) (bZ (bO (bM (R:=mZ) (aB (aA (s12.dat h0)) (aB (aA (s12.dat h1)) aM)) ⟨.gap i m,t,rfl,rfl,Vm,rfl⟩))) (λcN H3 s3=>?_) (λcS H3 s3=>?_)
  ·have S8:=s12.trans s3;have e:(cO (.gap i m) t).isSome=false:=jZ cN;refine bJ (K:=K) (d:=.bl false) f7 λv H' s qq=>?_;rw [qq.VX,<- e];have Uv:=S8.trans s;exact post _ [] [] [] Uv.Vg (W5.same Uv).nil (by simp) (by simp) (by simp) λfd z=>by rw [z] at e;cases e
  ·have S8:=s12.trans s3
   obtain ⟨nn,rfl⟩:∃ nn,t=.num nn:=by
    have cS':=gZ cS
    cases t with
    | num nn=>exact ⟨nn,rfl⟩
    | _=>cases cS'
   have h1:Dat K H (.tup [.str "num",.int nn]) v1:=h1;refine eB ⟨_,rfl,_,rfl,f,.ref l1,rfl,CG (S8 _ _ hf) (Dk l0 l1 l2),.inl ⟨rfl,_,SO.of (S8 _ _ W5.h1)⟩,?_⟩;refine RE.use (K:=K) (d:=.int nn) (mC (b:=false) (RT.as (aJ (K:=K) (bI (aA (Dat.Tf "gap")) aL)) (Pj (by decide +kernel))) (λc=>nomatch c) (λ_=>a6 (k:=1) (aA (S8.dat h1)) aG rfl)) λy H4 s4 q4=>?_;have Uv:=S8.trans s4;have VH:=W5.same Uv;refine ⟨l1,b,y,rfl,rfl,VH.h1,cM (by omega),?_⟩;obtain ⟨t5,b5⟩:=VH.p1 (v:=y);have e:=gZ cS;show Q (.bl true) _;rw [<- e];refine post _ [] [y] [] (Uv.Vg.trans b5) t5 (by simp) (by simpa using p1) (by simp) λfd z=>?_;have z':(if nn<=m then some ([],[nn],[]) else none:Option Ve)=some fd:=z;by_cases hm:nn<=m
   ·rw [Ph hm] at z';cases z';exact ⟨SG.nil,SG.cons (Dat.mono (b5.grow VH t5) _ q4) SG.nil,SG.nil⟩
   ·rw [M1 hm] at z';cases z'
 | slot i =>
  have h0:Dat K H (.tup [.str "slot",.int i]) v0:=h0;refine eJ (K:=K) (d:=.str "slot") (a6 (k:=0) (aA h0) aG rfl) λv3 H1 s1 q3=>?_;have ev:=q3.S3;subst ev;refine aR (K:=K) (b:=true) (RT.as (aJ (i9 (aA q3) T.JZ)) (rS (.inr (.inr rfl)))) (λ_ H2 s2=>?_) (λc=>nomatch c);have s12:=s1.trans s2;refine aR (K:=K) (b:=!(cO (.slot i) t).isSome) (bZ (bO (bM (R:=mZ) (aB (aA (s12.dat h0)) (aB (aA (s12.dat h1)) aM)) ⟨.slot i,t,rfl,rfl,Vm,rfl⟩))) (λcN H3 s3=>?_) (λcS H3 s3=>?_)
  ·have S8:=s12.trans s3;have e:(cO (.slot i) t).isSome=false:=jZ cN;refine bJ (K:=K) (d:=.bl false) f7 λv H' s qq=>?_;rw [qq.VX,<- e];have Uv:=S8.trans s;exact post _ [] [] [] Uv.Vg (W5.same Uv).nil (by simp) (by simp) (by simp) λfd z=>by rw [z] at e;cases e
  ·have S8:=s12.trans s3
   obtain ⟨nn,rfl⟩:∃ nn,t=.arg nn:=by
    have cS':=gZ cS
    cases t with
    | arg nn=>exact ⟨nn,rfl⟩
    | _=>cases cS'
   have h1:Dat K H (.tup [.str "arg",.int nn]) v1:=h1;refine eB ⟨_,rfl,_,rfl,f,.ref l2,rfl,CG (S8 _ _ hf) (Ap l0 l1 l2),.inl ⟨rfl,_,SO.of (S8 _ _ W5.h2)⟩,?_⟩;refine RE.use (K:=K) (d:=.int nn) (mC (b:=false) (RT.as (aJ (K:=K) (bI (aA (Dat.Tf "slot")) aL)) (Pj (by decide +kernel))) (λc=>nomatch c) (λ_=>a6 (k:=1) (aA (S8.dat h1)) aG rfl)) λy H4 s4 q4=>?_;have Uv:=S8.trans s4;have VH:=W5.same Uv;refine ⟨l2,c,y,rfl,rfl,VH.h2,cM (by omega),?_⟩;obtain ⟨t5,b5⟩:=VH.p2 (v:=y);have e:=gZ cS;show Q (.bl true) _;rw [<- e];refine post _ [] [] [y] (Uv.Vg.trans b5) t5 (by simp) (by simp) (by simpa using p1) λfd z=>?_;cases z;exact ⟨SG.nil,SG.nil,SG.cons (Dat.mono (b5.grow VH t5) _ q4) SG.nil⟩
 | num m =>
  have h0:Dat K H (.tup [.str "num",.int m]) v0:=h0;have Y3:Dat K H (.tup (.str kd::r)) v1:=by rw [<- ek];exact h1
  refine eJ (K:=K) (d:=.str "num") (a6 (k:=0) (aA h0) aG rfl) λv3 H1 s1 q3=>?_;refine aR (K:=K) (b:=false) (RT.as (aJ (i9 (aA q3) T.JZ)) (by decide +kernel)) (λc=>nomatch c) (λ_ H2 s2=>?_);have s12:=s1.trans s2;refine aR (K:=K) (b:=!decide (kd="num")) (aJ (vM (a6 (k:=0) (aA (s12.dat Y3)) aG rfl) (aA (s2.dat q3)))) (λcN H3 s3=>?_) (λcS H3 s3=>?_)
  ·have S8:=s12.trans s3;have hne:¬ kd="num":=Pu (jZ cN)
   have e:cO (.num m) t=none:=by
    cases t with
    | num n=>exact absurd (hnum.mpr ⟨n,rfl⟩) hne
    | _=>rfl
   refine bJ (K:=K) (d:=.bl false) f7 λv H' s qq=>?_;rw [qq.VX];have Uv:=S8.trans s;have pz:=post _ [] [] [] Uv.Vg (W5.same Uv).nil (by simp) (by simp) (by simp) λfd z=>by rw [e] at z;cases z
   rw [e] at pz;exact pz
  ·have S8:=s12.trans s3;obtain ⟨nn,rfl⟩:=hnum.mp (Po (gZ cS));have h1:Dat K H (.tup [.str "num",.int nn]) v1:=h1;refine aR (K:=K) (b:=true) (RT.as (aJ (bI (aA ((s2.trans s3).dat q3)) aL)) (Pw rfl)) (λ_ H4 s4=>?_) (λc=>nomatch c);have Uv:=S8.trans s4;refine bJ (K:=K) (d:=.bl (decide (nn=m))) (mV (a6 (k:=1) (aA (Uv.dat h1)) aG rfl) (a6 (k:=1) (aA (Uv.dat h0)) aG rfl)) λv H' s qq=>?_;rw [qq.VX];have Zk:=Uv.trans s
   have pz:=post _ [] [] [] Zk.Vg (W5.same Zk).nil (by simp) (by simp) (by simp) λfd z=>by
    have z':(if nn=m then some ([],[],[]) else none:Option Ve)=some fd:=z;by_cases hm:nn=m
    ·rw [Ph hm] at z';cases z';exact ⟨SG.nil,SG.nil,SG.nil⟩
    ·rw [M1 hm] at z';cases z'
   have e:(cO (.num m) (.num nn)).isSome=decide (nn=m):=by
    show (if nn=m then some _ else none:Option Ve).isSome=_;by_cases hm:nn=m
    ·rw [Ph hm,Pw hm];rfl
    ·rw [M1 hm,Pj hm];rfl
   rw [e] at pz;exact pz
 | two o pa pb =>
  have h0:Dat K H (.tup [.str o,Xr pa,Xr pb]) v0:=h0;have Y3:Dat K H (.tup (.str kd::r)) v1:=by rw [<- ek];exact h1
  obtain ⟨b1,b2⟩:=ED W0.1;refine eJ (K:=K) (d:=.str o) (a6 (k:=0) (aA h0) aG rfl) λv3 H1 s1 q3=>?_;refine aR (K:=K) (b:=false) (RT.as (aJ (i9 (aA q3) T.JZ)) b1) (λc=>nomatch c) (λ_ H2 s2=>?_);have s12:=s1.trans s2;refine aR (K:=K) (b:=!decide (kd=o)) (aJ (vM (a6 (k:=0) (aA (s12.dat Y3)) aG rfl) (aA (s2.dat q3)))) (λcN H3 s3=>?_) (λcS H3 s3=>?_)
  ·have S8:=s12.trans s3;have e:=wY (a:=pa) (b:=pb) W0.1 ek (Pu (jZ cN));refine bJ (K:=K) (d:=.bl false) f7 λv H' s qq=>?_;rw [qq.VX];have Uv:=S8.trans s;have pz:=post _ [] [] [] Uv.Vg (W5.same Uv).nil (by simp) (by simp) (by simp) λfd z=>by rw [e] at z;cases z
   rw [e] at pz;exact pz
  ·have S8:=s12.trans s3;obtain ⟨x,y,rfl⟩:=xh W0.1 ek (Po (gZ cS));have h1:Dat K H (.tup [.str o,toD x,toD y]) v1:=h1;refine aR (K:=K) (b:=false) (RT.as (aJ (bI (aA ((s2.trans s3).dat q3)) aL)) (Pj b2)) (λc=>nomatch c) (λ_ H4 s4=>?_);have Uv:=S8.trans s4;have dpa:eK pa<=n:=by simp only [eK] at hn;omega
   have dpb:eK pb<=n:=by simp only [eK] at hn;omega
   have dpx:a9 x<=8:=by simp only [a9] at XS;omega
   have dpy:a9 y<=8:=by simp only [a9] at XS;omega
   refine RE.use (K:=K) (d:=Xr pa) (a6 (k:=1) (aA (Uv.dat h0)) aG rfl) λw0 H5 s5 q5=>?_;refine RE.use (K:=K) (d:=toD x) (a6 (k:=1) (aA ((Uv.trans s5).dat h1)) aG rfl) λw1 H6 s6 q6=>?_;have YF:=Uv.trans (s5.trans s6);have ZE:=W5.same YF;refine ⟨_,rfl,pa,x,w0,w1,f,l0,l1,l2,a,b,c,rfl,W0.2.1,Vm.2.1,dpx,dpa,by omega,s6.dat q5,q6,YF _ _ hf,f0,f1,f2,ZE,by omega,by omega,by omega,λH7 a1 b1' c1 bb7 YN ka kb kc d7=>?_⟩;refine ⟨_,rfl,?_⟩
   have n8:2 ^ n<=8:=by
    have:n<=3:=by omega
    match n,this with
    | 0,_=>decide
    | 1,_=>decide
    | 2,_=>decide
    | 3,_=>decide
   have g67:gA K H6 H7:=bb7.grow ZE YN;have YO:Wn l0 l1 l2 H H7:=YF.Vg.trans bb7
   cases Zg:cO pa x with
   | none =>
    refine j0 ?_;have pz:=post H7 a1 b1' c1 YO YN (Qd ka (QA (by decide) (by omega))) (Qd kb (QA (by decide) (by omega))) (Qd kc (QA (by decide) (by omega))) λfd z=>by rw [jU Zg] at z;cases z
    rw [jU Zg] at pz;exact pz
   | some fa =>
    refine j4 ?_;obtain ⟨da,db,dc⟩:=d7 fa Zg;refine mT (gS (RE.use (K:=K) (d:=Xr pb) (a6 (k:=2) (aA (Dat.mono g67 _ (YF.dat h0))) aG rfl) λw2 H8 s8 q8=>?_));refine gS (RE.use (K:=K) (d:=toD y) (a6 (k:=2) (aA (s8.dat (Dat.mono g67 _ (YF.dat h1)))) aG rfl) λw3 H9 s9 q9=>?_);have Zh:=s8.trans s9;have ZF:=YN.same Zh;refine ⟨_,rfl,pb,y,w2,w3,f,l0,l1,l2,a++a1,b++b1',c++c1,rfl,W0.2.2,Vm.2.2,dpy,dpb,by omega,s9.dat q8,q9,Zh _ _ (hf' YO),f0,f1,f2,ZF,by rw [tB];omega,by rw [tB];omega,by rw [tB];omega,λH10 a2 b2' c2 ZG XT ma mb mc d10=>?_⟩;have g:=ZG.grow (K:=K) ZF XT;rw [Qa,Qa,Qa] at XT
    have pz:=post H10 (a1++a2) (b1'++b2') (c1++c2) (YO.trans (Zh.Vg.trans ZG)) XT (oA ka ma) (oA kb mb) (oA kc mc) λfd z=>by
     obtain ⟨_,f',g',e1,e2,e3⟩:=fC z;rw [Zg] at e1;cases e1;obtain ⟨da2,db2,dc2⟩:=d10 g' e2;subst e3;refine ⟨?_,?_,?_⟩
     ·show SG K H10 ((fa.1++g'.1).map toD) _;rw [PY];exact SG.append (SG.mono g _ (Zh.SQ da)) da2
     ·show SG K H10 ((fa.2.1++g'.2.1).map D.int) _;rw [PY];exact SG.append (SG.mono g _ (Zh.SQ db)) db2
     ·show SG K H10 ((fa.2.2++g'.2.2).map D.int) _;rw [PY];exact SG.append (SG.mono g _ (Zh.SQ dc)) dc2
    rw [qx Zg] at pz;exact pz
noncomputable def fdD:Option Ve->D
 | none=>.SM
 | some f=>.tup [.tup (f.1.map toD),.tup (f.2.1.map D.int),.tup (f.2.2.map D.int)]
def pX (ds:List D) (d:D):Prop:=∃ nm p cs t,ds=[.tup [nm,Xr p,cs],toD t]/\yL p/\UO t/\a9 t<=8/\eK p<=3/\d=fdD (cO p t)
theorem Hz (x y z:V):oi [] ([(Sum.inr (Str.ofString "hole"),x),(Sum.inr (Str.ofString "gap"),y),(Sum.inr (Str.ofString "slot"),z)]:List (Key × V))=[(Sum.inr (Str.ofString "hole"),x),(Sum.inr (Str.ofString "gap"),y),(Sum.inr (Str.ofString "slot"),z)]:=rfl
theorem Jg {K:W.Frag} {ts:TS} (h:te σ H λx H'=>∃ k,yn K x H' k/\if (!k)=true then ts { En with nx:=us En } σ H' else us En σ H'):lX (F2 (Ir (λσ H Q=>te σ H λx H'=>∃ k,yn K x H' k/\Q k H')) ts AO) us En σ H:=h
theorem xB (T:Txt P w K mg) (MR:Ok P w base k T.Ll (mK K oD 3)):Ok P w base (k+1) T.LB (Th K pX):=by
 refine T.LB.f.ok Xk (λvs H Q E h=>?_) (λcdv A outer s H vs Q E hr h=>?_)
 ·obtain ⟨ds,d,hd,⟨nm,p,cs,t,rfl,_⟩,_⟩:=h;exact hd.length.symm
 have nd:=Xk.nd;obtain ⟨ds,d,hd,⟨nm,p,cs,t,rfl,W0,Vm,XS,dpp,rfl⟩,post⟩:=h;obtain ⟨v0,v1,rfl,h0,h1⟩:=i5 hd;refine' ⟨_,?XU,?Y8⟩
 case' XU=>refine' aE ?a ?b
 case' a=>refine' bQ (i:=2) ?c ?d ?e ?f
 case c=>exact nd
 case d=>exact rfl
 case e=>exact Or.inl rfl
 case' f=>refine' Fn ?g ?h ?i ?j ?k
 case' g=>refine' rf ?l ?m ?n
 case l=>exact aO
 case m=>exact (bY aC)
 case' n=>refine' rf ?o ?p ?q
 case o=>exact aO
 case p=>exact (bY aC)
 case' q=>refine' rf ?r ?s ?t
 case r=>exact aO
 case s=>exact (bY aC)
 case t=>exact Fz
 case h=>exact rfl
 case i=>exact rfl
 case j=>simp
 case k=>decide
 case' b=>refine' aE ?u ?v
 case' u=>refine' bE ?w ?x ?y
 case w=>exact (cW (bR (pc (D:=T.Ll) MR hr (aD (aY aZ (pv 0) aF) (aD (pv 1) (aD (pv 2) aC)))) (λ_=>rfl)))
 case' x=>refine' aH ?z
 case z=>exact (aP gR)
 case y=>exact aQ
 case' v=>refine' aH ?aa
 case aa=>exact (aP (bA (aD (eP dY rfl T.KL fP (aD (pN (Ag hr) (pv 2) aO (λ_ _=>rfl)) aC)) (aD (eP dY rfl T.KL fP (aD (pN (Ag hr) (pv 2) aO (λ_ _=>rfl)) aC)) (aD (eP dY rfl T.KL fP (aD (pN (Ag hr) (pv 2) aO (λ_ _=>rfl)) aC)) aC)))))
 refine fR (λf hf=>⟨dB (by decide),λl0 X4=>⟨dB (by decide),λl1 hl1=>⟨dB (by decide),λl2 hl2=>⟨?_,[(Sum.inr "hole",.ref l0),(Sum.inr "gap",.ref l1),(Sum.inr "slot",.ref l2)],rfl,by simp,?_⟩⟩⟩⟩)
 ·rw [aS (aU (by rw [aS (aU (by rw [aS (aU aI X4)];exact aI) hl1),aS (aU aI X4)];exact aI) hl2),aS (aU (by rw [aS (aU aI X4)];exact aI) hl1),aS (aU aI X4)];exact aI
 rw [Hz];have n0f:f≠l0:=aU aI X4;have n1f:f≠l1:=aU (by rw [aS n0f];exact aI) hl1;have ZR:l0≠l1:=aU aI hl1;have n2f:f≠l2:=aU (by rw [aS n1f,aS n0f];exact aI) hl2;have n20:l0≠l2:=aU (by rw [aS ZR];exact aI) hl2;have n21:l1≠l2:=aU aI hl2;generalize hG:upd (upd (upd (upd (upd H f (.dK [])) l0 (.lst [])) l1 (.lst [])) l2 (.lst [])) f (.dK [(Sum.inr "hole",V.ref l0),(Sum.inr "gap",.ref l1),(Sum.inr "slot",.ref l2)])=G;have gf:G f=some (oD l0 l1 l2):=by rw [<- hG];exact aI
 have W5:X6 l0 l1 l2 G [] [] []:=by
  rw [<- hG];refine ⟨?_,?_,?_,ZR,n20,n21⟩
  ·rw [aS (PL n0f),aS n20,aS ZR];exact aI
  ·rw [aS (PL n1f),aS n21];exact aI
  ·rw [aS (PL n2f)];exact aI
 have sG:SH H G:=λx o hx=>by have zf:=aU hx hf;have z0:x≠l0:=aU (by rw [aS zf];exact hx) X4;have z1:x≠l1:=aU (by rw [aS z0,aS zf];exact hx) hl1;have z2:x≠l2:=aU (by rw [aS z1,aS z0,aS zf];exact hx) hl2;rw [<- hG,aS zf,aS z2,aS z1,aS z0,aS zf];exact hx
 have free0:H l0=none:=by rw [aS (PL n0f)] at X4;exact X4
 have free1:H l1=none:=by rw [aS (PL ZR),aS (PL n1f)] at hl1;exact hl1
 have free2:H l2=none:=by rw [aS (PL n21),aS (PL n20),aS (PL n2f)] at hl2;exact hl2
 refine Jg (K:=K) (mT (gS (RE.use (K:=K) (d:=Xr p) (a6 (k:=1) (aA (sG.dat h0)) aG rfl) λw0 G1 s1 q0=>?_)));refine ⟨_,rfl,_,rfl,p,t,w0,v1,f,l0,l1,l2,[],[],[],rfl,W0,Vm,XS,dpp,by decide,q0,(sG.trans s1).dat h1,s1 _ _ gf,n0f,n1f,n2f,W5.same s1,by decide,by decide,by decide,λH' a' b' c' bb YQ _ _ _ dd=>⟨_,rfl,?_⟩⟩;have sm:SH H H':=λx o hx=>bb x o (aU hx free0) (aU hx free1) (aU hx free2) (s1 _ _ (sG _ _ hx))
 cases Yp:cO p t with
 | none =>refine j4 ?_;rw [Yp] at post;exact post _ _ sm Dat.X5
 | some fd =>refine j0 ?_;obtain ⟨d0,d1,d2⟩:=dd fd Yp;have gf':H' f=some (.dK [(Sum.inr "hole",V.ref l0),(Sum.inr "gap",.ref l1),(Sum.inr "slot",.ref l2)]):=bb _ _ n0f n1f n2f (s1 _ _ gf);rw [Yp] at post;exact bJ (K:=K) (d:=fdD (some fd)) (bF (aB (oE gf' (Ao l0 l1 l2) YQ.h0 d0) (aB (oE gf' (Dk l0 l1 l2) YQ.h1 d1) (aB (oE gf' (Ap l0 l1 l2) YQ.h2 d2) aM)))) λv T3 s qq=>post v T3 (sm.trans s) qq
abbrev Gc (ds:List D) (d:D):Prop:=∃ x,ds=[x]/\iW x=true/\d=.SM
abbrev LPD:List D:=[.tup [.str "inc",.tup [.str "add",.tup [.str "hole",.int 0],.tup [.str "num",.int 1]],.tup [.int 12,.int 1]],
 .tup [.str "both",.tup [.str "add",.tup [.str "slot",.int 0],.tup [.str "slot",.int 1]],.tup [.int 3,.tup [.str "arg",.int 0],.int 3,.tup [.str "arg",.int 1],.int 4]],
 .tup [.str "twofold",.tup [.str "mul",.tup [.str "hole",.int 0],.tup [.str "num",.int 2]],.tup [.int 13,.int 4]],
 .tup [.str "fewer",.tup [.str "sub",.tup [.str "hole",.int 0],.tup [.str "gap",.int 0,.int 99]],.tup [.int 1,.tup [.str "low",.int 0],.int 5]],
 .tup [.str "addmul",.tup [.str "add",.tup [.str "mul",.tup [.str "hole",.int 0],.tup [.str "hole",.int 1]],.tup [.str "gap",.int 0,.int 99]],.tup [.int 6,.int 12,.tup [.str "low",.int 0]]],
 .tup [.str "turned",.tup [.str "less",.tup [.str "gap",.int 0,.int 99],.tup [.str "hole",.int 0]],.tup [.int 1,.tup [.str "low",.int 0],.int 14,.int 7]],
 .tup [.str "far",.tup [.str "add",.tup [.str "hole",.int 0],.tup [.str "gap",.int 0,.int 9999]],.tup [.int 2,.tup [.str "low",.int 0],.tup [.str "high",.int 0],.int 4]],
 .tup [.str "pair",.tup [.str "sub",.tup [.str "gap",.int 0,.int 99],.tup [.str "gap",.int 1,.int 99]],.tup [.int 1,.tup [.str "low",.int 0],.int 1,.tup [.str "low",.int 1],.int 5]]]
theorem qV (T:Txt P w K mg)  : Ok P w base (k+1) T.KJ (kL K λds es=>ds=[]/\es=LPD):=by
 refine T.KJ.f.ok V5 (λvs H Q E h=>?_) (λcdv A outer s H vs Q E hr h=>?_)
 ·obtain ⟨ds,es,hd,⟨rfl,rfl⟩,_⟩:=h;exact hd.length.symm
 have nd:=V5.nd;obtain ⟨ds,es,hd,⟨rfl,rfl⟩,post⟩:=h;have ez:=hd.VZ;subst ez;refine' ⟨_,?XU,?Y8⟩
 case' XU=>refine' aE ?a ?b
 case' a=>refine' gH ?c ?d ?e ?f
 case' c=>refine' bA ?g
 case' g=>refine' aD ?h ?i
 case h=>exact (bA (aD aO (aD aF aC)))
 case' i=>refine' aD ?j ?k
 case j=>exact (bA (aD aO (aD aF aC)))
 case' k=>refine' aD ?l ?m
 case l=>exact (bA (aD aO (aD aF (aD aF aC))))
 case m=>exact aC
 case d=>exact (gF rfl (bN (a7 (i:=0) nd rfl (Or.inl rfl)) (bN (a7 (i:=1) nd rfl (Or.inl rfl)) (bN (a7 (i:=2) nd rfl (Or.inl rfl)) eH))))
 case e=>rfl
 case f=>kernel_rfl
 case' b=>refine' aE ?n ?o
 case' n=>refine' bQ (i:=3) ?p ?q ?r ?s
 case p=>exact nd
 case q=>exact rfl
 case r=>exact Or.inl rfl
 case' s=>refine' bY ?t
 case' t=>refine' aD ?u ?v
 case' u=>refine' bA ?w
 case' w=>refine' aD ?x ?y
 case x=>exact aO
 case' y=>refine' aD ?z ?aa
 case' z=>refine' bA ?ab
 case' ab=>refine' aD ?ac ?ad
 case ac=>exact aO
 case' ad=>refine' aD ?ae ?af
 case ae=>exact (pv 0)
 case' af=>refine' aD ?ag ?ah
 case ag=>exact (bA (aD aO (aD aF aC)))
 case ah=>exact aC
 case' aa=>refine' aD ?ai ?aj
 case ai=>exact (bA (aD aF (aD aF aC)))
 case aj=>exact aC
 case v=>exact aC
 case' o=>refine' aE ?ak ?al
 case' ak=>refine' bP ?am
 case' am=>refine' fF ?an ?ao ?ap ?aq ?ar ?au
 case an=>exact PD
 case ao=>exact P5
 case ap=>exact P7
 case aq=>exact cC
 case ar=>exact (pv 3)
 case' au=>refine' aD ?av ?aw
 case' av=>refine' bA ?ax
 case' ax=>refine' aD ?ay ?az
 case ay=>exact aO
 case' az=>refine' aD ?ba ?bb
 case' ba=>refine' bA ?bc
 case' bc=>refine' aD ?bd ?be
 case bd=>exact aO
 case' be=>refine' aD ?bf ?bg
 case bf=>exact (bA (aD aO (aD aF aC)))
 case' bg=>refine' aD ?bh ?bi
 case bh=>exact (bA (aD aO (aD aF aC)))
 case bi=>exact aC
 case' bb=>refine' aD ?bj ?bk
 case' bj=>refine' bA ?bl
 case' bl=>refine' aD ?bm ?bn
 case bm=>exact aF
 case' bn=>refine' aD ?bo ?bp
 case bo=>exact (bA (aD aO (aD aF aC)))
 case' bp=>refine' aD ?bq ?br
 case bq=>exact aF
 case' br=>refine' aD ?bs ?bt
 case bs=>exact (bA (aD aO (aD aF aC)))
 case' bt=>refine' aD ?bu ?bv
 case bu=>exact aF
 case bv=>exact aC
 case bk=>exact aC
 case aw=>exact aC
 case' al=>refine' aE ?bw ?bx
 case' bw=>refine' bP ?bz
 case' bz=>refine' fF ?ca ?cb ?cc ?cd ?ce ?cf
 case ca=>exact PD
 case cb=>exact P5
 case cc=>exact P7
 case cd=>exact cC
 case ce=>exact (pv 3)
 case' cf=>refine' aD ?cg ?ch
 case' cg=>refine' bA ?ci
 case' ci=>refine' aD ?cj ?ck
 case cj=>exact aO
 case' ck=>refine' aD ?cl ?cm
 case' cl=>refine' bA ?cn
 case' cn=>refine' aD ?co ?cp
 case co=>exact aO
 case' cp=>refine' aD ?cq ?cr
 case cq=>exact (pv 0)
 case' cr=>refine' aD ?cs ?ct
 case cs=>exact (bA (aD aO (aD aF aC)))
 case ct=>exact aC
 case' cm=>refine' aD ?cu ?cv
 case cu=>exact (bA (aD aF (aD aF aC)))
 case cv=>exact aC
 case ch=>exact aC
 case' bx=>refine' aE ?cw ?cx
 case' cw=>refine' bP ?cy
 case' cy=>refine' fF ?cz ?da ?db ?dc ?dd ?de
 case cz=>exact PD
 case da=>exact P5
 case db=>exact P7
 case dc=>exact cC
 case dd=>exact (pv 3)
 case' de=>refine' aD ?df ?dg
 case' df=>refine' bA ?dh
 case' dh=>refine' aD ?di ?dj
 case di=>exact aO
 case' dj=>refine' aD ?dk ?dl
 case dk=>exact (bA (aD aO (aD (pv 0) (aD (pv 2) aC))))
 case' dl=>refine' aD ?dm ?dn
 case' dm=>refine' bA ?dp
 case' dp=>refine' aD ?dq ?dr
 case dq=>exact aF
 case' dr=>refine' aD ?ds ?dt
 case ds=>exact (bA (aD aO (aD aF aC)))
 case' dt=>refine' aD ?du ?dv
 case du=>exact aF
 case dv=>exact aC
 case dn=>exact aC
 case dg=>exact aC
 case' cx=>refine' aE ?dw ?dx
 case' dw=>refine' bP ?dy
 case' dy=>refine' fF ?dz ?ea ?eb ?ec ?ed ?ee
 case dz=>exact PD
 case ea=>exact P5
 case eb=>exact P7
 case ec=>exact cC
 case ed=>exact (pv 3)
 case' ee=>refine' aD ?ef ?eg
 case' ef=>refine' bA ?eh
 case' eh=>refine' aD ?ei ?ej
 case ei=>exact aO
 case' ej=>refine' aD ?ek ?el
 case' ek=>refine' bA ?em
 case' em=>refine' aD ?en ?eo
 case en=>exact aO
 case' eo=>refine' aD ?ep ?eq
 case ep=>exact (bA (aD aO (aD (pv 0) (aD (pv 1) aC))))
 case' eq=>refine' aD ?er ?es
 case er=>exact (pv 2)
 case es=>exact aC
 case' el=>refine' aD ?et ?eu
 case' et=>refine' bA ?ev
 case' ev=>refine' aD ?ew ?ex
 case ew=>exact aF
 case' ex=>refine' aD ?ey ?ez
 case ey=>exact aF
 case' ez=>refine' aD ?fa ?fb
 case fa=>exact (bA (aD aO (aD aF aC)))
 case fb=>exact aC
 case eu=>exact aC
 case eg=>exact aC
 case' dx=>refine' aE ?fc ?fd
 case' fc=>refine' bP ?fe
 case' fe=>refine' fF ?ff ?fg ?fh ?fi ?fj ?fk
 case ff=>exact PD
 case fg=>exact P5
 case fh=>exact P7
 case fi=>exact cC
 case fj=>exact (pv 3)
 case' fk=>refine' aD ?fl ?fm
 case' fl=>refine' bA ?fn
 case' fn=>refine' aD ?fo ?fp
 case fo=>exact aO
 case' fp=>refine' aD ?fq ?fr
 case fq=>exact (bA (aD aO (aD (pv 2) (aD (pv 0) aC))))
 case' fr=>refine' aD ?fs ?ft
 case' fs=>refine' bA ?fu
 case' fu=>refine' aD ?fv ?fw
 case fv=>exact aF
 case' fw=>refine' aD ?fx ?fy
 case fx=>exact (bA (aD aO (aD aF aC)))
 case' fy=>refine' aD ?fz ?ga
 case fz=>exact aF
 case' ga=>refine' aD ?gb ?gc
 case gb=>exact aF
 case gc=>exact aC
 case ft=>exact aC
 case fm=>exact aC
 case' fd=>refine' aE ?gd ?ge
 case' gd=>refine' bP ?gf
 case' gf=>refine' fF ?gg ?gh ?gi ?gj ?gk ?gl
 case gg=>exact PD
 case gh=>exact P5
 case gi=>exact P7
 case gj=>exact cC
 case gk=>exact (pv 3)
 case' gl=>refine' aD ?gm ?gn
 case' gm=>refine' bA ?go
 case' go=>refine' aD ?gp ?gq
 case gp=>exact aO
 case' gq=>refine' aD ?gr ?gs
 case' gr=>refine' bA ?gt
 case' gt=>refine' aD ?gu ?gv
 case gu=>exact aO
 case' gv=>refine' aD ?gw ?gx
 case gw=>exact (pv 0)
 case' gx=>refine' aD ?gy ?gz
 case gy=>exact (bA (aD aO (aD aF (aD aF aC))))
 case gz=>exact aC
 case' gs=>refine' aD ?ha ?hb
 case' ha=>refine' bA ?hc
 case' hc=>refine' aD ?hd ?he
 case hd=>exact aF
 case' he=>refine' aD ?hf ?hg
 case hf=>exact (bA (aD aO (aD aF aC)))
 case' hg=>refine' aD ?hh ?hi
 case hh=>exact (bA (aD aO (aD aF aC)))
 case' hi=>refine' aD ?hj ?hk
 case hj=>exact aF
 case hk=>exact aC
 case hb=>exact aC
 case gn=>exact aC
 case' ge=>refine' aE ?hl ?hm
 case' hl=>refine' bP ?hn
 case' hn=>refine' fF ?ho ?hp ?hq ?hr ?hs ?ht
 case ho=>exact PD
 case hp=>exact P5
 case hq=>exact P7
 case hr=>exact cC
 case hs=>exact (pv 3)
 case' ht=>refine' aD ?hu ?hv
 case' hu=>refine' bA ?hw
 case' hw=>refine' aD ?hx ?hy
 case hx=>exact aO
 case' hy=>refine' aD ?hz ?ia
 case' hz=>refine' bA ?ib
 case' ib=>refine' aD ?ic ?id
 case ic=>exact aO
 case' id=>refine' aD ?ie ?ig
 case ie=>exact (bA (aD aO (aD aF (aD aF aC))))
 case' ig=>refine' aD ?ih ?ii
 case ih=>exact (bA (aD aO (aD aF (aD aF aC))))
 case ii=>exact aC
 case' ia=>refine' aD ?ij ?ik
 case' ij=>refine' bA ?il
 case' il=>refine' aD ?im ?io
 case im=>exact aF
 case' io=>refine' aD ?ip ?iq
 case ip=>exact (bA (aD aO (aD aF aC)))
 case' iq=>refine' aD ?ir ?it
 case ir=>exact aF
 case' it=>refine' aD ?iu ?iv
 case iu=>exact (bA (aD aO (aD aF aC)))
 case' iv=>refine' aD ?iw ?ix
 case iw=>exact aF
 case ix=>exact aC
 case ik=>exact aC
 case hv=>exact aC
 case' hm=>refine' aH ?iy
 case iy=>exact (aP (pv 3))
 refine vU (K:=K) (d:=.tup [.str "hole",.int 0]) (e:=.tup [.str "hole",.int 1]) (f:=.tup [.str "gap",.int 0,.int 99]) (bF (aB (bF (aB aL (aB aG aM))) (aB (bF (aB aL (aB aG aM))) (aB (bF (aB aL (aB aG (aB aG aM)))) aM)))) λvh vo vg H1 s1 dh Yv dg=>?_;refine gY (K:=K) (iC (aB (bF (aB aL (aB (bF (aB aL (aB (aA dh) (aB (bF (aB aL (aB aG aM))) aM)))) (aB (bF (aB aG (aB aG aM))) aM)))) aM)) λlb x0 G0 hb s2 h0 e0=>?_;have hlb:H lb=none:=s1.free hb;have dh:=s2.dat dh;have Yv:=s2.dat Yv;have dg:=s2.dat dg;have bb0:S4 lb H G0:=(s1.trans s2).but;have l0:=e0.length;simp only [Pp,Qk,tB] at l0;refine iZ (K:=K) (bF (aB aL (aB (bF (aB aL (aB (bF (aB aL (aB aG aM))) (aB (bF (aB aL (aB aG aM))) aM)))) (aB (bF (aB aG (aB (bF (aB aL (aB aG aM))) (aB aG (aB (bF (aB aL (aB aG aM))) (aB aG aM)))))) aM)))) h0 (by first | omega | (simp only [tB,Pp,Qk];omega)) λy1 G1 b1 h1 Y0=>?_;have g1:gA K _ G1:=b1.grow h0 h1;have dh:=Dat.mono g1 _ dh;have Yv:=Dat.mono g1 _ Yv;have dg:=Dat.mono g1 _ dg;have e1:=SG.append (SG.mono g1 _ e0) (SG.cons Y0 SG.nil);have l1:=e1.length;have bb1:=bb0.trans b1;simp only [Pp,Qk,tB] at l1;refine iZ (K:=K) (bF (aB aL (aB (bF (aB aL (aB (aA dh) (aB (bF (aB aL (aB aG aM))) aM)))) (aB (bF (aB aG (aB aG aM))) aM)))) h1 (by first | omega | (simp only [tB,Pp,Qk];omega)) λy2 G2 b2 h2 e2'=>?_;have g2:gA K _ G2:=b2.grow h1 h2;have dh:=Dat.mono g2 _ dh;have Yv:=Dat.mono g2 _ Yv;have dg:=Dat.mono g2 _ dg;have e2:=SG.append (SG.mono g2 _ e1) (SG.cons e2' SG.nil);have l2:=e2.length;have bb2:=bb1.trans b2;simp only [Pp,Qk,tB] at l2;refine iZ (K:=K) (bF (aB aL (aB (bF (aB aL (aB (aA dh) (aB (aA dg) aM)))) (aB (bF (aB aG (aB (bF (aB aL (aB aG aM))) (aB aG aM)))) aM)))) h2 (by first | omega | (simp only [tB,Pp,Qk];omega)) λy3 G3 b3 h3 e3'=>?_;have g3:gA K _ G3:=b3.grow h2 h3;have dh:=Dat.mono g3 _ dh;have Yv:=Dat.mono g3 _ Yv;have dg:=Dat.mono g3 _ dg;have e3:=SG.append (SG.mono g3 _ e2) (SG.cons e3' SG.nil);have l3:=e3.length;have bb3:=bb2.trans b3;simp only [Pp,Qk,tB] at l3;refine iZ (K:=K) (bF (aB aL (aB (bF (aB aL (aB (bF (aB aL (aB (aA dh) (aB (aA Yv) aM)))) (aB (aA dg) aM)))) (aB (bF (aB aG (aB aG (aB (bF (aB aL (aB aG aM))) aM)))) aM)))) h3 (by first | omega | (simp only [tB,Pp,Qk];omega)) λy4 G4 b4 h4 e4'=>?_;have g4:gA K _ G4:=b4.grow h3 h4;have dh:=Dat.mono g4 _ dh;have Yv:=Dat.mono g4 _ Yv;have dg:=Dat.mono g4 _ dg;have e4:=SG.append (SG.mono g4 _ e3) (SG.cons e4' SG.nil);have l4:=e4.length;have bb4:=bb3.trans b4;simp only [Pp,Qk,tB] at l4;refine iZ (K:=K) (bF (aB aL (aB (bF (aB aL (aB (aA dg) (aB (aA dh) aM)))) (aB (bF (aB aG (aB (bF (aB aL (aB aG aM))) (aB aG (aB aG aM))))) aM)))) h4 (by first | omega | (simp only [tB,Pp,Qk];omega)) λy5 G5 b5 h5 e5'=>?_;have g5:gA K _ G5:=b5.grow h4 h5;have dh:=Dat.mono g5 _ dh;have Yv:=Dat.mono g5 _ Yv;have dg:=Dat.mono g5 _ dg;have e5:=SG.append (SG.mono g5 _ e4) (SG.cons e5' SG.nil);have l5:=e5.length;have bb5:=bb4.trans b5;simp only [Pp,Qk,tB] at l5;refine iZ (K:=K) (bF (aB aL (aB (bF (aB aL (aB (aA dh) (aB (bF (aB aL (aB aG (aB aG aM)))) aM)))) (aB (bF (aB aG (aB (bF (aB aL (aB aG aM))) (aB (bF (aB aL (aB aG aM))) (aB aG aM))))) aM)))) h5 (by first | omega | (simp only [tB,Pp,Qk];omega)) λy6 G6 b6 h6 e6'=>?_;have g6:gA K _ G6:=b6.grow h5 h6;have dh:=Dat.mono g6 _ dh;have Yv:=Dat.mono g6 _ Yv;have dg:=Dat.mono g6 _ dg;have e6:=SG.append (SG.mono g6 _ e5) (SG.cons e6' SG.nil);have l6:=e6.length;have bb6:=bb5.trans b6;simp only [Pp,Qk,tB] at l6;refine iZ (K:=K) (bF (aB aL (aB (bF (aB aL (aB (bF (aB aL (aB aG (aB aG aM)))) (aB (bF (aB aL (aB aG (aB aG aM)))) aM)))) (aB (bF (aB aG (aB (bF (aB aL (aB aG aM))) (aB aG (aB (bF (aB aL (aB aG aM))) (aB aG aM)))))) aM)))) h6 (by first | omega | (simp only [tB,Pp,Qk];omega)) λy7 G7 b7 h7 e7'=>?_;have g7:gA K _ G7:=b7.grow h6 h7;have dh:=Dat.mono g7 _ dh;have Yv:=Dat.mono g7 _ Yv;have dg:=Dat.mono g7 _ dg;have e7:=SG.append (SG.mono g7 _ e6) (SG.cons e7' SG.nil);have l7:=e7.length;have bb7:=bb6.trans b7;have sm:SH H G7:=λb o hbo=>bb7 b o (aU hbo hlb) hbo;exact ⟨_,rfl,post lb _ G7 sm h7 hlb e7⟩
structure Pc where
 nm:Str
 pt:Pa
 cs:List D
noncomputable def VD (p:Pc):D:=.tup [.str p.nm,Xr p.pt,.tup p.cs]
noncomputable def fY:Pa->Bool
 | .hole _=>false
 | _=>true
structure Fi (p:Pc):Prop where
 nm:p.nm≠"pick"
 ok:yL p.pt
 dp:eK p.pt<=3
 cs:p.cs.length<=12
 nh:fY p.pt=true
structure Wy where
 nm:Str
 cs:List D
 ts:List Tr
noncomputable def wyD (w:Wy):D:=.tup [.str w.nm,.tup w.cs,.tup (w.ts.map toD)]
noncomputable def iN (t:Tr) (p:Pc):Option Wy:=(cO p.pt t).map λf=>⟨p.nm,p.cs,f.1⟩
noncomputable def xj:Tr->Bool
 | .pick _ _ _=>true
 | _=>false
noncomputable def iT (ps:List Pc) (t:Tr):List Wy:=if xj t=true then [⟨"pick",[],dR t⟩] else ps.filterMap (iN t)
noncomputable def fN (near far many:Int):List Int:=if many<=9 then [near,many] else [far,many % 100,many / 100]
noncomputable def fU (many:Int):Int:=if many<=9 then 2 else 3
theorem i7 (near far many:Int):((fN near far many).length:Int)=fU many:=by unfold fN fU;split <;> rfl
theorem Aj {a b:Int} (h:a<=b):fU a<=fU b:=by unfold fU;split <;> split <;> omega
theorem CT (a:Int):2<=fU a/\fU a<=3:=by unfold fU;split <;> omega
noncomputable def ra (y z:Int):Int:=fU (y+fU z)+fU z
theorem Dx {a b d:Int} (h:a<=b) (h':c<=d):ra a c<=ra b d:=by unfold ra;have h1:=Aj h';have h2:=Aj (show a+fU c<=b+fU d by omega);omega
noncomputable def pH (w:Wy) (ls:List Int):Int:=if w.nm="pick" then ra (ls.getD 1 0) (ls.getD 2 0) else (w.cs.length:Int)
noncomputable def dD (w:Wy) (ls:List Int):Int:=pH w ls+ls.sum
noncomputable abbrev Wl:Type:=Option (Int × D)
noncomputable def bD:Wl->D
 | none=>.SM
 | some b=>.tup [.int b.1,b.2]
noncomputable def fK:List Wl->Option (List (Int × D))
 | []=>some []
 | none::_=>none
 | some b::r=>(fK r).map (b::·)
noncomputable def ZS (nm:Str) (bs:List (Int × D)):D:=.tup [.str nm,.tup (bs.map (·.2))]
noncomputable def jB (best:Wl) (l:Int) (c:D):Wl:=match best with
 | none=>some (l,c)
 | some b=>if l < b.1 then some (l,c) else some b
noncomputable def x8 (best:Wl) (w:Wy):Option (List (Int × D))->Wl
 | none=>best
 | some bs=>jB best (dD w (bs.map (·.1))) (ZS w.nm bs)
noncomputable def iF (f:Tr->Wl) (best:Wl) (w:Wy):Wl:=x8 best w (fK (w.ts.map f))
noncomputable def mM (ps:List Pc) (f:Tr->Wl) (t:Tr):Wl:=(iT ps t).foldl (iF f) none
noncomputable def m6 (ps:List Pc):Nat->Tr->Wl
 | 0,_=>none
 | n+1,t=>mM ps (m6 ps n) t
noncomputable def bS (ps:List Pc) (t:Tr):Wl:=m6 ps (bB t) t
theorem tX (t:Tr):1<=bB t:=by cases t <;> simp [bB]
theorem uB:∀ (p:Pa) (t:Tr) (f:Ve),cO p t=some f->∀ x ∈ f.1,x ∈ bC t
 | .hole i,t,f,h,x,hx=>by cases h;simp at hx;rw [hx,hU];exact P0
 | .gap i m,t,f,h,x,hx=>by
  cases t with
  | num n =>
   have h':(if n<=m then some ([],[n],[]) else none:Option Ve)=some f:=h;by_cases z:n<=m
   ·rw [Ph z] at h';cases h';simp at hx
   ·rw [M1 z] at h';cases h'
  | _=>cases h
 | .slot i,t,f,h,x,hx=>by
  cases t with
  | arg n=>cases h;simp at hx
  | _=>cases h
 | .num m,t,f,h,x,hx=>by
  cases t with
  | num n =>
   have h':(if n=m then some ([],[],[]) else none:Option Ve)=some f:=h;by_cases z:n=m
   ·rw [Ph z] at h';cases h';simp at hx
   ·rw [M1 z] at h';cases h'
  | _=>cases h
 | .two o a b,t,f,h,x,hx=>by
  cases t with
  | two o' u v =>
   obtain ⟨_,f1,f2,e1,e2,e3⟩:=fC h;subst e3;have hx':x ∈ f1.1++f2.1:=hx;simp only [bC,Py,P9];rcases P9.mp hx' with hx | hx
   ·exact .inr (.inl (uB a u f1 e1 x hx))
   ·exact .inr (.inr (uB b v f2 e2 x hx))
  | _=>cases h
theorem k8 {p:Pa} {f:Ve} (hp:fY p=true) (h:cO p t=some f):∀ x ∈ f.1,x ∈ (dR t).flatMap bC:=by
 intro x hx
 cases p with
 | hole i=>cases hp
 | gap i m =>
  cases t with
  | num n =>
   have h':(if n<=m then some ([],[n],[]) else none:Option Ve)=some f:=h;by_cases z:n<=m
   ·rw [Ph z] at h';cases h';simp at hx
   ·rw [M1 z] at h';cases h'
  | _=>cases h
 | slot i =>
  cases t with
  | arg n=>cases h;simp at hx
  | _=>cases h
 | num m =>
  cases t with
  | num n =>
   have h':(if n=m then some ([],[],[]) else none:Option Ve)=some f:=h;by_cases z:n=m
   ·rw [Ph z] at h';cases h';simp at hx
   ·rw [M1 z] at h';cases h'
  | _=>cases h
 | two o a b =>
  cases t with
  | two o' u v =>
   obtain ⟨_,f1,f2,e1,e2,e3⟩:=fC h;subst e3;have hx':x ∈ f1.1++f2.1:=hx;simp only [dR,List.flatMap_cons,List.flatMap_nil,PM,P9];rcases P9.mp hx' with hx | hx
   ·exact .inl (uB a u f1 e1 x hx)
   ·exact .inr (uB b v f2 e2 x hx)
  | _=>cases h
theorem BM (t:Tr):t ∈ bC t:=by rw [hU];exact P0
variable {ps:List Pc}
theorem pU (hp:∀ p ∈ ps,fY p.pt=true) {w:Wy} (hw:w ∈ iT ps t):∀ x ∈ w.ts,x ∈ (dR t).flatMap bC:=by
 unfold iT at hw;split at hw
 ·rw [PN.mp hw];intro x hx;exact List.mem_flatMap.mpr ⟨x,hx,BM x⟩
 ·obtain ⟨p,h1,h2⟩:=Q6.mp hw;unfold iN at h2
  cases e:cO p.pt t with
  | none=>rw [e] at h2;cases h2
  | some f =>rw [e] at h2;cases h2;exact k8 (hp p h1) e
theorem gD:∀ (t x:Tr),x ∈ bC t->bB x<=bB t/\a9 x<=a9 t
 | .num n,x,h=>by
  have e:x=.num n:=by simpa [bC] using h
  subst e;exact ⟨Pq _,Pq _⟩
 | .arg n,x,h=>by
  have e:x=.arg n:=by simpa [bC] using h
  subst e;exact ⟨Pq _,Pq _⟩
 | .two o a b,x,h=>by
  simp only [bC,Py,P9] at h;rcases h with rfl | h | h
  ·exact ⟨Pq _,Pq _⟩
  ·have:=gD a x h;simp only [bB,a9];omega
  ·have:=gD b x h;simp only [bB,a9];omega
 | .pick a b c,x,h=>by
  simp only [bC,Py,P9] at h;rcases h with rfl | (h | h) | h
  ·exact ⟨Pq _,Pq _⟩
  ·have:=gD a x h;simp only [bB,a9];omega
  ·have:=gD b x h;simp only [bB,a9];omega
  ·have:=gD c x h;simp only [bB,a9];omega
theorem iA:∀ (t x:Tr),UO t->x ∈ bC t->UO x
 | .num n,x,k,h=>by
  have e:x=.num n:=by simpa [bC] using h
  subst e;exact k
 | .arg n,x,k,h=>by
  have e:x=.arg n:=by simpa [bC] using h
  subst e;exact k
 | .two o a b,x,k,h=>by
  simp only [bC,Py,P9] at h;rcases h with rfl | h | h
  ·exact k
  ·exact iA a x k.2.1 h
  ·exact iA b x k.2.2 h
 | .pick a b c,x,k,h=>by
  simp only [bC,Py,P9] at h;rcases h with rfl | (h | h) | h
  ·exact k
  ·exact iA a x k.1 h
  ·exact iA b x k.2.1 h
  ·exact iA c x k.2.2 h
theorem Bd (h:x ∈ dR t):bB x < bB t/\a9 x < a9 t:=by
 cases t with
 | num n=>simp [dR] at h
 | arg n=>simp [dR] at h
 | two o a b =>simp only [dR,Py,P8,Qx] at h;simp only [bB,a9];rcases h with rfl | rfl <;> omega
 | pick a b c =>simp only [dR,Py,P8,Qx] at h;simp only [bB,a9];rcases h with rfl | rfl | rfl <;> omega
theorem iR (h:x ∈ (dR t).flatMap bC):bB x < bB t/\a9 x < a9 t:=by obtain ⟨k,h1,h2⟩:=List.mem_flatMap.mp h;have:=Bd h1;have:=gD k x h2;omega
theorem mj (h:x ∈ (dR t).flatMap bC):x ∈ bC t:=by rw [hU];exact PR _ h
variable {f g:Tr->Wl}
theorem zy {w:Wy} (h:∀ x ∈ w.ts,f x=g x) (b:Wl):iF f b w=iF g b w:=by unfold iF;rw [List.map_congr_left h]
theorem mQ:∀ (ws:List Wy) (b:Wl),(∀ w ∈ ws,∀ x ∈ w.ts,f x=g x)->ws.foldl (iF f) b=ws.foldl (iF g) b
 | [],_,_=>rfl
 | w::ws,b,h=>by rw [Rf,Rf,zy (h w P0)];exact mQ ws _ λw' hw=>h w' (PR _ hw)
theorem oQ (hp:∀ p ∈ ps,fY p.pt=true):∀ (n:Nat) (t:Tr),bB t<=n->m6 ps (n+1) t=m6 ps n t
 | 0,t,h=>by have:=tX t;omega
 | n+1,t,h=>by show mM ps (m6 ps (n+1)) t=mM ps (m6 ps n) t;refine mQ _ _ λw hw x hx=>oQ hp n x ?_;have:=iR (pU hp hw x hx);omega
theorem qg (hp:∀ p ∈ ps,fY p.pt=true):∀ {n:Nat},bB t<=n->m6 ps n t=bS ps t:=by
 intro n
 induction n with
 | zero=>intro h;have:=tX t;omega
 | succ n ih =>
  intro h;by_cases e:bB t=n+1
  ·unfold bS;rw [e]
  ·rw [oQ hp n t (by omega)];exact ih (by omega)
theorem m7 (hp:∀ p ∈ ps,fY p.pt=true) (t:Tr):bS ps t=mM ps (bS ps) t:=by rw [<- qg hp (RX (bB t))];show mM ps (m6 ps (bB t)) t=_;refine mQ _ _ λw hw x hx=>qg hp ?_;exact QM (iR (pU hp hw x hx)).1
inductive Vn {α β:Type} (R:α->β->Prop):List α->List β->Prop
 | nil:Vn R [] []
 | cons {a b as bs}:R a b->Vn R as bs->Vn R (a::as) (b::bs)
theorem Vn.mono {α β:Type} {R S:α->β->Prop} (h:∀ a b,R a b->S a b):∀ {as:List α} {bs:List β},Vn R as bs->Vn S as bs:=by
 intro as bs q
 induction q with
 | nil=>exact .nil
 | cons r _ ih=>exact .cons (h _ _ r) ih
def ug (ps:List Pc):Nat->Tr->Int->Prop
 | 0,_,_=>False
 | n+1,t,m=>∃ w ∈ iT ps t,∃ ls,Vn (ug ps n) w.ts ls/\m=dD w ls
def US (S:Int->Prop):Wl->Prop
 | none=>∀ m,¬ S m
 | some x=>S x.1/\∀ m,S m->x.1<=m
theorem Io:∀ {as bs:List Int},Vn (λa b=>a<=b) as bs->as.sum<=bs.sum:=by
 intro as bs h
 induction h with
 | nil=>exact RN _
 | cons r _ ih=>simp only [List.sum_cons];omega
theorem Ac:∀ {as bs:List Int},Vn (λa b=>a<=b) as bs->∀ i,as.getD i 0<=bs.getD i 0:=by
 intro as bs h
 induction h with
 | nil=>intro i;exact RN _
 | cons r _ ih =>
  intro i
  cases i with
  | zero=>simpa using r
  | succ i=>simpa using ih i
theorem CZ (w:Wy) {as bs:List Int} (h:Vn (λa b=>a<=b) as bs):dD w as<=dD w bs:=by
 unfold dD pH;have h1:=Io h;split
 ·have:=Dx (Ac h 1) (Ac h 2);omega
 ·omega
theorem sM {C:Tr->Int->Prop} (hf:∀ t,US (C t) (f t)):∀ {ts:List Tr},fK (ts.map f)=none->∀ ls,¬ Vn C ts ls
 | [],h,ls=>by cases h
 | t::ts,h,ls=>by
  intro q
  cases q with
  | cons r q =>
   cases e:f t with
   | none =>have z:=hf t;rw [e] at z;exact z _ r
   | some b =>
    rw [PB,e] at h;have h':(fK (ts.map f)).map (b::·)=none:=h
    cases e2:fK (ts.map f) with
    | none=>exact sM hf e2 _ q
    | some r=>rw [e2] at h';cases h'
theorem sN {C:Tr->Int->Prop} (hf:∀ t,US (C t) (f t)):∀ {ts:List Tr} {bs:List (Int × D)},fK (ts.map f)=some bs->Vn C ts (bs.map (·.1))/\∀ ls,Vn C ts ls->Vn (λa b=>a<=b) (bs.map (·.1)) ls
 | [],bs,h=>by cases h;exact ⟨.nil,λls q=>by cases q;exact .nil⟩
 | t::ts,bs,h=>by
  cases e:f t with
  | none=>rw [PB,e] at h;cases h
  | some b =>
   rw [PB,e] at h;have h':(fK (ts.map f)).map (b::·)=some bs:=h
   cases e2:fK (ts.map f) with
   | none=>rw [e2] at h';cases h'
   | some r =>
    rw [e2] at h';cases h';obtain ⟨i1,i2⟩:=sN hf e2;have z:=hf t;rw [e] at z;refine ⟨.cons z.1 i1,λls q=>?_⟩
    cases q with
    | cons q1 q2=>exact .cons (z.2 _ q1) (i2 _ q2)
theorem zz {C:Tr->Int->Prop} (hf:∀ t,US (C t) (f t)) {S:Int->Prop} {b:Wl} (w:Wy) (h:US S b):US (λm=>S m\/∃ ls,Vn C w.ts ls/\m=dD w ls) (iF f b w):=by
 unfold iF
 cases e:fK (w.ts.map f) with
 | none =>
  have no:=sM hf e
  cases b with
  | none=>exact λm z=>z.elim (h m) λ⟨ls,q,_⟩=>no ls q
  | some x=>exact ⟨.inl h.1,λm z=>z.elim (h.2 m) λ⟨ls,q,_⟩=>absurd q (no ls)⟩
 | some bs =>
  obtain ⟨i1,i2⟩:=sN hf e;have lo:∀ ls,Vn C w.ts ls->dD w (bs.map (·.1))<=dD w ls:=λls q=>CZ w (i2 ls q);show US _ (jB b _ _);unfold jB
  cases b with
  | none=>exact ⟨.inr ⟨_,i1,rfl⟩,λm z=>z.elim (λq=>absurd q (h m)) λ⟨ls,q,em⟩=>by rw [em];exact lo ls q⟩
  | some x =>
   dsimp only;split
   ·rename_i hlt;exact ⟨.inr ⟨_,i1,rfl⟩,λm z=>z.elim (λq=>Int.le_of_lt (Int.lt_of_lt_of_le hlt (h.2 m q))) λ⟨ls,q,em⟩=>by rw [em];exact lo ls q⟩
   ·rename_i hge;exact ⟨.inl h.1,λm z=>z.elim (h.2 m) λ⟨ls,q,em⟩=>by rw [em];have:=lo ls q;omega⟩
theorem US.iff {S T:Int->Prop} {b:Wl} (h:US S b) (e:∀ m,S m↔T m):US T b:=by have z:S=T:=funext λm=>propext (e m);rw [<- z];exact h
theorem qz {C:Tr->Int->Prop} (hf:∀ t,US (C t) (f t)):∀ (ws:List Wy) (S:Int->Prop) (b:Wl),US S b->US (λm=>S m\/∃ w ∈ ws,∃ ls,Vn C w.ts ls/\m=dD w ls) (ws.foldl (iF f) b)
 | [],S,b,h=>h.iff λm=>⟨λq=>.inl q,λq=>q.elim id λ⟨w,hw,_⟩=>absurd hw (by simp)⟩
 | w::ws,S,b,h=>by
  rw [Rf];refine (qz hf ws _ _ (zz hf w h)).iff λm=>⟨λq=>?_,λq=>?_⟩
  ·rcases q with (q | q) | ⟨w',hw,q⟩
   ·exact .inl q
   ·exact .inr ⟨w,P0,q⟩
   ·exact .inr ⟨w',PR _ hw,q⟩
  ·rcases q with q | ⟨w',hw,q⟩
   ·exact .inl (.inl q)
   ·rcases Py.mp hw with rfl | hw
    ·exact .inl (.inr q)
    ·exact .inr ⟨w',hw,q⟩
theorem qh (ps:List Pc):∀ (n:Nat) (t:Tr),US (ug ps n t) (m6 ps n t)
 | 0,t=>λm h=>h
 | n+1,t=>(qz (qh ps n) (iT ps t) (λ_=>False) none (λm h=>h)).iff λm=>⟨λq=>q.elim False.elim id,λq=>.inr q⟩
theorem wQ:∀ (n:Nat) (t:Tr) (m:Int),ug ps n t m->ug ps (n+1) t m
 | 0,t,m,h=>h.elim
 | n+1,t,m,⟨w,hw,ls,q,e⟩=>⟨w,hw,ls,q.mono (wQ n),e⟩
theorem uw {k:Nat} (h:n<=k) {m:Int} (q:ug ps n t m):ug ps k t m:=by
 induction h with
 | refl=>exact q
 | step _ ih=>exact wQ _ _ _ ih
def YG (ps:List Pc) (t:Tr) (m:Int):Prop:=∃ n,ug ps n t m
theorem IX (hp:∀ p ∈ ps,fY p.pt=true) (t:Tr):US (YG ps t) (bS ps t):=by
 have key:∀ n,US (ug ps (max n (bB t)) t) (bS ps t):=λn=>by have:=qh ps (max n (bB t)) t;rw [qg hp (Nat.le_max_right _ _)] at this;exact this
 cases e:bS ps t with
 | none =>rintro m ⟨n,q⟩;have k:=key n;rw [e] at k;exact k m (uw (Sa _ _) q)
 | some x =>
  refine ⟨?_,?_⟩
  ·have k:=key 0;rw [e] at k;exact ⟨_,k.1⟩
  ·rintro m ⟨n,q⟩;have k:=key n;rw [e] at k;exact k.2 m (uw (Sa _ _) q)
theorem Hf:∀ {ts:List Tr} {ls:List Int},Vn (YG ps) ts ls->∃ n,Vn (ug ps n) ts ls:=by
 intro ts ls h
 induction h with
 | nil=>exact ⟨0,.nil⟩
 | cons r _ ih =>obtain ⟨n1,q1⟩:=r;obtain ⟨n2,q2⟩:=ih;exact ⟨max n1 n2,.cons (uw (Sa _ _) q1) (q2.mono λ_ _=>uw (Nat.le_max_right _ _))⟩
theorem YG.intro {w:Wy} {ls:List Int} (hw:w ∈ iT ps t) (h:Vn (YG ps) w.ts ls):YG ps t (dD w ls):=by obtain ⟨n,q⟩:=Hf h;exact ⟨n+1,w,hw,ls,q,rfl⟩
theorem wz {p:Pc} {f:Ve} (hp:p ∈ ps) (ht:xj t=false) (h:cO p.pt t=some f):(⟨p.nm,p.cs,f.1⟩:Wy) ∈ iT ps t:=by unfold iT;rw [M1 (by rw [ht];exact Pk)];exact Q6.mpr ⟨p,hp,by unfold iN;rw [h];rfl⟩
theorem yh {a b c:Tr}:iT ps (.pick a b c)=[⟨"pick",[],[a,b,c]⟩]:=rfl
noncomputable def iO:Pa->Nat
 | .hole _=>1
 | .two _ a b=>iO a+iO b
 | _=>0
theorem lZ:∀ (p:Pa) (t:Tr) (f:Ve),cO p t=some f->f.1.length=iO p
 | .hole i,t,f,h=>by cases h;rfl
 | .gap i m,t,f,h=>by
  cases t with
  | num n =>
   have h':(if n<=m then some ([],[n],[]) else none:Option Ve)=some f:=h;by_cases z:n<=m
   ·rw [Ph z] at h';cases h';rfl
   ·rw [M1 z] at h';cases h'
  | _=>cases h
 | .slot i,t,f,h=>by
  cases t with
  | arg n=>cases h;rfl
  | _=>cases h
 | .num m,t,f,h=>by
  cases t with
  | num n =>
   have h':(if n=m then some ([],[],[]) else none:Option Ve)=some f:=h;by_cases z:n=m
   ·rw [Ph z] at h';cases h';rfl
   ·rw [M1 z] at h';cases h'
  | _=>cases h
 | .two o a b,t,f,h=>by
  cases t with
  | two o' u v =>obtain ⟨_,f1,f2,e1,e2,e3⟩:=fC h;subst e3;show (f1.1++f2.1).length=iO a+iO b;rw [tB,lZ a u f1 e1,lZ b v f2 e2]
  | _=>cases h
noncomputable abbrev JF:Pc:=⟨"add",.two "add" (.hole 0) (.hole 1),[.int 4]⟩
abbrev BP:List Pc:=[⟨"one",.gap 0 99,[.int 1,.tup [.str "low",.int 0]]⟩,⟨"two",.gap 0 9999,[.int 2,.tup [.str "low",.int 0],.tup [.str "high",.int 0]]⟩,⟨"slot",.slot 0,[.int 3,.tup [.str "arg",.int 0]]⟩,
 JF,⟨"sub",.two "sub" (.hole 0) (.hole 1),[.int 5]⟩,⟨"mul",.two "mul" (.hole 0) (.hole 1),[.int 6]⟩,⟨"less",.two "less" (.hole 0) (.hole 1),[.int 7]⟩,⟨"more",.two "add" (.hole 0) (.gap 0 99),[.int 12,.tup [.str "low",.int 0]]⟩]
theorem Hj (o:Str) (x y:Tr):cO (.two o (.hole 0) (.hole 1)) (.two o x y)=some ([x,y],[],[]):=by show (if o=o then _ else _)=_;rw [Ph rfl];rfl
theorem Dq (h:ZQ o):∃ c:D,(⟨o,.two o (.hole 0) (.hole 1),[c]⟩:Pc) ∈ BP:=by
 rcases h with rfl | rfl | rfl | rfl
 ·exact ⟨.int 4,by simp [BP]⟩
 ·exact ⟨.int 5,by simp [BP]⟩
 ·exact ⟨.int 6,by simp [BP]⟩
 ·exact ⟨.int 7,by simp [BP]⟩
theorem Dm (h:ZQ o):¬ o="pick":=by rcases h with rfl | rfl | rfl | rfl <;> decide +kernel
theorem EH (hb:∀ p ∈ BP,p ∈ ps) (h:ZQ o) {m n:Int} (hx:YG ps x m) (hy:YG ps y n):YG ps (.two o x y) (m+n+1):=by
 obtain ⟨c,hc⟩:=Dq h;have q:=YG.intro (wz (t:=.two o x y) (hb _ hc) rfl (Hj o x y)) (.cons hx (.cons hy .nil))
 have e:dD ⟨o,[c],[x,y]⟩ [m,n]=m+n+1:=by unfold dD pH;rw [M1 (Dm h)];simp;omega
 rw [<- e];exact q
theorem ke (hb:∀ p ∈ BP,p ∈ ps):∀ t:Tr,UO t->∃ m,YG ps t m
 | .num n,h=>by
  have e:cO (.gap 0 9999) (.num n)=some ([],[n],[]):=by show (if n<=9999 then _ else _)=_;rw [Ph h.2]
  exact ⟨_,YG.intro (wz (t:=.num n) (p:=⟨"two",.gap 0 9999,[.int 2,.tup [.str "low",.int 0],.tup [.str "high",.int 0]]⟩) (hb _ (by simp [BP])) rfl e) .nil⟩
 | .arg k,h=>⟨_,YG.intro (wz (t:=.arg k) (p:=⟨"slot",.slot 0,[.int 3,.tup [.str "arg",.int 0]]⟩) (f:=([],[],[k])) (hb _ (by simp [BP])) rfl rfl) .nil⟩
 | .two o a b,h=>by obtain ⟨m,hm⟩:=ke hb a h.2.1;obtain ⟨n,hn⟩:=ke hb b h.2.2;exact ⟨_,EH hb h.1 hm hn⟩
 | .pick a b c,h=>by obtain ⟨m,hm⟩:=ke hb a h.1;obtain ⟨n,hn⟩:=ke hb b h.2.1;obtain ⟨l,hl⟩:=ke hb c h.2.2;exact ⟨_,YG.intro (w:=⟨"pick",[],[a,b,c]⟩) (by rw [yh];exact PN.mpr rfl) (.cons hm (.cons hn (.cons hl .nil)))⟩
theorem AU (hp:∀ p ∈ ps,fY p.pt=true) (h:∃ m,YG ps t m):∃ b,bS ps t=some b/\YG ps t b.1/\∀ m,YG ps t m->b.1<=m:=by
 have z:=IX hp t
 cases e:bS ps t with
 | none=>rw [e] at z;obtain ⟨m,q⟩:=h;exact absurd q (z m)
 | some b=>rw [e] at z;exact ⟨b,rfl,z.1,z.2⟩
def zI (ds es:List D):Prop:=∃ m n f,ds=[.int m,.tup [.int n,.int f]]/\es=(fN n f m).map D.int
theorem Jh (h:tA σ H λxs H1=>xs.length<=sizeLine/\∀ p,H1 p=none->Q (.ref p) (upd H1 p (.tup xs))):zB tA σ H Q:=h
theorem mi (h:En.nx σ H):AO En σ H:=h
theorem FT (h:En.ct σ H):GB En σ H:=h
variable {G:Hp} {xs:List V}
theorem vR (h:RE K te σ G d) (hl:G l=some (.lst xs)) (hx:xs.length<=900)
  (q:∀ y G',S4 l G G'->G' l=some (.lst (xs++[y]))->Dat K G' d y->En.nx σ G') (hv:σ[j]?=some (some (.ref l)):=by rfl):rR (Z3 K "list" kH (fT j) (bW te dW)) En σ G:=by
 refine ⟨_,hv,.inl ⟨rfl,_,SO.of hl⟩,h.use λy H1 s1 q1=>?_⟩;have hl1:=s1 _ _ hl;refine ⟨l,xs,y,rfl,rfl,hl1,cM (by omega),?_⟩;have b:S4 l H1 (upd H1 l (.lst (xs++[y]))):=S4.upd (SH.refl _).but;exact q y _ (s1.but.trans b) aI (Dat.mono (b.grow hl1 aI) _ q1)
theorem vT {k:Nat} (h:RE K te σ H d) (q:∀ v H',SH H H'->Dat K H' d v->En.nx (σ.set k (some v)) H'):rQ te (d6 k) En σ H:=h.use q
theorem vj (T:Txt P w K mg)  : Ok P w base (k+1) T.LZ (kL K zI):=by
 refine T.LZ.f.ok WJ (λvs H Q E h=>?_) (λcdv A outer s H vs Q E hr h=>?_)
 ·obtain ⟨ds,d,hd,⟨m,n,f,rfl,_⟩,_⟩:=h;exact hd.length.symm
 have nd:=WJ.nd;obtain ⟨ds,es,hd,⟨m,n,f,rfl,rfl⟩,post⟩:=h;obtain ⟨v0,v1,rfl,h0,h1⟩:=i5 hd;refine ⟨_,(aE (gH (pv 1) (gF rfl (bN (a7 (i:=2) nd rfl (Or.inl rfl)) (bN (a7 (i:=3) nd rfl (Or.inl rfl)) eH))))
 (aE (bE (aN jV (pv 0) (bT (v:=.int 9) rfl T.Lh ⟨_,rfl⟩) (aT _)) (aH (aP (bY (aD (pv 2) (aD (pv 0) aC))))) aQ)
 (aH (aP (bY (aD (pv 3) (aD (bL eZ (pv 0) aF) (aD (bL nB (pv 0) aF) aC)))))))),?_⟩
 refine jX (K:=K) (aA h1) λv w H1 s1 q1 q2=>?_;have h0:=s1.dat h0;refine aR (K:=K) (b:=decide (m<=9)) (aJ (cQ (p:=λi j=>decide (i<=j)) (aA h0) aG)) (λc H2 s2=>?_) (λc H2 s2=>?_)
 ·have e:fN n f m=[n,m]:=by unfold fN;rw [Ph (Po c)]
  rw [e] at post;exact jO (RC.use (K:=K) (iC (aB (aA (s2.dat q1)) (aB (aA (s2.dat h0)) aM))) λl ys H' hl s hy hd=>post l ys H' (s1.trans (s2.trans s)) hy ((s1.trans s2).free hl) hd)
 ·have e:fN n f m=[f,m % 100,m / 100]:=by unfold fN;rw [M1 (Pu c)]
  rw [e] at post;exact jO (RC.use (K:=K) (iC (aB (aA (s2.dat q2)) (aB (jN (aA (s2.dat h0)) aG (by decide)) (aB (AE (aA (s2.dat h0)) aG ⟨by decide,by decide⟩) aM)))) λl ys H' hl s hy hd=>post l ys H' (s1.trans (s2.trans s)) hy ((s1.trans s2).free hl) hd)
def vZ (K:W.Frag):Sp:=λvs H Q _=>∃ y z:Int,vs=[.int y,.int z]/\∀ (p a b:Addr) (us ws:List V) (H':Hp),SH H H'->Tg K H' p [.ref a,.ref b]->H' a=some (.lst us)->H' b=some (.lst ws)->H a=none->H b=none->a≠b ->
 SG K H' ((fN 10 11 (y+fU z)).map D.int) us->SG K H' ((fN 8 9 z).map D.int) ws->Q (.ref p) H'
theorem om (T:Txt P w K mg) (Nt:Ok P w base k T.LZ (kL K zI)):Ok P w base (k+1) T.Ko (vZ K):=by
 refine T.Ko.f.ok Vj (λvs H Q E h=>?_) (λcdv A outer s H vs Q E hr h=>?_)
 ·obtain ⟨y,z,rfl,_⟩:=h;rfl
 have nd:=Vj.nd;obtain ⟨y,z,rfl,post⟩:=h;refine ⟨_,(aE (bQ (i:=2) nd rfl (Or.inl rfl) (pc (D:=T.LZ) Nt hr (aD (pv 1) (aD (bT (v:=.ref T.Nh) rfl T.MB rfl) aC))))
 (aE (bQ (i:=3) nd rfl (Or.inl rfl) (pc (D:=T.LZ) Nt hr (aD (bL cJ (pv 0) (aX aW rfl T.JY bU (aD (pv 2) aC))) (aD (bT (v:=.ref T.NB) rfl T.MT rfl) aC))))
 (aH (aP (bA (aD (pv 3) (aD (pv 2) aC))))))),?_⟩
 refine gY (K:=K) (nG (R:=zI) (aB (aA (k:=1) (Dat.SK z)) (aB (lN T.Oj) aM)) ⟨z,8,9,rfl,rfl⟩) λb ws H1 hb s1 ZN Yw=>?_;have el:(ws.length:Int)=fU z:=by rw [<- Yw.length,Pd,i7]
 have b1:=pQ (K:=K) (σ:=(start ["second","third","behind","ahead"] [.int y,.int z]).set 2 (some (.ref b))) (k:=2) ZN;rw [el] at b1;refine gY (K:=K) (nG (R:=zI) (aB (c8 (aA (k:=0) (Dat.SK y)) b1) (aB (lN T.Ox) aM)) ⟨_,10,11,rfl,rfl⟩) λa us H2 ha s2 has Y9=>?_;refine jO (Jh ⟨_,rfl,_,rfl,dB (by simp),λp hp=>?_⟩);have s3:SH H2 (upd H2 p (.tup [.ref a,.ref b])):=aV hp _;have nab:a≠b:=PL (aU ZN ha);exact post p a b us ws _ (s1.trans (s2.trans s3)) (Tg.of aI) (s3 _ _ has) (s3 _ _ (s2 _ _ ZN)) (s1.free ha) hb nab (s3.SQ Y9) ((s2.trans s3).SQ Yw)
theorem tM (h:o="num"\/o="arg"\/ZQ o):decide (o=("pick":Str))=false/\o≠"call":=by rcases h with rfl | rfl | rfl | rfl | rfl | rfl <;> exact ⟨by decide +kernel,by decide +kernel⟩
theorem Ae (t:Tr) (ht:UO t):∃ kd r,toD t=.tup (.str kd::r)/\decide (kd="pick")=xj t/\kd≠"call"/\(xj t=true->r=(dR t).map toD):=by
 cases t with
 | num n=>exact ⟨_,_,rfl,(tM (.inl rfl)).1,(tM (.inl rfl)).2,λz=>nomatch z⟩
 | arg n=>exact ⟨_,_,rfl,(tM (.inr (.inl rfl))).1,(tM (.inr (.inl rfl))).2,λz=>nomatch z⟩
 | two o a b=>exact ⟨_,_,rfl,(tM (.inr (.inr ht.1))).1,(tM (.inr (.inr ht.1))).2,λz=>nomatch z⟩
 | pick a b c=>exact ⟨_,_,rfl,Pw rfl,by decide +kernel,λ_=>rfl⟩
structure lH (ps:List Pc):Prop where
 ok:∀ p ∈ ps,Fi p
 few:ps.length<=100
def Cb (as:List Ar) (es:List D):Prop:=∃ ps t,as=[.d (toD t),.l (ps.map VD)]/\lH ps/\UO t/\a9 t<=8/\es=(iT ps t).map wyD
theorem CA (f:Ve):fdD (some f)=.tup [.tup (f.1.map toD),.tup (f.2.1.map D.int),.tup (f.2.2.map D.int)]:=rfl
theorem yV (T:Txt P w K mg) (Nb:Ok P w base k T.LB (Th K pX)):Ok P w base (k+1) T.M4 (lV K Cb):=by
 refine T.M4.f.ok XH (λvs H Q E h=>?_) (λcdv A outer s H vs Q E hr h=>?_)
 ·obtain ⟨as,d,hd,⟨ps,t,rfl,_⟩,_⟩:=h;exact hd.length.symm
 have nd:=XH.nd;obtain ⟨as,es,hd,⟨ps,t,rfl,Wo,Vm,XS,rfl⟩,post⟩:=h;obtain ⟨v0,v1,rfl,h0,h1⟩:=yp hd;have h0:Dat K H (toD t) v0:=h0;have h1:LD K H (ps.map VD) v1:=h1;refine ⟨_,(aE (bE (aN bV (aY aZ (pv 0) aF) aO (aT _)) (aH (aP (bY (aD (bA (aD aO (aD (bA aC) (aD (jJ rL (pv 0) (iY aF) pO) aC)))) aC)))) aQ)
 (aE (bQ (i:=2) nd rfl (Or.inl rfl) (bY aC))
 (aE (jK Qt rfl (gJ (pv 1)) (a7 (i:=3) nd rfl (Or.inl rfl)) (aE (bQ (i:=4) nd rfl (Or.inl rfl) (pc (D:=T.LB) Nb hr (aD (pv 3) (aD (pv 0) aC))))
 (aH (bE (aN Fm (pv 4) gR (aT _)) (aH (bP (fF PD P5 P7 cC (pv 2) (aD (bA (aD (aY aZ (pv 3) aF) (aD (aY aZ (pv 3) aF) (aD (aY aZ (pv 4) aF) aC)))) aC)))) aQ))))
 (aH (aP (pv 2)))))),?_⟩
 obtain ⟨kd,r,ek,hpk,_,Yx⟩:=Ae t Vm;have h0':Dat K H (.tup (.str kd::r)) v0:=by rw [<- ek];exact h0
 refine aR (K:=K) (b:=xj t) (RT.as (aJ (bI (a6 (k:=0) (aA h0') aG rfl) aL)) hpk) (λc H1 s1=>?_) (λc H1 s1=>?_)
 ·have e:(iT ps t).map wyD=[.tup [.str "pick",.tup [],.tup r]]:=by
   unfold iT;rw [Ph c,Yx c];rfl
  rw [e] at post;exact jO (RC.use (K:=K) (iC (aB (bF (aB aL (aB (bF aM) (aB (mh (aA (s1.dat h0'))) aM)))) aM)) λl ys H' hl s hy hd=>post l ys H' (s1.trans s) hy (s1.free hl) hd)
 have ew:iT ps t=ps.filterMap (iN t):=by unfold iT;rw [M1 (by rw [c];exact Pk)]
 rw [ew] at post;refine fR ⟨dB (by decide),λwl hwl=>?_⟩;have s2:SH H1 (upd H1 wl (.lst [])):=aV hwl _;have s12:=s1.trans s2;obtain ⟨a,vs,rfl,ha,hda⟩:=h1;have la:=hda.length;rw [Pd] at la;have hps:=Wo.few;have hwn:H wl=none:=s1.free hwl;refine eB ⟨_,rfl,a,rfl,⟨vs,(s12.VG ha).WA⟩,qA (xs:=vs) (λi σ G=>∃ (z3 z4:Option V) (ys:List V),σ=[some v0,some (.ref a),some (.ref wl),z3,z4]/\SH H G/\G wl=some (.lst ys)/\SG K G (((ps.take i).filterMap (iN t)).map wyD) ys) ?_ (λi σ G _ ⟨_,_,_,_,p,_⟩=>(p.VG ha).WA) ?_ ?_⟩
 ·exact ⟨none,none,[],rfl,s12,aI,by rw [QU];exact SG.nil⟩
 ·rintro i vx σ G hi ⟨z3,z4,ys,rfl,sG,YE,dy⟩;obtain ⟨dx,ex,hx⟩:=(sG.SQ hda).Wb hi;rw [Pr] at ex
  cases hp:ps[i]? with
  | none=>rw [hp] at ex;cases ex
  | some p =>
   rw [hp] at ex;cases ex;have W0:=Wo.ok p (PJ hp);have et:ps.take (i+1)=ps.take i++[p]:=by rw [Qo,hp];rfl
   have lys:ys.length<=100:=by have l1:=dy.length;rw [Pd] at l1;have l2:=RS (iN t) (ps.take i);rw [Qe] at l2;omega
   refine kJ ?_;dsimp only;refine eJ (K:=K) (d:=fdD (cO p.pt t)) (bM (R:=pX) (aB (aA (k:=3) hx) (aB (aA (k:=0) (sG.dat h0)) aM)) ⟨.str p.nm,p.pt,.tup p.cs,t,rfl,W0.ok,Vm,XS,W0.dp,rfl⟩) λvf G2 s2 qf=>?_;have hw2:=s2 _ _ YE
   cases Yp:cO p.pt t with
   | none =>
    have eW:iN t p=none:=by unfold iN;rw [Yp];rfl
    rw [Yp] at qf;refine jk (b:=false) (aJ (AF (K:=K) (aA (k:=4) qf))) (λc=>nomatch c) (λ_ G3 s3=>mi ?_);refine ⟨_,_,ys,rfl,sG.trans (s2.trans s3),s3 _ _ hw2,?_⟩;rw [et,QW];simp only [Q3,Su,eW,PM];exact (s2.trans s3).SQ dy
   | some f =>
    have eW:iN t p=some ⟨p.nm,p.cs,f.1⟩:=by unfold iN;rw [Yp];rfl
    rw [Yp,CA] at qf;refine jk (b:=true) (aJ (AF (K:=K) (aA (k:=4) qf))) (λ_ G3 s3=>?_) (λc=>nomatch c);have hw3:=s3 _ _ hw2;have hx3:=(s2.trans s3).dat hx;refine vR (K:=K) (d:=.tup [.str p.nm,.tup p.cs,.tup (f.1.map toD)]) (bF (aB (a6 (k:=0) (aA (k:=3) hx3) aG rfl) (aB (a6 (k:=2) (aA (k:=3) hx3) aG rfl) (aB (a6 (k:=0) (aA (k:=4) (s3.dat qf)) aG rfl) aM)))) hw3 (by omega) λy G4 b4 hw4 q4=>?_;have g4:gA K G3 G4:=b4.grow hw3 hw4;refine ⟨_,_,ys++[y],rfl,λx o hx=>b4 x o (aU hx hwn) (s3 _ _ (s2 _ _ (sG _ _ hx))),hw4,?_⟩;rw [et,QW,PY];simp only [Q3,Su,eW];exact SG.append (SG.mono g4 _ ((s2.trans s3).SQ dy)) (SG.cons q4 SG.nil)
 ·rintro σ G ⟨z3,z4,ys,rfl,sG,YE,dy⟩;rw [<- la,QI] at dy;exact ⟨_,rfl,post wl ys G sG YE hwn dy⟩
theorem vS {g:TG} (h:te σ H λx H1=>g x σ H1 (us En)):lX (rQ te g) us En σ H:=h
def GM (as:List Ar) (d:D):Prop:=∃ (w:Wy) (ls:List Int),as=[.d (.str w.nm),.d (.tup w.cs),.l (ls.map D.int)]/\(w.nm="pick"->ls.length=3)/\d=.int (dD w ls)
theorem vm (T:Txt P w K mg) (L0:Ok P w base k T.Ko (vZ K)):Ok P w base (k+1) T.Mu (Xq K GM):=by
 refine T.Mu.f.ok WK (λvs H Q E h=>?_) (λcdv A outer s H vs Q E hr h=>?_)
 ·obtain ⟨as,d,hd,⟨w,ls,rfl,_⟩,_⟩:=h;exact hd.length.symm
 have nd:=WK.nd;obtain ⟨as,d,hd,⟨w,ls,rfl,h3,rfl⟩,post⟩:=h;obtain ⟨v0,v1,v2,rfl,h0,h1,h2⟩:=IF hd;have h0:Dat K H (.str w.nm) v0:=h0;have h1:Dat K H (.tup w.cs) v1:=h1;have h2:LD K H (ls.map D.int) v2:=h2;refine ⟨_,(aE (bQ (i:=3) nd rfl (Or.inl rfl) (aX aW rfl T.JY bU (aD (pv 1) aC)))
 (aE (bE (aN bV (pv 0) aO (aT _)) (aE (gH (pc (D:=T.Ko) L0 hr (aD (aY bX (pv 2) aF) (aD (aY bX (pv 2) aF) aC))) (gF rfl (bN (a7 (i:=4) nd rfl (Or.inl rfl)) (bN (a7 (i:=5) nd rfl (Or.inl rfl)) eH))))
 (aH (bQ (i:=3) nd rfl (Or.inl rfl) (bL cJ (aX aW rfl T.JY bU (aD (pv 4) aC)) (aX aW rfl T.JY bU (aD (pv 5) aC)))))) aQ)
 (aH (aP (bL cJ (pv 3) (aX (qi rfl) rfl T.Oz yr (aD (pv 2) aC))))))),?_⟩
 refine eJ (K:=K) (fL (aA h1)) λvo H1 s1 qo=>?_;have eo:=qo.SN;subst eo;refine pR (λσ G=>∃ z4 z5:Option V,σ=[some v0,some v1,some v2,some (.int (pH w ls)),z4,z5]/\SH H G) ?_ (λhrest=>?_)
 case refine_2 =>
  refine jk (b:=decide (w.nm="pick")) (aJ (bI (K:=K) (aA (k:=0) (s1.dat h0)) aL)) (λc H2 s2=>?_) (λc H2 s2=>?_)
  ·have cp:=Po c
   obtain ⟨x,y,z,rfl⟩:∃ x y z,ls=[x,y,z]:=by
    match ls,h3 cp with
    | [x,y,z],_=>exact ⟨x,y,z,rfl⟩
   have h22:=(s1.trans s2).ld h2;refine vS (mT (gS (RE.use (K:=K) (d:=.int y) (iD (k:=1) (a8 (k:=2) h22) aG rfl) λw1 H3 s3 q3=>gS (RE.use (K:=K) (d:=.int z) (iD (k:=2) (a8 (k:=2) (s3.ld h22)) aG rfl) λw2 H4 s4 q4=>?_))));have e3:=q3.SN;have e4:=q4.SN;subst e3 e4;refine ⟨y,z,rfl,λp a b us ws H5 s5 hp ha hb _ _ _ Y9 Yw=>?_⟩;have lu:(us.length:Int)=fU (y+fU z):=by rw [<- Y9.length,Pd,i7]
   have lw:(ws.length:Int)=fU z:=by rw [<- Yw.length,Pd,i7]
   refine ⟨p,_,rfl,hp,rfl,_,_,rfl,_,_,rfl,rfl,?_⟩;dsimp only;refine vT (K:=K) (d:=.int (pH w [x,y,z])) (RE.as (c8 (pQ (k:=4) ha) (pQ (k:=5) hb)) ?_) λv H6 s6 q6=>?_
   ·rw [lu,lw];unfold pH;rw [Ph cp];rfl
   ·have e6:=q6.SN;subst e6;exact hrest _ _ ⟨_,_,rfl,s1.trans (s2.trans (s3.trans (s4.trans (s5.trans s6))))⟩
  ·have cp:¬ w.nm="pick":=Pu c;refine mi (hrest _ _ ⟨none,none,?_,s1.trans s2⟩);have e:pH w ls=(w.cs.length:Int):=by unfold pH;rw [M1 cp]
   rw [e];rfl
 rintro σ G ⟨z4,z5,rfl,sG⟩;exact bJ (K:=K) (d:=.int (dD w ls)) (c8 (aA (k:=3) (Dat.SK _)) (vO (a8 (k:=2) (sG.ld h2)))) λv H' s q=>post v H' (sG.trans s) q
theorem IY:¬ ("num":Str)="arg":=by decide +kernel
theorem IE:¬ ("arg":Str)="num":=by decide +kernel
theorem EO {n:Int} {b:Tr} (h:S0 (toD (.num n)) (toD b)=true):b=.num n:=by
 cases b with
 | num m =>simp only [toD,gQ,dO,fA,fO,e8,gP,gO,Qm,Qu,Px,Qg] at h;rw [h.2]
 | arg m =>simp only [toD,gQ,dO,fA,fO,e8,gP,gO,Qm,Qu,Px,Qg] at h;exact absurd h.1 IY
 | two o x y =>simp only [toD,gQ,dO,fA,fO,e8,gP,gO,Qm,Qu,Px,Qg] at h;cases h
 | pick x y z =>simp only [toD,gQ,dO,fA,fO,e8,gP,gO,Qm,Qu,Px,Qg] at h;cases h
theorem EN {n:Int} {b:Tr} (h:S0 (toD (.arg n)) (toD b)=true):b=.arg n:=by
 cases b with
 | num m =>simp only [toD,gQ,dO,fA,fO,e8,gP,gO,Qm,Qu,Px,Qg] at h;exact absurd h.1 IE
 | arg m =>simp only [toD,gQ,dO,fA,fO,e8,gP,gO,Qm,Qu,Px,Qg] at h;rw [h.2]
 | two o x y =>simp only [toD,gQ,dO,fA,fO,e8,gP,gO,Qm,Qu,Px,Qg] at h;cases h
 | pick x y z =>simp only [toD,gQ,dO,fA,fO,e8,gP,gO,Qm,Qu,Px,Qg] at h;cases h
theorem ER {b:Tr} (h:S0 (toD (.two o x y)) (toD b)=true):∃ x' y',b=.two o x' y'/\S0 (toD x) (toD x')=true/\S0 (toD y) (toD y')=true:=by
 cases b with
 | num m =>simp only [toD,gQ,dO,fA,fO,e8,gP,gO,Qm,Qu,Px,Qg] at h;cases h
 | arg m =>simp only [toD,gQ,dO,fA,fO,e8,gP,gO,Qm,Qu,Px,Qg] at h;cases h
 | two o' x' y' =>simp only [toD,gQ,dO,fA,fO,e8,gP,gO,Qm,Qu,Px,Qg] at h;exact ⟨x',y',by rw [h.1],h.2.1,h.2.2⟩
 | pick x y z =>simp only [toD,gQ,dO,fA,fO,e8,gP,gO,Qm,Qu,Px,Qg] at h;cases h
theorem Cz {z b:Tr} (h:S0 (toD (.pick x y z)) (toD b)=true):∃ x' y' z',b=.pick x' y' z'/\S0 (toD x) (toD x')=true/\S0 (toD y) (toD y')=true/\S0 (toD z) (toD z')=true:=by
 cases b with
 | num m =>simp only [toD,gQ,dO,fA,fO,e8,gP,gO,Qm,Qu,Px,Qg] at h;cases h
 | arg m =>simp only [toD,gQ,dO,fA,fO,e8,gP,gO,Qm,Qu,Px,Qg] at h;cases h
 | two o' x' y' =>simp only [toD,gQ,dO,fA,fO,e8,gP,gO,Qm,Qu,Px,Qg] at h;cases h
 | pick x' y' z' =>simp only [toD,gQ,dO,fA,fO,e8,gP,gO,Qm,Qu,Px,Qg] at h;exact ⟨x',y',z',rfl,h.2.1,h.2.2.1,h.2.2.2⟩
theorem F4 (a:Tr):∀ b:Tr,S0 (toD a) (toD b)=true->a=b:=by
 induction a with
 | num n=>intro b h;exact (EO h).symm
 | arg n=>intro b h;exact (EN h).symm
 | two o x y ihx ihy =>intro b h;obtain ⟨x',y',rfl,h1,h2⟩:=ER h;rw [ihx x' h1,ihy y' h2]
 | pick x y z ihx ihy ihz =>intro b h;obtain ⟨x',y',z',rfl,h1,h2,h3⟩:=Cz h;rw [ihx x' h1,ihy y' h2,ihz z' h3]
theorem jQ:∀ t:Tr,gT (toD t)=a9 t
 | .num n=>by unfold toD a9;simp [gT,SW]
 | .arg n=>by unfold toD a9;simp [gT,SW]
 | .two o a b=>by unfold toD a9;simp [gT,SW,jQ a,jQ b]
 | .pick a b c=>by unfold toD a9;simp [gT,SW,jQ a,jQ b,jQ c]
theorem i0:∀ t:Tr,UK (toD t)=true
 | .num n=>by unfold toD;simp [UK,Ti]
 | .arg n=>by unfold toD;simp [UK,Ti]
 | .two o a b=>by unfold toD;simp [UK,Ti,i0 a,i0 b]
 | .pick a b c=>by unfold toD;simp [UK,Ti,i0 a,i0 b,i0 c]
theorem xr:∀ ts:List Tr,Ti (ts.map toD)=true
 | []=>by simp [Ti]
 | t::ts=>by simp [Ti,i0 t,xr ts]
theorem sV:∀ ts:List Tr,(∀ x ∈ ts,a9 x<=n)->SW (ts.map toD)<=n
 | [],_=>by simp [SW]
 | t::ts,h=>by have h1:=h t (by simp);have h2:=sV ts λx hx=>h x (by simp [hx]);simp only [PB,SW,jQ];omega
theorem wX:∀ {ts:List Tr},(∀ y ∈ ts,UO y)->UO x->x ∈ ts->∃ j:Nat,ts[j]?=some x/\∀ (m:Nat) e,m < j->(ts.map toD)[m]?=some e->S0 e (toD x)=false
 | [],_,_,h=>by simp at h
 | y::ts,hok,hx,h=>by
  by_cases e:S0 (toD y) (toD x)=true
  ·have:=F4 y x e;exact ⟨0,by rw [this];rfl,λm _ hm=>absurd hm (Nat.not_lt_zero m)⟩
  ·have hmem:x ∈ ts:=by
    rcases Py.mp h with rfl | h
    ·exact absurd (kZ _ (i0 x)) e
    ·exact h
   obtain ⟨j,h1,h2⟩:=wX (λz hz=>hok z (PR _ hz)) hx hmem;refine ⟨j+1,by simpa using h1,λm d hm hd=>?_⟩
   cases m with
   | zero =>
    have e':toD y=d:=by simpa using hd
    rw [<- e'];exact RW.mpr e
   | succ m=>exact h2 m d (by omega) (by simpa using hd)
theorem wF:∀ bs:List Wl,(bs.map λb=>isN (bD b)).any id=(fK bs).isNone
 | []=>rfl
 | none::bs=>rfl
 | some b::bs=>by have ih:=wF bs;show (false || (bs.map λb=>isN (bD b)).any id)=((fK bs).map (b::·)).isNone;rw [ih,QC];cases fK bs <;> rfl
theorem wG:∀ {bs:List Wl} {cs:List (Int × D)},fK bs=some cs->bs=cs.map some
 | [],cs,h=>by cases h;rfl
 | none::bs,cs,h=>by cases h
 | some b::bs,cs,h=>by
  have h':(fK bs).map (b::·)=some cs:=h
  cases e:fK bs with
  | none=>rw [e] at h';cases h'
  | some r =>rw [e] at h';cases h';rw [wG e];rfl
theorem qE:∀ p:Pa,iO p<=2 ^ (eK p - 1)
 | .hole _=>by simp [iO,eK]
 | .gap _ _=>by simp [iO,eK]
 | .slot _=>by simp [iO,eK]
 | .num _=>by simp [iO,eK]
 | .two o a b=>by
  have h1:=qE a;have h2:=qE b;have d1:=nW a;have d2:=nW b;have e:eK (.two o a b) - 1=(max (eK a) (eK b) - 1)+1:=by simp only [eK];omega
  rw [e,Sd];have p1:2 ^ (eK a - 1)<=2 ^ (max (eK a) (eK b) - 1):=QA (by decide) (by omega);have p2:2 ^ (eK b - 1)<=2 ^ (max (eK a) (eK b) - 1):=QA (by decide) (by omega);simp only [iO];omega
def B2 (as:List Ar) (d:D):Prop:=∃ (ps:List Pc) (t:Tr) (f:Tr->Wl) (ts:List Tr),as=[.d (toD t),.l (ps.map VD),.l (ts.map toD),.l (ts.map λx=>bD (f x))]/\lH ps/\UO t/\a9 t<=8/\ts.length<=200/\(∀ x ∈ ts,UO x/\a9 x<=8) /\
 (∀ w ∈ iT ps t,∀ x ∈ w.ts,x ∈ ts)/\d=bD (mM ps f t)
theorem Ew (h:∀ p ∈ ps,Fi p) {w:Wy} (hw:w ∈ iT ps t):w.ts.length<=8/\(w.nm="pick"->w.ts.length=3):=by
 unfold iT at hw;split at hw
 ·rename_i c;rw [PN.mp hw]
  cases t with
  | pick a b c=>exact ⟨by simp [dR],λ_=>rfl⟩
  | _=>cases c
 ·obtain ⟨p,h1,h2⟩:=Q6.mp hw;unfold iN at h2
  cases e:cO p.pt t with
  | none=>rw [e] at h2;cases h2
  | some f =>
   rw [e] at h2;cases h2;refine ⟨?_,λz=>absurd z (h p h1).nm⟩;show f.1.length<=8;rw [lZ _ _ _ e];have:=qE p.pt;have hd:=(h p h1).dp
   calc iO p.pt<=2 ^ (eK p.pt - 1):=this
    _<=2 ^ 2:=QA (by decide) (by omega)
    _<=8:=by decide
theorem pF (T:Txt P w K mg) (OH:Ok P w base k T.M4 (lV K Cb)) (Oe:Ok P w base k T.Mu (Xq K GM)):Ok P w base (k+1) T.Lv (Xq K B2):=by
 refine T.Lv.f.ok VJ (λvs H Q E h=>?_) (λcdv A outer s H vs Q E hr h=>?_)
 ·obtain ⟨as,d,hd,⟨ps,t,f,ts,rfl,_⟩,_⟩:=h;exact hd.length.symm
 have nd:=VJ.nd;obtain ⟨as,d,hd,⟨ps,t,f,ts,rfl,Wo,Vm,XS,fts,okts,hts,rfl⟩,post⟩:=h;obtain ⟨v0,v1,v2,v3,rfl,h0,h1,h2,h3⟩:=EB hd;have h0:Dat K H (toD t) v0:=h0;have h1:LD K H (ps.map VD) v1:=h1;have h2:LD K H (ts.map toD) v2:=h2;have h3:LD K H (ts.map λx=>bD (f x)) v3:=h3;refine ⟨_,(aE (bE (aN bV (aY aZ (pv 0) aF) aO (aT _)) (aH (aP (bA (aD (bT (v:=.int 3) rfl T.K0 ⟨_,rfl⟩) (aD (bA aC) aC))))) aQ)
 (aE (bQ (i:=4) nd rfl (Or.inl rfl) gR)
 (aE (jK Qt rfl (gJ (pc (D:=T.M4) OH hr (aD (pv 0) (aD (pv 1) aC)))) (gF rfl (bN (a7 (i:=5) nd rfl (Or.inl rfl)) (bN (a7 (i:=6) nd rfl (Or.inl rfl)) (bN (a7 (i:=7) nd rfl (Or.inl rfl)) eH)))) (aE (jL (i:=8) (own:=["one"]) (fr:=[2,3]) (N':=["one","done","bests"]) (kE (pv 7)) rfl (by show dS ["tree","some","done","bests","best","name","cells","trees","within","length"] (λx=>(aK fS).names.lookup x) _ _ _ _=true;decide +kernel) rfl (λ_ _ _ _ _=>(a7 (i:=0) (by show List.Nodup [("one":Str),("done":Str),("bests":Str)];decide +kernel) rfl (Or.inl rfl))) (λ_ _ _ _ _=>c7) (λ_ _ _ _ _=>(aY (r:=BC K) bX (pv 2) (HH (r:=pP K) K rfl PD F.slot_list_index F.type_list_index (Bl hr) (pv 1) (aD (pv 0) aC)))) nd rfl rfl rfl)
 (aE (bE (bR (aX (Co rfl) rfl T.O3 GZ (aD (eV (own:=["one"]) (fr:=[]) (N':=["one"]) (gJ (pv 8)) rfl (by show dS ["tree","some","done","bests","best","name","cells","trees","within","length"] (λx=>(aK fS).names.lookup x) _ _ _ _=true;decide +kernel) rfl (λ_ _ _ _ _=>(a7 (i:=0) (by show List.Nodup [("one":Str)];decide +kernel) rfl (Or.inl rfl))) (λ_ _ _ _ _=>c7) (λ_ _ _ _ _=>(eU vB (pv 0) gR (aT _)))) aC)) (λ_=>rfl)) (aH xN) aQ)
 (aE (bQ (i:=9) nd rfl (Or.inl rfl) (pc (D:=T.Mu) Oe hr (aD (pv 5) (aD (pv 6) (aD (eV (own:=["one"]) (fr:=[]) (N':=["one"]) (gJ (pv 8)) rfl (by show dS ["tree","some","done","bests","best","name","cells","trees","within","length"] (λx=>(aK fS).names.lookup x) _ _ _ _=true;decide +kernel) rfl (λ_ _ _ _ _=>(a7 (i:=0) (by show List.Nodup [("one":Str)];decide +kernel) rfl (Or.inl rfl))) (λ_ _ _ _ _=>c7) (λ_ _ _ _ _=>(aY (r:=sD K) aZ (pv 0) aF))) aC)))))
 (aH (bE (PW.pt (fH (aN vB (pv 4) gR (aT _)) (eR (aN km (pv 9) (aY aZ (pv 4) aF) (aT _))))) (aH (bQ (i:=4) nd rfl (Or.inl rfl) (bA (aD (pv 9) (aD (bA (aD (pv 5) (aD (eP dY rfl T.KL fP (aD (eV (own:=["one"]) (fr:=[]) (N':=["one"]) (gJ (pv 8)) rfl (by show dS ["tree","some","done","bests","best","name","cells","trees","within","length"] (λx=>(aK fS).names.lookup x) _ _ _ _=true;decide +kernel) rfl (λ_ _ _ _ _=>(a7 (i:=0) (by show List.Nodup [("one":Str)];decide +kernel) rfl (Or.inl rfl))) (λ_ _ _ _ _=>c7) (λ_ _ _ _ _=>(aY (r:=sD K) aZ (pv 0) aF))) aC)) aC))) aC))))) aQ))))))
 (aH (aP (pv 4)))))),?_⟩
 obtain ⟨kd,r,ek,hpk,hcall,Yx⟩:=Ae t Vm;have h0':Dat K H (.tup (.str kd::r)) v0:=by rw [<- ek];exact h0
 refine aR (K:=K) (b:=false) (RT.as (aJ (bI (a6 (k:=0) (aA h0') aG rfl) aL)) (Pj hcall)) (λc=>nomatch c) (λ_ H1 s1=>?_);refine fR (DX ?_);refine eB (RC.use (K:=K) (gU (R:=Cb) (iK (aA (k:=0) (s1.dat h0)) (gB (a8 (k:=1) (s1.ld h1)) dU)) ⟨ps,t,rfl,Wo,Vm,XS,rfl⟩) λl ys H2 hl s2 hy hdy=>?_);have s12:=s1.trans s2;have ly:=hdy.length;rw [Pd] at ly;refine ⟨l,rfl,⟨ys,SO.of hy⟩,qA (xs:=ys) (λi σ G=>∃ (vb:V) (z5 z6 z7 z8 z9:Option V),σ=[some v0,some v1,some v2,some v3,some vb,z5,z6,z7,z8,z9]/\SH H2 G/\Dat K G (bD (((iT ps t).take i).foldl (iF f) none)) vb) ?_ (λi σ G _ ⟨_,_,_,_,_,_,_,p,_⟩=>SO.of (p _ _ hy)) ?_ ?_⟩
 ·exact ⟨.SM,_,_,_,_,_,rfl,SH.refl _,Dat.X5⟩
 ·rintro i vx σ G hi ⟨vb,z5,z6,z7,z8,z9,rfl,sG,hb⟩;have sHG:=s12.trans sG;obtain ⟨dx,ex,hx⟩:=(sG.SQ hdy).Wb hi;rw [Pr] at ex
  cases hw:(iT ps t)[i]? with
  | none=>rw [hw] at ex;cases ex
  | some w =>
   rw [hw] at ex;cases ex;have hwm:=PJ hw;obtain ⟨few,few3⟩:=Ew Wo.ok hwm;have et:(iT ps t).take (i+1)=(iT ps t).take i++[w]:=by rw [Qo,hw];rfl
   rw [et,List.foldl_append,Rf,List.foldl_nil];generalize ((iT ps t).take i).foldl (iF f) none=best at hb ⊢;obtain ⟨pa,us,rfl,hpa,hus⟩:=(show Dat K G (.tup [.str w.nm,.tup w.cs,.tup (w.ts.map toD)]) vx from hx).S7;obtain ⟨x5,x6,x7,rfl,k5,k6,k7⟩:=sT hus;refine ⟨pa,_,rfl,hpa,rfl,_,_,rfl,_,_,rfl,_,_,rfl,rfl,?_⟩;dsimp only;refine gY (K:=K) (rn (aA (k:=7) k7) (by rw [Pd];omega) (w.ts.map λx=>bD (f x)) (by rw [Pd,Pd]) rfl (λG1 j c v d s1 hc hd hv=>?_)) λlw zs G2 hlw s2 hzs dzs=>?_
   ·rw [Pr] at hc hd
    cases hx:w.ts[j]? with
    | none=>rw [hx] at hc;cases hc
    | some x =>rw [hx] at hc hd;cases hc;cases hd;have hxt:=hts w hwm x (PJ hx);obtain ⟨m,hm1,hm2⟩:=wX (λy hy=>(okts y hy).1) (okts x hxt).1 hxt;have sH1:=sHG.trans s1;refine iD (k:=m) (a8 (k:=2) (sH1.ld h3)) (DP (k:=1) (sH1.ld h2) (aA (k:=0) hv) (xr ts) (i0 x) (Qd (sV (n:=8) ts λy hy=>(okts y hy).2) (by decide)) (by rw [Pd];omega) ⟨toD x,by rw [Pr,hm1];rfl,kZ _ (i0 x)⟩ hm2) (by rw [Pr,hm1];rfl)
   have hL2:LD K G2 (w.ts.map λx=>bD (f x)) (.ref lw):=LD.of hzs dzs;have eM:(w.ts.map λx=>bD (f x))=(w.ts.map f).map bD:=by rw [Ra];rfl
   have lM:(w.ts.map f).length<=8:=by rw [Pd];exact few
   rw [eM] at hL2;generalize hfb:w.ts.map f=fb at hL2 lM;have eS:∀ b,iF f b w=x8 b w (fK fb):=λb=>by unfold iF;rw [hfb]
   rw [eS];refine aR (K:=K) (b:=(fK fb).isNone) (RT.as (bO (FG (bs:=fb.map λb=>isN (bD b)) (jM (a8 (k:=8) hL2) (by rw [Pd];omega) _ (by simp) rfl (λG1 j c v d s1 hc hd hv=>?_)))) (wF fb)) (λcN G3 s3=>FT ?_) (λcS G3 s3=>?_)
   ·rw [Pr] at hc hd;rw [Pr] at hd
    cases hx:fb[j]? with
    | none=>rw [hx] at hc;cases hc
    | some b =>rw [hx] at hc hd;cases hc;cases hd;exact oC (aA (k:=0) hv)
   ·have eN:fK fb=none:=by cases e:fK fb with | none=>rfl | some _=>rw [e] at cN;cases cN
    refine ⟨vb,_,_,_,_,_,rfl,sG.trans (s2.trans s3),?_⟩;rw [eN];exact (s2.trans s3).dat hb
   ·cases eb:fK fb with
    | none=>rw [eb] at cS;cases cS
    | some bs =>
     have efb:=wG eb;have lbs:bs.length<=8:=by rw [efb,Pd] at lM;exact lM
     have lbw:bs.length=w.ts.length:=by have:=PZ List.length hfb;rw [efb,Pd,Pd] at this;exact this.symm
     have ZT:=s3.ld hL2;have s23:=s2.trans s3;refine eJ (K:=K) (d:=.int (dD w (bs.map (·.1)))) (eF (R:=GM) (iK (aA (k:=5) (s23.dat k5)) (iK (aA (k:=6) (s23.dat k6)) (gB (ds:=(bs.map (·.1)).map D.int) (jW (jM (a8 (k:=8) ZT) (by rw [Pd];omega) _ (by rw [efb];simp) rfl (λG1 j c v d s1 hc hd hv=>?_))) dU))) ⟨w,bs.map (·.1),rfl,λz=>by rw [Pd,lbw];exact few3 z,rfl⟩) λvl G4 s4 q4=>?_
     ·rw [efb] at hc;simp only [Pr] at hc hd
      cases hx:bs[j]? with
      | none=>rw [hx] at hc;cases hc
      | some b =>rw [hx] at hc hd;cases hc;cases hd;exact a6 (k:=0) (aA (k:=0) hv) aG rfl
     have s24:=s23.trans s4;have el:=q4.SN;subst el;have hb4:=s24.dat hb
     have new:∀ {G5:Hp},SH G4 G5->RE K (zB (bW (fT 9) (bW (zB (bW (fT 5) (bW (Xy (λxs H Q=>∃ p ys,xs=[.ref p]/\((SO K H p ys/\∀ l,H l=none->Q (.ref l) (upd H l (.tup ys)))\/(Tg K H p ys/\Q (.ref p) H))) (bW (jP (tu K (fT 8)) (Z6 ["one"] []) (d6 0) jc (VE (sD K) (fT 0) (tC (.int 1)))) dW)) dW))) dW))) [some v0,some v1,some v2,some v3,some vb,some x5,some x6,some x7,some (.ref lw),some (.int (dD w (bs.map (·.1))))] G5 (.tup [.int (dD w (bs.map (·.1))),ZS w.nm bs]):=λ{G5} s5=>by
      refine bF (aB (aA (k:=9) (Dat.SK _)) (aB (bF (aB (aA (k:=5) ((s24.trans s5).dat k5)) (aB (tO (es:=bs.map (·.2)) (jM (a8 (k:=8) ((s4.trans s5).ld ZT)) (by rw [Pd];omega) _ (by rw [efb];simp) rfl (λG1 j c v d s1 hc hd hv=>?_))) aM))) aM));rw [efb] at hc;simp only [Pr] at hc hd
      cases hx:bs[j]? with
      | none=>rw [hx] at hc;cases hc
      | some b =>rw [hx] at hc hd;cases hc;cases hd;exact a6 (k:=1) (aA (k:=0) hv) aG rfl
     have done:∀ {G5:Hp} {d:D},SH G4 G5->d=bD (jB best (dD w (bs.map (·.1))) (ZS w.nm bs))->∀ v,Dat K G5 d v->∃ (vb:V) (z5 z6 z7 z8 z9:Option V),[some v0,some v1,some v2,some v3,some v,some x5,some x6,some x7,some (.ref lw),some (.int (dD w (bs.map (·.1))))]=[some v0,some v1,some v2,some v3,some vb,z5,z6,z7,z8,z9]/\SH H2 G5/\Dat K G5 (bD (jB best (dD w (bs.map (·.1))) (ZS w.nm bs))) vb:=λ{G5 d} s5 e v hv =>
      ⟨v,_,_,_,_,_,rfl,sG.trans (s24.trans s5),e ▸ hv⟩
     cases best with
     | none =>refine jk (b:=true) (RT.as (dP (b:=true) (c:=true) (aJ (oC (K:=K) (aA (k:=4) hb4))) λc=>nomatch c) rfl) (λ_ G5 s5=>?_) (λc=>nomatch c);exact vT (K:=K) (new s5) λv G6 s6 q6=>done (s5.trans s6) rfl v q6
     | some b0 =>
      have hb4':Dat K G4 (.tup [.int b0.1,b0.2]) vb:=hb4;refine jk (b:=decide (dD w (bs.map (·.1)) < b0.1)) (RT.as (dP (b:=false) (aJ (oC (K:=K) (aA (k:=4) hb4'))) λ_=>aJ (cQ (p:=λi j=>decide (i < j)) (aA (k:=9) (Dat.SK _)) (a6 (k:=0) (aA (k:=4) hb4') aG rfl))) (QC _)) (λc G5 s5=>?_) (λc G5 s5=>mi ?_)
      ·refine vT (K:=K) (new s5) λv G6 s6 q6=>done (s5.trans s6) ?_ v q6;show _=bD (if dD w (bs.map (·.1)) < b0.1 then _ else _);rw [Ph (Po c)];rfl
      ·refine done (d:=bD (some b0)) s5 ?_ vb (s5.dat hb4');show _=bD (if dD w (bs.map (·.1)) < b0.1 then _ else _);rw [M1 (Pu c)]
 ·rintro σ G ⟨vb,z5,z6,z7,z8,z9,rfl,sG,hb⟩;rw [<- ly,QI] at hb;exact ⟨_,rfl,post vb G (s12.trans sG) hb⟩
theorem iM:∀ (t:Tr) (j:Nat) (x:Tr),(bC t)[j]?=some x->∃ r,(bC t).drop j=bC x++r
 | .num n,j,x,h=>by
  cases j with
  | zero=>cases h;exact ⟨[],rfl⟩
  | succ j=>simp [bC] at h
 | .arg n,j,x,h=>by
  cases j with
  | zero=>cases h;exact ⟨[],rfl⟩
  | succ j=>simp [bC] at h
 | .two o a b,j,x,h=>by
  cases j with
  | zero=>cases h;exact ⟨[],by rw [List.drop_zero,PM]⟩
  | succ j =>
   have h':(bC a++bC b)[j]?=some x:=by simpa [bC] using h
   show ∃ r,(bC a++bC b).drop j=bC x++r;by_cases hj:j < (bC a).length
   ·rw [QX hj] at h';obtain ⟨r,e⟩:=iM a j x h';exact ⟨r++bC b,by rw [Rx (QM hj),e,Qa]⟩
   ·rw [Qp (by omega)] at h';obtain ⟨r,e⟩:=iM b _ x h';refine ⟨r,?_⟩;rw [R4,RZ (by omega),Rg];exact e
 | .pick a b c,j,x,h=>by
  cases j with
  | zero=>cases h;exact ⟨[],by rw [List.drop_zero,PM]⟩
  | succ j =>
   have h':(bC a++(bC b++bC c))[j]?=some x:=by simpa [bC] using h
   show ∃ r,(bC a++bC b++bC c).drop j=bC x++r;rw [Qa];by_cases hj:j < (bC a).length
   ·rw [QX hj] at h';obtain ⟨r,e⟩:=iM a j x h';exact ⟨r++(bC b++bC c),by rw [Rx (QM hj),e,Qa]⟩
   ·rw [Qp (by omega)] at h';rw [R4,RZ (l:=bC a) (by omega),Rg];generalize j - (bC a).length=i at h' ⊢;by_cases hi:i < (bC b).length
    ·rw [QX hi] at h';obtain ⟨r,e⟩:=iM b i x h';exact ⟨r++bC c,by rw [Rx (QM hi),e,Qa]⟩
    ·rw [Qp (by omega)] at h';obtain ⟨r,e⟩:=iM c _ x h';refine ⟨r,?_⟩;rw [R4,RZ (by omega),Rg];exact e
theorem sI (hi:i < bB t) (h:(bC t)[bB t - 1 - i]?=some x) (hy:y ∈ (dR x).flatMap bC):y ∈ (bC t).reverse.take i:=by
 obtain ⟨r,e⟩:=iM t _ x h
 have e2:(bC t).drop (bB t - i)=(dR x).flatMap bC++r:=by
  have:bB t - i=bB t - 1 - i+1:=by omega
  rw [this,<- List.drop_drop,e,hU x];rfl
 rw [List.take_reverse,List.mem_reverse,cE,e2];exact Rk _ hy
theorem FP {α:Type} {l:List α} (h:i < l.length):l.reverse[i]?=l[l.length - 1 - i]?:=List.getElem?_reverse h
def GJ (as:List Ar) (d:D):Prop:=∃ (ps:List Pc) (t:Tr) (b:Int × D),as=[.d (toD t),.l (ps.map VD)]/\lH ps/\UO t/\a9 t<=8/\bB t<=200/\bS ps t=some b/\d=.tup [.int b.1,b.2]
theorem HY {ta:TA} {g:TG} {tb:TS} (h:ta σ H λvs H1=>∃ a xs,vs=[.ref a]/\SO K H1 a xs/\∃ W:Nat->Nat->L2.St->Hp->Prop,(∃ m,W 0 m σ H1)/\∀ i m σ H,W i m σ H ->
   ((Itv K a xs).stop i H/\En.nx σ H)\/((Itv K a xs).go i H/\∃ N:L2.St->Hp->Prop,(∀ σ' H',N σ' H'->∃ m',m' < m/\W (i+1) m' σ' H')/\∀ x H',(Itv K a xs).Yd i H x H'->g x σ H' λσ2 H2=>tb { En with nx:=N,ct:=N,bk:=En.nx } σ2 H2)):Jt (IM K ta) g tb En σ H:=h
theorem C5 (h:lH ps):∀ p ∈ ps,fY p.pt=true:=λp hp=>(h.ok p hp).nh
theorem oj (T:Txt P w K mg) (NG:Ok P w base k T.Mj (kL K (nR 8))) (NF:Ok P w base k T.Lv (Xq K B2)):Ok P w base (k+1) T.K9 (Xq K GJ):=by
 refine T.K9.f.ok Vk (λvs H Q E h=>?_) (λcdv A outer s H vs Q E hr h=>?_)
 ·obtain ⟨as,d,hd,⟨ps,t,b,rfl,_⟩,_⟩:=h;exact hd.length.symm
 have nd:=Vk.nd;obtain ⟨as,d,hd,⟨ps,t,b,rfl,Wo,Vm,XS,szt,hbst,rfl⟩,post⟩:=h;obtain ⟨v0,v1,rfl,h0,h1⟩:=yp hd;have h0:Dat K H (toD t) v0:=h0;have h1:LD K H (ps.map VD) v1:=h1;refine ⟨_,(aE (bQ (i:=2) nd rfl (Or.inl rfl) (bY aC))
 (aE (bQ (i:=3) nd rfl (Or.inl rfl) (bY aC))
 (aE (jK Qt rfl (HR rfl T.Nd (aD (pc (D:=T.Mj) NG hr (aD (pv 0) aC)) aC)) (a7 (i:=4) nd rfl (Or.inl rfl)) (aE (bP (fF PD P5 P7 cC (pv 3) (aD (pc (D:=T.Lv) NF hr (aD (pv 4) (aD (pv 1) (aD (pv 2) (aD (pv 3) aC))))) aC)))
 (aH (bP (fF PD P5 P7 cC (pv 2) (aD (pv 4) aC))))))
 (aE (bE (aN vB (aY bX (pv 3) (Av wt aF)) gR (aT _)) (aH dF) aQ)
 (aH (aP (aY bX (pv 3) (Av wt aF)))))))),?_⟩
 refine fR ⟨dB (by decide),λld hld=>?_⟩;refine fR ⟨dB (by decide),λlb hlb=>?_⟩;have ndb:ld≠lb:=aU aI hlb;have s1:SH H (upd (upd H ld (.lst [])) lb (.lst [])):=(aV hld _).trans (aV hlb _);have hlb0:H lb=none:=(aV hld _).free hlb;have hd1:upd (upd H ld (.lst [])) lb (.lst []) ld=some (.lst []):=by rw [aS ndb];exact aI
 have hb1:upd (upd H ld (.lst [])) lb (.lst []) lb=some (.lst []):=aI;generalize upd (upd H ld (.lst [])) lb (.lst [])=G1 at s1 hd1 hb1 ⊢;refine eB (HY (K:=K) (gS (RC.use (K:=K) (nG (R:=nR 8) (aB (aA (k:=0) (s1.dat h0)) aM) ⟨t,rfl,Vm,XS,szt,rfl⟩) λlw xs G2 hlw s2 hxs dxs=>?_)));have nwd:ld≠lw:=aU hd1 hlw;have nwb:lb≠lw:=aU hb1 hlw;have lx:=dxs.length;rw [Pd,cE] at lx;refine ⟨lw,xs,rfl,SO.of hxs,EU (xs:=xs) (λi σ G=>∃ (z4:Option V) (us ws:List V),σ=[some v0,some v1,some (.ref ld),some (.ref lb),z4]/\SH H G/\G lw=some (.lst xs)/\SG K G ((bC t).map toD) xs/\G ld=some (.lst us)/\SG K G (((bC t).reverse.take i).map toD) us/\G lb=some (.lst ws)/\SG K G (((bC t).reverse.take i).map λx=>bD (bS ps x)) ws) ?_ (λi σ G _ ⟨_,_,_,_,_,p,_⟩=>SO.of p) ?_ ?_⟩
 ·exact ⟨none,[],[],rfl,s1.trans s2,hxs,dxs,s2 _ _ hd1,SG.nil,s2 _ _ hb1,SG.nil⟩
 ·rintro i vx σ G hi hx ⟨z4,us,ws,rfl,sG,YE,dxG,Zf,Y9,hbG,Yw⟩;obtain ⟨dx,ex,hxd⟩:=dxG.Wb hx;rw [Pr] at ex
  cases hp:(bC t)[xs.length - 1 - i]? with
  | none=>rw [hp] at ex;cases ex
  | some x =>
   rw [hp] at ex;cases ex;have hp':(bC t)[bB t - 1 - i]?=some x:=by rw [lx];exact hp
   have hxm:=PJ hp;have okx:=iA t x Vm hxm;have dpx:=(gD t x hxm).2;have hi':i < (bC t).reverse.length:=by rw [Qj,cE];omega
   have ei:(bC t).reverse[i]?=some x:=by rw [FP (by rw [cE];omega),cE];exact hp'
   have et:(bC t).reverse.take (i+1)=(bC t).reverse.take i++[x]:=by rw [Qo,ei];rfl
   have lus:us.length<=200:=by rw [<- Y9.length,Pd,Qe];omega
   have lws:ws.length<=200:=by rw [<- Yw.length,Pd,Qe];omega
   refine kJ ?_;dsimp only;refine iZ (K:=K) (d:=bD (bS ps x)) (eF (R:=B2) (iK (aA (k:=4) hxd) (gB (a8 (k:=1) (sG.ld h1)) (gB (a8 (k:=2) (LD.of Zf Y9)) (gB (a8 (k:=3) (LD.of hbG Yw)) dU)))) ⟨ps,x,bS ps,(bC t).reverse.take i,rfl,Wo,okx,by omega,by rw [Qe];rw [Qj,cE];omega,λy hy=>?_,λw hw y hy=>sI (by omega) hp' (pU (C5 Wo) hw y hy),by rw [<- m7 (C5 Wo)]⟩) hbG (by omega) λy G3 b3 hb3 q3=>?_
   ·have hym:y ∈ bC t:=List.mem_reverse.mp (List.mem_of_mem_take hy);have:=(gD t y hym).2;exact ⟨iA t y Vm hym,by omega⟩
   have g3:gA K G G3:=b3.grow hbG hb3;have hd3:=b3 _ _ ndb Zf;have hw3:=b3 _ _ (PL nwb) YE;refine vR (K:=K) (d:=toD x) (aA (k:=4) (Dat.mono g3 _ hxd)) hd3 (by omega) λy4 G4 b4 Zw q4=>?_;have g4:gA K G3 G4:=b4.grow hd3 Zw;refine ⟨_,us++[y4],ws++[y],rfl,λa o ha=>b4 a o (aU ha hld) (b3 a o (aU ha hlb0) (sG _ _ ha)),b4 _ _ (PL nwd) hw3,SG.mono g4 _ (SG.mono g3 _ dxG),Zw,?_,b4 _ _ (PL ndb) hb3,?_⟩
   ·rw [et,PY];exact SG.append (SG.mono g4 _ (SG.mono g3 _ Y9)) (SG.cons q4 SG.nil)
   ·rw [et,PY];exact SG.append (SG.mono g4 _ (SG.mono g3 _ Yw)) (SG.cons (Dat.mono g4 _ q3) SG.nil)
 ·rintro σ G ⟨z4,us,ws,rfl,sG,YE,dxG,Zf,Y9,hbG,Yw⟩
  have ea:((bC t).reverse.take xs.length).map (λx=>bD (bS ps x))=(((dR t).flatMap bC).reverse.map λx=>bD (bS ps x))++[bD (some b)]:=by rw [<- lx,<- cE,<- Qj,QI,hU,Ry,PY,PB,SA,hbst]
  rw [ea] at Yw;have hL:LD K G ((((dR t).flatMap bC).reverse.map λx=>bD (bS ps x))++[bD (some b)]) (.ref lb):=LD.of hbG Yw;refine aR (K:=K) (b:=false) (aJ (oC (mf (a8 (k:=3) hL) (AH aG)))) (λc=>nomatch c) (λ_ G3 s3=>?_);exact bJ (K:=K) (d:=bD (some b)) (mf (a8 (k:=3) (s3.ld hL)) (AH aG)) λv G4 s4 q4=>post v G4 (sG.trans (s3.trans s4)) q4
structure pL (ps:List Pc):Prop where
 lo:1<=ps.length
 hi:ps.length<=16
 pc:∀ p ∈ ps,rb (VD p)=some true/\p.nm.length<=sizeLine
 nd:(ps.map (·.nm)).Nodup
def GP (as:List Ar) (d:D):Prop:=∃ ps,as=[.l (ps.map VD)]/\pL ps/\d=.bl true
theorem Bs (T:Txt P w K mg) (Oq:Ok P w base k T.MI (Th K ym)):Ok P w base (k+1) T.Ni (Xq K GP):=by
 refine T.Ni.f.ok Yj (λvs H Q E h=>?_) (λcdv A outer s H vs Q E hr h=>?_)
 ·obtain ⟨as,d,hd,⟨ps,rfl,_⟩,_⟩:=h;exact hd.length.symm
 have nd:=Yj.nd;obtain ⟨as,d,hd,⟨ps,rfl,hS,rfl⟩,post⟩:=h;obtain ⟨v0,rfl,h0⟩:=AS hd;have h0:LD K H (ps.map VD) v0:=h0;have hlo:=hS.lo;have hhi:=hS.hi;refine ⟨_,(aE (bE (PW.pt (fH (cW (bR (aX (gC Af) rfl T.J4 cY (dE (pv 0) (dE (iB (v:=.ty "list") rfl T.NJ pK rfl) aC))) (λ_=>rfl))) (eR (cW (nE jV jV aF (aX aW rfl T.JY bU (aD (pv 0) aC)) (bT (v:=.int 16) rfl T.KI ⟨_,rfl⟩)))))) (aH (aP d8)) aQ)
 (aE (bE (cW (bR (aX (jC rfl) rfl T.Nv mN (aD (eV (own:=["piece"]) (fr:=[]) (N':=["piece"]) (gJ (pv 0)) rfl (by show dS ["thing"] (λx=>(aK nL).names.lookup x) _ _ _ _=true;decide +kernel) rfl (λ_ _ _ _ _=>(a7 (i:=0) (by show List.Nodup [("piece":Str)];decide +kernel) rfl (Or.inl rfl))) (λ_ _ _ _ _=>c7) (λ_ _ _ _ _=>(pc (D:=T.MI) Oq hr (aD (pv 0) aC)))) aC)) (λ_=>rfl))) (aH (aP d8)) aQ)
 (aH (aP (eU bV (aX wL rfl T.JY bU (aD (eP (A0 rfl) rfl T.O5 Hb (aD (eV (own:=["piece"]) (fr:=[]) (N':=["piece"]) (gJ (pv 0)) rfl (by show dS ["thing"] (λx=>(aK nL).names.lookup x) _ _ _ _=true;decide +kernel) rfl (λ_ _ _ _ _=>(a7 (i:=0) (by show List.Nodup [("piece":Str)];decide +kernel) rfl (Or.inl rfl))) (λ_ _ _ _ _=>c7) (λ_ _ _ _ _=>(aY (r:=sD K) aZ (pv 0) aF))) aC)) aC)) (aX aW rfl T.JY bU (aD (pv 0) aC)) (aT _)))))),?_⟩
 refine aR (K:=K) (b:=false) ?_ (λc=>nomatch c) (λ_ H1 s1=>?_)
 ·refine RT.as (dP (b:=false) (RT.as (bZ (bO (dC (aA h0.lst)))) rfl) λ_=>bZ (aJ (lK (p:=λi j=>decide (i<=j)) (r:=λi j=>decide (i<=j)) aG (eA (a8 h0)) λ_=>aG))) ?_;rw [Pd,QC,Pw (show (1:Int)<=(ps.length:Int) by omega),Pw (show (ps.length:Int)<=16 by omega)];rfl
 have h0:=s1.ld h0;refine aR (K:=K) (b:=false) ?_ (λc=>nomatch c) (λ_ H2 s2=>?_)
 ·refine RT.as (bZ (bO (me (bs:=ps.map λ_=>true) (jM (a8 h0) (by rw [Pd];omega) _ (by simp) rfl (λG1 j c v d s1 hc hd hv=>?_))))) ?_
  ·simp only [Pr] at hc hd
   cases hx:ps[j]? with
   | none=>rw [hx] at hc;cases hc
   | some p =>rw [hx] at hc hd;cases hc;cases hd;obtain ⟨k1,k2⟩:=hS.pc p (PJ hx);exact bM (R:=ym) (aB (aA (k:=0) hv) aM) ⟨VD p,true,rfl,k2,k1,rfl⟩
  ·rw [List.all_map];simp
 have h0:=s2.ld h0;refine bJ (K:=K) (d:=.bl true) (RE.as (mV (BG (zs:=ps.map (·.nm)) (jM (a8 h0) (by rw [Pd];omega) _ (by simp) rfl (λG1 j c v d s1 hc hd hv=>?_)) (by rw [Pd];omega)) (eA (a8 h0))) ?_) λv H' s q=>post v H' (s1.trans (s2.trans s)) q
 ·simp only [Pr] at hc hd
  cases hx:ps[j]? with
  | none=>rw [hx] at hc;cases hc
  | some p =>rw [hx] at hc hd;cases hc;cases hd;exact a6 (k:=0) (aA (k:=0) hv) aG rfl
 ·rw [(EJ _).mpr hS.nd,Pd,Pd];simp
def yl (as:List Ar) (d:D):Prop:=∃ ps,as=[.l (ps.map VD)]/\pL ps/\d=.SM
theorem xF (T:Txt P w K mg) (OI:Ok P w base k T.Ni (Xq K GP)):Ok P w base (k+1) T.MJ (Xq K yl):=by
 refine T.MJ.f.ok Xj (λvs H Q E h=>?_) (λcdv A outer s H vs Q E hr h=>?_)
 ·obtain ⟨as,d,hd,⟨ps,rfl,_⟩,_⟩:=h;exact hd.length.symm
 have nd:=Xj.nd;obtain ⟨as,d,hd,⟨ps,rfl,hS,rfl⟩,post⟩:=h;obtain ⟨v0,rfl,h0⟩:=AS hd;have h0:LD K H (ps.map VD) v0:=h0;refine ⟨_,(aH (bE (cW (bR (pc (D:=T.Ni) OI hr (aD (pv 0) aC)) (λ_=>rfl))) (aH dF) aQ)),?_⟩;exact jk (b:=false) (bZ (bO (eF (K:=K) (R:=GP) (gB (a8 h0) dU) ⟨ps,rfl,hS,rfl⟩))) (λc=>nomatch c) (λ_ H1 s1=>post _ H1 s1 Dat.X5)
structure BY (ps:List Pc) (t:Tr):Prop where
 os:lH ps
 gs:pL ps
 ot:UO t
 dp:a9 t<=8
 sz:bB t<=40
noncomputable def tm:Pa->Nat
 | .gap _ _=>1
 | .two _ a b=>tm a+tm b
 | _=>0
noncomputable def oJ:Pa->Nat
 | .slot _=>1
 | .two _ a b=>oJ a+oJ b
 | _=>0
theorem qw:∀ (p:Pa) (t:Tr) (f:Ve),cO p t=some f->f.2.1.length=tm p/\f.2.2.length=oJ p
 | .hole i,t,f,h=>by cases h;exact ⟨rfl,rfl⟩
 | .gap i m,t,f,h=>by
  cases t with
  | num n =>
   have h':(if n<=m then some ([],[n],[]) else none:Option Ve)=some f:=h;by_cases z:n<=m
   ·rw [Ph z] at h';cases h';exact ⟨rfl,rfl⟩
   ·rw [M1 z] at h';cases h'
  | _=>cases h
 | .slot i,t,f,h=>by
  cases t with
  | arg n=>cases h;exact ⟨rfl,rfl⟩
  | _=>cases h
 | .num m,t,f,h=>by
  cases t with
  | num n =>
   have h':(if n=m then some ([],[],[]) else none:Option Ve)=some f:=h;by_cases z:n=m
   ·rw [Ph z] at h';cases h';exact ⟨rfl,rfl⟩
   ·rw [M1 z] at h';cases h'
  | _=>cases h
 | .two o a b,t,f,h=>by
  cases t with
  | two o' u v =>
   obtain ⟨_,f1,f2,e1,e2,e3⟩:=fC h;subst e3;have h1:=qw a u f1 e1;have h2:=qw b v f2 e2;refine ⟨?_,?_⟩
   ·show (f1.2.1++f2.2.1).length=tm a+tm b;rw [tB,h1.1,h2.1]
   ·show (f1.2.2++f2.2.2).length=oJ a+oJ b;rw [tB,h1.2,h2.2]
  | _=>cases h
inductive Cl where
 | n (i:Int)
 | arg (k:Nat)
 | low (k:Nat)
 | high (k:Nat)
noncomputable def clD:Cl->D
 | .n i=>.int i
 | .arg k=>.tup [.str "arg",.int k]
 | .low k=>.tup [.str "low",.int k]
 | .high k=>.tup [.str "high",.int k]
noncomputable def He (g s:Nat):Cl->Bool
 | .n _=>true
 | .arg k=>decide (k < s)
 | .low k=>decide (k < g)
 | .high k=>decide (k < g)
noncomputable def kM (nums ks:List Int):Cl->Int
 | .n i=>i
 | .arg k=>ks.getD k 0
 | .low k=>nums.getD k 0 % 100
 | .high k=>nums.getD k 0 / 100
structure wA (p:Pc) (cl:List Cl):Prop where
 eq:p.cs=cl.map clD
 ok:∀ c ∈ cl,He (tm p.pt) (oJ p.pt) c=true
inductive Yy (R:Tr->D->List D->Prop):List Tr->List D->List (List D)->Prop
 | nil:Yy R [] [] []
 | cons {t c es ts cs SX}:R t c es->Yy R ts cs SX->Yy R (t::ts) (c::cs) (es::SX)
variable {ts:List Tr}
theorem Yy.len {R:Tr->D->List D->Prop} {cs:List D} {SX:List (List D)} (h:Yy R ts cs SX):ts.length=cs.length/\SX.length=ts.length:=by
 induction h with
 | nil=>exact ⟨rfl,rfl⟩
 | cons _ _ ih=>exact ⟨by simp [ih.1],by simp [ih.2]⟩
noncomputable def ml (near far:Int) (n:Nat):List D:=(fN near far n).map D.int
theorem ni (near far:Int) (n:Nat):((ml near far n).length:Int)=fU n:=by unfold ml;rw [Pd,i7]
noncomputable def f6 (x y z:List D):List D:=x++ml 10 11 (y++ml 8 9 z.length).length++(y++ml 8 9 z.length)++z
noncomputable def fQ (xss:List (List D)) (f:Ve) (cl:List Cl):List D:=xss.flatten++cl.map λc=>D.int (kM f.2.1 f.2.2 c)
def rZ (ps:List Pc):Nat->Tr->D->List D->Prop
 | 0,_,_,_=>False
 | n+1,t,c,es=>(∃ a b d ca cb cd xa xb xd,t=.pick a b d/\c=.tup [.str "pick",.tup [ca,cb,cd]]/\rZ ps n a ca xa/\rZ ps n b cb xb/\rZ ps n d cd xd/\es=f6 xa xb xd) \/
  (∃ p f cl cs xss,xj t=false/\p ∈ ps/\cO p.pt t=some f/\wA p cl/\c=.tup [.str p.nm,.tup cs]/\Yy (rZ ps n) f.1 cs xss/\es=fQ xss f cl)
theorem xc:∀ (ws:List Wy) (b x:Wl),ws.foldl (iF f) b=x->x=b\/∃ w ∈ ws,∃ bs,fK (w.ts.map f)=some bs/\x=some (dD w (bs.map (·.1)),ZS w.nm bs)
 | [],b,x,h=>.inl h.symm
 | w::ws,b,x,h=>by
  rw [Rf] at h;rcases xc ws _ x h with e | ⟨w',hw,r⟩
  ·unfold iF at e
   cases ea:fK (w.ts.map f) with
   | none=>rw [ea] at e;exact .inl e
   | some bs =>
    rw [ea] at e;have e:x=jB b (dD w (bs.map (·.1))) (ZS w.nm bs):=e
    have two:jB b (dD w (bs.map (·.1))) (ZS w.nm bs)=b\/jB b (dD w (bs.map (·.1))) (ZS w.nm bs)=some (dD w (bs.map (·.1)),ZS w.nm bs):=by
     unfold jB
     cases b with
     | none=>exact .inr rfl
     | some y =>
      dsimp only;split
      ·exact .inr rfl
      ·exact .inl rfl
    rcases two with z | z
    ·exact .inl (e.trans z)
    ·exact .inr ⟨w,P0,bs,ea,e.trans z⟩
  ·exact .inr ⟨w',PR _ hw,r⟩
theorem pZ:∀ {ts:List Tr} {bs:List (Int × D)},fK (ts.map f)=some bs->ts.map f=bs.map some
 | [],bs,h=>by cases h;rfl
 | t::ts,bs,h=>by
  cases e:f t with
  | none=>rw [PB,e] at h;cases h
  | some b =>
   rw [PB,e] at h;have h':(fK (ts.map f)).map (b::·)=some bs:=h
   cases e2:fK (ts.map f) with
   | none=>rw [e2] at h';cases h'
   | some r =>rw [e2] at h';cases h';rw [PB,PB,e,pZ e2]
theorem Al (ih:∀ x b,a9 x<=n->bS ps x=some b->∃ es,rZ ps n x b.2 es/\(es.length:Int)=b.1):∀ {ts:List Tr} {bs:List (Int × D)},(∀ x ∈ ts,a9 x<=n)->ts.map (bS ps)=bs.map some ->
  ∃ xss,Yy (rZ ps n) ts (bs.map (·.2)) xss/\(xss.flatten.length:Int)=(bs.map (·.1)).sum
 | [],[],_,_=>⟨[],.nil,rfl⟩
 | [],b::bs,_,h=>by cases h
 | t::ts,[],_,h=>by cases h
 | t::ts,b::bs,hd,h=>by rw [PB,PB] at h;injection h with h1 h2;obtain ⟨es,l1,l2⟩:=ih t b (hd t P0) h1;obtain ⟨xss,r1,r2⟩:=Al ih (λx hx=>hd x (PR _ hx)) h2;refine ⟨es::xss,.cons l1 r1,?_⟩;rw [Qw,tB,PB,List.sum_cons];omega
theorem kX (hp:∀ p ∈ ps,fY p.pt=true/\p.nm≠"pick"/\∃ cl,wA p cl):∀ (n:Nat) (t:Tr) (b:Int × D),a9 t<=n->bS ps t=some b->∃ es,rZ ps n t b.2 es/\(es.length:Int)=b.1
 | 0,t,b,h,_=>by
  have:1<=a9 t:=by cases t <;> simp [a9]
  omega
 | n+1,t,b,h,hb=>by
  have nh:∀ p ∈ ps,fY p.pt=true:=λp q=>(hp p q).1;rw [m7 nh] at hb;rcases xc _ _ _ hb with e | ⟨w,hw,bs,ea,e⟩
  ·cases e
  injection e with e;subst e
  have dB:∀ x ∈ w.ts,a9 x<=n:=λx hx=>by have:=(iR (pU nh hw x hx)).2;omega
  have em:=pZ ea;obtain ⟨xss,r1,r2⟩:=Al (kX hp n) dB em;unfold iT at hw;split at hw
  ·rename_i c;have ew:=PN.mp hw;subst ew
   cases t with
   | pick x y z =>
    have l3:bs.length=3:=by have:=PZ List.length em;simpa [dR] using this.symm
    match bs,l3,em with
    | [b1,b2,b3],_,em =>
     have em:[bS ps x,bS ps y,bS ps z]=[some b1,some b2,some b3]:=em;injection em with m1 em;injection em with m2 em;injection em with m3 _;obtain ⟨x1,i1,j1⟩:=kX hp n x b1 (dB x (by simp [dR])) m1;obtain ⟨x2,i2,j2⟩:=kX hp n y b2 (dB y (by simp [dR])) m2;obtain ⟨x3,i3,j3⟩:=kX hp n z b3 (dB z (by simp [dR])) m3;refine ⟨f6 x1 x2 x3,.inl ⟨x,y,z,b1.2,b2.2,b3.2,x1,x2,x3,rfl,rfl,i1,i2,i3,rfl⟩,?_⟩;show _=dD ⟨"pick",[],[x,y,z]⟩ [b1.1,b2.1,b3.1]
     have el:dD ⟨"pick",[],[x,y,z]⟩ [b1.1,b2.1,b3.1]=ra b2.1 b3.1+(b1.1+b2.1+b3.1):=by unfold dD pH;rw [Ph rfl];simp;omega
     rw [el];unfold f6 ra;have k1:=ni 8 9 x3.length;have k2:=ni 10 11 (x2++ml 8 9 x3.length).length;rw [tB] at k2;simp only [tB];rw [j3] at k1;have k3:((x2.length+(ml 8 9 x3.length).length:Nat):Int)=b2.1+fU b3.1:=by omega
     rw [k3] at k2;omega
   | _=>cases c
  ·rename_i c;obtain ⟨p,h1,h2⟩:=Q6.mp hw;unfold iN at h2
   cases ef:cO p.pt t with
   | none=>rw [ef] at h2;cases h2
   | some f =>
    rw [ef] at h2;cases h2;obtain ⟨_,hnm,cl,hcl⟩:=hp p h1;refine ⟨fQ xss f cl,.inr ⟨p,f,cl,bs.map (·.2),xss,by simpa using c,h1,ef,hcl,rfl,r1,rfl⟩,?_⟩;show ((xss.flatten++cl.map _).length:Int)=dD ⟨p.nm,p.cs,f.1⟩ (bs.map (·.1));have lc:p.cs.length=cl.length:=by rw [hcl.eq,Pd]
    unfold dD pH;rw [M1 hnm,tB,Pd];show _=(p.cs.length:Int)+_;omega
theorem IL (t:Tr):∃ kd y r,toD t=.tup (.str kd::y::r):=by cases t <;> exact ⟨_,_,_,rfl⟩
variable {ta tb:TE}
theorem Gq (h:ta σ H λx H1=>∃ c,x=.bl c/\if c=true then tb σ H1 Q else Q (.bl false) H1):D9 ta tb σ H Q:=h
noncomputable def oL (l0 l1 l2:Addr):HO:=.lst [.ref l0,.ref l1,.ref l2]
theorem Hi (m:Int) (t:Tr) (ht:UO t):S0 (toD t) (Xr (.num m))=(cO (.num m) t).isSome:=by
 cases t with
 | num n =>
  show S0 (.tup [.str "num",.int n]) (.tup [.str "num",.int m])=(if n=m then some _ else none:Option Ve).isSome;by_cases h:n=m
  ·rw [Ph h];simp [S0,Td,h]
  ·rw [M1 h];simp [S0,Td,h]
 | arg n=>exact rfl
 | two o a b =>have h:o="add"\/o="sub"\/o="mul"\/o="less":=ht.1;show S0 (.tup [.str o,toD a,toD b]) (.tup [.str "num",.int m])=false;unfold S0 Td S0;rcases h with rfl | rfl | rfl | rfl <;> rfl
 | pick a b c=>exact rfl
theorem xw (T:Txt P w K mg) (MD:Ok P w base k T.KW (mK K oL n)):Ok P w base (k+1) T.KW (mK K oL (n+1)):=by
 refine T.KW.f.ok Xo (λvs H Q E h=>?_) (λcdv A outer s H vs Q E hr h=>?_)
 ·obtain ⟨p,t,v0,v1,f,l0,l1,l2,a,b,c,rfl,_⟩:=h;rfl
 have nd:=Xo.nd;obtain ⟨p,t,v0,v1,f,l0,l1,l2,a,b,c,rfl,W0,Vm,XS,hn,hn3,h0,h1,hf,f0,f1,f2,W5,la,lb,lc,post⟩:=h;refine ⟨_,(aE (bE (aN bV (aY aZ (pv 0) aF) aO (aT _)) (aE (bP (fF PD P5 P7 cC (aY bX (pv 2) aF) (aD (pv 1) aC)))
 (aH (aP d8))) aQ)
 (aE (bE (aN bV (aY aZ (pv 0) aF) aO (aT _)) (aE (bP (fF PD P5 P7 cC (aY bX (pv 2) aF) (aD (aY aZ (pv 1) aF) aC)))
 (aH (aP (jH (eU bV (aY aZ (pv 1) aF) aO (aT _)) (jI (eU jV (aY aZ (pv 1) aF) (aY aZ (pv 0) aF) (aT _))))))) aQ)
 (aE (bE (aN bV (aY aZ (pv 0) aF) aO (aT _)) (aE (bP (fF PD P5 P7 cC (aY bX (pv 2) aF) (aD (aY aZ (pv 1) aF) aC)))
 (aH (aP (eU bV (aY aZ (pv 1) aF) aO (aT _))))) aQ)
 (aE (bE (aN bV (aY aZ (pv 0) aF) aO (aT _)) (aH (aP (eU (HE hr) (pv 1) (pv 0) (aT _)))) aQ)
 (aH (aP (jH (eU bV (aY aZ (pv 1) aF) (aY aZ (pv 0) aF) (aT _)) (jH (pc (D:=T.KW) MD hr (aD (aY aZ (pv 0) aF) (aD (aY aZ (pv 1) aF) (aD (pv 2) aC)))) (jI (pc (D:=T.KW) MD hr (aD (aY aZ (pv 0) aF) (aD (aY aZ (pv 1) aF) (aD (pv 2) aC))))))))))))),?_⟩
 obtain ⟨kd,y1,r,ek⟩:=IL t;obtain ⟨kd',r',ek',hnum,harg⟩:=CM t Vm
 have ekk:kd'=kd:=by rw [ek] at ek';injection ek' with z;injection z with z _;injection z with z;exact z.symm
 subst ekk;have Y3:Dat K H (.tup (.str kd'::y1::r)) v1:=by rw [<- ek];exact h1
 have hf':∀ {G:Hp},Wn l0 l1 l2 H G->G f=some (oL l0 l1 l2):=λbb=>bb _ _ f0 f1 f2 hf;have p1:=DB (n+1);have p2:2 ^ (n+1)=2 * 2 ^ n:=by rw [Sd,Nat.mul_comm]
 cases p with
 | hole i =>have h0:Dat K H (.tup [.str "hole",.int i]) v0:=h0;refine aR (K:=K) (b:=true) (RT.as (aJ (bI (a6 (k:=0) (aA h0) aG rfl) aL)) (Pw rfl)) (λ_ H1 s1=>?_) (λc=>nomatch c);refine eB ⟨_,rfl,f,_,0,_,rfl,rfl,SO.of (show H1 f=some (.lst [.ref l0,.ref l1,.ref l2]) from s1 _ _ hf),at0,.inl ⟨rfl,_,SO.of (s1 _ _ W5.h0)⟩,_,rfl,?_⟩;have tri1:=W5.same s1;refine ⟨l0,a,v1,rfl,rfl,tri1.h0,cM (by omega),?_⟩;obtain ⟨t5,b5⟩:=tri1.p0 (v:=v1);refine post _ [v1] [] [] (s1.Vg.trans b5) t5 (by simpa using p1) (by simp) (by simp) λfd e=>?_;cases e;exact ⟨SG.cons (Dat.mono (b5.grow tri1 t5) _ (s1.dat h1)) SG.nil,SG.nil,SG.nil⟩
 | gap i m =>
  have h0:Dat K H (.tup [.str "gap",.int i,.int m]) v0:=h0;refine aR (K:=K) (b:=false) (RT.as (aJ (bI (a6 (k:=0) (aA h0) aG rfl) aL)) (Pj (by decide +kernel))) (λc=>nomatch c) (λ_ H1 s1=>?_);have h0:=s1.dat h0;refine aR (K:=K) (b:=true) (RT.as (aJ (bI (a6 (k:=0) (aA h0) aG rfl) aL)) (Pw rfl)) (λ_ H2 s2=>?_) (λc=>nomatch c);have h0:=s2.dat h0;have s12:=s1.trans s2;refine eB ⟨_,rfl,f,_,1,_,rfl,rfl,SO.of (show H2 f=some (.lst [.ref l0,.ref l1,.ref l2]) from s12 _ _ hf),at1,.inl ⟨rfl,_,SO.of (s12 _ _ W5.h1)⟩,?_⟩;refine gS (RE.use (K:=K) (d:=y1) (a6 (k:=1) (aA (s12.dat Y3)) aG rfl) λy H4 s4 q4=>?_);have Uv:=s12.trans s4;have VH:=W5.same Uv;refine ⟨l1,b,y,rfl,rfl,VH.h1,cM (by omega),?_⟩;obtain ⟨t5,b5⟩:=VH.p1 (v:=y);have g5:=b5.grow (K:=K) VH t5;dsimp only;by_cases hnn:∃ nn,t=.num nn
  ·obtain ⟨nn,rfl⟩:=hnn;have h1:Dat K H (.tup [.str "num",.int nn]) v1:=h1
   have ey:y1=.int nn:=by have z:toD (.num nn)=.tup [.str "num",.int nn]:=rfl;rw [z] at ek;injection ek with ek;injection ek with _ ek;injection ek with ek _;exact ek.symm
   subst ey;have h5:=Dat.mono g5 _ (Uv.dat h1);refine bJ (K:=K) (d:=.bl (decide (nn<=m))) (RE.as (eT (b:=true) (RE.as (bI (a6 (k:=0) (aA h5) aG rfl) aL) (PZ D.bl (Pw rfl))) λ_=>cQ (p:=λi j=>decide (i<=j)) (a6 (k:=1) (aA h5) aG rfl) (a6 (k:=2) (aA (Dat.mono g5 _ (s4.dat h0))) aG rfl)) rfl) λv H' s qq=>?_;rw [qq.VX]
   have pz:=post _ [] [y] [] ((Uv.Vg.trans b5).trans s.Vg) (t5.same s) (by simp) (by simpa using p1) (by simp) λfd z=>by
    have z':(if nn<=m then some ([],[nn],[]) else none:Option Ve)=some fd:=z;by_cases hm:nn<=m
    ·rw [Ph hm] at z';cases z';exact ⟨SG.nil,SG.cons (s.dat (Dat.mono g5 _ q4)) SG.nil,SG.nil⟩
    ·rw [M1 hm] at z';cases z'
   have e:(cO (.gap i m) (.num nn)).isSome=decide (nn<=m):=by
    show (if nn<=m then some _ else none:Option Ve).isSome=_;by_cases hm:nn<=m
    ·rw [Ph hm,Pw hm];rfl
    ·rw [M1 hm,Pj hm];rfl
   rw [e] at pz;exact pz
  ·have e:=xf (i:=i) (m:=m) λn z=>hnn ⟨n,z⟩;refine bJ (K:=K) (d:=.bl false) (RE.as (eT (b:=false) (c:=true) (RE.as (bI (a6 (k:=0) (aA (Dat.mono g5 _ (Uv.dat Y3))) aG rfl) aL) (PZ D.bl (Pj (λz=>hnn (hnum.mp z))))) λc=>nomatch c) rfl) λv H' s qq=>?_;rw [qq.VX];have pz:=post _ [] [y] [] ((Uv.Vg.trans b5).trans s.Vg) (t5.same s) (by simp) (by simpa using p1) (by simp) λfd z=>by rw [e] at z;cases z
   rw [e] at pz;exact pz
 | slot i =>
  have h0:Dat K H (.tup [.str "slot",.int i]) v0:=h0;refine aR (K:=K) (b:=false) (RT.as (aJ (bI (a6 (k:=0) (aA h0) aG rfl) aL)) (Pj (by decide +kernel))) (λc=>nomatch c) (λ_ H1 s1=>?_);have h0:=s1.dat h0;refine aR (K:=K) (b:=false) (RT.as (aJ (bI (a6 (k:=0) (aA h0) aG rfl) aL)) (Pj (by decide +kernel))) (λc=>nomatch c) (λ_ H2 s2=>?_);have h0:=s2.dat h0;refine aR (K:=K) (b:=true) (RT.as (aJ (bI (a6 (k:=0) (aA h0) aG rfl) aL)) (Pw rfl)) (λ_ H3 s3=>?_) (λc=>nomatch c);have S8:=s1.trans (s2.trans s3);refine eB ⟨_,rfl,f,_,2,_,rfl,rfl,SO.of (show H3 f=some (.lst [.ref l0,.ref l1,.ref l2]) from S8 _ _ hf),at2,.inl ⟨rfl,_,SO.of (S8 _ _ W5.h2)⟩,?_⟩;refine gS (RE.use (K:=K) (d:=y1) (a6 (k:=1) (aA (S8.dat Y3)) aG rfl) λy H4 s4 q4=>?_);have Uv:=S8.trans s4;have VH:=W5.same Uv;refine ⟨l2,c,y,rfl,rfl,VH.h2,cM (by omega),?_⟩;obtain ⟨t5,b5⟩:=VH.p2 (v:=y);have g5:=b5.grow (K:=K) VH t5;dsimp only;refine bJ (K:=K) (d:=.bl (decide (kd'="arg"))) (bI (a6 (k:=0) (aA (Dat.mono g5 _ (Uv.dat Y3))) aG rfl) aL) λv H' s qq=>?_;rw [qq.VX]
  have pz:=post _ [] [] [y] ((Uv.Vg.trans b5).trans s.Vg) (t5.same s) (by simp) (by simp) (by simpa using p1) λfd z=>by
   cases t with
   | arg nn =>
    cases z
    have ey:y1=.int nn:=by have z:toD (.arg nn)=.tup [.str "arg",.int nn]:=rfl;rw [z] at ek;injection ek with ek;injection ek with _ ek;injection ek with ek _;exact ek.symm
    subst ey;exact ⟨SG.nil,SG.nil,SG.cons (s.dat (Dat.mono g5 _ q4)) SG.nil⟩
   | _=>cases z
  by_cases ha:∃ n,t=.arg n
  ·rw [Pw (harg.mpr ha)];obtain ⟨nn,rfl⟩:=ha;exact pz
  ·rw [Pj (λz=>ha (harg.mp z))];rw [tY λn z=>ha ⟨n,z⟩] at pz;exact pz
 | num m =>
  have h0:Dat K H (.tup [.str "num",.int m]) v0:=h0;refine aR (K:=K) (b:=false) (RT.as (aJ (bI (a6 (k:=0) (aA h0) aG rfl) aL)) (Pj (by decide +kernel))) (λc=>nomatch c) (λ_ H1 s1=>?_);have h0:=s1.dat h0;refine aR (K:=K) (b:=false) (RT.as (aJ (bI (a6 (k:=0) (aA h0) aG rfl) aL)) (Pj (by decide +kernel))) (λc=>nomatch c) (λ_ H2 s2=>?_);have h0:=s2.dat h0;refine aR (K:=K) (b:=false) (RT.as (aJ (bI (a6 (k:=0) (aA h0) aG rfl) aL)) (Pj (by decide +kernel))) (λc=>nomatch c) (λ_ H3 s3=>?_);have h0:=s3.dat h0;refine aR (K:=K) (b:=true) (RT.as (aJ (bI (a6 (k:=0) (aA h0) aG rfl) aL)) (Pw rfl)) (λ_ H4 s4=>?_) (λc=>nomatch c);have Uv:=s1.trans (s2.trans (s3.trans s4));refine ⟨_,rfl,_,rfl,toD t,Xr (.num m),Uv.dat h1,s4.dat h0,i0 t,by unfold Xr;simp [UK,Ti],by rw [jQ];omega,?_⟩;show Q (.bl (S0 (toD t) (Xr (.num m)))) _;rw [Hi m t Vm]
  exact post _ [] [] [] Uv.Vg (W5.same Uv).nil (by simp) (by simp) (by simp) λfd z=>by
   cases t with
   | num nn =>
    have z':(if nn=m then some ([],[],[]) else none:Option Ve)=some fd:=z;by_cases hm:nn=m
    ·rw [Ph hm] at z';cases z';exact ⟨SG.nil,SG.nil,SG.nil⟩
    ·rw [M1 hm] at z';cases z'
   | _=>cases z
 | two o pa pb =>
  have h0:Dat K H (.tup [.str o,Xr pa,Xr pb]) v0:=h0;have ho:ZQ o:=W0.1;refine aR (K:=K) (b:=false) (RT.as (aJ (bI (a6 (k:=0) (aA h0) aG rfl) aL)) (Pj (by intro z;subst z;exact absurd ho (by decide +kernel)))) (λc=>nomatch c) (λ_ H1 s1=>?_);have h0:=s1.dat h0;refine aR (K:=K) (b:=false) (RT.as (aJ (bI (a6 (k:=0) (aA h0) aG rfl) aL)) (Pj (by intro z;subst z;exact absurd ho (by decide +kernel)))) (λc=>nomatch c) (λ_ H2 s2=>?_);have h0:=s2.dat h0;refine aR (K:=K) (b:=false) (RT.as (aJ (bI (a6 (k:=0) (aA h0) aG rfl) aL)) (Pj (by intro z;subst z;exact absurd ho (by decide +kernel)))) (λc=>nomatch c) (λ_ H3 s3=>?_);have h0:=s3.dat h0;refine aR (K:=K) (b:=false) (RT.as (aJ (bI (a6 (k:=0) (aA h0) aG rfl) aL)) (Pj (by intro z;subst z;exact absurd ho (by decide +kernel)))) (λc=>nomatch c) (λ_ H4 s4=>?_);have h0:=s4.dat h0;have Uv:=s1.trans (s2.trans (s3.trans s4));refine jO (Gq (RE.use (K:=K) (d:=.bl (decide (kd'=o))) (bI (a6 (k:=0) (aA (Uv.dat Y3)) aG rfl) (a6 (k:=0) (aA h0) aG rfl)) λvb G sG qb=>⟨_,qb.VX,?_⟩));have s1G:=Uv.trans sG;by_cases hk:kd'=o
  ·rw [Pw hk];refine j4 ?_;obtain ⟨x,y,rfl⟩:=xh ho ek hk;have h1:Dat K H (.tup [.str o,toD x,toD y]) v1:=h1;have dpa:eK pa<=n:=by simp only [eK] at hn;omega
   have dpb:eK pb<=n:=by simp only [eK] at hn;omega
   have dpx:a9 x<=8:=by simp only [a9] at XS;omega
   have dpy:a9 y<=8:=by simp only [a9] at XS;omega
   refine Gq (mT (gS (RE.use (K:=K) (d:=Xr pa) (a6 (k:=1) (aA (sG.dat h0)) aG rfl) λw0 H5 s5 q5=>?_)));refine gS (RE.use (K:=K) (d:=toD x) (a6 (k:=1) (aA ((s1G.trans s5).dat h1)) aG rfl) λw1 H6 s6 q6=>?_);have YF:=s1G.trans (s5.trans s6);have ZE:=W5.same YF;refine ⟨_,rfl,pa,x,w0,w1,f,l0,l1,l2,a,b,c,rfl,W0.2.1,Vm.2.1,dpx,dpa,by omega,s6.dat q5,q6,YF _ _ hf,f0,f1,f2,ZE,by omega,by omega,by omega,λH7 a1 b1' c1 bb7 YN ka kb kc d7=>?_⟩;refine ⟨_,rfl,?_⟩;have g67:gA K H6 H7:=bb7.grow ZE YN;have YO:Wn l0 l1 l2 H H7:=YF.Vg.trans bb7
   cases Zg:cO pa x with
   | none =>
    refine j0 ?_;have pz:=post H7 a1 b1' c1 YO YN (Qd ka (QA (by decide) (by omega))) (Qd kb (QA (by decide) (by omega))) (Qd kc (QA (by decide) (by omega))) λfd z=>by rw [jU Zg] at z;cases z
    rw [jU Zg] at pz;exact pz
   | some fa =>
    refine j4 ?_;obtain ⟨da,db,dc⟩:=d7 fa Zg;refine mT (gS (RE.use (K:=K) (d:=Xr pb) (a6 (k:=2) (aA (Dat.mono g67 _ ((sG.trans (s5.trans s6)).dat h0))) aG rfl) λw2 H8 s8 q8=>?_));refine gS (RE.use (K:=K) (d:=toD y) (a6 (k:=2) (aA (s8.dat (Dat.mono g67 _ (YF.dat h1)))) aG rfl) λw3 H9 s9 q9=>?_);have Zh:=s8.trans s9;have ZF:=YN.same Zh;refine ⟨_,rfl,pb,y,w2,w3,f,l0,l1,l2,a++a1,b++b1',c++c1,rfl,W0.2.2,Vm.2.2,dpy,dpb,by omega,s9.dat q8,q9,Zh _ _ (hf' YO),f0,f1,f2,ZF,by rw [tB];omega,by rw [tB];omega,by rw [tB];omega,λH10 a2 b2' c2 ZG XT ma mb mc d10=>?_⟩;have g:=ZG.grow (K:=K) ZF XT;rw [Qa,Qa,Qa] at XT
    have pz:=post H10 (a1++a2) (b1'++b2') (c1++c2) (YO.trans (Zh.Vg.trans ZG)) XT (oA ka ma) (oA kb mb) (oA kc mc) λfd z=>by
     obtain ⟨_,f',g',e1,e2,e3⟩:=fC z;rw [Zg] at e1;cases e1;obtain ⟨da2,db2,dc2⟩:=d10 g' e2;subst e3;refine ⟨?_,?_,?_⟩
     ·show SG K H10 ((fa.1++g'.1).map toD) _;rw [PY];exact SG.append (SG.mono g _ (Zh.SQ da)) da2
     ·show SG K H10 ((fa.2.1++g'.2.1).map D.int) _;rw [PY];exact SG.append (SG.mono g _ (Zh.SQ db)) db2
     ·show SG K H10 ((fa.2.2++g'.2.2).map D.int) _;rw [PY];exact SG.append (SG.mono g _ (Zh.SQ dc)) dc2
    rw [qx Zg] at pz;exact pz
  ·rw [Pj hk];refine j0 ?_;have e:=wY (a:=pa) (b:=pb) ho ek hk;have pz:=post _ [] [] [] s1G.Vg (W5.same s1G).nil (by simp) (by simp) (by simp) λfd z=>by rw [e] at z;cases z
   rw [e] at pz;exact pz
def zJ (ds:List D) (d:D):Prop:=∃ m,ds=[.int m]/\d=.int (fU m)
theorem uZ (T:Txt P w K mg)  : Ok P w base (k+1) T.LY (Th K zJ):=by
 refine T.LY.f.ok WZ (λvs H Q E h=>?_) (λcdv A outer s H vs Q E hr h=>?_)
 ·obtain ⟨ds,d,hd,⟨m,rfl,rfl⟩,_⟩:=h;exact hd.length.symm
 have nd:=WZ.nd;obtain ⟨ds,d,hd,⟨m,rfl,rfl⟩,post⟩:=h;obtain ⟨v0,rfl,h0⟩:=ji hd;refine ⟨_,(aH (aP (fG (aN jV (pv 0) aF (aT _)) aF aF))),?_⟩;refine bJ (K:=K) (d:=.int (fU m)) (mC (b:=decide (m<=9)) (aJ (cQ (p:=λi j=>decide (i<=j)) (aA h0) aG)) (λc=>RE.as aG ?_) (λc=>RE.as aG ?_)) post
 ·unfold fU;rw [Ph (Po c)]
 ·unfold fU;rw [M1 (Pu c)]
variable {ns:List Int}
theorem uT {k:Nat} (h:k < ns.length):(ns.map D.int)[k]?=some (.int (ns.getD k 0)):=by rw [Pr,PX,Pe h];rfl
structure ZH (F G:Hp) (f l0 l1 l2:Addr):Prop where
 s:SH F G
 hf:G f=some (oL l0 l1 l2)
 n0:f≠l0
 n1:f≠l1
 n2:f≠l2
 W5:X6 l0 l1 l2 G [] [] []
 f0:F l0=none
 f1:F l1=none
 f2:F l2=none
variable {F G':Hp} {l0 l1 l2:Addr}
theorem ZH.mono {f:Addr} (h:ZH F G f l0 l1 l2) (s:SH G G'):ZH F G' f l0 l1 l2:=⟨h.s.trans s,s _ _ h.hf,h.n0,h.n1,h.n2,h.W5.same s,h.f0,h.f1,h.f2⟩
theorem HZ (q:∀ f l0 l1 l2 G,ZH F G f l0 l1 l2->Q (.ref f) G):wm (bW (wm dW) (bW (wm dW) (bW (wm dW) dW))) σ F Q:=by
 refine ⟨dB (by decide),λl0 X4=>⟨dB (by decide),λl1 hl1=>⟨dB (by decide),λl2 hl2=>⟨dB (by simp),λf hf=>?_⟩⟩⟩⟩;have ZR:l0≠l1:=aU aI hl1;have n20:l0≠l2:=aU (by rw [aS ZR];exact aI) hl2;have n21:l1≠l2:=aU aI hl2;have nf0:l0≠f:=aU (by rw [aS n20,aS ZR];exact aI) hf;have nf1:l1≠f:=aU (by rw [aS n21];exact aI) hf;have nf2:l2≠f:=aU aI hf;refine q f l0 l1 l2 _ ⟨(aV X4 _).trans ((aV hl1 _).trans ((aV hl2 _).trans (aV hf _))),aI,PL nf0,PL nf1,PL nf2,⟨?_,?_,?_,ZR,n20,n21⟩,X4,?_,?_⟩
 ·rw [aS nf0,aS n20,aS ZR];exact aI
 ·rw [aS nf1,aS n21];exact aI
 ·rw [aS nf2];exact aI
 ·rw [aS (PL ZR)] at hl1;exact hl1
 ·rw [aS (PL n21),aS (PL n20)] at hl2;exact hl2
structure Iz (K:W.Frag) (F G:Hp) (f l0 l1 l2:Addr) (fd:Ve):Prop where
 hf:G f=some (.lst [.ref l0,.ref l1,.ref l2])
 h0:LD K G (fd.1.map toD) (.ref l0)
 h1:LD K G (fd.2.1.map D.int) (.ref l1)
 h2:LD K G (fd.2.2.map D.int) (.ref l2)
theorem Jf {tp tt:TE} {f:Addr} {p:Pa} (N:ZH F G f l0 l1 l2) (W0:yL p) (Vm:UO t) (XS:a9 t<=8) (dpp:eK p<=3) (hp:RE K tp σ G (Xr p)) (ht:RE K tt σ G (toD t))
  (q:∀ G',SH F G'->(∀ fd,cO p t=some fd->Iz K F G' f l0 l1 l2 fd)->Q (.bl (cO p t).isSome) G') (hv:σ[j]?=some (some (.ref f)):=by rfl):kr (mK K oL 3) [] E (bW tp (bW tt (bW (fT j) dW))) σ G Q:=by
 refine mT (gS (hp.use λw0 G1 s1 q1=>gS ((ht.mono s1).use λw1 G2 s2 q2=>?_)));have N2:=N.mono (s1.trans s2);refine ⟨_,hv,p,t,w0,w1,f,l0,l1,l2,[],[],[],rfl,W0,Vm,XS,dpp,by decide,s2.dat q1,q2,N2.hf,N2.n0,N2.n1,N2.n2,N2.W5,by decide,by decide,by decide,λG3 a' b' c' bb YQ _ _ _ dd=>?_⟩;refine q G3 (λx o hx=>bb x o (aU hx N2.f0) (aU hx N2.f1) (aU hx N2.f2) (N2.s _ _ hx)) λfd e=>?_;obtain ⟨d0,d1,d2⟩:=dd fd e;exact ⟨bb _ _ N2.n0 N2.n1 N2.n2 N2.hf,LD.of YQ.h0 d0,LD.of YQ.h1 d1,LD.of YQ.h2 d2⟩
variable {es:List D}
theorem Jl {k:Nat} {v:Nat} {f:Addr} {us:List V} (hf:H f=some (.lst us)) (hl:LD K H es (.ref l)) (h2:RE K tb σ H (.int (v:Nat))) (e:us[v]?=some (.ref l)) (hv:σ[k]?=some (some (.ref f)):=by rfl):RL K (VE (BC K) (fT k) tb) σ H es:=λH1 s Q q =>
 ⟨_,hv,h2 H1 s _ λw H3 s3 q3=>⟨f,us,v,.ref l,rfl,q3.SN,SO.of ((s.trans s3) _ _ hf),jT e,q _ _ s3 ((s.trans s3).ld hl)⟩⟩
variable {ds:List D}
theorem xT {k:Nat} (hl:H l=some (.lst ys)) (hd:SG K H ds ys) (n1:Ti ds=true) (dp:SW ds<=20) (hv:σ[k]?=some (some (.ref l)):=by rfl):RE K (VE (FB K true) (fT k) (wm dW)) σ H (.bl (!Td ds [])):=λH1 s Q q =>
 ⟨_,hv,dB (by decide),λp hp=>by
  have sp:=aV hp (.lst []);exact ⟨l,p,ys,[],ds,[],rfl,rfl,SO.of (sp _ _ (s _ _ hl)),SO.of aI,sp.SQ (s.SQ hd),SG.nil,n1,rfl,dp,q _ _ sp (Dat.VW _)⟩⟩
noncomputable def j5 (f:Tr->Wl) (w:Wy):Option Int:=(fK (w.ts.map f)).map λbs=>dD w (bs.map (·.1))
theorem Bg {w:Wy} {bs:List (Int × D)} (h:fK (w.ts.map f)=some bs) (hn:w.nm≠"pick"):j5 f w=some ((w.cs.length:Int)+(bs.map (·.1)).sum):=by unfold j5;rw [h,Rt];unfold dD pH;rw [M1 hn]
theorem Bf {w:Wy} (h:fK (w.ts.map f)=none):j5 f w=none:=by unfold j5;rw [h,Option.map_none]
def pW (L:List Int):Wl->Prop
 | none=>L=[]
 | some x=>x.1 ∈ L/\∀ m ∈ L,x.1<=m
theorem D8 {L:List Int} {b:Wl} (w:Wy) (h:pW L b):pW (L++(j5 f w).toList) (iF f b w):=by
 unfold iF j5
 cases e:fK (w.ts.map f) with
 | none=>show pW (L++[]) b;rw [PM];exact h
 | some bs =>
  have h2:x8 b w (some bs)=jB b (dD w (bs.map (·.1))) (ZS w.nm bs):=rfl;rw [h2,Rt,Option.toList_some];generalize dD w (bs.map (·.1))=n;unfold jB
  cases b with
  | none =>have h:L=[]:=h;subst h;exact ⟨PN.mpr rfl,λm hm=>Int.le_of_eq (PN.mp hm).symm⟩
  | some x =>
   dsimp only;have h:x.1 ∈ L/\∀ m ∈ L,x.1<=m:=h;split
   ·rename_i lt;refine ⟨Qq _ (PN.mpr rfl),λm hm=>?_⟩;rcases P9.mp hm with hm | hm
    ·have:=h.2 m hm;show n<=m;omega
    ·exact Int.le_of_eq (PN.mp hm).symm
   ·rename_i ge;refine ⟨Rk _ h.1,λm hm=>?_⟩;rcases P9.mp hm with hm | hm
    ·exact h.2 m hm
    ·rw [PN.mp hm];omega
theorem wZ {f:Tr->Wl}:∀ (ws:List Wy) (L:List Int) (b:Wl),pW L b->pW (L++ws.filterMap (j5 f)) (ws.foldl (iF f) b)
 | [],L,b,h=>by rw [Su,PM];exact h
 | w::ws,L,b,h=>by
  have ih:=wZ (f:=f) ws _ _ (D8 (f:=f) w h);rw [Rf];rw [Qa] at ih
  have e:(w::ws).filterMap (j5 f)=(j5 f w).toList++ws.filterMap (j5 f):=by rw [Q3];cases j5 f w <;> rfl
  rw [e];exact ih
noncomputable def Zl (b:Wl):Option Int:=b.map (·.1)
theorem ui:∀ fb:List Wl,(fb.map Zl).any Option.isNone=(fK fb).isNone
 | []=>rfl
 | none::r=>rfl
 | some b::r=>by have ih:=ui r;rw [PB,QJ,ih];show (false || _)=((fK r).map (b::·)).isNone;cases fK r <;> rfl
theorem nS:∀ {fb:List Wl} {bs:List (Int × D)},fK fb=some bs->(fb.map Zl).map Y5=(bs.map (·.1)).map D.int
 | [],bs,h=>by cases h;rfl
 | none::r,bs,h=>by cases h
 | some b::r,bs,h=>by
  have h':(fK r).map (b::·)=some bs:=h
  cases e:fK r with
  | none=>rw [e] at h';cases h'
  | some q =>rw [e] at h';cases h';have ih:=nS e;rw [PB,PB,PB,PB,ih];rfl
theorem yq (hp:∀ p ∈ ps,fY p.pt=true) {a b c:Tr}:bS ps (.pick a b c)=x8 none ⟨"pick",[],[a,b,c]⟩ (fK [bS ps a,bS ps b,bS ps c]):=by rw [m7 hp];unfold mM;rw [yh,Rf,List.foldl_nil];rfl
theorem Dn (w:Wy) (bs:List (Int × D)):Y5 (Zl (x8 none w (some bs)))=.int (dD w (bs.map (·.1))):=rfl
theorem Bh (a b c:Tr) (x y z:Int × D):dD ⟨"pick",[],[a,b,c]⟩ ([x,y,z].map (·.1))=x.1+fU (y.1+fU z.1)+(y.1+fU z.1)+z.1:=by unfold dD pH;rw [Ph rfl];simp;unfold ra;omega
def jA (n:Nat) (as:List Ar) (d:D):Prop:=∃ (ps:List Pc) (t:Tr),as=[.d (toD t),.l (ps.map VD)]/\lH ps/\UO t/\a9 t<=n/\n<=8/\d=Y5 (Zl (bS ps t))
theorem Bm (as:List Ar) (d:D):¬ jA 0 as d:=λ⟨ps,t,_,_,_,h,_⟩=>by
 have:1<=a9 t:=by cases t <;> simp [a9]
 omega
theorem qt (ns:List Int):Td (ns.map D.int) []=ns.isEmpty:=by cases ns with | nil=>exact fA | cons n ns=>exact e8 _ _
theorem sW:∀ l:List Int,SW (l.map D.int)<=1
 | []=>by simp [SW]
 | n::ns=>by have:=sW ns;simp only [PB,SW,gT];omega
theorem sk (T:Txt P w K mg) (L1:Ok P w base k T.Kq (Xq K (jA n))) (Nr:Ok P w base k T.LY (Th K zJ)) (MD:Ok P w base k T.KW (mK K oL 3)):Ok P w base (k+1) T.Kq (Xq K (jA (n+1))):=by
 refine T.Kq.f.ok Wj (λvs H Q E h=>?_) (λcdv A outer s H vs Q E hr h=>?_)
 ·obtain ⟨as,d,hd,⟨ps,t,rfl,_⟩,_⟩:=h;exact hd.length.symm
 have nd:=Wj.nd;obtain ⟨as,d,hd,⟨ps,t,rfl,Wo,Vm,XS,n8,rfl⟩,post⟩:=h;obtain ⟨v0,v1,rfl,h0,h1⟩:=yp hd;have h0:Dat K H (toD t) v0:=h0;have h1:LD K H (ps.map VD) v1:=h1;refine ⟨_,(aE (bE (aN bV (aY aZ (pv 0) aF) aO (aT _)) (aE (jL (i:=2) (own:=["_law_one"]) (fr:=[1]) (N':=["_law_one","_law_some"]) (kE (jJ rL (pv 0) (iY aF) pO)) rfl (by show dS ["_law_tree_here","_law_some","_law_three","_law_last","_law_lengths","_law_piece","_law_found","_law_holes"] (λx=>(aK jt).names.lookup x) _ _ _ _=true;decide +kernel) rfl (λ_ _ _ _ _=>(a7 (i:=0) (by show List.Nodup [("_law_one":Str),("_law_some":Str)];decide +kernel) rfl (Or.inl rfl))) (λ_ _ _ _ _=>c7) (λ_ _ _ _ _=>(pc (D:=T.Kq) L1 hr (aD (pv 0) (aD (pv 1) aC)))) nd rfl rfl rfl)
 (aE (bE (aN eO gR (pv 2) (by with_unfolding_all rfl)) (aH (aP gR)) aQ)
 (aE (bQ (i:=3) nd rfl (Or.inl rfl) (bL cJ (aY bX (pv 2) aF) (pc (D:=T.LY) Nr hr (aD (aY bX (pv 2) aF) aC))))
 (aH (aP (bL cJ (bL cJ (bL cJ (aY bX (pv 2) aF) (pc (D:=T.LY) Nr hr (aD (pv 3) aC))) (pv 3)) (aY bX (pv 2) aF))))))) aQ)
 (aE (bQ (i:=4) nd rfl (Or.inl rfl) (bY aC))
 (aE (jK Qt rfl (gJ (pv 1)) (a7 (i:=5) nd rfl (Or.inl rfl)) (aE (bQ (i:=6) nd rfl (Or.inl rfl) (bY (aD (bY aC) (aD (bY aC) (aD (bY aC) aC)))))
 (aH (bE (bR (pc (D:=T.KW) MD hr (aD (aY aZ (pv 5) aF) (aD (pv 0) (aD (pv 6) aC)))) (λ_=>rfl)) (aE (jL (i:=7) (own:=["_law_one"]) (fr:=[1]) (N':=["_law_one","_law_some"]) (gJ (aY bX (pv 6) aF)) rfl (by show dS ["_law_tree_here","_law_some","_law_three","_law_last","_law_lengths","_law_piece","_law_found","_law_holes"] (λx=>(aK jt).names.lookup x) _ _ _ _=true;decide +kernel) rfl (λ_ _ _ _ _=>(a7 (i:=0) (by show List.Nodup [("_law_one":Str),("_law_some":Str)];decide +kernel) rfl (Or.inl rfl))) (λ_ _ _ _ _=>c7) (λ_ _ _ _ _=>(pc (D:=T.Kq) L1 hr (aD (pv 0) (aD (pv 1) aC)))) nd rfl rfl rfl)
 (aH (bE (aN nD gR (pv 7) (by with_unfolding_all rfl)) (aH (bP (fF PD P5 P7 cC (pv 4) (aD (bL cJ (aX aW rfl T.JY bU (aD (aY aZ (pv 5) aF) aC)) (aX (qi rfl) rfl T.Oz yr (aD (pv 7) aC))) aC)))) aQ))) aQ))))
 (aH (aP (fG (aN (Dp hr) (pv 4) (bY aC) (aT _)) (aX (AX rfl) rfl T.O4 Ha (aD (pv 4) aC)) gR)))))),?_⟩
 obtain ⟨kd,r,ek,hpk,hcall,Yx⟩:=Ae t Vm;have h0':Dat K H (.tup (.str kd::r)) v0:=by rw [<- ek];exact h0
 have nh:=C5 Wo;refine aR (K:=K) (b:=xj t) (RT.as (aJ (bI (a6 (k:=0) (aA h0') aG rfl) aL)) hpk) (λcp H1 s1=>?_) (λc H1 s1=>?_)
 ·cases t with
  | pick a b c =>
   have er:r=[toD a,toD b,toD c]:=Yx rfl;subst er;have da:a9 a<=n:=by simp only [a9] at XS;omega
   have db:a9 b<=n:=by simp only [a9] at XS;omega
   have dc:a9 c<=n:=by simp only [a9] at XS;omega
   refine gY (K:=K) (rn (cs:=[toD a,toD b,toD c]) (mh (aA (k:=0) (s1.dat h0'))) (by simp) [Y5 (Zl (bS ps a)),Y5 (Zl (bS ps b)),Y5 (Zl (bS ps c))] rfl rfl (λG1 j x v d s2 hc hd hv=>?_)) λl ys G2 hl s2 hy dy=>?_
   ·have hL:=(s1.trans s2).ld h1
    match j,hc,hd with
    | 0,hc,hd=>cases hc;cases hd;exact eF (R:=jA n) (iK (aA (k:=0) hv) (gB (a8 (k:=1) hL) dU)) ⟨ps,a,rfl,Wo,Vm.1,da,by omega,rfl⟩
    | 1,hc,hd=>cases hc;cases hd;exact eF (R:=jA n) (iK (aA (k:=0) hv) (gB (a8 (k:=1) hL) dU)) ⟨ps,b,rfl,Wo,Vm.2.1,db,by omega,rfl⟩
    | 2,hc,hd=>cases hc;cases hd;exact eF (R:=jA n) (iK (aA (k:=0) hv) (gB (a8 (k:=1) hL) dU)) ⟨ps,c,rfl,Wo,Vm.2.2,dc,by omega,rfl⟩
    | j+3,hc,hd=>cases hc
   have s12:=s1.trans s2;have hL2:LD K G2 (([bS ps a,bS ps b,bS ps c].map Zl).map Y5) (.ref l):=LD.of hy dy;rw [yq nh] at post;refine aR (K:=K) (b:=(fK [bS ps a,bS ps b,bS ps c]).isNone) (RT.as (aJ (Ie (a8 (k:=2) hL2))) (ui _)) (λcN G3 s3=>?_) (λcS G3 s3=>?_)
   ·have eN:fK [bS ps a,bS ps b,bS ps c]=none:=by cases e:fK [bS ps a,bS ps b,bS ps c] with | none=>rfl | some _=>rw [e] at cN;cases cN
    rw [eN] at post;exact bJ (K:=K) (d:=.SM) DQ λv G4 s4 q4=>post v G4 (s12.trans (s3.trans s4)) q4
   ·cases e:fK [bS ps a,bS ps b,bS ps c] with
    | none=>rw [e] at cS;cases cS
    | some bs =>
     have em:=pZ (f:=bS ps) (ts:=[a,b,c]) e;have l3:bs.length=3:=by have:=PZ List.length em;simpa using this.symm
     rw [nS e] at hL2;rw [e] at post
     match bs,l3 with
     | [x,y,z],_ =>have ZT:=s3.ld hL2;rw [Dn,Bh] at post;refine eJ (K:=K) (d:=.int (y.1+fU z.1)) (c8 (iD (k:=1) (a8 (k:=2) ZT) aG rfl) (bM (R:=zJ) (aB (iD (k:=2) (a8 (k:=2) ZT) aG rfl) aM) ⟨z.1,rfl,rfl⟩)) λvl G4 s4 q4=>?_;have hL4:=s4.ld ZT;refine bJ (K:=K) (d:=.int (x.1+fU (y.1+fU z.1)+(y.1+fU z.1)+z.1)) (c8 (c8 (c8 (iD (k:=0) (a8 (k:=2) hL4) aG rfl) (bM (R:=zJ) (aB (aA (k:=3) q4) aM) ⟨_,rfl,rfl⟩)) (aA (k:=3) q4)) (iD (k:=2) (a8 (k:=2) hL4) aG rfl)) λv G5 s5 q5=>post v G5 (s12.trans (s3.trans (s4.trans s5))) ?_;exact q5
  | _=>cases cp
 have ew:iT ps t=ps.filterMap (iN t):=by unfold iT;rw [M1 (by rw [c];exact Pk)]
 have lm:=wZ (f:=bS ps) (iT ps t) [] none rfl;rw [Rg] at lm;have eb:(iT ps t).foldl (iF (bS ps)) none=bS ps t:=(m7 nh t).symm;rw [eb,ew] at lm;obtain ⟨a,vs,rfl,ha,hda⟩:=h1;have la:=hda.length;rw [Pd] at la;have hps:=Wo.few;refine fR ⟨dB (by decide),λll hll=>?_⟩;have s2:SH H1 (upd H1 ll (.lst [])):=aV hll _;have s12:=s1.trans s2;have hln:H ll=none:=s1.free hll;refine eB ⟨_,rfl,a,rfl,⟨vs,(s12.VG ha).WA⟩,qA (xs:=vs) (λi σ G=>∃ (z2 z3 z5 z6 z7:Option V) (ys:List V),σ=[some v0,some (.ref a),z2,z3,some (.ref ll),z5,z6,z7]/\SH H G/\G ll=some (.lst ys)/\SG K G ((((ps.take i).filterMap (iN t)).filterMap (j5 (bS ps))).map D.int) ys) ?_ (λi σ G _ ⟨_,_,_,_,_,_,_,p,_⟩=>(p.VG ha).WA) ?_ ?_⟩
 ·exact ⟨none,none,none,none,none,[],rfl,s12,aI,by rw [QU];exact SG.nil⟩
 ·rintro i vx σ G hi ⟨z2,z3,z5,z6,z7,ys,rfl,sG,hlG,dy⟩;obtain ⟨dx,ex,hx⟩:=(sG.SQ hda).Wb hi;rw [Pr] at ex
  cases hp:ps[i]? with
  | none=>rw [hp] at ex;cases ex
  | some p =>
   rw [hp] at ex;cases ex;have W0:=Wo.ok p (PJ hp);have et:ps.take (i+1)=ps.take i++[p]:=by rw [Qo,hp];rfl
   have lys:ys.length<=100:=by have l1:=dy.length;rw [Pd] at l1;have l2:=RS (iN t) (ps.take i);have l3:=RS (j5 (bS ps)) ((ps.take i).filterMap (iN t));rw [Qe] at l2;omega
   refine kJ ?_;dsimp only;refine fR (HZ λf l0 l1 l2 G1 N=>?_);have hx1:Dat K G1 (.tup [.str p.nm,Xr p.pt,.tup p.cs]) vx:=N.s.dat hx;refine Jf (K:=K) (j:=6) N W0.ok Vm (by omega) W0.dp (a6 (k:=1) (aA (k:=5) hx1) aG rfl) (aA (k:=0) ((sG.trans N.s).dat h0)) λG2 s2 full=>?_;have sH2:=sG.trans s2;have hl2:=s2 _ _ hlG
   have same:∀ {G3:Hp} {z7:Option V},SH G2 G3->((iN t p).bind (j5 (bS ps))=none)->∃ (z2' z3' z5' z6' z7':Option V) (ys:List V),[some v0,some (.ref a),z2,z3,some (.ref ll),some vx,some (.ref f),z7]=[some v0,some (.ref a),z2',z3',some (.ref ll),z5',z6',z7']/\SH H G3/\G3 ll=some (.lst ys)/\SG K G3 ((((ps.take (i+1)).filterMap (iN t)).filterMap (j5 (bS ps))).map D.int) ys:=λ{G3 z7} s3 e=>by
    refine ⟨_,_,_,_,_,ys,rfl,sH2.trans s3,s3 _ _ hl2,?_⟩;rw [et,QW,QW]
    have e2:([p].filterMap (iN t)).filterMap (j5 (bS ps))=[]:=by
     cases h1:iN t p with
     | none=>simp [h1]
     | some w =>rw [h1] at e;have e:j5 (bS ps) w=none:=e;simp [h1,e]
    rw [e2,PM];exact (s2.trans s3).SQ dy
   cases Yp:cO p.pt t with
   | none =>
    have eW:iN t p=none:=by unfold iN;rw [Yp];rfl
    exact ⟨_,rfl,j0 (mi (same (SH.refl _) (by rw [eW];rfl)))⟩
   | some fd =>
    have eW:iN t p=some ⟨p.nm,p.cs,fd.1⟩:=by unfold iN;rw [Yp];rfl
    have F3:=full fd Yp;have tail:=k8 W0.nh Yp
    have few:fd.1.length<=8:=by have hw:=wz (ps:=ps) (PJ hp) c Yp;exact (Ew Wo.ok hw).1
    refine ⟨_,rfl,j4 ?_⟩;refine gY (K:=K) (jM (cs:=fd.1.map toD) (Jl (k:=6) (v:=0) F3.hf F3.h0 aG rfl) (by rw [Pd];omega) (fd.1.map λx=>Y5 (Zl (bS ps x))) (by rw [Pd,Pd]) rfl (λG3 j x v d s3 hc hd hv=>?_)) λlh zs G3 hlh s3 hzs dzs=>?_
    ·rw [Pr] at hc hd
     cases hx:fd.1[j]? with
     | none=>rw [hx] at hc;cases hc
     | some y =>rw [hx] at hc hd;cases hc;cases hd;have hy:=tail y (PJ hx);have dy:=(iR hy).2;exact eF (R:=jA n) (iK (aA (k:=0) hv) (gB (a8 (k:=1) ((sH2.trans s3).ld ⟨a,vs,rfl,ha,hda⟩)) dU)) ⟨ps,y,rfl,Wo,iA t y Vm (mj hy),by omega,by omega,rfl⟩
    have eM:(fd.1.map λx=>Y5 (Zl (bS ps x)))=((fd.1.map (bS ps)).map Zl).map Y5:=by rw [Ra,Ra];rfl
    have ZT:LD K G3 (((fd.1.map (bS ps)).map Zl).map Y5) (.ref lh):=by rw [<- eM];exact LD.of hzs dzs
    refine jk (b:=!(fK (fd.1.map (bS ps))).isNone) (RT.as (aJ (BH (K:=K) (a8 (k:=7) ZT))) (by rw [ui])) (λcS G4 s4=>?_) (λcN G4 s4=>mi ?_)
    ·cases ea:fK (fd.1.map (bS ps)) with
     | none=>rw [ea] at cS;cases cS
     | some bs =>
      rw [nS ea] at ZT;have hx4:=(s3.trans s4).dat (s2.dat hx);have hx4:Dat K G4 (.tup [.str p.nm,Xr p.pt,.tup p.cs]) vx:=hx4;have hl4:=(s3.trans s4) _ _ hl2;refine vR (K:=K) (d:=.int ((p.cs.length:Int)+(bs.map (·.1)).sum)) (c8 (fL (a6 (k:=2) (aA (k:=5) hx4) aG rfl)) (vO (a8 (k:=7) (s4.ld ZT)))) hl4 (by omega) λy G5 b5 YC q5=>?_;have g5:gA K G4 G5:=b5.grow hl4 YC;refine ⟨_,_,_,_,_,ys++[y],rfl,λx o hx=>b5 x o (aU hx hln) ((s3.trans s4) _ _ (sH2 _ _ hx)),YC,?_⟩
      have e2:([p].filterMap (iN t)).filterMap (j5 (bS ps))=[(p.cs.length:Int)+(bs.map (·.1)).sum]:=by have e3:j5 (bS ps) ⟨p.nm,p.cs,fd.1⟩=some ((p.cs.length:Int)+(bs.map (·.1)).sum):=Bg (w:=⟨p.nm,p.cs,fd.1⟩) ea W0.nm;simp [eW,e3]
      rw [et,QW,QW,e2,PY];exact SG.append (SG.mono g5 _ ((s2.trans (s3.trans s4)).SQ dy)) (SG.cons q5 SG.nil)
    ·refine same (s3.trans s4) ?_;rw [eW]
     cases ea:fK (fd.1.map (bS ps)) with
     | none=>exact Bf (w:=⟨p.nm,p.cs,fd.1⟩) ea
     | some bs=>rw [ea] at cN;cases cN
 ·rintro σ G ⟨z2,z3,z5,z6,z7,ys,rfl,sG,hlG,dy⟩;rw [<- la,QI] at dy;have hL:LD K G (((ps.filterMap (iN t)).filterMap (j5 (bS ps))).map D.int) (.ref ll):=LD.of hlG dy;dsimp only;generalize (ps.filterMap (iN t)).filterMap (j5 (bS ps))=ns at lm dy hL;refine bJ (K:=K) (mC (b:=!ns.isEmpty) (RT.as (aJ (xT (k:=4) hlG dy (jy ns) (Qd (sW ns) (by decide)))) (by rw [qt])) (λcT=>?_) (λcF=>?_)) λv G2 s2 q2=>post v G2 (sG.trans s2) q2
  ·cases eb:bS ps t with
   | none =>rw [eb] at lm;have lm:ns=[]:=lm;subst lm;cases cT
   | some b =>rw [eb] at lm;exact FK (a8 (k:=4) hL) lm.1 lm.2
  ·cases eb:bS ps t with
   | none=>exact DQ
   | some b =>
    rw [eb] at lm
    cases ns with
    | nil=>exact absurd lm.1 (by simp)
    | cons x y=>cases cF
noncomputable def nV:D->Option (Str × List D)
 | .tup [.str nm,.tup cs]=>some (nm,cs)
 | _=>none
structure Hx (ps:List Pc):Prop where
 nd:(ps.map (·.nm)).Nodup
 nl:∀ p ∈ ps,UK (VD p)=true/\gT (VD p)<=19
noncomputable def Ff (nm:Str):D->Bool
 | .tup (.str x::_)=>decide (x=nm)
 | _=>false
theorem sZ:∀ {ps:List Pc},(∀ p ∈ ps,p.nm≠nm)->(ps.map VD).filter (Ff nm)=[]
 | [],_=>rfl
 | p::ps,h=>by
  rw [PB,RJ,M1]
  ·exact sZ λq hq=>h q (PR _ hq)
  ·show ¬ decide (p.nm=nm)=true;rw [Pj (h p P0)];exact Pk
theorem wW {p:Pc}:∀ {ps:List Pc},(ps.map (·.nm)).Nodup->p ∈ ps->(ps.map VD).filter (Ff p.nm)=[VD p]
 | [],_,h=>by cases h
 | q::ps,nd,h=>by
  rw [PB,Rq] at nd;rcases Py.mp h with rfl | h
  ·rw [PB,RJ,Ph (show Ff p.nm (VD p)=true from Pw rfl),sZ λx hx z=>nd.1 (Qz.mpr ⟨x,hx,z⟩)]
  ·rw [PB,RJ,M1]
   ·exact wW nd.2 h
   ·show ¬ decide (q.nm=p.nm)=true;rw [Pj λz=>nd.1 (Qz.mpr ⟨p,h,z.symm⟩)];exact Pk
theorem xR {k:Nat} (hl:H l=some (.lst ys)) (hd:SG K H ds ys) (n1:Ti ds=true) (dp:SW ds<=20) (hv:σ[k]?=some (some (.ref l)):=by rfl):RE K (VE (FB K false) (fT k) (wm dW)) σ H (.bl (Td ds [])):=λH1 s Q q =>
 ⟨_,hv,dB (by decide),λp hp=>by
  have sp:=aV hp (.lst []);exact ⟨l,p,ys,[],ds,[],rfl,rfl,SO.of (sp _ _ (s _ _ hl)),SO.of aI,sp.SQ (s.SQ hd),SG.nil,n1,rfl,dp,q _ _ sp (Dat.VW _)⟩⟩
theorem C0 {α:Type} {xss:List (List α)} (h:xss.flatten.length<=n):∀ {i:Nat} {x:List α},xss[i]?=some x->(xss.take i).flatten.length+x.length<=n:=by
 intro i x hx;have e:xss.take (i+1)=xss.take i++[x]:=by rw [Qo,hx];rfl
 have l:(xss.take (i+1)).flatten.length<=xss.flatten.length:=by have z:xss=xss.take (i+1)++xss.drop (i+1):=(RG _ _).symm;rw [PZ List.flatten z,Sg,tB];omega
 rw [e,Sg,tB] at l;simp only [Qw,List.flatten_nil,PM] at l;omega
noncomputable def IH:D->Cl
 | .tup [.str k,.int j]=>if k="arg" then .arg j.toNat else if k="low" then .low j.toNat else .high j.toNat
 | .int i=>.n i
 | _=>.n 0
noncomputable def cK (p:Pc):List Cl:=p.cs.map IH
noncomputable def m8 (nm:Str) (ps:List Pc):Option Pc:=ps.find? λp=>decide (p.nm=nm)
noncomputable def pw:List (Option (List D))->Option (List (List D))
 | []=>some []
 | none::_=>none
 | some x::r=>(pw r).map (x::·)
noncomputable def gM (f:Tr->D->Option (List D)) (ts:List Tr) (cs:List D):List (Option (List D)):=(ts.zip cs).map λp=>f p.1 p.2
noncomputable def Hw:List (List D)->Option (List D)
 | [a,b,c]=>some (f6 a b c)
 | _=>none
noncomputable def mx (f:Tr->D->Option (List D)) (t:Tr) (cs:List D):Option (List D):=match t with
 | .pick a b d=>if cs.length=3 then (pw (gM f [a,b,d] cs)).bind Hw else none
 | _=>none
noncomputable def kN (f:Tr->D->Option (List D)) (ps:List Pc) (t:Tr) (nm:Str) (cs:List D):Option (List D):=match m8 nm ps with
 | none=>none
 | some p=>match cO p.pt t with
  | none=>none
  | some g=>if g.1.length=cs.length then (pw (gM f g.1 cs)).map λxss=>fQ xss g (cK p) else none
noncomputable def eY (ps:List Pc):Nat->Tr->D->Option (List D)
 | 0,_,_=>none
 | n+1,t,c=>match nV c with
  | none=>none
  | some x=>if x.1="pick" then mx (eY ps n) t x.2 else kN (eY ps n) ps t x.1 x.2
theorem sJ:∀ {os:List (Option (List D))},os.any Option.isNone=true->pw os=none
 | [],h=>by cases h
 | none::os,_=>rfl
 | some x::os,h=>by rw [QJ] at h;have ih:=sJ (os:=os) (by simpa using h);show (pw os).map _=none;rw [ih];rfl
theorem wD:∀ SX:List (List D),pw (SX.map some)=some SX
 | []=>rfl
 | x::SX=>by show (pw (SX.map some)).map _=_;rw [wD SX];rfl
theorem Bw {f:Tr->D->Option (List D)} {cs:List D} {k:Nat} {c:D} {o:Option (List D)} (h1:ts[k]?=some t) (h2:cs[k]?=some c) (h3:(gM f ts cs)[k]?=some o):o=f t c:=by unfold gM at h3;rw [Pr,(List.getElem?_zip_eq_some (z:=(t,c))).mpr ⟨h1,h2⟩] at h3;cases h3;rfl
theorem Bx {f:Tr->D->Option (List D)} {cs:List D} (h:ts.length=cs.length):(gM f ts cs).length=ts.length:=by unfold gM;rw [Pd,List.length_zip];omega
theorem tJ {f:Tr->D->Option (List D)} (hf:∀ t c es,f t c=some es->es.length<=12 * bB t):∀ {ts:List Tr} {cs:List D} {SX:List (List D)},ts.length=cs.length->gM f ts cs=SX.map some->SX.flatten.length<=12 * (ts.map bB).sum
 | [],[],SX,_,h=>by
  have:SX=[]:=by cases SX with | nil=>rfl | cons _ _=>cases h
  subst this;simp
 | t::ts,c::cs,SX,hl,h=>by
  cases SX with
  | nil=>cases h
  | cons x SX =>have h':f t c::gM f ts cs=some x::SX.map some:=h;injection h' with h1 h2;have i1:=hf t c x h1;have i2:=tJ hf (ts:=ts) (cs:=cs) (by simpa using hl) h2;rw [Qw,tB,PB,List.sum_cons];omega
 | [],c::cs,_,h,_=>by simp at h
 | t::ts,[],_,h,_=>by simp at h
structure Be (ps:List Pc):Prop where
 ls:Hx ps
 cl:∀ p ∈ ps,wA p (cK p)
theorem uD:∀ (p:Pa) (t:Tr) (f:Ve),cO p t=some f->(f.1.map bB).sum<=bB t/\(fY p=true->(f.1.map bB).sum+1<=bB t)
 | .hole i,t,f,h=>by cases h;exact ⟨by simp,λz=>nomatch z⟩
 | .gap i m,t,f,h=>by
  cases t with
  | num n =>
   have h':(if n<=m then some ([],[n],[]) else none:Option Ve)=some f:=h;by_cases z:n<=m
   ·rw [Ph z] at h';cases h';exact ⟨by simp,λ_=>by simp [bB]⟩
   ·rw [M1 z] at h';cases h'
  | _=>cases h
 | .slot i,t,f,h=>by
  cases t with
  | arg n=>cases h;exact ⟨by simp,λ_=>by simp [bB]⟩
  | _=>cases h
 | .num m,t,f,h=>by
  cases t with
  | num n =>
   have h':(if n=m then some ([],[],[]) else none:Option Ve)=some f:=h;by_cases z:n=m
   ·rw [Ph z] at h';cases h';exact ⟨by simp,λ_=>by simp [bB]⟩
   ·rw [M1 z] at h';cases h'
  | _=>cases h
 | .two o a b,t,f,h=>by
  cases t with
  | two o' u v =>
   obtain ⟨_,f1,f2,e1,e2,e3⟩:=fC h;subst e3;have h1:=(uD a u f1 e1).1;have h2:=(uD b v f2 e2).1;have e:((f1.1++f2.1).map bB).sum=(f1.1.map bB).sum+(f2.1.map bB).sum:=by simp
   refine ⟨?_,λ_=>?_⟩
   ·show ((f1.1++f2.1).map bB).sum<=_;simp only [bB];omega
   ·show ((f1.1++f2.1).map bB).sum+1<=_;simp only [bB];omega
  | _=>cases h
theorem hE {p:Pc} (h:m8 nm ps=some p):p ∈ ps/\p.nm=nm:=by unfold m8 at h;have h0:decide (p.nm=nm)=true:=List.find?_some (p:=λp:Pc=>decide (p.nm=nm)) h;exact ⟨List.mem_of_find?_eq_some h,Po h0⟩
theorem yz (h:m8 nm ps=none):∀ p ∈ ps,p.nm≠nm:=λp hp e=>by unfold m8 at h;rw [List.find?_eq_none] at h;exact absurd (Pw e) (h p hp)
theorem iP {f:Tr->D->Option (List D)} {cs:List D} (h:kN f ps t nm cs=some es):∃ p g SX,m8 nm ps=some p/\cO p.pt t=some g/\g.1.length=cs.length/\gM f g.1 cs=SX.map some/\es=fQ SX g (cK p):=by
 unfold kN at h
 cases e1:m8 nm ps with
 | none=>rw [e1] at h;cases h
 | some p =>
  rw [e1] at h;dsimp only at h
  cases e2:cO p.pt t with
  | none=>rw [e2] at h;cases h
  | some g =>
   rw [e2] at h;dsimp only at h;by_cases hl:g.1.length=cs.length
   ·rw [Ph hl] at h
    cases ha:(gM f g.1 cs).any Option.isNone with
    | true=>rw [sJ ha] at h;cases h
    | false =>obtain ⟨SX,e⟩:=sL ha;rw [e,wD] at h;cases h;exact ⟨p,g,SX,rfl,e2,hl,e,rfl⟩
   ·rw [M1 hl] at h;cases h
theorem iQ {f:Tr->D->Option (List D)} {cs:List D} (h:mx f t cs=some es):∃ a b d ca cb cd xa xb xd,t=.pick a b d/\cs=[ca,cb,cd]/\f a ca=some xa/\f b cb=some xb/\f d cd=some xd/\es=f6 xa xb xd:=by
 cases t with
 | pick a b d =>
  have h:(if cs.length=3 then (pw (gM f [a,b,d] cs)).bind Hw else none)=some es:=h;by_cases hl:cs.length=3
  ·rw [Ph hl] at h
   match cs,hl with
   | [ca,cb,cd],_ =>
    have e:gM f [a,b,d] [ca,cb,cd]=[f a ca,f b cb,f d cd]:=rfl;rw [e] at h
    cases ea:f a ca with
    | none=>rw [ea] at h;cases h
    | some xa =>
     cases eb:f b cb with
     | none=>rw [ea,eb] at h;cases h
     | some xb =>
      cases ed:f d cd with
      | none=>rw [ea,eb,ed] at h;cases h
      | some xd =>rw [ea,eb,ed] at h;have h:some (f6 xa xb xd)=some es:=h;cases h;exact ⟨a,b,d,ca,cb,cd,xa,xb,xd,rfl,rfl,ea,eb,ed,rfl⟩
  ·rw [M1 hl] at h;cases h
 | _=>cases h
theorem jF (ok:∀ p ∈ ps,Fi p):∀ (n:Nat) (t:Tr) (c:D) (es:List D),eY ps n t c=some es->es.length<=12 * bB t
 | 0,_,_,_,h=>by cases h
 | n+1,t,c,es,h=>by
  have h:(match nV c with | none=>none | some x=>if x.1="pick" then mx (eY ps n) t x.2 else kN (eY ps n) ps t x.1 x.2)=some es:=h
  cases ec:nV c with
  | none=>rw [ec] at h;cases h
  | some x =>
   rw [ec] at h;dsimp only at h;by_cases hp:x.1="pick"
   ·rw [Ph hp] at h;obtain ⟨a,b,d,ca,cb,cd,xa,xb,xd,rfl,_,la,lb,ld,rfl⟩:=iQ h;have h1:=jF ok n a ca xa la;have h2:=jF ok n b cb xb lb;have h3:=jF ok n d cd xd ld;have k1:=ni 8 9 xd.length;have k2:=ni 10 11 (xb++ml 8 9 xd.length).length;have j1:=CT (xd.length:Int);have j2:=CT ((xb++ml 8 9 xd.length).length:Int);have ll:(f6 xa xb xd).length=xa.length+(ml 10 11 (xb++ml 8 9 xd.length).length).length+(xb.length+(ml 8 9 xd.length).length)+xd.length:=by unfold f6;simp only [tB]
    simp only [bB];omega
   ·rw [M1 hp] at h;obtain ⟨p,g,SX,e1,e2,hl,e,rfl⟩:=iP h;have W0:=ok p (hE e1).1;have h1:=tJ (jF ok n) hl e;have h2:=(uD _ _ _ e2).2 W0.nh;have h3:=W0.cs;have z:(fQ SX g (cK p)).length=SX.flatten.length+p.cs.length:=by unfold fQ cK;rw [tB,Pd,Pd]
    omega
theorem CB {p:Pa} (h:fY p=true) (a b c:Tr):cO p (.pick a b c)=none:=by
 cases p with
 | hole i=>cases h
 | _=>rfl
theorem A2 {c:D} {x:Str × List D} (h:nV c=some x):c=.tup [.str x.1,.tup x.2]:=by
 unfold nV at h;split at h
 ·cases h;rfl
 ·cases h
def yj (ds:List D) (d:D):Prop:=∃ (c:Cl) (nums ks:List Int),ds=[clD c,.tup (nums.map D.int),.tup (ks.map D.int)]/\He nums.length ks.length c=true/\d=.int (kM nums ks c)
theorem qW (T:Txt P w K mg)  : Ok P w base (k+1) T.LG (Th K yj):=by
 refine T.LG.f.ok V1 (λvs H Q E h=>?_) (λcdv A outer s H vs Q E hr h=>?_)
 ·obtain ⟨ds,d,hd,⟨c,nums,ks,rfl,_⟩,_⟩:=h;exact hd.length.symm
 have nd:=V1.nd;obtain ⟨ds,d,hd,⟨c,nums,ks,rfl,Xs,rfl⟩,post⟩:=h;obtain ⟨v0,v1,v2,rfl,h0,h1,h2⟩:=sT hd;refine ⟨_,(aE (bE (bR (aX (gC CN) rfl T.J4 cY (dE (pv 0) (dE (iB (v:=.ty "int") rfl T.OO Cg rfl) aC))) (λ_=>rfl)) (aH (aP (pv 0))) aQ)
 (aE (bE (aN bV (aY aZ (pv 0) aF) aO (aT _)) (aH (aP (bL eZ (aY aZ (pv 1) (aY aZ (pv 0) aF)) aF))) aQ)
 (aE (bE (aN bV (aY aZ (pv 0) aF) aO (aT _)) (aH (aP (bL nB (aY aZ (pv 1) (aY aZ (pv 0) aF)) aF))) aQ)
 (aH (aP (aY aZ (pv 2) (aY aZ (pv 0) aF))))))),?_⟩
 cases c with
 | n j =>have h0:Dat K H (.int j) v0:=h0;refine aR (K:=K) (b:=true) (bO (dC (aA (k:=0) h0))) (λ_ H1 s1=>?_) (λc=>nomatch c);exact bJ (K:=K) (d:=.int j) (aA (k:=0) (s1.dat h0)) λv H2 s2 q=>post v H2 (s1.trans s2) q
 | low j =>have h0:Dat K H (.tup [.str "low",.int j]) v0:=h0;have Xs:=Po Xs;refine aR (K:=K) (b:=false) (bO (dC (aA (k:=0) h0))) (λc=>nomatch c) (λ_ H1 s1=>?_);refine aR (K:=K) (b:=true) (RT.as (aJ (bI (a6 (k:=0) (aA (k:=0) (s1.dat h0)) aG rfl) aL)) (Pw rfl)) (λ_ H2 s2=>?_) (λc=>nomatch c);have s12:=s1.trans s2;exact bJ (K:=K) (d:=.int (nums.getD j 0 % 100)) (jN (a6 (k:=j) (aA (k:=1) (s12.dat h1)) (a6 (k:=1) (aA (k:=0) (s12.dat h0)) aG rfl) (uT Xs)) aG (by decide)) λv H3 s3 q=>post v H3 (s12.trans s3) q
 | high j =>have h0:Dat K H (.tup [.str "high",.int j]) v0:=h0;have Xs:=Po Xs;refine aR (K:=K) (b:=false) (bO (dC (aA (k:=0) h0))) (λc=>nomatch c) (λ_ H1 s1=>?_);refine aR (K:=K) (b:=false) (RT.as (aJ (bI (a6 (k:=0) (aA (k:=0) (s1.dat h0)) aG rfl) aL)) (Pj (by decide +kernel))) (λc=>nomatch c) (λ_ H2 s2=>?_);have s12:=s1.trans s2;refine aR (K:=K) (b:=true) (RT.as (aJ (bI (a6 (k:=0) (aA (k:=0) (s12.dat h0)) aG rfl) aL)) (Pw rfl)) (λ_ H3 s3=>?_) (λc=>nomatch c);have S8:=s12.trans s3;exact bJ (K:=K) (d:=.int (nums.getD j 0 / 100)) (AE (a6 (k:=j) (aA (k:=1) (S8.dat h1)) (a6 (k:=1) (aA (k:=0) (S8.dat h0)) aG rfl) (uT Xs)) aG ⟨by decide,by decide⟩) λv H4 s4 q=>post v H4 (S8.trans s4) q
 | arg j =>have h0:Dat K H (.tup [.str "arg",.int j]) v0:=h0;have Xs:=Po Xs;refine aR (K:=K) (b:=false) (bO (dC (aA (k:=0) h0))) (λc=>nomatch c) (λ_ H1 s1=>?_);refine aR (K:=K) (b:=false) (RT.as (aJ (bI (a6 (k:=0) (aA (k:=0) (s1.dat h0)) aG rfl) aL)) (Pj (by decide +kernel))) (λc=>nomatch c) (λ_ H2 s2=>?_);have s12:=s1.trans s2;refine aR (K:=K) (b:=false) (RT.as (aJ (bI (a6 (k:=0) (aA (k:=0) (s12.dat h0)) aG rfl) aL)) (Pj (by decide +kernel))) (λc=>nomatch c) (λ_ H3 s3=>?_);have S8:=s12.trans s3;exact bJ (K:=K) (d:=.int (ks.getD j 0)) (a6 (k:=j) (aA (k:=2) (S8.dat h2)) (a6 (k:=1) (aA (k:=0) (S8.dat h0)) aG rfl) (uT Xs)) λv H4 s4 q=>post v H4 (S8.trans s4) q
def kT (n:Nat) (as:List Ar) (es:List D):Prop:=∃ (ps:List Pc) (t:Tr) (c:D),as=[.d (toD t),.l (ps.map VD),.d c,.l []]/\lH ps/\Be ps/\UO t/\a9 t<=n/\n<=8/\bB t<=40/\eY ps n t c=some es
def GL (n:Nat) (as:List Ar) (es:List D):Prop:=∃ (ps:List Pc) (a b d:Tr) (ca cb cd:D) (xa xb xd:List D),as=[.d (.tup [.str "pick",toD a,toD b,toD d]),.l (ps.map VD),.d (.tup [.str "pick",.tup [ca,cb,cd]]),.l []]/\lH ps/\Be ps/\(UO a/\UO b/\UO d)/\(a9 a<=n/\a9 b<=n/\a9 d<=n)/\n<=8/\(bB a<=40/\bB b<=40/\bB d<=40) /\
 eY ps n a ca=some xa/\eY ps n b cb=some xb/\eY ps n d cd=some xd/\es.length<=900/\es=f6 xa xb xd
def GK (n:Nat) (as:List Ar) (es:List D):Prop:=∃ (ps:List Pc) (t:Tr) (p:Pc) (cv:List D) (g:Ve) (SX:List (List D)),as=[.d (toD t),.l (ps.map VD),.d (.tup [.str p.nm,.tup cv]),.l []]/\lH ps/\Be ps/\UO t/\a9 t<=n+1/\n+1<=8/\bB t<=40/\p ∈ ps/\cO p.pt t=some g/\g.1.length=cv.length/\gM (eY ps n) g.1 cv=SX.map some/\es.length<=900/\es=fQ SX g (cK p)
theorem xl (x y z:List D):f6 x y z=x++(fN 10 11 ((y.length:Int)+fU z.length)).map D.int++y++(fN 8 9 z.length).map D.int++z:=by
 unfold f6 ml
 have e:((y++(fN 8 9 (z.length:Int)).map D.int).length:Int)=(y.length:Int)+fU z.length:=by rw [tB,Pd];have:=i7 8 9 z.length;omega
 rw [e];simp only [Qa]
theorem vk (T:Txt P w K mg) (Lo:Ok P w base k T.Kf (lV K (kT n))) (L0:Ok P w base k T.Ko (vZ K)):Ok P w base (k+1) T.Mt (lV K (GL n)):=by
 refine T.Mt.f.ok WL (λvs H Q E h=>?_) (λcdv A outer s H vs Q E hr h=>?_)
 ·obtain ⟨as,es,hd,⟨ps,a,b,d,ca,cb,cd,xa,xb,xd,rfl,_⟩,_⟩:=h;exact hd.length.symm
 have nd:=WL.nd;obtain ⟨as,es,hd,⟨ps,a,b,d,ca,cb,cd,xa,xb,xd,rfl,Wo,ZU,⟨oa,ob,od⟩,⟨da,db,dd⟩,n8,⟨za,zb,zd⟩,la,lb,ld,YR,rfl⟩,post⟩:=h;obtain ⟨v0,v1,v2,v3,rfl,h0,h1,h2,h3⟩:=EB hd;have h0:Dat K H (.tup [.str "pick",toD a,toD b,toD d]) v0:=h0;have h1:LD K H (ps.map VD) v1:=h1;have h2:Dat K H (.tup [.str "pick",.tup [ca,cb,cd]]) v2:=h2;have h3:LD K H [] v3:=h3;rw [xl] at post YR;refine ⟨_,(aE (gH (eV (own:=["one","within"]) (fr:=[1,3]) (N':=["one","within","some","places"]) (Dv rfl T.OQ (aD (jJ rL (pv 0) (iY aF) pO) (aD (aY aZ (pv 2) aF) aC))) rfl (by show dS ["tree","some","cover","places","first","second","third","ahead","behind"] (λx=>(aK lR).names.lookup x) _ _ _ _=true;decide +kernel) rfl (λ_ _ _ _ _=>(Aw (K:=K) (n:=2) rfl rfl (bN (a7 (i:=0) (by show List.Nodup [("one":Str),("within":Str),("some":Str),("places":Str)];decide +kernel) rfl (Or.inl rfl)) (bN (a7 (i:=1) (by show List.Nodup [("one":Str),("within":Str),("some":Str),("places":Str)];decide +kernel) rfl (Or.inl rfl)) eH)))) (λ_ _ _ _ _=>c7) (λ_ _ _ _ _=>(pc (D:=T.Kf) Lo hr (aD (pv 0) (aD (pv 2) (aD (pv 1) (aD (pv 3) aC))))))) (Fv rfl (bN (a7 (i:=4) nd rfl (Or.inl rfl)) (bN (a7 (i:=5) nd rfl (Or.inl rfl)) (bN (a7 (i:=6) nd rfl (Or.inl rfl)) eH)))))
 (aE (gH (pc (D:=T.Ko) L0 hr (aD (aX aW rfl T.JY bU (aD (pv 5) aC)) (aD (aX aW rfl T.JY bU (aD (pv 6) aC)) aC))) (gF rfl (bN (a7 (i:=7) nd rfl (Or.inl rfl)) (bN (a7 (i:=8) nd rfl (Or.inl rfl)) eH))))
 (aH (aP (bL jr (bL jr (bL jr (bL jr (pv 4) (pv 7)) (pv 5)) (pv 8)) (pv 6)))))),?_⟩
 refine vS (RCL.use (K:=K) (FF (cs:=[toD a,toD b,toD d]) (ds:=[ca,cb,cd]) (aB (mh (aA (k:=0) h0)) (aB (a6 (k:=1) (aA (k:=2) h2) aG rfl) aM)) rfl (by simp) [xa,xb,xd] rfl (by decide) rfl (λG j x y z v w sG hx hy hz hv hw=>?_)) λl ys H1 hl s1 hy dy=>?_)
 ·have hL:=sG.ld h1;have hP:=sG.ld h3
  match j,hx,hy,hz with
  | 0,hx,hy,hz=>cases hx;cases hy;cases hz;exact gU (R:=kT n) (iK (aA (k:=0) hv) (gB (a8 (k:=2) hL) (iK (aA (k:=1) hw) (gB (a8 (k:=3) hP) dU)))) ⟨ps,a,ca,rfl,Wo,ZU,oa,da,n8,za,la⟩
  | 1,hx,hy,hz=>cases hx;cases hy;cases hz;exact gU (R:=kT n) (iK (aA (k:=0) hv) (gB (a8 (k:=2) hL) (iK (aA (k:=1) hw) (gB (a8 (k:=3) hP) dU)))) ⟨ps,b,cb,rfl,Wo,ZU,ob,db,n8,zb,lb⟩
  | 2,hx,hy,hz=>cases hx;cases hy;cases hz;exact gU (R:=kT n) (iK (aA (k:=0) hv) (gB (a8 (k:=2) hL) (iK (aA (k:=1) hw) (gB (a8 (k:=3) hP) dU)))) ⟨ps,d,cd,rfl,Wo,ZU,od,dd,n8,zd,ld⟩
  | j+3,hx,hy,hz=>cases hx
 obtain ⟨w4,w5,w6,rfl,k4,k5,k6⟩:∃ w4 w5 w6,ys=[w4,w5,w6]/\LD K H1 xa w4/\LD K H1 xb w5/\LD K H1 xd w6:=by
  cases dy with
  | cons k4 r =>
   cases r with
   | cons k5 r =>
    cases r with
    | cons k6 r =>cases r;exact ⟨_,_,_,rfl,k4,k5,k6⟩
 refine ⟨l,_,rfl,SO.of hy,rfl,_,_,rfl,_,_,rfl,_,_,rfl,rfl,?_⟩
 try dsimp only
 refine vS (mT (gS (RE.use (K:=K) (d:=.int xb.length) (eA (a8 (k:=5) k5)) λw1 H3 s3 q3=>gS (RE.use (K:=K) (d:=.int xd.length) (eA (a8 (k:=6) (s3.ld k6))) λw2 H4 s4 q4=>?_))));have e3:=q3.SN;have e4:=q4.SN;subst e3 e4;refine ⟨_,_,rfl,λp aa bb us ws H5 s5 hp ha hb _ _ _ Y9 Yw=>?_⟩;refine ⟨p,_,rfl,hp,rfl,_,_,rfl,_,_,rfl,rfl,?_⟩
 try dsimp only
 have Zk:=s3.trans (s4.trans s5);have kA:LD K H5 _ (.ref aa):=LD.of ha Y9;have kB:LD K H5 _ (.ref bb):=LD.of hb Yw;have ll:(xa++(fN 10 11 ((xb.length:Int)+fU xd.length)).map D.int++xb++(fN 8 9 xd.length).map D.int++xd).length=xa.length+((fN 10 11 ((xb.length:Int)+fU xd.length)).map D.int).length+xb.length+((fN 8 9 (xd.length:Int)).map D.int).length+xd.length:=by simp only [tB]
 generalize (fN 10 11 ((xb.length:Int)+fU xd.length)).map D.int=ja at kA post ll YR;generalize (fN 8 9 (xd.length:Int)).map D.int=jb at kB post ll YR;exact jO (RC.use (K:=K) (js (jW (js (jW (js (jW (js (a8 (k:=4) (Zk.ld k4)) (a8 (k:=7) kA) (by omega))) (a8 (k:=5) (Zk.ld k5)) (by rw [tB];omega))) (a8 (k:=8) kB) (by rw [tB,tB];omega))) (a8 (k:=6) (Zk.ld k6)) (by rw [tB,tB,tB];omega)) λl3 us H7 hl3 s7 hu du=>post l3 us H7 (s1.trans (Zk.trans s7)) hu ((s1.trans Zk).free hl3) du)
theorem sC (T:Txt P w K mg) (Lo:Ok P w base k T.Kf (lV K (kT n))) (Nb:Ok P w base k T.LB (Th K pX)) (NR:Ok P w base k T.LG (Th K yj)):Ok P w base (k+1) T.L5 (lV K (GK n)):=by
 refine T.L5.f.ok Wf (λvs H Q E h=>?_) (λcdv A outer s H vs Q E hr h=>?_)
 ·obtain ⟨as,es,hd,⟨ps,t,p,cv,g,SX,rfl,_⟩,_⟩:=h;exact hd.length.symm
 have nd:=Wf.nd;obtain ⟨as,es,hd,⟨ps,t,p,cv,g,SX,rfl,Wo,ZU,Vm,XS,n8,szt,hp,Yp,hlen,Za,YR,rfl⟩,post⟩:=h;obtain ⟨v0,v1,v2,v3,rfl,h0,h1,h2,h3⟩:=EB hd;have h0:Dat K H (toD t) v0:=h0;have h1:LD K H (ps.map VD) v1:=h1;have h2:Dat K H (.tup [.str p.nm,.tup cv]) v2:=h2;have h3:LD K H [] v3:=h3;have W0:=Wo.ok p hp;have hcl:=ZU.cl p hp;have few:=Wo.few;refine ⟨_,(aE (gH (pv 2) (gF rfl (bN (a7 (i:=4) nd rfl (Or.inr rfl)) (bN (a7 (i:=5) nd rfl (Or.inl rfl)) eH))))
 (aE (bQ (i:=6) nd rfl (Or.inl rfl) (aY bX (eV (own:=["one"]) (fr:=[4]) (N':=["one","name"]) (gJ (pv 1)) rfl (by show dS ["tree","some","cover","places","name","within","piece","holes","nums","ks","cells","hole","inner"] (λx=>(aK ju).names.lookup x) _ _ _ _=true;decide +kernel) rfl (λ_ _ _ _ _=>(a7 (i:=0) (by show List.Nodup [("one":Str),("name":Str)];decide +kernel) rfl (Or.inl rfl))) (λ_ _ _ _ _=>(xJ (aN bV (aY (r:=sD K) aZ (pv 0) aF) (pv 1) (aT _)))) (λ_ _ _ _ _=>(pv 0))) aF))
 (aE (gH (pc (D:=T.LB) Nb hr (aD (pv 6) (aD (pv 0) aC))) (gF rfl (bN (a7 (i:=7) nd rfl (Or.inl rfl)) (bN (a7 (i:=8) nd rfl (Or.inr rfl)) (bN (a7 (i:=9) nd rfl (Or.inr rfl)) eH)))))
 (aE (bQ (i:=10) nd rfl (Or.inl rfl) (bY aC))
 (aE (jK Qt rfl (Dv rfl T.OQ (aD (pv 7) (aD (pv 5) aC))) (gF rfl (bN (a7 (i:=11) nd rfl (Or.inl rfl)) (bN (a7 (i:=12) nd rfl (Or.inl rfl)) eH))) (aH (bP (fF PD Q8 Ru ki (pv 10) (aD (pc (D:=T.Kf) Lo hr (aD (pv 11) (aD (pv 1) (aD (pv 12) (aD (pv 3) aC))))) aC)))))
 (aH (aP (bL jr (pv 10) (eV (own:=["cell"]) (fr:=[8,9]) (N':=["cell","nums","ks"]) (kE (aY aZ (pv 6) aF)) rfl (by show dS ["tree","some","cover","places","name","within","piece","holes","nums","ks","cells","hole","inner"] (λx=>(aK ju).names.lookup x) _ _ _ _=true;decide +kernel) rfl (λ_ _ _ _ _=>(a7 (i:=0) (by show List.Nodup [("cell":Str),("nums":Str),("ks":Str)];decide +kernel) rfl (Or.inl rfl))) (λ_ _ _ _ _=>c7) (λ_ _ _ _ _=>(pc (D:=T.LG) NR hr (aD (pv 0) (aD (pv 1) (aD (pv 2) aC)))))))))))))),?_⟩
 refine jX (K:=K) (aA (k:=2) h2) λv4 v5 H1 s1 q4 q5=>?_;refine eJ (K:=K) (d:=VD p) (iD (k:=0) (ds:=[VD p]) (jW (RC.as (FD (a8 (k:=1) (s1.ld h1)) (by rw [Pd];omega) (Ff p.nm) rfl (λG j c v sG hc hv=>?_)) (wW ZU.ls.nd hp))) aG rfl) λv6 H2 s2 q6=>?_
 ·rw [Pr] at hc
  cases hq:ps[j]? with
  | none=>rw [hq] at hc;cases hc
  | some q =>rw [hq] at hc;cases hc;exact ⟨aJ (bI (a6 (k:=0) (aA (k:=0) (show Dat K G (.tup [.str q.nm,Xr q.pt,.tup q.cs]) v from hv)) aG rfl) (aA (k:=1) (sG.dat q4))),aA (k:=0) hv⟩
 have s12:=s1.trans s2;have q6:Dat K H2 (.tup [.str p.nm,Xr p.pt,.tup p.cs]) v6:=q6;refine vU (K:=K) (RE.as (bM (R:=pX) (d:=fdD (cO p.pt t)) (aB (aA (k:=6) q6) (aB (aA (k:=0) (s12.dat h0)) aM)) ⟨.str p.nm,p.pt,.tup p.cs,t,rfl,W0.ok,Vm,by omega,W0.dp,rfl⟩) (by rw [Yp];rfl)) λv7 v8 v9 H3 s3 q7 q8 q9=>?_;have S8:=s12.trans s3;refine fR ⟨dB (by decide),λlc hlc=>?_⟩;have s4:SH H3 (upd H3 lc (.lst [])):=aV hlc _;have Uv:=S8.trans s4;obtain ⟨ah,us,rfl,hah,Y9⟩:=(s4.dat q7).S7;obtain ⟨aw,ws,rfl,haw,Yw⟩:=((s2.trans (s3.trans s4)).dat q5).S7;have lu:=Y9.length;have lw:=Yw.length;rw [Pd] at lu;have less:SX.length=g.1.length:=by have:=PZ List.length Za;rw [Bx hlen,Pd] at this;exact this.symm
 have hlcn:H lc=none:=S8.free hlc
 have lle:SX.flatten.length+(cK p).length<=900:=by
  have z:(fQ SX g (cK p)).length=SX.flatten.length+(cK p).length:=by unfold fQ;rw [tB,Pd]
  omega
 have lfl:SX.flatten.length<=900:=by omega
 generalize hG4:upd H3 lc (.lst [])=G4 at s4 Uv hah haw Y9 Yw;have hc4:G4 lc=some (.lst []):=by rw [<- hG4];exact aI
 refine eB ⟨_,rfl,_,rfl,ah,aw,us,ws,rfl,hah,haw,EV (K:=K) (xs:=us) (ys:=ws) (λi σ G=>∃ (z11 z12:Option V) (zs:List V),σ=[some v0,some v1,some v2,some v3,some v4,some (.ref aw),some v6,some (.ref ah),some v8,some v9,some (.ref lc),z11,z12]/\SH H3 G/\Tg K G ah us/\Tg K G aw ws/\SG K G (g.1.map toD) us/\SG K G cv ws/\G lc=some (.lst zs)/\SG K G (SX.take i).flatten zs) (by omega) ?_ (λi σ G _ ⟨_,_,_,_,_,p1,p2,_⟩=>⟨p1,p2⟩) ?_ ?_⟩
 ·exact ⟨none,none,[],rfl,s4,hah,haw,Y9,Yw,hc4,by rw [QU];exact SG.nil⟩
 ·rintro i u w pp σ G hu hw hpp ⟨z11,z12,zs,rfl,sG,hahG,hawG,duG,dwG,hcG,dz⟩;have sn:SH G (upd G pp (.tup [u,w])):=aV hpp _;obtain ⟨du,edu,hdu⟩:=duG.Wb hu;obtain ⟨dw,edw,hdw⟩:=dwG.Wb hw;rw [Pr] at edu
  cases hq:g.1[i]? with
  | none=>rw [hq] at edu;cases edu
  | some x =>
   rw [hq] at edu;cases edu;have hix:i < SX.length:=by rw [less];exact (P1.mp hq).1
   have hx:SX[i]?=some SX[i]:=Pe hix;have lz:=C0 lfl hx;have hlx:eY ps n x dw=some SX[i]:=(Bw hq edw (by rw [Za,Pr,hx];rfl)).symm;have tail:=k8 W0.nh Yp x (PJ hq);have dsm:=iR tail;refine ⟨pp,_,rfl,Tg.of aI,rfl,_,_,rfl,_,_,rfl,rfl,?_⟩;dsimp only;have sHG:=S8.trans (sG.trans sn);have lzs:=dz.length;refine FU (K:=K) (gU (R:=kT n) (iK (aA (k:=11) (sn.dat hdu)) (gB (a8 (k:=1) (sHG.ld h1)) (iK (aA (k:=12) (sn.dat hdw)) (gB (a8 (k:=3) (sHG.ld h3)) dU)))) ⟨ps,x,dw,rfl,Wo,ZU,iA t x Vm (mj tail),by omega,by omega,by omega,hlx⟩) (sn _ _ hcG) (by omega) λys G2 b2 hc2 dy=>?_;have g2:gA K (upd G pp (.tup [u,w])) G2:=b2.grow (sn _ _ hcG) hc2;refine ⟨_,_,zs++ys,rfl,λa o ha=>b2 a o (aU ha hlc) ((sG.trans sn) _ _ ha),g2.tup _ _ (sn.YB hahG),g2.tup _ _ (sn.YB hawG),SG.mono g2 _ (sn.SQ duG),SG.mono g2 _ (sn.SQ dwG),hc2,?_⟩;rw [Qo,hx,Sg];simp only [Option.toList_some,Qw,List.flatten_nil,PM];exact SG.append (SG.mono g2 _ (sn.SQ dz)) dy
 ·rintro σ G ⟨z11,z12,zs,rfl,sG,hahG,hawG,duG,dwG,hcG,dz⟩;rw [<- lu,<- less,QI] at dz;dsimp only;have sHG:=S8.trans sG
  have q6G:Dat K G (.tup [.str p.nm,Xr p.pt,.tup ((cK p).map clD)]) v6:=by have z:=(s3.trans sG).dat q6;rw [hcl.eq] at z;exact z
  obtain ⟨g1,g2⟩:=qw _ _ _ Yp;have lcl:(cK p).length<=12:=by have:=W0.cs;rw [hcl.eq,Pd] at this;exact this
  refine jO (RC.use (K:=K) (es:=fQ SX g (cK p)) (js (a8 (k:=10) (LD.of hcG dz)) (jW (rn (cs:=(cK p).map clD) (a6 (k:=2) (aA (k:=6) q6G) aG rfl) (by rw [Pd];omega) ((cK p).map λc=>D.int (kM g.2.1 g.2.2 c)) (by rw [Pd,Pd]) rfl (λG1 j c v d s1 hc hd hv=>?_))) (by rw [Pd];omega)) λl3 vs G2 hl3 s2 hw dw=>post l3 vs G2 (sHG.trans s2) hw (sHG.free hl3) dw);rw [Pr] at hc hd
  cases hq:(cK p)[j]? with
  | none=>rw [hq] at hc;cases hc
  | some x =>rw [hq] at hc hd;cases hc;cases hd;refine bM (R:=yj) (aB (aA (k:=0) hv) (aB (aA (k:=1) ((sG.trans s1).dat q8)) (aB (aA (k:=2) ((sG.trans s1).dat q9)) aM))) ⟨x,g.2.1,g.2.2,rfl,?_,rfl⟩;rw [g1,g2];exact hcl.ok x (PJ hq)
theorem sA (T:Txt P w K mg) (Od:Ok P w base k T.Mt (lV K (GL n))) (NZ:Ok P w base k T.L5 (lV K (GK n))):Ok P w base (k+1) T.Kf (lV K (kT (n+1))):=by
 refine T.Kf.f.ok Wg (λvs H Q E h=>?_) (λcdv A outer s H vs Q E hr h=>?_)
 ·obtain ⟨as,es,hd,⟨ps,t,c,rfl,_⟩,_⟩:=h;exact hd.length.symm
 have nd:=Wg.nd;obtain ⟨as,es,hd,⟨ps,t,c,rfl,Wo,ZU,Vm,XS,n8,szt,hlay⟩,post⟩:=h;obtain ⟨v0,v1,v2,v3,rfl,h0,h1,h2,h3⟩:=EB hd;have h0:Dat K H (toD t) v0:=h0;have h1:LD K H (ps.map VD) v1:=h1;have h2:Dat K H c v2:=h2;have h3:LD K H [] v3:=h3;have YR:es.length<=900:=by have:=jF Wo.ok (n+1) t c es hlay;omega
 refine ⟨_,(aE (bE (aN bV (aY aZ (pv 0) aF) aO (aT _)) (aE (bQ (i:=4) nd rfl (Or.inl rfl) (aY bX (pv 3) (aY aZ (pv 0) aF)))
 (aH (aP (bY (aD (bT (v:=.int 15) rfl T.Np ⟨_,rfl⟩) (aD (bL eZ (pv 4) aF) (aD (bL nB (pv 4) aF) aC))))))) aQ)
 (aE (bE (aN bV (aY aZ (pv 0) aF) aO (aT _)) (aH (aP (pc (D:=T.Mt) Od hr (aD (pv 0) (aD (pv 1) (aD (pv 2) (aD (pv 3) aC))))))) aQ)
 (aH (aP (pc (D:=T.L5) NZ hr (aD (pv 0) (aD (pv 1) (aD (pv 2) (aD (pv 3) aC))))))))),?_⟩
 obtain ⟨kd,r,ek,hpk,hcall,Yx⟩:=Ae t Vm;have h0':Dat K H (.tup (.str kd::r)) v0:=by rw [<- ek];exact h0
 refine aR (K:=K) (b:=false) (RT.as (aJ (bI (a6 (k:=0) (aA (k:=0) h0') aG rfl) aL)) (Pj hcall)) (λc=>nomatch c) (λ_ H1 s1=>?_)
 obtain ⟨nm,cv,rfl⟩:∃ nm cv,c=.tup [.str nm,.tup cv]:=by
  cases e:nV c with
  | none =>have h:(match nV c with | none=>none | some x=>if x.1="pick" then mx (eY ps n) t x.2 else kN (eY ps n) ps t x.1 x.2)=some es:=hlay;rw [e] at h;cases h
  | some x=>exact ⟨x.1,x.2,A2 e⟩
 have hlay:(if nm="pick" then mx (eY ps n) t cv else kN (eY ps n) ps t nm cv)=some es:=hlay;refine aR (K:=K) (b:=xj t) (RT.as (aJ (bI (a6 (k:=0) (aA (k:=0) (s1.dat h0')) aG rfl) aL)) hpk) (λcp H2 s2=>?_) (λcp H2 s2=>?_)
 ·have s12:=s1.trans s2
  have hn:nm="pick":=by
   apply Classical.byContradiction;intro z;rw [M1 z] at hlay;obtain ⟨p,g,SX,e1,e2,_⟩:=iP hlay
   cases t with
   | pick a b d=>rw [CB (Wo.ok p (hE e1).1).nh] at e2;cases e2
   | _=>cases cp
  subst hn;rw [Ph rfl] at hlay;obtain ⟨a,b,d,ca,cb,cd,xa,xb,xd,rfl,rfl,la,lb,ld,rfl⟩:=iQ hlay;simp only [a9] at XS;simp only [bB] at szt;exact jO (RC.use (K:=K) (gU (R:=GL n) (iK (aA (k:=0) (s12.dat h0)) (gB (a8 (k:=1) (s12.ld h1)) (iK (aA (k:=2) (s12.dat h2)) (gB (a8 (k:=3) (s12.ld h3)) dU)))) ⟨ps,a,b,d,ca,cb,cd,xa,xb,xd,rfl,Wo,ZU,⟨Vm.1,Vm.2.1,Vm.2.2⟩,⟨by omega,by omega,by omega⟩,by omega,⟨by omega,by omega,by omega⟩,la,lb,ld,YR,rfl⟩) λl ys H3 hl s3 hy dy=>post l ys H3 (s12.trans s3) hy (s12.free hl) dy)
 ·have s12:=s1.trans s2
  have hn:¬ nm="pick":=by intro z;rw [Ph z] at hlay;obtain ⟨a,b,d,_,_,_,_,_,_,e,_⟩:=iQ hlay;subst e;cases cp
  rw [M1 hn] at hlay;obtain ⟨p,g,SX,e1,e2,hl,Za,rfl⟩:=iP hlay;obtain ⟨hp,rfl⟩:=hE e1;exact jO (RC.use (K:=K) (gU (R:=GK n) (iK (aA (k:=0) (s12.dat h0)) (gB (a8 (k:=1) (s12.ld h1)) (iK (aA (k:=2) (s12.dat h2)) (gB (a8 (k:=3) (s12.ld h3)) dU)))) ⟨ps,t,p,cv,g,SX,rfl,Wo,ZU,Vm,XS,n8,szt,hp,e2,hl,Za,YR,rfl⟩) λl ys H3 hl s3 hy dy=>post l ys H3 (s12.trans s3) hy (s12.free hl) dy)
theorem Gm:∀ {ps:List Pc},(ps.map (·.nm)).Nodup->∀ p ∈ ps,∀ q ∈ ps,p.nm=q.nm->p=q
 | [],_,p,hp,_,_,_=>by cases hp
 | x::ps,nd,p,hp,q,hq,e=>by
  rw [PB,Rq] at nd;rcases Py.mp hp with e1 | h1
  ·rcases Py.mp hq with e2 | h2
   ·rw [e1,e2]
   ·exact absurd (Qz.mpr ⟨q,h2,by rw [<- e,e1]⟩) nd.1
  ·rcases Py.mp hq with e2 | h2
   ·exact absurd (Qz.mpr ⟨p,h1,by rw [e,e2]⟩) nd.1
   ·exact Gm nd.2 p h1 q h2 e
theorem Ct:∀ c:Cl,IH (clD c)=c
 | .n i=>rfl
 | .arg k=>by kernel_rfl
 | .low k=>by kernel_rfl
 | .high k=>by kernel_rfl
theorem Cq {p:Pc} {cl:List Cl} (h:wA p cl):cK p=cl:=by unfold cK;rw [h.eq,Ra];exact (List.map_congr_left λc _=>Ct c).trans (List.map_id cl)
theorem GU (ih:∀ t c es,rZ ps n t c es->eY ps n t c=some es) {cs:List D} {xss:List (List D)} (h:Yy (rZ ps n) ts cs xss):pw (gM (eY ps n) ts cs)=some xss:=by
 induction h with
 | nil=>rfl
 | cons r _ ih2 =>rename_i t c es ts cs SX _;show pw (eY ps n t c::gM (eY ps n) ts cs)=_;rw [ih t c es r];show (pw (gM (eY ps n) ts cs)).map (es::·)=_;rw [ih2];rfl
theorem qI (nd:(ps.map (·.nm)).Nodup) (np:∀ p ∈ ps,p.nm≠"pick"):∀ (n:Nat) (t:Tr) (c:D) (es:List D),rZ ps n t c es->eY ps n t c=some es
 | 0,_,_,_,h=>h.elim
 | n+1,t,c,es,.inl ⟨a,b,d,ca,cb,cd,xa,xb,xd,e1,e2,ha,hb,hd,e3⟩=>by subst e1 e2 e3;have z:eY ps (n+1) (.pick a b d) (.tup [.str "pick",.tup [ca,cb,cd]])=(if ("pick":Str)="pick" then mx (eY ps n) (.pick a b d) [ca,cb,cd] else kN (eY ps n) ps (.pick a b d) "pick" [ca,cb,cd]):=rfl;rw [z,Ph rfl];show (pw [eY ps n a ca,eY ps n b cb,eY ps n d cd]).bind Hw=_;rw [qI nd np n a ca xa ha,qI nd np n b cb xb hb,qI nd np n d cd xd hd];rfl
 | n+1,t,c,es,.inr ⟨p,f,cl,cs,xss,hpk,hp,hf,hc,e1,hall,e2⟩=>by
  subst e1 e2
  have e:m8 p.nm ps=some p:=by
   cases e:m8 p.nm ps with
   | none=>exact absurd rfl (yz e p hp)
   | some q=>obtain ⟨hq,en⟩:=hE e;rw [Gm nd q hq p hp en]
  have z:eY ps (n+1) t (.tup [.str p.nm,.tup cs])=(if p.nm="pick" then mx (eY ps n) t cs else kN (eY ps n) ps t p.nm cs):=rfl;rw [z,M1 (np p hp)];unfold kN;rw [e];dsimp only;rw [hf];dsimp only;rw [Ph hall.len.1,GU (qI nd np n) hall,Cq hc];rfl
theorem GX (os:lH ps) (la:Be ps) {b:Int × D} (dp:a9 t<=8) (hb:bS ps t=some b):∃ es,eY ps 8 t b.2=some es/\(es.length:Int)=b.1:=by obtain ⟨es,h1,h2⟩:=kX (λp hp=>⟨(os.ok p hp).nh,(os.ok p hp).nm,_,la.cl p hp⟩) 8 t b dp hb;exact ⟨es,qI la.ls.nd (λp hp=>(os.ok p hp).nm) 8 t b.2 es h1,h2⟩
def nQ (as:List Ar) (es:List D):Prop:=∃ (ps:List Pc) (t:Tr) (b:Int × D) (xs:List D),as=[.d (toD t),.l (ps.map VD)]/\BY ps t/\Be ps/\bS ps t=some b/\eY ps 8 t b.2=some xs/\es=xs++[.int 0]
theorem yM (T:Txt P w K mg) (Ny:Ok P w base k T.K9 (Xq K GJ)) (Lo:Ok P w base k T.Kf (lV K (kT 8))):Ok P w base (k+1) T.MV (lV K nQ):=by
 refine T.MV.f.ok XI (λvs H Q E h=>?_) (λcdv A outer s H vs Q E hr h=>?_)
 ·obtain ⟨as,es,hd,⟨ps,t,b,xs,rfl,_⟩,_⟩:=h;exact hd.length.symm
 have nd:=XI.nd;obtain ⟨as,es,hd,⟨ps,t,b,xs,rfl,gi,la,hb,hl,rfl⟩,post⟩:=h;obtain ⟨v0,v1,rfl,h0,h1⟩:=yp hd;have h0:Dat K H (toD t) v0:=h0;have h1:LD K H (ps.map VD) v1:=h1;have sz:=gi.sz;have l9:=jF gi.os.ok 8 t b.2 xs hl;refine ⟨_,(aE (gH (pc (D:=T.K9) Ny hr (aD (pv 0) (aD (pv 1) aC))) (gF rfl (bN (a7 (i:=2) nd rfl (Or.inl rfl)) (bN (a7 (i:=3) nd rfl (Or.inl rfl)) eH))))
 (aH (aP (bL jr (pc (D:=T.Kf) Lo hr (aD (pv 0) (aD (pv 1) (aD (pv 3) (aD (bY aC) aC))))) (bY (aD (bT (v:=.int 0) rfl T.NV ⟨_,rfl⟩) aC)))))),?_⟩
 refine jX (K:=K) (d:=.int b.1) (e:=b.2) (eF (R:=GJ) (iK (aA (k:=0) h0) (gB (a8 (k:=1) h1) dU)) ⟨ps,t,b,rfl,gi.os,gi.ot,gi.dp,by omega,hb,rfl⟩) λv2 v3 H1 s1 q2 q3=>?_;exact jO (RC.use (K:=K) (js (jW (gU (R:=kT 8) (iK (aA (k:=0) (s1.dat h0)) (gB (a8 (k:=1) (s1.ld h1)) (iK (aA (k:=3) q3) (gB (jW (iC aM)) dU)))) ⟨ps,t,b.2,rfl,gi.os,la,gi.ot,gi.dp,by decide,gi.sz,hl⟩)) (jW (iC (aB aG aM))) (by show xs.length+1<=1000;omega)) λl ys H4 hl4 s4 hy dy=>post l ys H4 (s1.trans s4) hy (s1.free hl4) dy)
theorem HC (T:Txt P w K mg) (Oh:Ok P w base k T.Mw (Th K Gc)) (Os:Ok P w base k T.MJ (Xq K yl)) (OB:Ok P w base k T.MV (lV K nQ)):Ok P w base (k+1) T.OA (lV K nQ):=by
 refine T.OA.f.ok Zz (λvs H Q E h=>?_) (λcdv A outer s H vs Q E hr h=>?_)
 ·obtain ⟨as,es,hd,⟨ps,t,b,xs,rfl,_⟩,_⟩:=h;exact hd.length.symm
 have nd:=Zz.nd;obtain ⟨as,es,hd,⟨ps,t,b,xs,rfl,gi,la,hb,hl,rfl⟩,post⟩:=h;obtain ⟨v0,v1,rfl,h0,h1⟩:=yp hd;have h0:Dat K H (toD t) v0:=h0;have h1:LD K H (ps.map VD) v1:=h1;refine ⟨_,(aE (bP (pc (D:=T.Mw) Oh hr (aD (pv 0) aC)))
 (aE (bP (pc (D:=T.MJ) Os hr (aD (pv 1) aC)))
 (aH (aP (pc (D:=T.MV) OB hr (aD (pv 0) (aD (pv 1) aC))))))),?_⟩
 refine jf (RE.use (bM (R:=Gc) (d:=.SM) (aB (aA (K:=K) (k:=0) h0) aM) ⟨toD t,rfl,F6 gi.ot gi.dp gi.sz,rfl⟩) λv4 H1 s1 _=>?_);refine jf (RE.use (eF (R:=yl) (d:=.SM) (gB (a8 (K:=K) (k:=1) (s1.ld h1)) dU) ⟨ps,rfl,gi.gs,rfl⟩) λv5 H2 s2 _=>?_);have s12:=s1.trans s2;exact jO (RC.use (K:=K) (gU (R:=nQ) (iK (aA (k:=0) (s12.dat h0)) (gB (a8 (k:=1) (s12.ld h1)) dU)) ⟨ps,t,b,xs,rfl,gi,la,hb,hl,rfl⟩) λl ys H4 hl4 s4 hy dy=>post l ys H4 (s12.trans s4) hy (s12.free hl4) dy)
abbrev ZI:List Pc:=[⟨"inc",.two "add" (.hole 0) (.num 1),[.int 12,.int 1]⟩,⟨"both",.two "add" (.slot 0) (.slot 1),[.int 3,.tup [.str "arg",.int 0],.int 3,.tup [.str "arg",.int 1],.int 4]⟩,⟨"twofold",.two "mul" (.hole 0) (.num 2),[.int 13,.int 4]⟩,⟨"fewer",.two "sub" (.hole 0) (.gap 0 99),[.int 1,.tup [.str "low",.int 0],.int 5]⟩,⟨"addmul",.two "add" (.two "mul" (.hole 0) (.hole 1)) (.gap 0 99),[.int 6,.int 12,.tup [.str "low",.int 0]]⟩,⟨"turned",.two "less" (.gap 0 99) (.hole 0),[.int 1,.tup [.str "low",.int 0],.int 14,.int 7]⟩,⟨"far",.two "add" (.hole 0) (.gap 0 9999),[.int 2,.tup [.str "low",.int 0],.tup [.str "high",.int 0],.int 4]⟩,⟨"pair",.two "sub" (.gap 0 99) (.gap 1 99),[.int 1,.tup [.str "low",.int 0],.int 1,.tup [.str "low",.int 1],.int 5]⟩]
theorem JA:BP.map VD=BAS:=rfl
abbrev Yz:List Pc:=BP++ZI
structure gdP (p:Pc):Prop where
 ok:Fi p
 pc:rb (VD p)=some true/\p.nm.length<=sizeLine
 nl:UK (VD p)=true/\gT (VD p)<=19
 cl:wA p (cK p)
theorem Hk:∀ p ∈ Yz,gdP p:=by intro p hp;simp only [Yz,BP,ZI,List.cons_append,Rg,PM,Py,P8,Qx] at hp;rcases hp with rfl | rfl | rfl | rfl | rfl | rfl | rfl | rfl | rfl | rfl | rfl | rfl | rfl | rfl | rfl | rfl <;> exact ⟨⟨by decide +kernel,by simp [yL,ZQ],by decide,by decide,rfl⟩,⟨by decide +kernel,by decide⟩,⟨by decide +kernel,by decide +kernel⟩,by kernel_rfl,λc hc=>QF.mp (show List.all (cK _) (He _ _)=true by decide +kernel) c hc⟩
theorem GE:(Yz.map (·.nm)).Nodup:=by decide +kernel
structure gdS (ps:List Pc):Prop where
 gs:pL ps
 ok:lH ps
 la:Be ps
 hp:∀ p ∈ ps,fY p.pt=true/\p.nm≠"pick"
 bp:∀ p ∈ BP,p ∈ ps
theorem EW {sub:List Pc} (h:sub.Sublist ZI):gdS (BP++sub):=by have hs:(BP++sub).Sublist Yz:=(Sw BP).append h;have nd:=(hs.map (·.nm)).nodup GE;have l8:sub.length<=8:=h.length_le;have g:∀ p ∈ BP++sub,gdP p:=λp hp=>Hk p (hs.subset hp);exact ⟨⟨by rw [tB];show 1<=8+sub.length;omega,by rw [tB];show 8+sub.length<=16;omega,λp hp=>(g p hp).pc,nd⟩,⟨λp hp=>(g p hp).ok,by rw [tB];show 8+sub.length<=100;omega⟩,⟨⟨nd,λp hp=>(g p hp).nl⟩,λp hp=>(g p hp).cl⟩,λp hp=>⟨(g p hp).ok.nh,(g p hp).ok.nm⟩,λp hp=>Rk _ hp⟩
def Gy (K:W.Frag):Sp:=λvs H Q _=>∃ (a t:Addr) (ns:List Int) (p q:Int) (rest:List V),vs=[.ref a,.ref t]/\Yu K H a ns/\H t=some (.lst (.int p::.int q::rest))/\0<=p /\
 ∀ (sub:List Pc) (l:Addr) (ys:List V) (H':Hp) (p' q':Int),S4 t H H'->H' t=some (.lst (.int p'::.int q'::rest))->0<=p'->sub.Sublist ZI->H l=none->H' l=some (.lst ys)->SG K H' ((BP++sub).map VD) ys->Q (.ref l) H'
theorem xy (T:Txt P w K mg) (NQ:Ok P w base k T.KJ (kL K λds es=>ds=[]/\es=LPD)) (Kp:Ok P w base k T.J8 (rN K)):Ok P w base (k+1) T.MH (Gy K):=by
 refine T.MH.f.ok Xn (λvs H Q E h=>?_) (λcdv A outer s H vs Q E hr h=>?_)
 ·obtain ⟨a,t,ns,p,q,rest,rfl,_⟩:=h;rfl
 have nd:=Xn.nd;obtain ⟨a,t,ns,p,q,rest,rfl,hS,hT,hp,post⟩:=h;refine ⟨_,(aE (jL (i:=2) (own:=["_law_piece"]) (fr:=[0,1]) (N':=["_law_piece","_law_script","_law_town"]) (gJ (xH NQ hr rfl T.KJ.m T.KJ.f.kp T.KJ.b .nil gN)) rfl (by show dS ["_law_script","_law_town","_law_more"] (λx=>(aK mW).names.lookup x) _ _ _ _=true;decide +kernel) rfl (λ_ _ _ _ _=>(a7 (i:=0) (by show List.Nodup [("_law_piece":Str),("_law_script":Str),("_law_town":Str)];decide +kernel) rfl (Or.inl rfl))) (λ_ _ _ _ _=>(xJ (aN bV (pc (D:=T.J8) Kp hr (aD (pv 1) (aD (pv 2) (aD aF aC)))) aF (aT _)))) (λ_ _ _ _ _=>(pv 0)) nd rfl rfl rfl)
 (aH (aP (bL jr (bT (v:=.ref T.NC) rfl T.MU rfl) (pv 2))))),?_⟩
 refine fR (xQ (K:=K) (λr us H1=>SH H H1/\H r=none/\SG K H1 LPD us) (λR hR=>⟨[],LPD,SG.nil,⟨rfl,rfl⟩,λr us H1 s1 hr hr0 hd=>hR r us H1 hr ⟨s1,hr0,hd⟩⟩) rfl (λr us H1 l hr hM hl=>?_));obtain ⟨s1,hr0,hd⟩:=hM;have hT1:=s1 _ _ hT;have nrt:r≠t:=PL (aU hT hr0);have nlt:l≠t:=PL (aU hT1 hl);have nlr:r≠l:=aU hr hl;have lu:=hd.length;have lu8:us.length=8:=by rw [<- lu];rfl
 refine ⟨
  (λi G=>∃ (sub:List Pc) (ys:List V) (p' q':Int),S4 t H1 G/\G t=some (.lst (.int p'::.int q'::rest))/\0<=p'/\sub.Sublist (ZI.take i)/\G l=some (.lst ys)/\SG K G (sub.map VD) ys/\sub.length<=i),?_,(λi G hi ⟨_,_,_,_,b,_⟩=>SO.of (b _ _ nrt hr)),(λi G hi pn=>?_),(λG pn=>?_)⟩
 ·exact ⟨[],[],p,q,(aV hl _).but,by rw [aS (PL nlt)];exact hT1,hp,List.nil_sublist _,aI,SG.nil,Pq _⟩
 ·obtain ⟨sub,ys,p',q',bG,tG,gp,hsub,hlG,dG,lsub⟩:=pn;have ly:=dG.length;rw [Pd] at ly;have gG:gA K H1 G:=bG.grow hT1 tG;have Zf:SG K G LPD us:=SG.mono gG _ hd;obtain ⟨dx,ex,hx⟩:=Zf.Wb (Pe hi);have hx':(ZI.map VD)[i]?=some dx:=ex;rw [Pr] at hx'
  cases hpp:ZI[i]? with
  | none=>rw [hpp] at hx';cases hx'
  | some pp =>
   rw [hpp] at hx';cases hx';have et:ZI.take (i+1)=ZI.take i++[pp]:=by rw [Qo,hpp];rfl
   have hitem:us.getD i .SM=us[i]:=by rw [PX,Pe hi];rfl
   refine ⟨_,rfl,_,rfl,a,t,ns,2,p',q',rest,rfl,hS.but (s1.but.trans bG) hT,tG,gp,by decide,by decide,λr3 G3 p3 q3 b3 t3 g3 r3a r3b=>?_⟩;refine ⟨rfl,_,rfl,?_⟩;have hl3:=b3 _ _ nlt hlG;have g3':gA K G G3:=b3.grow tG t3;refine sj (λc=>?_) (λc=>?_)
   ·refine ⟨_,rfl,ys,hl3,cM (by omega),⟨_,rfl⟩,?_⟩;rw [hitem];have b4:S4 l G3 (upd G3 l (.lst (ys++[us[i]]))):=S4.upd (SH.refl _).but;have g4:gA K G3 (upd G3 l (.lst (ys++[us[i]]))):=b4.grow hl3 aI;refine ⟨sub++[pp],ys++[us[i]],p3,q3,λb o nb hb=>b4 b o (aU hb hl) (b3 b o nb (bG b o nb hb)),b4 _ _ (PL nlt) t3,g3,?_,aI,?_,?_⟩
    ·rw [et];exact hsub.append (Sw _)
    ·rw [PY];exact SG.append (SG.mono g4 _ (SG.mono g3' _ dG)) (SG.cons (Dat.mono g4 _ (Dat.mono g3' _ hx)) SG.nil)
    ·rw [tB];simp;omega
   ·refine ⟨⟨_,rfl⟩,sub,ys,p3,q3,bG.trans b3,t3,g3,?_,hl3,SG.mono g3' _ dG,by omega⟩;rw [et];exact hsub.trans (List.sublist_append_left _ _)
 ·obtain ⟨sub,ys,p',q',bG,tG,gp,hsub,hlG,dG,lsub⟩:=pn;have hL:LD K G (sub.map VD) (.ref l):=LD.of hlG dG;have hsub':sub.Sublist ZI:=hsub.trans (List.take_sublist _ _);refine jO (RC.use (K:=K) (js (Ih T.Oy) (a8 (k:=2) hL) (by rw [Pd];show 8+sub.length<=1000;omega)) λlz zs G2 hlz s2 hzs dzs=>?_);refine post sub lz zs G2 p' q' ((s1.but.trans bG).trans s2.but) (s2 _ _ tG) gp hsub' ?_ hzs ?_
  ·cases h:H lz with
   | none=>rfl
   | some o =>
    have h1:=s1 _ _ h;by_cases e:lz=t
    ·rw [e,tG] at hlz;cases hlz
    ·rw [bG _ _ e h1] at hlz;cases hlz
  ·rw [PY,JA];exact dzs
noncomputable def two (o:Str) (x y b:Int):Int:=if o="less" then (if x < y then 1 else 0) else if o="add" then (x+y) % b else if o="sub" then (x - y) % b else x * y % b
theorem jR {x y b:Int} (hb:2<=b):0<=two o x y b/\two o x y b < b:=by
 unfold two;split
 ·split <;> omega
 ·split
  ·exact ⟨Qn _ (by omega),Qh _ (by omega)⟩
  ·split
   ·exact ⟨Qn _ (by omega),Qh _ (by omega)⟩
   ·exact ⟨Qn _ (by omega),Qh _ (by omega)⟩
def B9 (ds:List D) (d:D):Prop:=∃ s m,ds=[.int s,.int m]/\2<=s/\s<=m/\d=.SM
def B1 (ds:List D) (d:D):Prop:=∃ (as:List Int) (s:Int),ds=[.tup (as.map D.int),.int s]/\as.length=4/\(∀ x ∈ as,0<=x/\x < s)/\d=.SM
def Ga (ds:List D) (d:D):Prop:=∃ o x y b,ds=[.str o,.int x,.int y,.int b]/\2<=b/\b<=10000/\0<=x/\x < b/\0<=y/\y < b/\d=.int (two o x y b)
theorem Gf {K:W.Frag} {a b c:D} {vs:List V} (h:SG K H [a,b,c,e] vs):∃ u v w x,vs=[u,v,w,x]/\Dat K H a u/\Dat K H b v/\Dat K H c w/\Dat K H e x:=by obtain ⟨u,r,e,h1,h⟩:=h.Tq;obtain ⟨v,w,x,q,h2⟩:=sT h;subst q e;exact ⟨u,v,w,x,rfl,h1,h2⟩
theorem DN {K:W.Frag} {R:List D->D->Prop} (h:RA K tA σ H ds) (hd:∀ H,SG K H es Wm) (e:R (ds++es) d):RE K (kr (Th K R) Wm E tA) σ H d:=λH1 s Q q =>
 h H1 s _ λvs H2 s2 q2=>⟨ds++es,d,SG.append q2 (hd _),e,λv H3 s3 q3=>q _ _ (s2.trans s3) q3⟩
theorem vq (T:Txt P w K mg) (JX:Ok P w base k T.JV (Th K fW)):Tc P w K mg base WG (k+1) T.LL T.LM ["size","most"] (Th K B9):=by
 refine T.LN.ok WM (λvs H Q E h=>?_) (λcdv A outer s H vs Q E hr h=>?_)
 ·obtain ⟨ds,d,hd,⟨s,m,rfl,_⟩,_⟩:=h;exact hd.length.symm
 have nd:=WM.nd;obtain ⟨ds,d,hd,⟨s,m,rfl,h1,h2,rfl⟩,post⟩:=h;obtain ⟨v0,v1,rfl,q0,q1⟩:=i5 hd;refine ⟨_,(aH (bE (cW (bR (pc (D:=T.JV) JX hr (aD (pv 0) (aD aF (aD (pv 1) aC)))) (λ_=>rfl))) (aH dF) aQ)),?_⟩;refine jk (b:=!dM (.int s) 2 m) (bZ (bO (bM (aB (aA q0) (aB aG (aB (aA q1) aM))) ⟨_,_,_,rfl,rfl⟩))) (λc H1 s1=>?_) (λc H1 s1=>?_)
 ·simp [dM,h1,h2] at c
 ·exact post _ _ s1 Dat.X5
theorem vn (T:Txt P w K mg) (JX:Ok P w base k T.JV (Th K fW)):Ok P w base (k+1) T.Mv (Th K B1):=by
 refine T.Mv.f.ok WN (λvs H Q E h=>?_) (λcdv A outer s H vs Q E hr h=>?_)
 ·obtain ⟨ds,d,hd,⟨as,s,rfl,_⟩,_⟩:=h;exact hd.length.symm
 have nd:=WN.nd;obtain ⟨ds,d,hd,⟨as,s,rfl,h1,h2,rfl⟩,post⟩:=h;obtain ⟨v0,v1,rfl,q0,q1⟩:=i5 hd;refine ⟨_,(aE (bE (PW.pt (fH (cW (bR (aX (gC ng) rfl T.J4 cY (dE (pv 0) (dE (iB (v:=.ty "tuple") rfl T.KL fP rfl) aC))) (λ_=>rfl))) (eR (aN lI (aX aW rfl T.JY bU (aD (pv 0) aC)) (bT (v:=.int 4) rfl T.Le ⟨_,rfl⟩) (aT _))))) (aH dF) aQ)
 (aH (bE (cW (bR (aX (jC rfl) rfl T.Nv mN (aD (eV (own:=["number"]) (fr:=[1]) (N':=["number","size"]) (kE (pv 0)) rfl (by show dS ["args","size"] (λx=>(aK lS).names.lookup x) _ _ _ _=true;decide +kernel) rfl (λ_ _ _ _ _=>(a7 (i:=0) (by show List.Nodup [("number":Str),("size":Str)];decide +kernel) rfl (Or.inl rfl))) (λ_ _ _ _ _=>c7) (λ_ _ _ _ _=>(pc (D:=T.JV) JX hr (aD (pv 0) (aD aF (aD (bL oy (pv 1) aF) aC)))))) aC)) (λ_=>rfl))) (aH dF) aQ))),?_⟩
 refine aR (K:=K) (b:=false) ?_ (λc=>nomatch c) (λ_ H1 s1=>?_)
 ·refine RT.as (dP (bZ (bO (dC (aA q0)))) λ_=>aJ (kI (fL (aA q0)) aG)) ?_;rw [Pd,h1];rfl
 have q0':=s1.dat q0;have q1':=s1.dat q1;refine jk (b:=!(as.map λ_=>true).all id) (bZ (bO (zj (aA q0') (by rw [Pd];omega) (as.map λ_=>true) (by simp) rfl (λH2 i c v b s2 hc hb hv=>?_)))) (λc H2 s2=>?_) (λc H2 s2=>?_)
 ·rw [Pr] at hc hb
  cases hx:as[i]? with
  | none=>rw [hx] at hc;cases hc
  | some x =>
   rw [hx] at hc hb;cases hc;cases hb;have hb:=h2 x (PJ hx);refine RE.as (bM (R:=fW) (aB (aA hv) (aB aG (aB (vN (aA (s2.dat q1')) aG) aM))) ⟨_,_,_,rfl,rfl⟩) ?_;have h3:x<=s - 1:=by omega
   simp [dM,hb.1,h3]
 ·simp at c
 ·exact post _ _ (s1.trans s2) Dat.X5
theorem oq (T:Txt P w K mg)  : Ok P w base (k+1) T.Lb (Th K Ga):=by
 refine T.Lb.f.ok Vl (λvs H Q E h=>?_) (λcdv A outer s H vs Q E hr h=>?_)
 ·obtain ⟨ds,d,hd,⟨o,x,y,b,rfl,_⟩,_⟩:=h;exact hd.length.symm
 have nd:=Vl.nd;obtain ⟨ds,d,hd,⟨o,x,y,b,rfl,hb,hb2,hx,hx2,hy,hy2,rfl⟩,post⟩:=h;obtain ⟨v0,v1,v2,v3,rfl,q0,q1,q2,q3⟩:=Gf hd;refine ⟨_,(aE (bE (aN bV (pv 0) aO (aT _)) (aH (aP (fG (aN km (pv 1) (pv 2) (aT _)) aF aF))) aQ)
 (aE (bE (aN bV (pv 0) aO (aT _)) (aH (aP (bL eZ (bL cJ (pv 1) (pv 2)) (pv 3)))) aQ)
 (aE (bE (aN bV (pv 0) aO (aT _)) (aH (aP (bL eZ (bL oy (pv 1) (pv 2)) (pv 3)))) aQ)
 (aH (aP (bL eZ (bL ow (pv 1) (pv 2)) (pv 3))))))),?_⟩
 refine aR (K:=K) (b:=decide (o="less")) (aJ (bI (aA q0) aL)) (λc H1 s1=>?_) (λc H1 s1=>?_)
 ·refine bJ (K:=K) (d:=.int (two o x y b)) ?_ λv H' s q=>post v H' (s1.trans s) q;have e:two o x y b=if x < y then 1 else 0:=by unfold two;rw [Ph (Po c)]
  rw [e];refine mC (b:=decide (x < y)) (aJ (cQ (p:=λi j=>decide (i < j)) (aA (s1.dat q1)) (aA (s1.dat q2)))) (λc2=>?_) (λc2=>?_)
  ·rw [Ph (Po c2)];exact aG
  ·rw [M1 (Pu c2)];exact aG
 have q0:=s1.dat q0;have q1:=s1.dat q1;have q2:=s1.dat q2;have q3:=s1.dat q3;have n1:=Pu c;refine aR (K:=K) (b:=decide (o="add")) (aJ (bI (aA q0) aL)) (λc H2 s2=>?_) (λc H2 s2=>?_)
 ·refine bJ (K:=K) (d:=.int (two o x y b)) ?_ λv H' s q=>post v H' (s1.trans (s2.trans s)) q;have e:two o x y b=(x+y) % b:=by unfold two;rw [M1 n1,Ph (Po c)]
  rw [e];exact jN (c8 (aA (s2.dat q1)) (aA (s2.dat q2))) (aA (s2.dat q3)) (by omega)
 have q0:=s2.dat q0;have q1:=s2.dat q1;have q2:=s2.dat q2;have q3:=s2.dat q3;have n2:=Pu c;refine aR (K:=K) (b:=decide (o="sub")) (aJ (bI (aA q0) aL)) (λc H3 s3=>?_) (λc H3 s3=>?_)
 ·refine bJ (K:=K) (d:=.int (two o x y b)) ?_ λv H' s q=>post v H' (s1.trans (s2.trans (s3.trans s))) q;have e:two o x y b=(x - y) % b:=by unfold two;rw [M1 n1,M1 n2,Ph (Po c)]
  rw [e];exact jN (vN (aA (s3.dat q1)) (aA (s3.dat q2))) (aA (s3.dat q3)) (by omega)
 have n3:=Pu c;refine bJ (K:=K) (d:=.int (two o x y b)) ?_ λv H' s q=>post v H' (s1.trans (s2.trans (s3.trans s))) q;have e:two o x y b=x * y % b:=by unfold two;rw [M1 n1,M1 n2,M1 n3]
 rw [e];exact jN (vK (aA (s3.dat q1)) (aA (s3.dat q2)) (.inr ⟨by omega,by omega⟩)) (aA (s3.dat q3)) (by omega)
noncomputable def zO (d:D):Bool:=dM d 0 99
noncomputable def oS (ds:List D):Bool:=(decide (1<=(ds.length:Int)) && decide ((ds.length:Int)<=1000)) && (ds.map zO).all id
def wB (as:List Ar) (d:D):Prop:=∃ ds,as=[.l ds]/\ds.length<=1000/\d=.bl (oS ds)
theorem yO (T:Txt P w K mg) (JX:Ok P w base k T.JV (Th K fW)):Ok P w base (k+1) T.L7 (Xq K wB):=by
 refine T.L7.f.ok XJ (λvs H Q E h=>?_) (λcdv A outer s H vs Q E hr h=>?_)
 ·obtain ⟨as,d,hd,⟨ds,rfl,_⟩,_⟩:=h;exact hd.length.symm
 have nd:=XJ.nd;obtain ⟨as,d,hd,⟨ds,rfl,ZJ,rfl⟩,post⟩:=h;obtain ⟨v0,rfl,h0⟩:=AS hd;have h0:LD K H ds v0:=h0;refine ⟨_,(aE (bE (PW.pt (fH (cW (bR (aX (gC Af) rfl T.J4 cY (dE (pv 0) (dE (iB (v:=.ty "list") rfl T.NJ pK rfl) aC))) (λ_=>rfl))) (eR (cW (nE jV jV aF (aX aW rfl T.JY bU (aD (pv 0) aC)) (bT (v:=.int 1000) rfl T.K1 ⟨_,rfl⟩)))))) (aH (aP d8)) aQ)
 (aH (aP (aX (jC rfl) rfl T.Nv mN (aD (eV (own:=["cell"]) (fr:=[]) (N':=["cell"]) (gJ (pv 0)) rfl (by show dS ["thing"] (λx=>(aK oF).names.lookup x) _ _ _ _=true;decide +kernel) rfl (λ_ _ _ _ _=>(a7 (i:=0) (by show List.Nodup [("cell":Str)];decide +kernel) rfl (Or.inl rfl))) (λ_ _ _ _ _=>c7) (λ_ _ _ _ _=>(pc (D:=T.JV) JX hr (aD (pv 0) (aD aF (aD (bT (v:=.int 99) rfl T.KD ⟨_,rfl⟩) aC)))))) aC))))),?_⟩
 refine aR (K:=K) (b:=!(decide (1<=(ds.length:Int)) && decide ((ds.length:Int)<=1000))) ?_ (λc H1 s1=>?_) (λc H1 s1=>?_)
 ·exact RT.as (dP (b:=false) (RT.as (bZ (bO (dC (aA h0.lst)))) rfl) λ_=>bZ (aJ (lK (p:=λi j=>decide (i<=j)) (r:=λi j=>decide (i<=j)) aG (eA (a8 h0)) λ_=>aG))) (QC _)
 ·refine bJ (K:=K) (d:=.bl false) f7 λv H2 s2 q=>post v H2 (s1.trans s2) ?_
  have e:oS ds=false:=by unfold oS;have z:(decide (1<=(ds.length:Int)) && decide ((ds.length:Int)<=1000))=false:=(Sx _).mp c;rw [z];rfl
  rw [e];exact q
 ·have z:(decide (1<=(ds.length:Int)) && decide ((ds.length:Int)<=1000))=true:=(RQ _).mp c;have e:oS ds=(ds.map zO).all id:=by unfold oS;rw [z];rfl
  rw [e] at post;refine bJ (K:=K) (d:=.bl ((ds.map zO).all id)) (me (bs:=ds.map zO) (jM (a8 (s1.ld h0)) ZJ _ (by simp) rfl (λG j x v d s2 hc hd hv=>?_))) λv H2 s2 q=>post v H2 (s1.trans s2) q;rw [Pr,Pr,hc] at hd;cases hd;exact bM (R:=fW) (aB (aA (k:=0) hv) (aB aG (aB aG aM))) ⟨x,0,99,rfl,rfl⟩
def pY (as:List Ar) (d:D):Prop:=∃ ds,as=[.l ds]/\ds.length<=1000/\oS ds=true/\d=.SM
theorem vp (T:Txt P w K mg) (Nm:Ok P w base k T.L7 (Xq K wB)):Ok P w base (k+1) T.Lm (Xq K pY):=by
 refine T.Lm.f.ok WO (λvs H Q E h=>?_) (λcdv A outer s H vs Q E hr h=>?_)
 ·obtain ⟨as,d,hd,⟨ds,rfl,_⟩,_⟩:=h;exact hd.length.symm
 have nd:=WO.nd;obtain ⟨as,d,hd,⟨ds,rfl,ZJ,hB,rfl⟩,post⟩:=h;obtain ⟨v0,rfl,h0⟩:=AS hd;have h0:LD K H ds v0:=h0;refine ⟨_,(aH (bE (cW (bR (pc (D:=T.L7) Nm hr (aD (pv 0) aC)) (λ_=>rfl))) (aH dF) aQ)),?_⟩;exact jk (b:=false) (RT.as (bZ (bO (eF (K:=K) (R:=wB) (gB (a8 h0) dU) ⟨ds,rfl,ZJ,rfl⟩))) (by rw [hB];rfl)) (λc=>nomatch c) (λ_ H1 s1=>post _ H1 s1 Dat.X5)
abbrev NM:List Str:=["end","put","far","load","add","sub","mul","less","skip","jump","zero","none","more","twice","about","call","back"]
noncomputable def cG (i:Int):Nat:=if i ∈ ([2,9,11,15]:List Int) then 2 else if i ∈ ([1,3,8,10,12]:List Int) then 1 else 0
structure okC (cs:List Int):Prop where
 l0:1<=cs.length
 l1:cs.length<=900
 c:∀ (i:Nat) (c:Int),cs[i]?=some c->0<=c/\c<=99
noncomputable abbrev cD (cs:List Int):List D:=cs.map D.int
noncomputable def kS (cs:List Int) (p m:Nat):List D:=((cD cs).drop (p+1)).take m
noncomputable def Vf (c:Int):Str:=NM.getD c.toNat ""
noncomputable def zr (cs:List Int) (p:Nat) (c:Int):D:=.tup [.int p,.str (Vf c),.tup (kS cs p (cG c))]
noncomputable def jn (cs:List Int) (p:Nat) (c:Int):Bool:=decide (16 < c) || decide (cs.length<=p+cG c)
noncomputable def iI (cs:List Int):Nat->Nat->List D × Option Nat
 | 0,_=>([],none)
 | n+1,p=>match cs[p]? with
  | none=>([],none)
  | some c=>if jn cs p c=true then ([],some p) else (zr cs p c::(iI cs n (p+1+cG c)).1,(iI cs n (p+1+cG c)).2)
theorem E4:∀ i:Nat,i < 17->INS[i]?=some (.tup [.str (NM.getD i ""),.int ((cG i:Nat):Int)]):=by
 intro i hi
 match i,hi with
 | 0,_=>rfl
 | 1,_=>rfl
 | 2,_=>rfl
 | 3,_=>rfl
 | 4,_=>rfl
 | 5,_=>rfl
 | 6,_=>rfl
 | 7,_=>rfl
 | 8,_=>rfl
 | 9,_=>rfl
 | 10,_=>rfl
 | 11,_=>rfl
 | 12,_=>rfl
 | 13,_=>rfl
 | 14,_=>rfl
 | 15,_=>rfl
 | 16,_=>rfl
 | n+17,h=>omega
theorem Ho:∀ i:Nat,i < 17->NM[i]?=some (NM.getD i ""):=by
 intro i hi
 match i,hi with
 | 0,_=>rfl
 | 1,_=>rfl
 | 2,_=>rfl
 | 3,_=>rfl
 | 4,_=>rfl
 | 5,_=>rfl
 | 6,_=>rfl
 | 7,_=>rfl
 | 8,_=>rfl
 | 9,_=>rfl
 | 10,_=>rfl
 | 11,_=>rfl
 | 12,_=>rfl
 | 13,_=>rfl
 | 14,_=>rfl
 | 15,_=>rfl
 | 16,_=>rfl
 | n+17,h=>omega
theorem EF (c:Int):cG c<=2:=by
 unfold cG;split
 ·exact Pq _
 ·split <;> omega
variable {cs:List Int}
theorem Ge (h:cs[p]?=some c):(cD cs)[p]?=some (.int c):=by rw [Pr,h];rfl
theorem qc {m:Nat}:(kS cs p m).length=min m (cs.length - (p+1)):=by unfold kS;rw [Qe,Q5,Pd]
theorem wJ (h:jn cs p c=false):c<=16/\p+cG c < cs.length:=by unfold jn at h;rw [QG] at h;have h1:=Pu h.1;have h2:=Pu h.2;omega
def wC (as:List Ar) (d:D):Prop:=∃ (cs:List Int) (p:Nat) (c:Int),as=[.l (cD cs),.d (.int p)]/\okC cs/\cs[p]?=some c/\jn cs p c=false/\d=.tup [.str (Vf c),.tup (kS cs p (cG c))]
noncomputable def wI (cs:List Int) (p:Nat):Bool:=match cs[p]? with
 | none=>true
 | some c=>jn cs p c
theorem mS (T:Txt P w K mg)  : Ok P w base (k+1) T.JW (Xq K wC):=by
 refine T.JW.f.ok Tt (λvs H Q E h=>?_) (λcdv A outer s H vs Q E hr h=>?_)
 ·obtain ⟨as,d,hd,⟨cs,p,c,rfl,_⟩,_⟩:=h;exact hd.length.symm
 have nd:=Tt.nd;obtain ⟨as,d,hd,⟨cs,p,c,rfl,ok,hc,hb,rfl⟩,post⟩:=h;obtain ⟨v0,v1,rfl,h0,h1⟩:=yp hd;have h0:LD K H (cD cs) v0:=h0;have h1:Dat K H (.int (p:Int)) v1:=h1;obtain rfl:=h1.SN;have hp:p < cs.length:=(P1.mp hc).1;obtain ⟨c0,c99⟩:=ok.c p c hc;have ec:c=((c.toNat:Nat):Int):=by omega
 have hc':=Ge hc;refine ⟨_,(aE (bE (PW.pt (fH (aN tH (pv 1) (aX aW rfl T.JY bU (aD (pv 0) aC)) (aT _)) (eR (aN tH (aY bX (pv 0) (pv 1)) (aX aW rfl T.JY bU (aD (bT (v:=.ref T.Kh) rfl T.J5 rfl) aC)) (aT _))))) (aH dF) aQ)
 (aE (gH (aY aZ (bT (v:=.ref T.Kh) rfl T.J5 rfl) (aY bX (pv 0) (pv 1))) (gF rfl (bN (a7 (i:=2) nd rfl (Or.inl rfl)) (bN (a7 (i:=3) nd rfl (Or.inl rfl)) eH))))
 (aE (bQ (i:=4) nd rfl (Or.inl rfl) (eP dY rfl T.KL fP (aD (jJ AJ (pv 0) (iY (bL cJ (pv 1) aF)) (iY (bL cJ (bL cJ (pv 1) aF) (pv 3)))) aC)))
 (aE (bE (aN km (aX aW rfl T.JY bU (aD (pv 4) aC)) (pv 3) (aT _)) (aH dF) aQ)
 (aH (aP (bA (aD (pv 2) (aD (pv 4) aC))))))))),?_⟩
 obtain ⟨h16,hlt⟩:=wJ hb;have lb:(kS cs p (cG c)).length=cG c:=by rw [qc];omega
 refine aR (K:=K) (b:=false) (RT.as (dP (b:=false) (c:=false) (RT.as (aJ (cQ (p:=λi j=>decide (j<=i)) (aA h1) (eA (a8 h0)))) (Pj (by rw [Pd];omega))) λ_=>RT.as (aJ (cQ (p:=λi j=>decide (j<=i)) (iD (k:=p) (a8 h0) (aA h1) hc') (fL (lN T.KQ)))) (Pj (by show ¬ (17:Int)<=c;omega))) rfl) (λc=>nomatch c) (λ_ H1 s1=>?_);have h0:=s1.ld h0;have h1:=s1.dat h1;have hi:=E4 c.toNat (by omega);rw [<- ec] at hi;refine jX (K:=K) (d:=.str (Vf c)) (e:=.int (cG c)) (a6 (k:=c.toNat) (lN T.KQ) (RE.as (iD (k:=p) (a8 h0) (aA h1) hc') (PZ D.int ec)) hi) λv2 v3 H2 s2 h2 h3=>?_;have h0:=s2.ld h0;have h1:=s2.dat h1;have el:(p:Int)+1=((p+1:Nat):Int):=by omega
 have eh:(p:Int)+1+(cG c:Int)=((p+1+cG c:Nat):Int):=by omega
 refine eJ (K:=K) (d:=.tup (kS cs p (cG c))) (RE.as (tO (AD (lo:=p+1) (hi:=p+1+cG c) (a8 h0) (RE.as (c8 (aA h1) aG) (PZ D.int el)) (RE.as (c8 (c8 (aA h1) aG) (aA h3)) (PZ D.int eh)))) (by unfold kS;rw [show p+1+cG c - (p+1)=cG c by omega])) λv4 H3 s3 h4=>?_;refine aR (K:=K) (b:=false) (RT.as (aJ (cQ (p:=λi j=>decide (i < j)) (fL (aA h4)) (aA (s3.dat h3)))) (Pj (by rw [lb];omega))) (λc=>nomatch c) (λ_ H4 s4=>?_);exact bJ (K:=K) (d:=.tup [.str (Vf c),.tup (kS cs p (cG c))]) (bF (aB (aA (s4.dat (s3.dat h2))) (aB (aA (s4.dat h4)) aM))) λv H' s q=>post v H' (s1.trans (s2.trans (s3.trans (s4.trans s)))) q
noncomputable def iJ (ns:List Int):Int:=ns.foldr (λc acc=>acc * 100+c) 0
def B8 (ds:List D) (d:D):Prop:=∃ ns:List Int,ds=[.tup (ns.map D.int)]/\ns.length<=2/\(∀ n ∈ ns,0<=n/\n<=99)/\d=.int (iJ ns)
theorem Dj:ns.length<=2->(∀ n ∈ ns,0<=n/\n<=99)->0<=iJ ns/\iJ ns<=9999:=by
 intro h2 h
 match ns,h2 with
 | [],_=>exact ⟨RN _,by decide⟩
 | [a],_ =>have ha:=h a (by simp);show 0<=(0:Int) * 100+a/\(0:Int) * 100+a<=9999;omega
 | [a,b],_ =>have ha:=h a (by simp);have hb:=h b (by simp);show 0<=((0:Int) * 100+b) * 100+a/\((0:Int) * 100+b) * 100+a<=9999;omega
theorem qY (T:Txt P w K mg)  : Ok P w base (k+1) T.LI (Th K B8):=by
 refine T.LI.f.ok V2 (λvs H Q E h=>?_) (λcdv A outer s H vs Q E hr h=>?_)
 ·obtain ⟨ds,d,hd,⟨ns,rfl,_⟩,_⟩:=h;exact hd.length.symm
 have nd:=V2.nd;obtain ⟨ds,d,hd,⟨ns,rfl,l2,hb,rfl⟩,post⟩:=h;obtain ⟨v0,rfl,h0⟩:=ji hd;refine ⟨_,(aE (bQ (i:=1) nd rfl (Or.inl rfl) aF)
 (aE (jK Qt rfl (Fw rfl T.Nd (aD (pv 0) aC)) (a7 (i:=2) nd rfl (Or.inl rfl)) (aH (bQ (i:=1) nd rfl (Or.inl rfl) (bL cJ (bL ow (pv 1) aF) (pv 2)))))
 (aH (aP (pv 1))))),?_⟩
 refine eJ (K:=K) (d:=.int 0) aG λv1 H1 s1 q1=>?_;obtain rfl:=q1.SN;obtain ⟨a,vs,rfl,hq,hds⟩:=(s1.dat h0).S7;have ev:=qm hds;have ll:=hds.length;rw [Pd] at ll;refine eB ⟨_,rfl,a,vs,rfl,hq,CC (K:=K) (a:=a) (xs:=vs) (λi σ G=>∃ z:Option V,σ=[some (.ref a),some (.int (iJ (ns.drop (ns.length - i)))),z]/\SH H1 G) ?_ ?_ ?_ ?_⟩
 ·refine ⟨none,?_,SH.refl _⟩;rw [Nat.sub_zero,List.drop_length];rfl
 ·rintro i σ G hi ⟨z,rfl,sG⟩;exact sG.YB hq
 ·rintro i x σ G hi hx ⟨z,rfl,sG⟩;refine kJ ?_;dsimp only;rw [ev,Pr,Pd] at hx;obtain ⟨c,hc,rfl⟩:=PU.mp hx;have hcb:=hb c (PJ hc);have nb:=Dj (ns:=ns.drop (ns.length - i)) (by rw [Q5];omega) (λn hn=>hb n (List.mem_of_mem_drop hn))
  have e:ns.drop (ns.length - (i+1))=c::ns.drop (ns.length - i):=by
   have h1:ns.length - (i+1) < ns.length:=by omega
   rw [List.drop_eq_getElem_cons h1];have h2:ns.length - (i+1)+1=ns.length - i:=by omega
   rw [h2];congr 1;have h3:ns.length - 1 - i=ns.length - (i+1):=by omega
   rw [h3,Pe h1] at hc;exact Qf hc
  refine Ii (K:=K) (d:=.int (iJ (ns.drop (ns.length - i)) * 100+c)) (c8 (vK (aA (k:=1) (Dat.SK _)) aG (.inr ⟨by omega,by omega⟩)) (aA (k:=2) (Dat.SK c))) λv H' s d=>⟨some (.int c),?_,sG.trans s⟩
  rw [e,d.SN];rfl
 ·rintro σ G ⟨z,rfl,sG⟩;have e:ns.drop (ns.length - vs.length)=ns:=by rw [<- ll,SE];rfl
  rw [e];exact ⟨_,rfl,post _ _ (s1.trans sG) (Dat.SK _)⟩
structure MS where
 pile:List Int
 place:Nat
 kept:List Nat
 ended:Bool
structure MC where
 cs:List Int
 as:List Int
 b:Int
structure qS (mc:MC):Prop where
 cs:okC mc.cs
 as:mc.as.length=4
 ai:∀ x ∈ mc.as,0<=x/\x < mc.b
 b2:2<=mc.b
 b9:mc.b<=10000
structure j6 (mc:MC) (st:MS):Prop where
 p:∀ x ∈ st.pile,0<=x/\x < mc.b
 l:st.pile.length<=64
 k:st.kept.length<=16
noncomputable def eG (st:MS):Option (Int × MS):=match st.pile with
 | []=>none
 | x::r=>some (x,{ st with pile:=r })
noncomputable def cI (mc:MC) (n:Int) (st:MS):Option MS:=if st.pile.length=64 then none else some { st with pile:=(n % mc.b)::st.pile }
noncomputable def jS (nm:Str) (num on:Nat) (st:MS):Option (Nat × MS) :=
 if nm ∈ (["skip","jump"]:List Str) then some (on+num,st)
 else if nm ∈ (["zero","none"]:List Str) then (eG st).map λp=>(if p.1=0 then on+num else on,p.2)
 else if nm="call" then (if st.kept.length=16 then none else some (num,{ st with kept:=on::st.kept }))
 else match st.kept with
  | []=>none
  | k::r=>some (k,{ st with kept:=r })
noncomputable def jq (st:MS):Option MS:=if st.pile.length=1 then some { st with ended:=true } else none
noncomputable def cR (mc:MC) (nm:Str) (num:Nat) (st:MS):Option MS :=
 if nm ∈ (["put","far"]:List Str) then cI mc num st
 else if nm="load" then cI mc (mc.as.getD num 0) st
 else (eG st).bind λu =>
  if nm="more" then cI mc (u.1+num) u.2
  else if nm="twice" then (cI mc u.1 u.2).bind λs=>cI mc u.1 s
  else if nm="about" then (eG u.2).bind λl=>(cI mc u.1 l.2).bind λs=>cI mc l.1 s
  else (eG u.2).bind λl=>cI mc (two nm l.1 u.1 mc.b) l.2
structure MA where
 m:Addr
 dx:Addr
 lp:Addr
 lk:Addr
 lc:Addr
 vg:V
noncomputable def mF (A:MA) (mc:MC) (st:MS):List (Str × V):=[("cells",.ref A.lc),("given",A.vg),("size",.int mc.b),("pile",.ref A.lp),("place",.int st.place),("kept",.ref A.lk),("ended",.bl st.ended)]
noncomputable def pV (l:List Int):List V:=l.reverse.map V.int
noncomputable def XW (l:List Nat):List V:=l.reverse.map λ(n:Nat)=>V.int n
theorem gI (x:Int) (l:List Int):pV (x::l)=pV l++[.int x]:=by unfold pV;rw [Ry,PY];rfl
theorem nj (x:Nat) (l:List Nat):XW (x::l)=XW l++[.int x]:=by unfold XW;rw [Ry,PY];rfl
theorem vD (l:List Int):(pV l).length=l.length:=by unfold pV;rw [Pd,Qj]
theorem Ak (l:List Nat):(XW l).length=l.length:=by unfold XW;rw [Pd,Qj]
structure SV (K:W.Frag) (C:Addr) (A:MA) (mc:MC) (st:MS) (H:Hp):Prop where
 ins:H A.m=some (.ins C A.dx (mF A mc st))
 cells:H A.lc=some (.lst (mc.cs.map V.int))
 given:Dat K H (.tup (mc.as.map D.int)) A.vg
 pile:H A.lp=some (.lst (pV st.pile))
 kept:H A.lk=some (.lst (XW st.kept))
 ne:A.lp≠A.lk
 c1:A.lc≠A.lp
 c2:A.lc≠A.lk
def UN (A:MA) (H H':Hp):Prop:=∀ x o,x≠A.m->x≠A.lp->x≠A.lk->H x=some o->H' x=some o
variable {A:MA} {H1 H2:Hp}
theorem UN.trans (a:UN A H H1) (b:UN A H1 H2):UN A H H2:=λx o n1 n2 n3 e=>b x o n1 n2 n3 (a x o n1 n2 n3 e)
variable {H':Hp}
theorem jh (s:SH H H'):UN A H H':=λx o _ _ _ e=>s x o e
theorem UN.lp {o:HO}:UN A H (upd H A.lp o):=λx u _ n _ e=>by rw [aS n];exact e
theorem UN.lk {o:HO}:UN A H (upd H A.lk o):=λx u _ _ n e=>by rw [aS n];exact e
theorem UN.m {o:HO}:UN A H (upd H A.m o):=λx u n _ _ e=>by rw [aS n];exact e
section
variable {C:Addr} {A:MA} {mc:MC} {st:MS} {H H':Hp}
theorem SV.same (M:SV K C A mc st H) (s:SH H H'):SV K C A mc st H':=⟨s _ _ M.ins,s _ _ M.cells,s.dat M.given,s _ _ M.pile,s _ _ M.kept,M.ne,M.c1,M.c2⟩
theorem SV.np (M:SV K C A mc st H):A.m≠A.lp:=λz=>by have:=M.ins;rw [z,M.pile] at this;cases this
theorem SV.nk (M:SV K C A mc st H):A.m≠A.lk:=λz=>by have:=M.ins;rw [z,M.kept] at this;cases this
theorem qD {b:Addr} {o o':HO} (h:H b=some o) (ho:(∃ xs,o=.lst xs)\/∃ C dx fs,o=.ins C dx fs) (hl:∀ xs,o=.lst xs->∃ ys,o'=.lst ys):gA K H (upd H b o'):=by
 refine ⟨λa xs q=>?_,λa xs q=>?_⟩
 ·rcases q with (q | ⟨u,q⟩) | q
  ·refine .inl (.inl ?_);rw [aS (λz=>?_)]
   ·exact q
   ·rw [z,h] at q;rcases ho with ⟨_,rfl⟩ | ⟨_,_,_,rfl⟩ <;> cases q
  ·refine .inl (.inr ⟨u,?_⟩);rw [aS (λz=>?_)]
   ·exact q
   ·rw [z,h] at q;rcases ho with ⟨_,rfl⟩ | ⟨_,_,_,rfl⟩ <;> cases q
  ·exact .inr q
 ·by_cases hab:a=b
  ·subst hab;rcases q with (q | ⟨u,q⟩) | q
   ·rw [h] at q;cases q;obtain ⟨ys,rfl⟩:=hl _ rfl;exact ⟨ys,SO.of aI⟩
   ·rw [h] at q;rcases ho with ⟨_,rfl⟩ | ⟨_,_,_,rfl⟩ <;> cases q
   ·exact ⟨xs,.inr q⟩
  ·rcases q with (q | ⟨u,q⟩) | q
   ·exact ⟨xs,.inl (.inl (by rw [aS hab];exact q))⟩
   ·exact ⟨xs,.inl (.inr ⟨u,by rw [aS hab];exact q⟩)⟩
   ·exact ⟨xs,.inr q⟩
theorem SV.Zb (M:SV K C A mc st H) (r:List Int):SV K C A mc { st with pile:=r } (upd H A.lp (.lst (pV r))) :=
 ⟨by rw [aS M.np];exact M.ins,by rw [aS M.c1];exact M.cells,Dat.mono (qD M.pile (.inl ⟨_,rfl⟩) λ_ _=>⟨_,rfl⟩) _ M.given,aI,by rw [aS (PL M.ne)];exact M.kept,M.ne,M.c1,M.c2⟩
theorem SV.Zc (M:SV K C A mc st H) (r:List Nat):SV K C A mc { st with kept:=r } (upd H A.lk (.lst (XW r))) :=
 ⟨by rw [aS M.nk];exact M.ins,by rw [aS M.c2];exact M.cells,Dat.mono (qD M.kept (.inl ⟨_,rfl⟩) λ_ _=>⟨_,rfl⟩) _ M.given,by rw [aS M.ne];exact M.pile,aI,M.ne,M.c1,M.c2⟩
theorem SV.nc (M:SV K C A mc st H):A.m≠A.lc:=λz=>by have:=M.ins;rw [z,M.cells] at this;cases this
theorem SV.setM (M:SV K C A mc st H) {st':MS} {fs:List (Str × V)} (e:fs=mF A mc st') (hp:st'.pile=st.pile) (hk:st'.kept=st.kept):SV K C A mc st' (upd H A.m (.ins C A.dx fs)):=by subst e;exact ⟨aI,by rw [aS (PL M.nc)];exact M.cells,Dat.mono (qD M.ins (.inr ⟨_,_,_,rfl⟩) λ_ z=>by cases z) _ M.given,by rw [aS (PL M.np),hp];exact M.pile,by rw [aS (PL M.nk),hk];exact M.kept,M.ne,M.c1,M.c2⟩
theorem oz (p:Nat):kG "place" (.int p) (mF A mc st)=mF A mc { st with place:=p }:=by kernel_rfl
theorem BB (b:Bool):kG "ended" (.bl b) (mF A mc st)=mF A mc { st with ended:=b }:=by kernel_rfl
variable {i:Nat} {f:Str} {σ:L2.St}
theorem jE {v:V} {Q:VK} (M:SV K C A mc st H) (c:X3 K C) (n:S2 K C f) (q:Q v H) (l:(mF A mc st).lookup f=some v:=by kernel_rfl) (e:σ[i]?=some (some (.ref A.m)):=by rfl):pI K (fT i) f σ H Q :=
 ⟨_,e,A.m,C,A.dx,_,v,rfl,M.ins,c,n,l,q⟩
theorem vJ {z:Int} (M:SV K C A mc st H) (c:X3 K C) (n:S2 K C f) (l:(mF A mc st).lookup f=some (.int z):=by kernel_rfl) (e:σ[i]?=some (some (.ref A.m)):=by rfl):RE K (pI K (fT i) f) σ H (.int z) :=
 λ_ s _ q=>jE (M.same s) c n (q _ _ (SH.refl _) (Dat.SK z)) l e
theorem vQ (M:SV K C A mc st H) (c:X3 K C) (n:S2 K C "pile") (e:σ[i]?=some (some (.ref A.m)):=by rfl):RL K (pI K (fT i) "pile") σ H (st.pile.reverse.map D.int) :=
 λ_ s _ q=>jE (M.same s) c n (q _ _ (SH.refl _) (LD.of (M.same s).pile (dN _))) (by kernel_rfl) e
theorem FR (M:SV K C A mc st H) (c:X3 K C) (n:S2 K C "cells") (e:σ[i]?=some (some (.ref A.m)):=by rfl):RL K (pI K (fT i) "cells") σ H (cD mc.cs) :=
 λ_ s _ q=>jE (M.same s) c n (q _ _ (SH.refl _) (LD.of (M.same s).cells (dN _))) (by kernel_rfl) e
theorem uQ (l:List Nat):XW l=(l.reverse.map λ(n:Nat)=>(n:Int)).map V.int:=by unfold XW;rw [Ra];rfl
theorem FS (M:SV K C A mc st H) (c:X3 K C) (n:S2 K C "kept") (e:σ[i]?=some (some (.ref A.m)):=by rfl):RL K (pI K (fT i) "kept") σ H ((st.kept.reverse.map λ(n:Nat)=>(n:Int)).map D.int) :=
 λ_ s _ q=>jE (M.same s) c n (q _ _ (SH.refl _) (LD.of ((M.same s).kept.trans (by rw [uQ])) (dN _))) (by kernel_rfl) e
theorem FH (M:SV K C A mc st H) (c:X3 K C) (n:S2 K C "given") (e:σ[i]?=some (some (.ref A.m)):=by rfl):RE K (pI K (fT i) "given") σ H (.tup (mc.as.map D.int)) :=
 λ_ s _ q=>jE (M.same s) c n (q _ _ (SH.refl _) (M.same s).given) (by kernel_rfl) e
theorem pS {l:Addr} {xs:List V} (M:SV K C A mc st H) (c:X3 K C) (n:S2 K C f) (hl:H l=some (.lst xs)) (lk:(mF A mc st).lookup f=some (.ref l):=by kernel_rfl) (e:σ[i]?=some (some (.ref A.m)):=by rfl):RT (λσ H Q=>pI K (fT i) f σ H λx H'=>∃ k,yn K x H' k/\Q k H') σ H (!xs.isEmpty) :=
 λH1 s Q q=>jE (v:=.ref l) (Q:=λx H'=>∃ k,yn K x H' k/\Q k H') (M.same s) c n ⟨_,.inl ⟨_,SO.of (s _ _ hl),rfl⟩,q _ (SH.refl _)⟩ lk e
def Te (K:W.Frag) (N C:Addr) (A:MA) (mc:MC) (st:MS) (H:Hp) (Q:VK) (E:XK) (o:Option (V × MS)):Prop :=
 (∀ v st',o=some (v,st')->∀ H',UN A H H'->SV K C A mc st' H'->Q v H')/\o≠none
end
def we (K:W.Frag) (N C:Addr):Sp:=λvs H Q E=>∃ A mc st,vs=[.ref A.m]/\SV K C A mc st H/\Te K N C A mc st H Q E ((eG st).map λp=>(.int p.1,p.2))
def zw (K:W.Frag) (N C:Addr):Sp:=λvs H Q E=>∃ A mc st n,vs=[.ref A.m,.int n]/\SV K C A mc st H/\2<=mc.b/\st.pile.length<=64/\Te K N C A mc st H Q E ((cI mc n st).map λs=>(.SM,s))
def Gx (K:W.Frag) (N C:Addr):Sp:=λvs H Q E=>∃ A mc st,vs=[.ref A.m]/\SV K C A mc st H/\Te K N C A mc st H Q E ((jq st).map λs=>(.SM,s))
def Gz (K:W.Frag) (N C:Addr):Sp:=λvs H Q E=>∃ A mc st nm num on,vs=[.ref A.m,.str nm,.int (num:Nat),.int (on:Nat)]/\SV K C A mc st H/\st.kept.length<=16/\Te K N C A mc st H Q E ((jS nm num on st).map λp=>(.int p.1,p.2))
theorem pE (T:Txt P w K mg)  : Tc P w K mg base WG (k+1) T.Kx T.KB ["self"] (we K T.JU T.JU):=by
 refine T.Mf.ok VL (λvs H Q E h=>?_) (λcdv A outer s H vs Q E hr h=>?_)
 ·obtain ⟨A,mc,st,rfl,_⟩:=h;rfl
 have nd:=VL.nd;obtain ⟨A,mc,st,rfl,M,ok,bad⟩:=h;refine ⟨_,(aE (bE (cW (bR (gE (pv 0) rfl) (λ_=>rfl))) (aH dF) aQ)
 (aH (aP (lJ PD QK QZ lD (gE (pv 0) rfl))))),?_⟩
 obtain ⟨pile,place,kept,ended⟩:=st
 cases pile with
 | nil =>refine aR (K:=K) (b:=true) (bZ (pS M T.SI T.TQ M.pile)) (λ_ H1 s1=>?_) (λc=>nomatch c);exact (bad rfl).elim
 | cons x r =>
  have e:pV (x::r)=pV r++[.int x]:=gI x r;refine aR (K:=K) (b:=false) (RT.as (bZ (pS M T.SI T.TQ M.pile)) ?_) (λc=>nomatch c) (λ_ H1 s1=>?_)
  ·show (!!(pV (x::r)).isEmpty)=false;rw [e];cases pV r <;> rfl
  ·have M:=M.same s1;have hp:H1 A.lp=some (.lst (pV r++[.int x])):=by rw [<- e];exact M.pile
   refine jE (v:=.ref A.lp) (Q:=λx H1=>tyV K "list" x H1/\DE x [] H1 Q) M T.SI T.TQ ⟨.inl ⟨rfl,_,SO.of hp⟩,A.lp,_,.int x,rfl,rfl,hp,by simp,?_⟩;rw [Q0];exact ok (.int x) _ rfl _ ((jh s1).trans UN.lp) (M.Zb r)
section
variable {N C:Addr} {A:MA} {mc:MC} {st st1:MS} {H H1:Hp} {Q:VK} {E:XK} {o:Option (V × MS)}
theorem Te.on (h:Te K N C A mc st H Q E o) (b:UN A H H1) (hp:st1.place=st.place):Te K N C A mc st1 H1 Q E o :=
 ⟨λv st' e H' b' M'=>h.1 v st' e H' (b.trans b') M',h.2⟩
variable {i:Nat} {σ:L2.St}
theorem vH (M:SV K C A mc st H) (h:Te K N C A mc st H Q E ((eG st).map λp=>(.int p.1,p.2))) (e:σ[i]?=some (some (.ref A.m)):=by rfl):AN C "take" (we K N C) [] E (fT i) dW σ H Q :=
 ⟨_,e,A.m,A.dx,_,rfl,M.ins,by kernel_rfl,A,mc,st,rfl,M,h⟩
variable {te:TE} {n:Int}
theorem mU (hn:RE K te σ H (.int n)) (M:SV K C A mc st H) (b2:2<=mc.b) (l:st.pile.length<=64) (h:Te K N C A mc st H Q E ((cI mc n st).map λs=>(.SM,s))) (e:σ[i]?=some (some (.ref A.m)):=by rfl) :
  AN C "push" (zw K N C) [] E (fT i) (bW te dW) σ H Q :=
 ⟨_,e,A.m,A.dx,_,rfl,M.ins,by kernel_rfl,hn.use λv H1 s q=>⟨A,mc,st,n,by rw [q.SN];rfl,M.same s,b2,l,h.on (jh s) rfl⟩⟩
variable {f:Str} {l:Addr} {xs:List V}
theorem zK {z:Int} (M:SV K C A mc st H) (c:X3 K C) (n:S2 K C f) (hl:H l=some (.lst xs)) (hx:xs.length<=900) (h:RE K te σ H (.int z)) (q:∀ H',SH H H'->Q .SM (upd H' l (.lst (xs++[.int z]))))
  (lk:(mF A mc st).lookup f=some (.ref l):=by kernel_rfl) (e:σ[i]?=some (some (.ref A.m)):=by rfl):Z3 K "list" kH (pI K (fT i) f) (bW te dW) σ H Q :=
 jE (v:=.ref l) (Q:=λx H1=>tyV K "list" x H1/\bW te dW σ H1 λxs H2=>kH x xs H2 Q) M c n ⟨.inl ⟨rfl,_,SO.of hl⟩,h.use λv H1 s q1=>⟨l,xs,_,rfl,rfl,s _ _ hl,cM (by omega),by rw [q1.SN];exact q H1 s⟩⟩ lk e
theorem Fy {z:V} (M:SV K C A mc st H) (c:X3 K C) (n:S2 K C f) (hl:H l=some (.lst (xs++[z]))) (q:Q z (upd H l (.lst xs)))
  (lk:(mF A mc st).lookup f=some (.ref l):=by kernel_rfl) (e:σ[i]?=some (some (.ref A.m)):=by rfl):Ip K "list" DE (pI K (fT i) f) σ H Q :=
 jE (v:=.ref l) (Q:=λx H1=>tyV K "list" x H1/\DE x [] H1 Q) M c n ⟨.inl ⟨rfl,_,SO.of hl⟩,l,_,z,rfl,rfl,hl,by simp,by rw [Q0];exact q⟩ lk e
theorem jv {p:Int × MS} (h:eG st=some p):p.2.place=st.place/\p.2.kept=st.kept/\st.pile=p.1::p.2.pile/\p.2.ended=st.ended:=by
 unfold eG at h;split at h
 ·cases h
 ·rename_i x r e;cases h;exact ⟨rfl,rfl,e,rfl⟩
theorem gX {s:MS} (h:cI mc n st=some s):s.place=st.place/\s.kept=st.kept/\s.pile=n % mc.b::st.pile/\st.pile.length≠64/\s.ended=st.ended:=by
 unfold cI at h;split at h
 ·cases h
 ·rename_i hl;cases h;exact ⟨rfl,rfl,rfl,hl,rfl⟩
end
theorem i4 {p q:Prop} [Decidable p] [Decidable q] (h:p↔q):decide p=decide q:=decide_eq_decide.mpr h
theorem pC (T:Txt P w K mg)  : Tc P w K mg base WG (k+1) T.KO T.KR ["self","number"] (zw K T.JU T.JU):=by
 refine T.Md.ok VM (λvs H Q E h=>?_) (λcdv A outer s H vs Q E hr h=>?_)
 ·obtain ⟨A,mc,st,n,rfl,_⟩:=h;rfl
 have nd:=VM.nd;obtain ⟨A,mc,st,n,rfl,M,b2,hl,ok,bad⟩:=h;refine ⟨_,(aE (bE (aN bV (aX aW rfl T.JY bU (aD (gE (pv 0) rfl) aC)) (bT (v:=.int 64) rfl T.Li ⟨_,rfl⟩) (aT _)) (aH dF) aQ)
 (aH (bP (fF PD P5 P7 cC (gE (pv 0) rfl) (aD (bL eZ (pv 1) (gE (pv 0) rfl)) aC))))),?_⟩
 have ed:decide ((((st.pile.reverse.map D.int).length:Nat):Int)=64)=decide (st.pile.length=64):=i4 (by rw [Pd,Qj];omega);refine aR (K:=K) (b:=decide (st.pile.length=64)) (RT.as (aJ (mV (eA (vQ M T.SI T.TQ)) aG)) ed) (λc H1 s1=>?_) (λc H1 s1=>?_)
 ·exact (bad (by unfold cI;rw [Ph (Po c)];rfl)).elim
 ·have M:=M.same s1;have c:=Pu c;have lp:=vD st.pile;refine zK M T.SI T.TQ M.pile (by omega) (jN (aA (k:=1) (Dat.SK n)) (vJ (z:=mc.b) M T.SI T.Vd) (by omega)) λH2 s2=>?_;have e:=(M.same s2).Zb (n % mc.b::st.pile);rw [gI] at e;exact ok .SM _ (by unfold cI;rw [M1 c];rfl) _ ((jh (s1.trans s2)).trans UN.lp) e
theorem ny (T:Txt P w K mg)  : Tc P w K mg base WG (k+1) T.Kw T.KA ["self"] (Gx K T.JU T.JU):=by
 refine T.Lx.ok U9 (λvs H Q E h=>?_) (λcdv A outer s H vs Q E hr h=>?_)
 ·obtain ⟨A,mc,st,rfl,_⟩:=h;rfl
 have nd:=U9.nd;obtain ⟨A,mc,st,rfl,M,ok,bad⟩:=h;refine ⟨_,(aE (bE (aN lI (aX aW rfl T.JY bU (aD (gE (pv 0) rfl) aC)) aF (aT _)) (aH dF) aQ)
 (aH (kF (pv 0) d8 rfl))),?_⟩
 have ed:(!decide ((((st.pile.reverse.map D.int).length:Nat):Int)=1))=!decide (st.pile.length=1):=PZ Bool.not (i4 (by rw [Pd,Qj];omega));refine aR (K:=K) (b:=!decide (st.pile.length=1)) (RT.as (aJ (kI (eA (vQ M T.SI T.TQ)) aG)) ed) (λc H1 s1=>?_) (λc H1 s1=>?_)
 ·have c:=Pu ((Sx _).mp c);exact (bad (by unfold jq;rw [M1 c];rfl)).elim
 ·have M:=M.same s1;have c:=Po ((RQ _).mp c);refine ⟨_,rfl,A.m,_,A.dx,_,rfl,M.ins,T.SI,T.Up,by show 7 < 1000;decide,?_⟩;exact ok .SM { st with ended:=true } (by unfold jq;rw [Ph c];rfl) _ ((jh s1).trans UN.m) (M.setM (BB true) rfl rfl)
theorem qT (T:Txt P w K mg)  (KM:Tc P w K mg base WG k T.Kx T.KB ["self"] (we K T.JU T.JU)):Tc P w K mg base WG (k+1) T.K6 T.K7 ["self","name","number","onward"] (Gz K T.JU T.JU):=by
 refine T.Mz.ok V3 (λvs H Q E h=>?_) (λcdv A outer s H vs Q E hr h=>?_)
 ·obtain ⟨A,mc,st,nm,num,on,rfl,_⟩:=h;rfl
 have nd:=V3.nd;obtain ⟨A,mc,st,nm,num,on,rfl,M,hk,ok,bad⟩:=h;refine ⟨_,(aE (bE (aN eO (pv 1) (bA (aD aO (aD aO aC))) (by with_unfolding_all rfl)) (aH (aP (bL cJ (pv 3) (pv 2)))) aQ)
 (aE (bE (aN eO (pv 1) (bA (aD aO (aD aO aC))) (by with_unfolding_all rfl)) (aH (aP (fG (aN bV (kn (pv 0) T.SI T.Tj KM hr (h9 T) .nil gN) aF (aT _)) (bL cJ (pv 3) (pv 2)) (pv 3)))) aQ)
 (aE (bE (aN bV (pv 1) aO (aT _)) (aE (bE (aN bV (aX aW rfl T.JY bU (aD (gE (pv 0) rfl) aC)) (bT (v:=.int 16) rfl T.Lg ⟨_,rfl⟩) (aT _)) (aH dF) aQ)
 (aE (bP (fF PD P5 P7 cC (gE (pv 0) rfl) (aD (pv 3) aC)))
 (aH (aP (pv 2))))) aQ)
 (aE (bE (cW (bR (gE (pv 0) rfl) (λ_=>rfl))) (aH dF) aQ)
 (aH (aP (lJ PD QK QZ lD (gE (pv 0) rfl)))))))),?_⟩
 refine aR (K:=K) (b:=decide (nm ∈ (["skip","jump"]:List Str))) (aJ (j7 (ys:=["skip","jump"]) (aA (k:=1) (Dat.Tf nm)) (bF (aB aL (aB aL aM))))) (λc H1 s1=>?_) (λc H1 s1=>?_)
 ·have c:=Po c;refine bJ (K:=K) (d:=.int ((on:Int)+num)) (c8 (aA (k:=3) (Dat.SK _)) (aA (k:=2) (Dat.SK _))) λv H2 s2 q=>?_;rw [q.SN];exact ok _ st (by unfold jS;rw [Ph c];show some (V.int ((on+num:Nat):Int),st)=_;rw [Se]) _ (jh (s1.trans s2)) (M.same (s1.trans s2))
 have n1:=Pu c;have M:=M.same s1;refine aR (K:=K) (b:=decide (nm ∈ (["zero","none"]:List Str))) (aJ (j7 (ys:=["zero","none"]) (aA (k:=1) (Dat.Tf nm)) (bF (aB aL (aB aL aM))))) (λc H2 s2=>?_) (λc H2 s2=>?_)
 ·have c:=Po c;have M:=M.same s2;have s12:=s1.trans s2;have ew:jS nm num on st=(eG st).map λp=>(if p.1=0 then on+num else on,p.2):=by unfold jS;rw [M1 n1,Ph c]
  rw [ew] at ok bad;refine vH M ⟨λv st' e H3 b3 M3=>?_,λe=>?_⟩
  ·obtain ⟨p,hp,e2⟩:=PU.mp e;cases e2;refine ⟨rfl,_,rfl,?_⟩;have es:decide (V.int p.1=V.int 0)=decide (p.1=0):=i4 ⟨λz=>V.int.inj z,λz=>by rw [z]⟩;rw [es];rw [hp] at ok;by_cases hz:p.1=0
   ·rw [Pw hz];refine j4 ⟨_,rfl,_,rfl,on,num,rfl,rfl,?_⟩;exact ok _ p.2 (by show some (V.int ((if p.1=0 then on+num else on:Nat):Int),p.2)=_;rw [Ph hz,Se]) _ ((jh s12).trans b3) M3
   ·rw [Pj hz];refine j0 ⟨_,rfl,?_⟩;exact ok _ p.2 (by show some (V.int ((if p.1=0 then on+num else on:Nat):Int),p.2)=_;rw [M1 hz]) _ ((jh s12).trans b3) M3
  ·have e:eG st=none:=by simpa using e
   exact bad (by rw [e];rfl)
 have n2:=Pu c;have M:=M.same s2;have s12:=s1.trans s2;refine aR (K:=K) (b:=decide (nm="call")) (aJ (bI (aA (K:=K) (k:=1) (Dat.Tf nm)) aL)) (λc H3 s3=>?_) (λc H3 s3=>?_)
 ·have c:=Po c;have M:=M.same s3;have S8:=s12.trans s3;have ew:jS nm num on st=if st.kept.length=16 then none else some (num,{ st with kept:=on::st.kept }):=by unfold jS;rw [M1 n1,M1 n2,Ph c]
  rw [ew] at ok bad;have ed:decide (((((st.kept.reverse.map λ(n:Nat)=>(n:Int)).map D.int).length:Nat):Int)=16)=decide (st.kept.length=16):=i4 (by rw [Pd,Pd,Qj];omega);refine aR (K:=K) (b:=decide (st.kept.length=16)) (RT.as (aJ (mV (eA (FS M T.SI T.T9)) aG)) ed) (λc H4 s4=>?_) (λc H4 s4=>?_)
  ·exact (bad (by rw [Ph (Po c)];rfl)).elim
  ·have M:=M.same s4;have c:=Pu c;have lk:=Ak st.kept;refine jf (zK M T.SI T.T9 M.kept (by omega) (aA (k:=3) (Dat.SK _)) λH5 s5=>?_);have e:=(M.same s5).Zc (on::st.kept);rw [nj] at e;exact ⟨_,rfl,ok _ _ (by rw [M1 c];rfl) _ ((jh (S8.trans (s4.trans s5))).trans UN.lk) e⟩
 have n3:=Pu c;have M:=M.same s3;have S8:=s12.trans s3;obtain ⟨pile,place,kept,ended⟩:=st
 cases kept with
 | nil =>refine aR (K:=K) (b:=true) (bZ (pS M T.SI T.T9 M.kept)) (λ_ H4 s4=>?_) (λc=>nomatch c);exact (bad (by unfold jS;rw [M1 n1,M1 n2,M1 n3];rfl)).elim
 | cons x r =>
  have e:XW (x::r)=XW r++[.int x]:=nj x r;refine aR (K:=K) (b:=false) (RT.as (bZ (pS M T.SI T.T9 M.kept)) ?_) (λc=>nomatch c) (λ_ H4 s4=>?_)
  ·show (!!(XW (x::r)).isEmpty)=false;rw [e];cases XW r <;> rfl
  ·have M:=M.same s4;have hp:H4 A.lk=some (.lst (XW r++[.int x])):=by rw [<- e];exact M.kept
   exact Fy M T.SI T.T9 hp (ok (.int x) _ (by unfold jS;rw [M1 n1,M1 n2,M1 n3];rfl) _ ((jh (S8.trans s4)).trans UN.lk) (M.Zc r))
def Gw (K:W.Frag) (N C:Addr):Sp:=λvs H Q E=>∃ A mc st nm num,vs=[.ref A.m,.str nm,.int (num:Nat)]/\SV K C A mc st H/\qS mc/\j6 mc st/\(nm="load"->num<=3)/\Te K N C A mc st H Q E ((cR mc nm num st).map λs=>(.SM,s))
section
variable {N C:Addr} {A:MA} {mc:MC} {st:MS} {H:Hp} {Q:VK} {E:XK} {n:Int} {k:MS->Option MS}
variable {Q1:VK}
theorem AA (h:Te K N C A mc st H Q E (((cI mc n st).bind k).map λs=>(.SM,s))) (q:∀ s,cI mc n st=some s->∀ H',UN A H H'->SV K C A mc s H'->Q1 .SM H'):Te K N C A mc st H Q1 E ((cI mc n st).map λs=>(.SM,s)):=by
 refine ⟨λv st' e H' b M'=>?_,λe=>?_⟩
 ·obtain ⟨s,hs,e2⟩:=PU.mp e;cases e2;exact q _ hs H' b M'
 ·have e:cI mc n st=none:=by simpa using e
  exact h.2 (by rw [e];rfl)
theorem wq {k:Int × MS->Option MS} (h:Te K N C A mc st H Q E (((eG st).bind k).map λs=>(.SM,s))) (q:∀ p,eG st=some p->∀ H',UN A H H'->SV K C A mc p.2 H'->Q1 (.int p.1) H'):Te K N C A mc st H Q1 E ((eG st).map λp=>(.int p.1,p.2)):=by
 refine ⟨λv st' e H' b M'=>?_,λe=>?_⟩
 ·obtain ⟨p,hs,e2⟩:=PU.mp e;cases e2;exact q _ hs H' b M'
 ·have e:eG st=none:=by simpa using e
  exact h.2 (by rw [e];rfl)
theorem nA {p:Int × MS} (o:j6 mc st) (h:eG st=some p):j6 mc p.2/\0<=p.1/\p.1 < mc.b/\p.2.pile.length+1=st.pile.length:=by obtain ⟨_,hk,hp,_⟩:=jv h;have l:=o.l;rw [hp,Pp] at l;refine ⟨⟨λx hx=>o.p x (by rw [hp];exact PR _ hx),by omega,by rw [hk];exact o.k⟩,?_⟩;have:=o.p p.1 (by rw [hp];exact P0);exact ⟨this.1,this.2,by rw [hp,Pp]⟩
theorem vw {s:MS} (b2:2<=mc.b) (o:j6 mc st) (h:cI mc n st=some s):j6 mc s:=by
 obtain ⟨_,hk,hp,hl,_⟩:=gX h;have l:=o.l;refine ⟨λx hx=>?_,by rw [hp,Pp];omega,by rw [hk];exact o.k⟩;rw [hp] at hx;rcases Py.mp hx with z | z
 ·rw [z];exact ⟨Qn _ (by omega),Qh _ (by omega)⟩
 ·exact o.p x z
end
theorem nv (T:Txt P w K mg) (KM:Tc P w K mg base WG k T.Kx T.KB ["self"] (we K T.JU T.JU)) (Kb:Tc P w K mg base WG k T.KO T.KR ["self","number"] (zw K T.JU T.JU)) (NA:Ok P w base k T.Lb (Th K Ga)):Tc P w K mg base WG (k+1) T.Kv T.Kz ["self","name","number"] (Gw K T.JU T.JU):=by
 refine T.Lw.ok Va (λvs H Q E h=>?_) (λcdv A outer s H vs Q E hr h=>?_)
 ·obtain ⟨A,mc,st,nm,num,rfl,_⟩:=h;rfl
 have nd:=Va.nd;obtain ⟨A,mc,st,nm,num,rfl,M,oc,os,hld,out⟩:=h;have b2:=oc.b2;refine ⟨_,(aE (bE (aN eO (pv 1) (bA (aD aO (aD aO aC))) (by with_unfolding_all rfl)) (aE (bP (iX (pv 0) T.SI T.SR Kb hr (d4 T) .nil gN (aD (pv 2) aC)))
 (aH Ay)) aQ)
 (aE (bE (aN bV (pv 1) aO (aT _)) (aE (bP (iX (pv 0) T.SI T.SR Kb hr (d4 T) .nil gN (aD (aY aZ (gE (pv 0) rfl) (pv 2)) aC)))
 (aH Ay)) aQ)
 (aE (bQ (i:=3) nd rfl (Or.inl rfl) (kn (pv 0) T.SI T.Tj KM hr (h9 T) .nil gN))
 (aH (bE (aN bV (pv 1) aO (aT _)) (aH (bP (iX (pv 0) T.SI T.SR Kb hr (d4 T) .nil gN (aD (bL cJ (pv 3) (pv 2)) aC)))) (aH (bE (aN bV (pv 1) aO (aT _)) (aE (bP (iX (pv 0) T.SI T.SR Kb hr (d4 T) .nil gN (aD (pv 3) aC)))
 (aH (bP (iX (pv 0) T.SI T.SR Kb hr (d4 T) .nil gN (aD (pv 3) aC))))) (aH (bE (aN bV (pv 1) aO (aT _)) (aE (bQ (i:=4) nd rfl (Or.inl rfl) (kn (pv 0) T.SI T.Tj KM hr (h9 T) .nil gN))
 (aE (bP (iX (pv 0) T.SI T.SR Kb hr (d4 T) .nil gN (aD (pv 3) aC)))
 (aH (bP (iX (pv 0) T.SI T.SR Kb hr (d4 T) .nil gN (aD (pv 4) aC)))))) (aH (bP (iX (pv 0) T.SI T.SR Kb hr (d4 T) .nil gN (aD (pc (D:=T.Lb) NA hr (aD (pv 1) (aD (kn (pv 0) T.SI T.Tj KM hr (h9 T) .nil gN) (aD (pv 3) (aD (gE (pv 0) rfl) aC))))) aC))))))))))))),?_⟩
 refine aR (K:=K) (b:=decide (nm ∈ (["put","far"]:List Str))) (aJ (j7 (ys:=["put","far"]) (aA (k:=1) (Dat.Tf nm)) (bF (aB aL (aB aL aM))))) (λc H1 s1=>?_) (λc H1 s1=>?_)
 ·have ew:cR mc nm num st=cI mc num st:=by unfold cR;rw [Ph (Po c)]
  rw [ew] at out;have out:=Te.on (st1:=st) out (jh s1) rfl;refine jf (mU (aA (k:=2) (Dat.SK (num:Int))) (M.same s1) b2 os.l ⟨λv st' e H' b M'=>?_,out.2⟩);obtain ⟨s,hs,e2⟩:=PU.mp e;cases e2;exact out.1 _ _ e H' b M'
 have n1:=Pu c;have M:=M.same s1;have out:=Te.on (st1:=st) out (jh s1) rfl;refine aR (K:=K) (b:=decide (nm="load")) (aJ (bI (aA (K:=K) (k:=1) (Dat.Tf nm)) aL)) (λc H2 s2=>?_) (λc H2 s2=>?_)
 ·have c:=Po c;have ew:cR mc nm num st=cI mc (mc.as.getD num 0) st:=by unfold cR;rw [M1 n1,Ph c]
  rw [ew] at out;have out:=Te.on (st1:=st) out (jh s2) rfl;have M:=M.same s2;have ln:=hld c;have la:=oc.as
  have hg:(mc.as.map D.int)[num]?=some (.int (mc.as.getD num 0)):=by rw [Pr,Pe (by omega:num < mc.as.length),PX,Pe (by omega:num < mc.as.length)];rfl
  refine jf (mU (a6 (k:=num) (FH M T.SI T.UR) (aA (k:=2) (Dat.SK (num:Int))) hg) M b2 os.l ⟨λv st' e H' b M'=>?_,out.2⟩);obtain ⟨s,hs,e2⟩:=PU.mp e;cases e2;exact out.1 _ _ e H' b M'
 have n2:=Pu c;have M:=M.same s2;have out:=Te.on (st1:=st) out (jh s2) rfl
 have ew:cR mc nm num st=(eG st).bind λu =>
  if nm="more" then cI mc (u.1+num) u.2
  else if nm="twice" then (cI mc u.1 u.2).bind λs=>cI mc u.1 s
  else if nm="about" then (eG u.2).bind λl=>(cI mc u.1 l.2).bind λs=>cI mc l.1 s
  else (eG u.2).bind λl=>cI mc (two nm l.1 u.1 mc.b) l.2:=by unfold cR;rw [M1 n1,M1 n2]
 rw [ew] at out;refine fR (vH M (wq out λu hu H3 b3 M=>?_));obtain ⟨ou,u0,u1,ul⟩:=nA os hu;have pu:=(jv hu).1;rw [hu] at out;have out:=Te.on (st1:=u.2) out b3 pu
 have out:Te K T.JU T.JU A mc u.2 H3 Q E ((if nm="more" then cI mc (u.1+num) u.2
  else if nm="twice" then (cI mc u.1 u.2).bind λs=>cI mc u.1 s
  else if nm="about" then (eG u.2).bind λl=>(cI mc u.1 l.2).bind λs=>cI mc l.1 s
  else (eG u.2).bind λl=>cI mc (two nm l.1 u.1 mc.b) l.2).map λs=>(.SM,s)):=out
 refine jk (b:=decide (nm="more")) (aJ (bI (aA (K:=K) (k:=1) (Dat.Tf nm)) aL)) (λc H4 s4=>?_) (λc H4 s4=>?_)
 ·rw [Ph (Po c)] at out;have out:=Te.on (st1:=u.2) out (jh s4) rfl;refine mU (c8 (aA (k:=3) (Dat.SK u.1)) (aA (k:=2) (Dat.SK (num:Int)))) (M.same s4) b2 ou.l ⟨λv st' e H' b M'=>?_,out.2⟩;obtain ⟨s,hs,e2⟩:=PU.mp e;cases e2;exact out.1 _ _ e H' b M'
 rw [M1 (Pu c)] at out;have M:=M.same s4;have out:=Te.on (st1:=u.2) out (jh s4) rfl;refine jk (b:=decide (nm="twice")) (aJ (bI (aA (K:=K) (k:=1) (Dat.Tf nm)) aL)) (λc H5 s5=>?_) (λc H5 s5=>?_)
 ·rw [Ph (Po c)] at out;have out:=Te.on (st1:=u.2) out (jh s5) rfl;refine jf (mU (aA (k:=3) (Dat.SK u.1)) (M.same s5) b2 ou.l (AA out λs hs H6 b6 M6=>?_));rw [hs] at out;have out:Te K T.JU T.JU A mc s H6 Q E ((cI mc u.1 s).map λs=>(.SM,s)):=Te.on out b6 (gX hs).1;refine mU (aA (k:=3) (Dat.SK u.1)) M6 b2 (vw b2 ou hs).l ⟨λv st' e H' b M'=>?_,out.2⟩;obtain ⟨s',hs',e2⟩:=PU.mp e;cases e2;exact out.1 _ _ e H' b M'
 rw [M1 (Pu c)] at out;have M:=M.same s5;have out:=Te.on (st1:=u.2) out (jh s5) rfl;refine jk (b:=decide (nm="about")) (aJ (bI (aA (K:=K) (k:=1) (Dat.Tf nm)) aL)) (λc H6 s6=>?_) (λc H6 s6=>?_)
 ·rw [Ph (Po c)] at out;have out:=Te.on (st1:=u.2) out (jh s6) rfl;refine fR (vH (M.same s6) (wq out λl hl H7 b7 M7=>?_));obtain ⟨ol,l0,l1,ll⟩:=nA ou hl;rw [hl] at out;have out:Te K T.JU T.JU A mc l.2 H7 Q E (((cI mc u.1 l.2).bind λs=>cI mc l.1 s).map λs=>(.SM,s)):=Te.on out b7 (jv hl).1;refine jf (mU (aA (k:=3) (Dat.SK u.1)) M7 b2 ol.l (AA out λs hs H8 b8 M8=>?_));rw [hs] at out;have out:Te K T.JU T.JU A mc s H8 Q E ((cI mc l.1 s).map λs=>(.SM,s)):=Te.on out b8 (gX hs).1;refine mU (aA (k:=4) (Dat.SK l.1)) M8 b2 (vw b2 ol hs).l ⟨λv st' e H' b M'=>?_,out.2⟩;obtain ⟨s',hs',e2⟩:=PU.mp e;cases e2;exact out.1 _ _ e H' b M'
 ·rw [M1 (Pu c)] at out;have M:=M.same s6;have out:=Te.on (st1:=u.2) out (jh s6) rfl;refine ⟨_,rfl,A.m,A.dx,_,rfl,M.ins,by kernel_rfl,_,rfl,?_⟩;refine vH M (wq out λl hl H7 b7 M7=>?_);obtain ⟨ol,l0,l1,ll⟩:=nA ou hl;rw [hl] at out;have out:Te K T.JU T.JU A mc l.2 H7 Q E ((cI mc (two nm l.1 u.1 mc.b) l.2).map λs=>(.SM,s)):=Te.on out b7 (jv hl).1;refine ⟨_,rfl,jE (v:=.int mc.b) M7 T.SI T.Vd ?_⟩;refine ⟨[.str nm,.int l.1,.int u.1,.int mc.b],.int (two nm l.1 u.1 mc.b),SG.cons (Dat.Tf nm) (SG.cons (Dat.SK _) (SG.cons (Dat.SK _) (SG.cons (Dat.SK _) SG.nil))),⟨nm,l.1,u.1,mc.b,rfl,b2,oc.b9,l0,l1,u0,u1,rfl⟩,λv H8 s8 q8=>?_⟩;have out:=Te.on (st1:=l.2) out (jh s8) rfl;refine ⟨A,mc,l.2,_,by rw [q8.SN];rfl,M7.same s8,b2,ol.l,⟨λv st' e H' b M'=>?_,out.2⟩⟩;obtain ⟨s',hs',e2⟩:=PU.mp e;cases e2;exact out.1 _ _ e H' b M'
noncomputable def YA (cs:List Int) (p:Nat) (c:Int):List Int:=(cs.drop (p+1)).take (cG c)
noncomputable def lF (cs:List Int) (p:Nat) (c:Int):Nat:=(iJ (YA cs p c)).toNat
noncomputable def iH (nm:Str) (num:Nat):Bool:=decide (j9 nm Y6 num < (num:Int))
abbrev WS:List Str:=["skip","jump","zero","none","call","back"]
noncomputable def W2 (mc:MC) (nm:Str) (num on:Nat) (st:MS):Option MS :=
 if nm ∈ WS then (jS nm num on st).map λp=>{ p.2 with place:=p.1 }
 else if nm="end" then (jq st).map λs=>{ s with place:=on }
 else (cR mc nm num st).map λs=>{ s with place:=on }
noncomputable def fJ (mc:MC) (st:MS):Option MS:=match mc.cs[st.place]? with
 | none=>none
 | some c=>if jn mc.cs st.place c=true then none else if iH (Vf c) (lF mc.cs st.place c)=true then none
  else W2 mc (Vf c) (lF mc.cs st.place c) (st.place+1+cG c) st
theorem zM (cs:List Int) (p:Nat) (c:Int):kS cs p (cG c)=(YA cs p c).map D.int:=by unfold kS YA;rw [List.map_take,List.map_drop]
theorem Di (ok:okC cs):(YA cs p c).length<=2/\∀ n ∈ YA cs p c,0<=n/\n<=99:=by unfold YA;refine ⟨by rw [Qe];have:=EF c;omega,λn hn=>?_⟩;obtain ⟨i,hi⟩:=List.mem_iff_getElem?.mp (List.mem_of_mem_drop (List.mem_of_mem_take hn));exact ok.c i n hi
theorem An (ok:okC cs):iJ (YA cs p c)=((lF cs p c:Nat):Int)/\lF cs p c<=9999:=by obtain ⟨h1,h2⟩:=Di (p:=p) (c:=c) ok;have:=Dj h1 h2;unfold lF;omega
theorem EA:∀ p ∈ Y6,∃ i,p.2=.flat (.int i):=by intro p hp;simp only [Y6,Py,P8,Qx] at hp;rcases hp with rfl | rfl | rfl <;> exact ⟨_,rfl⟩
variable {num:Nat}
theorem Fe (h:iH "load" num=false):num<=3:=by
 have h:=Pu h;have e:j9 "load" Y6 num=3:=by kernel_rfl
 rw [e] at h;omega
variable {mc:MC} {st:MS}
theorem rP (h:wI mc.cs st.place=true):fJ mc st=none:=by
 unfold fJ
 cases hc:mc.cs[st.place]? with
 | none=>rfl
 | some c =>
  have h':jn mc.cs st.place c=true:=by unfold wI at h;rw [hc] at h;exact h
  exact Ph h'
theorem BO (h:wI mc.cs st.place=false):∃ c,mc.cs[st.place]?=some c/\jn mc.cs st.place c=false:=by
 cases hc:mc.cs[st.place]? with
 | none =>
  have h':true=false:=by unfold wI at h;rw [hc] at h;exact h
  cases h'
 | some c=>exact ⟨c,rfl,by unfold wI at h;rw [hc] at h;exact h⟩
def D7 (K:W.Frag) (N C:Addr):Sp:=λvs H Q E=>∃ A mc st,vs=[.ref A.m]/\SV K C A mc st H/\qS mc/\j6 mc st/\Te K N C A mc st H Q E ((fJ mc st).map λs=>(.SM,s))
theorem pD (T:Txt P w K mg) (Ku:Ok P w base k T.JW (Xq K wC)) (NT:Ok P w base k T.LI (Th K B8)) (NO:Tc P w K mg base WG k T.K6 T.K7 ["self","name","number","onward"] (Gz K T.JU T.JU)) (Nl:Tc P w K mg base WG k T.Kw T.KA ["self"] (Gx K T.JU T.JU)) (Nk:Tc P w K mg base WG k T.Kv T.Kz ["self","name","number"] (Gw K T.JU T.JU)):Tc P w K mg base WG (k+1) T.KP T.KS ["self"] (D7 K T.JU T.JU):=by
 refine T.Me.ok VN (λvs H Q E h=>?_) (λcdv A outer s H vs Q E hr h=>?_)
 ·obtain ⟨A,mc,st,rfl,_⟩:=h;rfl
 have nd:=VN.nd;obtain ⟨A,mc,st,rfl,M,oc,os,out⟩:=h;have Xs:=oc.cs;refine ⟨_,(aE (gH (pc (D:=T.JW) Ku hr (aD (gE (pv 0) rfl) (aD (gE (pv 0) rfl) aC))) (gF rfl (bN (a7 (i:=1) nd rfl (Or.inl rfl)) (bN (a7 (i:=2) nd rfl (Or.inl rfl)) eH))))
 (aE (bQ (i:=3) nd rfl (Or.inl rfl) (pc (D:=T.LI) NT hr (aD (pv 2) aC)))
 (aE (bE (aN kl (pv 3) (tL (bT (v:=.ref T.Mm) rfl T.Lj rfl) (pv 1) (pv 3) ⟨rfl,rfl,rfl,rfl⟩) (aT _)) (aH dF) aQ)
 (aE (bQ (i:=4) nd rfl (Or.inl rfl) (bL cJ (bL cJ (gE (pv 0) rfl) aF) (aX aW rfl T.JY bU (aD (pv 2) aC))))
 (aE (bE (aN eO (pv 1) (bT (v:=.ref T.N0) rfl T.Nq rfl) (by with_unfolding_all rfl)) (aH (bQ (i:=4) nd rfl (Or.inl rfl) (iX (pv 0) T.SI T.V6 NO hr (r8 T) .nil gN (aD (pv 1) (aD (pv 3) (aD (pv 4) aC)))))) (aH (bE (aN bV (pv 1) aO (aT _)) (aH (bP (kn (pv 0) T.SI T.Vb Nl hr (nU T) .nil gN))) (aH (bP (iX (pv 0) T.SI T.Vc Nk hr (nT T) .nil gN (aD (pv 1) (aD (pv 3) aC))))))))
 (aH (kF (pv 0) (pv 4) rfl))))))),?_⟩
 have rA:RB K (bW (pI K (fT 0) "cells") (bW (pI K (fT 0) "place") dW)) (start ["self","name","behind","number","onward"] [.ref A.m]) H [.l (cD mc.cs),.d (.int st.place)]:=gB (FR M T.SI T.UQ) (iK (vJ (z:=st.place) M T.SI T.Tz) dU)
 cases hbp:wI mc.cs st.place with
 | true =>have e:fJ mc st=none:=rP hbp;exact (out.2 (by rw [e];rfl)).elim
 | false =>
  obtain ⟨c,hc,hb⟩:=BO hbp;obtain ⟨h16,hlt⟩:=wJ hb;obtain ⟨en,n9⟩:=An (p:=st.place) (c:=c) Xs;obtain ⟨l2,n2⟩:=Di (p:=st.place) (c:=c) Xs;have lb:(kS mc.cs st.place (cG c)).length=cG c:=by rw [qc];omega
  have e:fJ mc st=if iH (Vf c) (lF mc.cs st.place c)=true then none else W2 mc (Vf c) (lF mc.cs st.place c) (st.place+1+cG c) st:=by unfold fJ;rw [hc];dsimp only;rw [M1 (by rw [hb];exact Pk)]
  rw [e] at out;refine jX (K:=K) (d:=.str (Vf c)) (e:=.tup (kS mc.cs st.place (cG c))) (eF (R:=wC) rA ⟨mc.cs,st.place,c,rfl,Xs,hc,hb,rfl⟩) λv1 v2 H1 s1 h1 h2=>?_;obtain rfl:=h1.S3;generalize Vf c=nm at *;generalize hnum:lF mc.cs st.place c=num at *;refine eJ (K:=K) (d:=.int num) (RE.as (bM (R:=B8) (aB (aA (k:=2) h2) aM) ⟨YA mc.cs st.place c,by rw [zM],l2,n2,rfl⟩) (by rw [en])) λv3 H2 s2 h3=>?_;obtain rfl:=h3.SN;have h2:=s2.dat h2;have s12:=s1.trans s2;have M:=M.same s12;have out:=Te.on (st1:=st) out (jh s12) rfl;refine aR (K:=K) (b:=iH nm num) (aJ (cQ (p:=λi j=>decide (j < i)) (aA (k:=3) (Dat.SK (num:Int))) (tN T.Lk (aA (k:=1) (Dat.Tf nm)) (aA (k:=3) (Dat.SK (num:Int))) EA))) (λct H3 s3=>?_) (λct H3 s3=>?_)
  ·exact (out.2 (by rw [Ph ct];rfl)).elim
  ·have M:=M.same s3;have out:=Te.on (st1:=st) out (jh s3) rfl;rw [M1 (by rw [ct];exact Pk)] at out;have h2:=s3.dat h2;have eo:(st.place:Int)+1+((kS mc.cs st.place (cG c)).length:Int)=((st.place+1+cG c:Nat):Int):=by rw [lb];omega
   refine eJ (K:=K) (d:=.int ((st.place+1+cG c:Nat):Int)) (RE.as (c8 (c8 (vJ (z:=st.place) M T.SI T.Tz) aG) (fL (aA (k:=2) h2))) (PZ D.int eo)) λv4 H4 s4 h4=>?_;obtain rfl:=h4.SN;have M:=M.same s4;have out:=Te.on (st1:=st) out (jh s4) rfl;generalize st.place+1+cG c=on at *;refine eB (RT.use (b:=decide (nm ∈ WS)) (aJ (j7 (ys:=WS) (aA (K:=K) (k:=1) (Dat.Tf nm)) (lN T.OK))) λH5 s5=>?_);have M:=M.same s5;have out:=Te.on (st1:=st) out (jh s5) rfl;by_cases hw:nm ∈ WS
   ·rw [Pw hw];refine j4 ⟨_,rfl,A.m,A.dx,_,rfl,M.ins,by kernel_rfl,_,rfl,_,rfl,_,rfl,A,mc,st,nm,num,on,rfl,M,os.k,λv st' ew H6 b6 M6=>?_,λew=>?_⟩
    ·obtain ⟨p,hp,e2⟩:=PU.mp ew;cases e2;refine ⟨_,rfl,_,rfl,A.m,_,A.dx,_,rfl,M6.ins,T.SI,T.Tz,by show 7 < 1000;decide,?_⟩;exact out.1 .SM { p.2 with place:=p.1 } (by unfold W2;rw [Ph hw,hp];rfl) _ (b6.trans UN.m) (M6.setM (oz p.1) rfl rfl)
    ·have ew:jS nm num on st=none:=by simpa using ew
     exact out.2 (by unfold W2;rw [Ph hw,ew];rfl)
   ·rw [Pj hw];refine j0 (RT.use (b:=decide (nm="end")) (aJ (bI (aA (K:=K) (k:=1) (Dat.Tf nm)) aL)) λH6 s6=>?_);have M:=M.same s6;have out:=Te.on (st1:=st) out (jh s6) rfl;by_cases he:nm="end"
    ·rw [Pw he];refine j4 ⟨_,rfl,A.m,A.dx,_,rfl,M.ins,by kernel_rfl,A,mc,st,rfl,M,λv st' ew H7 b7 M7=>?_,λew=>?_⟩
     ·obtain ⟨s',hs',e2⟩:=PU.mp ew;cases e2;refine ⟨_,rfl,_,rfl,A.m,_,A.dx,_,rfl,M7.ins,T.SI,T.Tz,by show 7 < 1000;decide,?_⟩;exact out.1 .SM { st' with place:=on } (by unfold W2;rw [M1 hw,Ph he,hs'];rfl) _ (b7.trans UN.m) (M7.setM (oz on) rfl rfl)
     ·have ew:jq st=none:=by simpa using ew
      exact out.2 (by unfold W2;rw [M1 hw,Ph he,ew];rfl)
    ·rw [Pj he];refine j0 ⟨_,rfl,A.m,A.dx,_,rfl,M.ins,by kernel_rfl,_,rfl,_,rfl,A,mc,st,nm,num,rfl,M,oc,os,?_,λv st' ew H7 b7 M7=>?_,λew=>?_⟩
     ·rintro rfl;exact Fe ct
     ·obtain ⟨s',hs',e2⟩:=PU.mp ew;cases e2;refine ⟨_,rfl,_,rfl,A.m,_,A.dx,_,rfl,M7.ins,T.SI,T.Tz,by show 7 < 1000;decide,?_⟩;exact out.1 .SM { st' with place:=on } (by unfold W2;rw [M1 hw,M1 he,hs'];rfl) _ (b7.trans UN.m) (M7.setM (oz on) rfl rfl)
     ·have ew:cR mc nm num st=none:=by simpa using ew
      exact out.2 (by unfold W2;rw [M1 hw,M1 he,ew];rfl)
theorem wK {x:Addr} {C dx:Addr} {fs:List (Str × V)} (b:S4 x H H') (h:H x=some (.ins C dx fs)):gA K H H':=by
 refine ⟨λa xs q=>?_,λa xs q=>⟨xs,?_⟩⟩
 ·rcases q with (q | ⟨u,q⟩) | q
  ·exact .inl (.inl (b _ _ (λz=>by rw [z,h] at q;cases q) q))
  ·exact .inl (.inr ⟨u,b _ _ (λz=>by rw [z,h] at q;cases q) q⟩)
  ·exact .inr q
 ·rcases q with (q | ⟨u,q⟩) | q
  ·exact .inl (.inl (b _ _ (λz=>by rw [z,h] at q;cases q) q))
  ·exact .inl (.inr ⟨u,b _ _ (λz=>by rw [z,h] at q;cases q) q⟩)
  ·exact .inr q
variable {tl:TE}
theorem FV {f:Str} {x:Addr} (h:RC K tl σ H es) (q:∀ l ys H',H l=none->SH H H'->H' l=some (.lst ys)->SG K H' es ys->∃ C dx fs,H' x=some (.ins C dx fs)/\X3 K C/\S2 K C f/\fs.length < 1000/\us En σ (upd H' x (.ins C dx (kG f (.ref l) fs))))
  (e:σ[i]?=some (some (.ref x)):=by rfl):lX (Jm K (fT i) tl f) us En σ H :=
 h.use λl ys H' n s hy dy=>let ⟨C,dx,fs,a1,a2,a3,a4,a5⟩:=q l ys H' n s hy dy;⟨_,e,x,C,dx,fs,rfl,a1,a2,a3,a4,a5⟩
def Jp (K:W.Frag) (C:Addr):Sp:=λvs H Q _=>∃ (x dx lc:Addr) (vg v4:V) (mc:MC) (r:List Int),vs=[.ref x,.ref lc,vg,.int mc.b,v4]/\H x=some (.ins C dx [])/\H lc=some (.lst (mc.cs.map V.int))/\Dat K H (.tup (mc.as.map D.int)) vg/\LD K H (r.reverse.map D.int) v4/\r.length<=900 /\
 ∀ (A:MA) (H':Hp),A.m=x->A.dx=dx->A.lc=lc->A.vg=vg->S4 x H H'->H A.lp=none->H A.lk=none->SV K C A mc ⟨r,0,[],false⟩ H'->Q .SM H'
theorem mm (T:Txt P w K mg)  : Tc P w K mg base WG (k+1) T.Kj T.Kk ["self","cells","given","size","pile"] (Jp K T.JU):=by
 refine T.Lc.ok UM (λvs H Q E h=>?_) (λcdv A outer s H vs Q E hr h=>?_)
 ·obtain ⟨x,dx,lc,vg,v4,mc,r,rfl,_⟩:=h;rfl
 have nd:=UM.nd;obtain ⟨x,dx,lc,vg,v4,mc,r,rfl,hx,hc,hg,hp,lr,post⟩:=h;refine ⟨_,(aE (kF (pv 0) (pv 1) rfl)
 (aE (kF (pv 0) (pv 2) rfl)
 (aE (kF (pv 0) (pv 3) rfl)
 (aE (kF (pv 0) (eP uo rfl T.NJ pK (aD (pv 4) aC)) rfl)
 (aE (kF (pv 0) aF rfl)
 (aE (kF (pv 0) (bY aC) rfl)
 (aH (kF (pv 0) d8 rfl)))))))),?_⟩
 have ncx:lc≠x:=λz=>by rw [z,hx] at hc;cases hc
 refine ⟨_,rfl,_,rfl,x,_,dx,_,rfl,hx,T.SI,T.UQ,by show 0 < 1000;decide,?_⟩;refine ⟨_,rfl,_,rfl,x,_,dx,_,rfl,aI,T.SI,T.UR,by show 1 < 1000;decide,?_⟩;refine ⟨_,rfl,_,rfl,x,_,dx,_,rfl,aI,T.SI,T.Vd,by show 2 < 1000;decide,?_⟩;generalize e3:upd (upd (upd H x _) x _) x _=H3;have b3:S4 x H H3:=by rw [<- e3];exact S4.upd (S4.upd (S4.upd (SH.refl _).but))
 have x3:H3 x=some (.ins T.JU dx [("cells",.ref lc),("given",vg),("size",.int mc.b)]):=by rw [<- e3,aI];kernel_rfl
 have p3:LD K H3 (r.reverse.map D.int) v4:=by
  obtain ⟨l,vs,e,hq,hd⟩:=hp;refine ⟨l,vs,e,?_,SG.mono (wK b3 hx) _ hd⟩;rcases hq with q | q
  ·exact .inl (b3 _ _ (λz=>by rw [z,hx] at q;cases q) q)
  ·exact .inr q
 refine FV (K:=K) (x:=x) (zi (a8 (k:=4) p3)) λlp ys H4 np s4 hy dy=>?_;obtain rfl:=qm dy;refine ⟨_,dx,_,s4 _ _ x3,T.SI,T.TQ,by show 3 < 1000;decide,?_⟩;refine ⟨_,rfl,x,_,dx,_,rfl,aI,T.SI,T.Tz,by show 4 < 1000;decide,?_⟩;generalize e6:upd (upd H4 x _) x _=H6;have b6:S4 x H H6:=by rw [<- e6];exact S4.upd (S4.upd (b3.trans s4.but))
 have npx:lp≠x:=λz=>by rw [z,x3] at np;cases np
 have p6:H6 lp=some (.lst (pV r)):=by rw [<- e6,aS npx,aS npx];exact hy
 have x6:H6 x=some (.ins T.JU dx [("cells",.ref lc),("given",vg),("size",.int mc.b),("pile",.ref lp),("place",.int 0)]):=by rw [<- e6,aI];kernel_rfl
 refine ⟨dB (by decide),λlk nk=>?_⟩;have nkx:lk≠x:=λz=>by rw [z,x6] at nk;cases nk
 have nkp:lp≠lk:=λz=>by rw [<- z,p6] at nk;cases nk
 have c6:H6 lc=some (.lst (mc.cs.map V.int)):=b6 _ _ ncx hc;have nck:lc≠lk:=λz=>by rw [<- z,c6] at nk;cases nk
 have ncp:lc≠lp:=λz=>by rw [<- z,b3 _ _ ncx hc] at np;cases np
 refine ⟨_,rfl,x,_,dx,_,rfl,by rw [aS (PL nkx)];exact x6,T.SI,T.T9,by show 5 < 1000;decide,?_⟩;refine ⟨_,rfl,x,_,dx,_,rfl,aI,T.SI,T.Up,by show 6 < 1000;decide,?_⟩;generalize e9:upd (upd (upd H6 lk _) x _) x _=H9;have b9:S4 x H6 H9:=by rw [<- e9];exact S4.upd (S4.upd (aV nk _).but)
 have k9:H9 lk=some (.lst (XW [])):=by rw [<- e9,aS nkx,aS nkx,aI];rfl
 have x9:H9 x=some (.ins T.JU dx (mF ⟨x,dx,lp,lk,lc,vg⟩ mc ⟨r,0,[],false⟩)):=by rw [<- e9,aI];kernel_rfl
 have nH:∀ b,b≠x->H6 b=none->H b=none:=λb z n=>by
  cases e:H b with
  | none=>rfl
  | some o=>rw [b6 _ _ z e] at n;cases n
 have nH3:∀ b,b≠x->H3 b=none->H b=none:=λb z n=>by
  cases e:H b with
  | none=>rfl
  | some o=>rw [b3 _ _ z e] at n;cases n
 exact post ⟨x,dx,lp,lk,lc,vg⟩ H9 rfl rfl rfl rfl (b6.trans b9) (nH3 _ npx np) (nH _ nkx nk) ⟨x9,b9 _ _ ncx c6,Dat.mono (wK (b6.trans b9) hx) _ hg,b9 _ _ npx p6,k9,nkp,ncp,nck⟩
theorem ur (ok:okC cs):oS (cD cs)=true:=by unfold oS;have l0:=ok.l0;have l1:=ok.l1;rw [Px,Px];refine ⟨⟨Pw (by rw [Pd];omega),Pw (by rw [Pd];omega)⟩,?_⟩;rw [QF];intro b hb;obtain ⟨d,hd,rfl⟩:=Qz.mp hb;obtain ⟨c,hc,rfl⟩:=Qz.mp hd;obtain ⟨i,hi⟩:=List.mem_iff_getElem?.mp hc;obtain ⟨c0,c9⟩:=ok.c i c hi;show (decide (0<=c) && decide (c<=99))=true;rw [Pw c0,Pw c9];rfl
section
variable {mc:MC} {st s:MS} {nm:Str} {num on:Nat}
theorem Eu {p:Nat × MS} (o:j6 mc st) (h:jS nm num on st=some p):j6 mc p.2/\p.2.ended=st.ended:=by
 unfold jS at h;split at h
 ·cases h;exact ⟨o,rfl⟩
 ·split at h
  ·obtain ⟨q,hq,e⟩:=PU.mp h;cases e;exact ⟨(nA o hq).1,(jv hq).2.2.2⟩
  ·split at h
   ·split at h
    ·cases h
    ·rename_i hl;cases h;have:=o.k;exact ⟨⟨o.p,o.l,by show st.kept.length+1<=16;omega⟩,rfl⟩
   ·split at h
    ·cases h
    ·rename_i k r e;cases h;have:=o.k;rw [e,Pp] at this;exact ⟨⟨o.p,o.l,by show r.length<=16;omega⟩,rfl⟩
theorem Cs (b2:2<=mc.b) (o:j6 mc st) (h:cR mc nm num st=some s):j6 mc s/\s.ended=st.ended:=by
 have pu:∀ {n:Int} {a b:MS},j6 mc a->cI mc n a=some b->j6 mc b/\b.ended=a.ended:=λoa hb=>⟨vw b2 oa hb,(gX hb).2.2.2.2⟩
 have tk:∀ {p:Int × MS} {a:MS},j6 mc a->eG a=some p->j6 mc p.2/\p.2.ended=a.ended:=λoa hb=>⟨(nA oa hb).1,(jv hb).2.2.2⟩
 unfold cR at h;split at h
 ·exact pu o h
 ·split at h
  ·exact pu o h
  ·obtain ⟨u,hu,h⟩:=Ql.mp h;obtain ⟨ou,eu⟩:=tk o hu;split at h
   ·obtain ⟨a,b⟩:=pu ou h;exact ⟨a,b.trans eu⟩
   ·split at h
    ·obtain ⟨s1,h1,h2⟩:=Ql.mp h;obtain ⟨o1,e1⟩:=pu ou h1;obtain ⟨a,b⟩:=pu o1 h2;exact ⟨a,b.trans (e1.trans eu)⟩
    ·split at h
     ·obtain ⟨l,hl,h⟩:=Ql.mp h;obtain ⟨ol,el⟩:=tk ou hl;obtain ⟨s1,h1,h2⟩:=Ql.mp h;obtain ⟨o1,e1⟩:=pu ol h1;obtain ⟨a,b⟩:=pu o1 h2;exact ⟨a,b.trans (e1.trans (el.trans eu))⟩
     ·obtain ⟨l,hl,h⟩:=Ql.mp h;obtain ⟨ol,el⟩:=tk ou hl;obtain ⟨a,b⟩:=pu ol h;exact ⟨a,b.trans (el.trans eu)⟩
theorem AL (oc:qS mc) (o:j6 mc st) (h:fJ mc st=some s):j6 mc s/\(st.ended=false->s.ended=true->s.pile.length=1):=by
 unfold fJ at h;split at h
 ·cases h
 ·split at h
  ·cases h
  ·split at h
   ·cases h
   ·unfold W2 at h;split at h
    ·obtain ⟨p,hp,e⟩:=PU.mp h;cases e;obtain ⟨a,b⟩:=Eu o hp;exact ⟨⟨a.p,a.l,a.k⟩,λz w=>by rw [show p.2.ended=true from w,z] at b;cases b⟩
    ·split at h
     ·obtain ⟨p,hp,e⟩:=PU.mp h;cases e;unfold jq at hp;split at hp
      ·rename_i hl;cases hp;exact ⟨⟨o.p,o.l,o.k⟩,λ_ _=>hl⟩
      ·cases hp
     ·obtain ⟨p,hp,e⟩:=PU.mp h;cases e;obtain ⟨a,b⟩:=Cs oc.b2 o hp;exact ⟨⟨a.p,a.l,a.k⟩,λz w=>by rw [show p.ended=true from w,z] at b;cases b⟩
end
inductive Res where
 | ends (v:Int)
 | fault (p:Nat)
 | late
 deriving DecidableEq
noncomputable def jg (mc:MC):Nat->MS->Res
 | 0,_=>.late
 | n+1,st=>match fJ mc st with
  | none=>.fault st.place
  | some s=>if s.ended=true then .ends (s.pile.headD 0) else jg mc n s
noncomputable abbrev ZV:MS:=⟨[],0,[],false⟩
theorem Dl:j6 mc ZV:=⟨(λ_ h=>by cases h),by show 0<=64;decide,by show 0<=16;decide⟩
def AK (K:W.Frag) (C:Addr):Sp:=λvs H Q _=>∃ (lc:Addr) (vg:V) (mc:MC) (n:Nat),vs=[.ref lc,vg,.int mc.b,.int n]/\qS mc/\H lc=some (.lst (mc.cs.map V.int))/\Dat K H (.tup (mc.as.map D.int)) vg/\1<=n/\n<=100000 /\
 ∀ (A:MA) (H':Hp),SH H H'->H A.m=none->H A.lp=none->H A.lk=none->SV K C A mc ZV H'->Q (.ref A.m) H'
theorem yU (T:Txt P w K mg) (MM:Ok P w base (k+1) T.Lm (Xq K pY)) (Og:Tc P w K mg base WG (k+1) T.LL T.LM ["size","most"] (Th K B9)) (Of:Ok P w base (k+1) T.Mv (Th K B1)) (JX:Ok P w base (k+1) T.JV (Th K fW)) (M5:Tc P w K mg base WG k T.Kj T.Kk ["self","cells","given","size","pile"] (Jp K T.JU)):Ok P w base (k+1+1) T.M0 (AK K T.JU):=by
 refine T.M0.f.ok XM (λvs H Q E h=>?_) (λcdv A outer s H vs Q E hr h=>?_)
 ·obtain ⟨lc,vg,mc,n,rfl,_⟩:=h;rfl
 have nd:=XM.nd;obtain ⟨lc,vg,mc,n,rfl,oc,hc,hg,n1,n9,post⟩:=h;refine ⟨_,(aE (bP (pc (D:=T.Lm) MM hr (aD (pv 0) aC)))
 (aE (bP (Au Og hr rfl T.Nu T.LN.kp (wH T) (yc T) gN (aD (pv 2) aC)))
 (aE (bP (pc (D:=T.Mv) Of hr (aD (pv 1) (aD (pv 2) aC))))
 (aE (bE (cW (bR (pc (D:=T.JV) JX hr (aD (pv 3) (aD aF (aD (bT (v:=.int 100000) rfl T.K3 ⟨_,rfl⟩) aC)))) (λ_=>rfl))) (aH dF) aQ)
 (aH (aP (Fo T.XQ M5 hr rfl T.L6 (mL T) .nil gN (aD (pv 0) (aD (pv 1) (aD (pv 2) (aD (bY aC) aC))))))))))),?_⟩
 have Xs:=oc.cs;have l1:=Xs.l1;have LC:LD K H (cD mc.cs) (.ref lc):=LD.of hc (dN _);refine jf (RE.use (eF (R:=pY) (d:=.SM) (gB (a8 (K:=K) (k:=0) LC) dU) ⟨cD mc.cs,rfl,by rw [Pd];omega,ur Xs,rfl⟩) λv5 H1 s1 _=>?_);refine jf (RE.use (DN (R:=B9) (d:=.SM) (aB (aA (K:=K) (k:=2) (Dat.SK mc.b)) aM) (λ_=>SG.cons (Dat.SK _) SG.nil) ⟨mc.b,_,rfl,oc.b2,oc.b9,rfl⟩) λv6 H2 s2 _=>?_);have s12:=s1.trans s2;refine jf (RE.use (bM (R:=B1) (d:=.SM) (aB (aA (K:=K) (k:=1) (s12.dat hg)) (aB (aA (k:=2) (Dat.SK mc.b)) aM)) ⟨mc.as,mc.b,rfl,oc.as,oc.ai,rfl⟩) λv7 H3 s3 _=>?_);have S8:=s12.trans s3
 have ew:dM (.int (n:Int)) 1 100000=true:=by show (decide ((1:Int)<=n) && decide ((n:Int)<=100000))=true;rw [Pw (by omega),Pw (by omega)];rfl
 refine aR (K:=K) (b:=false) (RT.as (bZ (bO (bM (R:=fW) (aB (aA (k:=3) (Dat.SK (n:Int))) (aB aG (aB aG aM))) ⟨_,_,_,rfl,rfl⟩))) (by rw [ew];rfl)) (λc=>nomatch c) (λ_ H4 s4=>?_);have Uv:=S8.trans s4;refine ⟨_,rfl,_,rfl,_,rfl,dB (by decide),λl0 nl0 x dx nx ndx hne=>?_⟩;generalize e5:upd H4 l0 (.lst [])=H5 at nx ndx ⊢;have s5:SH H4 H5:=by rw [<- e5];exact aV nl0 _
 have Zk:=Uv.trans s5;have s6:SH H5 (upd (upd H5 dx (.own x)) x (.ins T.JU dx [])):=(aV ndx _).trans (aV (by rw [aS (PL hne)];exact nx) _);have YF:=Zk.trans s6;have h5:H5 l0=some (.lst []):=by rw [<- e5];exact aI
 refine ⟨x,dx,lc,vg,.ref l0,mc,[],rfl,aI,YF _ _ hc,YF.dat hg,LD.of (s6 _ _ h5) (dN []),by decide,λA H' em edx elc evg b nlp nlk M=>⟨rfl,?_⟩⟩;subst em;refine post A H' (λb' o e=>?_) (Zk.free nx) (YF.free nlp) (YF.free nlk) M;exact b b' o (λz=>by rw [z,Zk.free nx] at e;cases e) (YF _ _ e)
def D5 (K:W.Frag):Sp:=λvs H Q _=>∃ (lc:Addr) (vg:V) (mc:MC) (n:Nat) (v:Int),vs=[.ref lc,vg,.int mc.b,.int n]/\qS mc/\H lc=some (.lst (mc.cs.map V.int))/\Dat K H (.tup (mc.as.map D.int)) vg/\1<=n/\n<=100000/\jg mc n ZV=.ends v/\∀ H',SH H H'->Q (.int v) H'
theorem AW (s:SH H G) (b:UN A G G') (h1:H A.m=none) (h2:H A.lp=none) (h3:H A.lk=none):SH H G':=λx o e =>
 b x o (λz=>by rw [z,h1] at e;cases e) (λz=>by rw [z,h2] at e;cases e) (λz=>by rw [z,h3] at e;cases e) (s x o e)
theorem HD (T:Txt P w K mg) (OG:Ok P w base k T.M0 (AK K T.JU)) (ND:Tc P w K mg base WG k T.KP T.KS ["self"] (D7 K T.JU T.JU)):Tc P w K mg base WG (k+1) T.Oi T.NU ["code","args","size","steps"] (D5 K):=by
 refine T.OL.ok ZA (λvs H Q E h=>?_) (λcdv A outer s H vs Q E hr h=>?_)
 ·obtain ⟨lc,vg,mc,n,vv,rfl,_⟩:=h;rfl
 have nd:=ZA.nd;obtain ⟨lc,vg,mc,n,vv,rfl,oc,hc,hg,n1,n9,ends,pe⟩:=h;refine ⟨_,(aE (bQ (i:=4) nd rfl (Or.inl rfl) (pc (D:=T.M0) OG hr (aD (pv 0) (aD (pv 1) (aD (pv 2) (aD (pv 3) aC))))))
 (aE (jK Qt rfl (ko rfl T.MF (aD (pv 3) aC)) (a7 (i:=5) nd rfl (Or.inl rfl)) (aE (bP (kn (pv 4) T.SI T.VO ND hr (qa T) .nil gN))
 (aH (bE (bR (gE (pv 4) rfl) (λ_=>rfl)) (aH (aP (aY bX (gE (pv 4) rfl) aF))) aQ))))
 (aH dF))),?_⟩
 refine fR ⟨_,rfl,_,rfl,_,rfl,_,rfl,lc,vg,mc,n,rfl,oc,hc,hg,n1,n9,λA H1 s1 nm np nk M=>?_⟩;refine eB ⟨_,rfl,(n:Int),rfl,by omega,by omega,nY (n:=(n:Int).toNat) (λi σ G=>∃ (z:Option V) (st:MS),σ=[some (.ref lc),some vg,some (.int mc.b),some (.int n),some (.ref A.m),z]/\SV K T.JU A mc st G/\j6 mc st/\st.ended=false/\SH H G/\jg mc n ZV=jg mc (n - i) st) ?_ ?_ ?_⟩
 ·exact ⟨none,ZV,rfl,M,Dl,rfl,s1,rfl⟩
 ·rintro i σ G hi ⟨z,st,rfl,M,os,he,sG,hr2⟩;refine kJ ?_;dsimp only;obtain ⟨k',ek⟩:∃ k',n - i=k'+1:=⟨n - i - 1,by omega⟩
  have ek2:n - (i+1)=k':=by omega
  rw [ek] at hr2;refine jf ⟨_,rfl,A.m,A.dx,_,rfl,M.ins,by kernel_rfl,A,mc,st,rfl,M,oc,os,λv st' e H2 b2 M2=>?_,λe=>?_⟩
  ·obtain ⟨s',hs,e2⟩:=PU.mp e;cases e2;obtain ⟨os2,one⟩:=AL oc os hs;have s2:=AW sG b2 nm np nk;rw [jg,hs] at hr2;dsimp only at hr2;refine jE (v:=.bl st'.ended) M2 T.SI T.Up ⟨st'.ended,rfl,?_⟩
   cases hz:st'.ended with
   | true =>
    rw [Ph hz] at hr2;have l1:=one he hz
    obtain ⟨x,hx⟩:∃ x,st'.pile=[x]:=by
     match hq:st'.pile,l1 with
     | [x],_=>exact ⟨x,rfl⟩
    refine j4 (bJ (K:=K) (d:=.int x) (iD (k:=0) (vQ M2 T.SI T.TQ) aG (by rw [hx];rfl)) λv H3 s3 q=>?_);rw [q.SN];rw [ends,hx] at hr2;injection hr2 with hr2;have hr2:vv=x:=hr2;rw [<- hr2];exact pe H3 (s2.trans s3)
   | false =>rw [M1 (by rw [hz];exact Pk)] at hr2;exact j0 ⟨_,st',rfl,M2,os2,hz,s2,by rw [hr2,ek2]⟩
  ·have e:fJ mc st=none:=by simpa using e
   rw [jg,e] at hr2;rw [ends] at hr2;cases hr2
 rintro σ G ⟨z,st,rfl,M,os,he,sG,hr2⟩;have e0:n - (n:Int).toNat=0:=by omega
 rw [e0] at hr2;rw [ends] at hr2;cases hr2
noncomputable def bK (as:List Int) (b:Int):Tr->Int
 | .num n=>n % b
 | .arg k=>as.getD k.toNat 0
 | .two o x y=>two o (bK as b x) (bK as b y) b
 | .pick x y z=>if bK as b x=0 then bK as b z else bK as b y
inductive Go (mc:MC):Nat->MS->MS->Prop
 | nil {s:MS}:Go mc 0 s s
 | cons {n:Nat} {s s1 s2:MS}:fJ mc s=some s1->s1.ended=false->Go mc n s1 s2->Go mc (n+1) s s2
variable {s1 s2:MS}
theorem Go.trans {m:Nat} {s3:MS} (a:Go mc n s1 s2) (b:Go mc m s2 s3):Go mc (n+m) s1 s3:=by
 induction a with
 | nil=>rw [Nat.zero_add];exact b
 | cons e d _ ih=>rw [Nat.succ_add];exact .cons e d (ih b)
variable {s':MS}
theorem Go.run {s:MS} (a:Go mc n s s') (k:Nat):jg mc (n+k) s=jg mc k s':=by
 induction a with
 | nil=>rw [Nat.zero_add]
 | cons e d _ ih =>rw [Nat.succ_add];show (match fJ mc _ with | none=>_ | some s=>_)=_;rw [e];dsimp only;rw [d,M1 Pk];exact ih
noncomputable abbrev at_ (s:List Int) (p:Nat) (k:List Nat):MS:=⟨s,p,k,false⟩
variable {a b args s:List Int}
theorem fZ {k:List Nat} (h:mc.cs=a++c::(args++b)) (hc:c<=16) (hl:args.length=cG c) :
  fJ mc (at_ s a.length k)=if iH (Vf c) (iJ args).toNat=true then none else W2 mc (Vf c) (iJ args).toNat (a.length+1+args.length) (at_ s a.length k):=by
 unfold fJ
 have e1:mc.cs[(at_ s a.length k).place]?=some c:=by rw [h];show (a++c::(args++b))[a.length]?=some c;rw [Qp (Pq _),SE];rfl
 rw [e1]
 have e2:jn mc.cs (at_ s a.length k).place c=false:=by
  unfold jn
  rw [h,Pj (by omega),Pj (by
   show ¬ (a++c::(args++b)).length<=a.length+cG c;rw [tB,Pp,tB];omega)]
  rfl
 have e3:lF mc.cs (at_ s a.length k).place c=(iJ args).toNat:=by
  unfold lF YA;rw [h];show (iJ (((a++c::(args++b)).drop (a.length+1)).take (cG c))).toNat=_
  have e4:(a++c::(args++b)).drop (a.length+1)=args++b:=by rw [R4,List.drop_eq_nil_of_le (by omega),Rg,show a.length+1 - a.length=1 by omega];rfl
  rw [e4,<- hl,List.take_left'];rfl
 dsimp only;rw [e2,e3,M1 Pk,hl]
theorem Zm {s:MS} (h:fJ mc s=some s1) (e:s1.ended=false):Go mc 1 s s1:=.cons h e .nil
theorem gW {n:Int} {k:List Nat} (hs:s.length<=63):cI mc n (at_ s p k)=some (at_ (n % mc.b::s) p k):=by unfold cI;rw [M1 (show ¬ s.length=64 by omega)]
theorem je (h1:¬ nm="load") (h2:¬ nm="skip") (h3:¬ nm="zero"):¬ iH nm n=true:=by
 unfold iH j9
 have e:KTD.datumAt nm Y6=none:=by show (if decide (nm="load")=true then _ else if decide (nm="skip")=true then _ else if decide (nm="zero")=true then _ else _)=_;rw [M1 (by simp [h1]),M1 (by simp [h2]),M1 (by simp [h3])];rfl
 rw [e];simp
theorem Jy (h:nm="skip"\/nm="zero") (hn:n<=9):¬ iH nm n=true:=by
 unfold iH;have e:j9 nm Y6 n=9:=by rcases h with rfl | rfl <;> kernel_rfl
 rw [e];simp;omega
theorem JT (hn:n<=3):¬ iH "load" n=true:=by
 unfold iH;have e:j9 "load" Y6 n=3:=by kernel_rfl
 rw [e];simp;omega
theorem iG {x:Int} {k:List Nat}:eG (at_ (x::s) p k)=some (x,at_ s p k):=rfl
theorem qC {n:Int} {k:List Nat} (h:mc.cs=a++1::n::b) (h0:0<=n) (hs:s.length<=63):Go mc 1 (at_ s a.length k) (at_ (n % mc.b::s) (a.length+2) k):=by
 refine Zm ?_ rfl;rw [fZ (args:=[n]) h (by decide) rfl,show Vf 1="put" from rfl,M1 (je (by decide +kernel) (by decide +kernel) (by decide +kernel))];unfold W2 cR;rw [M1 (by decide +kernel),M1 (by decide +kernel),Ph (by decide +kernel),gW hs];have e:(((iJ [n]).toNat:Nat):Int)=n:=by simp [iJ];omega
 rw [e];rfl
theorem CJ {n m:Int} {k:List Nat} (h:mc.cs=a++2::n::m::b) (h0:0<=n) (h1:0<=m) (hs:s.length<=63):Go mc 1 (at_ s a.length k) (at_ ((m * 100+n) % mc.b::s) (a.length+3) k):=by
 refine Zm ?_ rfl;rw [fZ (args:=[n,m]) h (by decide) rfl,show Vf 2="far" from rfl,M1 (je (by decide +kernel) (by decide +kernel) (by decide +kernel))];unfold W2 cR;rw [M1 (by decide +kernel),M1 (by decide +kernel),Ph (by decide +kernel),gW hs];have e:(((iJ [n,m]).toNat:Nat):Int)=m * 100+n:=by simp [iJ];omega
 rw [e];rfl
theorem uG {n:Int} {k:List Nat} (h:mc.cs=a++3::n::b) (h0:0<=n) (h1:n<=3) (hs:s.length<=63):Go mc 1 (at_ s a.length k) (at_ (mc.as.getD n.toNat 0 % mc.b::s) (a.length+2) k):=by
 refine Zm ?_ rfl;have e:(iJ [n]).toNat=n.toNat:=by simp [iJ]
 rw [fZ (args:=[n]) h (by decide) rfl,show Vf 3="load" from rfl,e,M1 (JT (by omega))];unfold W2 cR;rw [M1 (by decide +kernel),M1 (by decide +kernel),M1 (by decide +kernel),Ph rfl,gW hs];rfl
theorem uF {x y:Int} {k:List Nat} (h:mc.cs=a++4::b) (hb:2<=mc.b) (hs:s.length<=63):Go mc 1 (at_ (y::x::s) a.length k) (at_ (two "add" x y mc.b::s) (a.length+1) k):=by refine Zm ?_ rfl;rw [fZ (args:=[]) h (by decide) rfl,show Vf 4="add" from rfl,M1 (je (by decide +kernel) (by decide +kernel) (by decide +kernel))];unfold W2 cR;rw [M1 (by decide +kernel),M1 (by decide +kernel),M1 (by decide +kernel),M1 (by decide +kernel),iG,P6];dsimp only;rw [M1 (by decide +kernel),M1 (by decide +kernel),M1 (by decide +kernel),iG,P6];dsimp only;rw [gW hs,Qi (jR hb).1 (jR hb).2];rfl
theorem yC {x y:Int} {k:List Nat} (h:mc.cs=a++5::b) (hb:2<=mc.b) (hs:s.length<=63):Go mc 1 (at_ (y::x::s) a.length k) (at_ (two "sub" x y mc.b::s) (a.length+1) k):=by refine Zm ?_ rfl;rw [fZ (args:=[]) h (by decide) rfl,show Vf 5="sub" from rfl,M1 (je (by decide +kernel) (by decide +kernel) (by decide +kernel))];unfold W2 cR;rw [M1 (by decide +kernel),M1 (by decide +kernel),M1 (by decide +kernel),M1 (by decide +kernel),iG,P6];dsimp only;rw [M1 (by decide +kernel),M1 (by decide +kernel),M1 (by decide +kernel),iG,P6];dsimp only;rw [gW hs,Qi (jR hb).1 (jR hb).2];rfl
theorem CK {x y:Int} {k:List Nat} (h:mc.cs=a++6::b) (hb:2<=mc.b) (hs:s.length<=63):Go mc 1 (at_ (y::x::s) a.length k) (at_ (two "mul" x y mc.b::s) (a.length+1) k):=by refine Zm ?_ rfl;rw [fZ (args:=[]) h (by decide) rfl,show Vf 6="mul" from rfl,M1 (je (by decide +kernel) (by decide +kernel) (by decide +kernel))];unfold W2 cR;rw [M1 (by decide +kernel),M1 (by decide +kernel),M1 (by decide +kernel),M1 (by decide +kernel),iG,P6];dsimp only;rw [M1 (by decide +kernel),M1 (by decide +kernel),M1 (by decide +kernel),iG,P6];dsimp only;rw [gW hs,Qi (jR hb).1 (jR hb).2];rfl
theorem Ad {x y:Int} {k:List Nat} (h:mc.cs=a++7::b) (hb:2<=mc.b) (hs:s.length<=63):Go mc 1 (at_ (y::x::s) a.length k) (at_ (two "less" x y mc.b::s) (a.length+1) k):=by refine Zm ?_ rfl;rw [fZ (args:=[]) h (by decide) rfl,show Vf 7="less" from rfl,M1 (je (by decide +kernel) (by decide +kernel) (by decide +kernel))];unfold W2 cR;rw [M1 (by decide +kernel),M1 (by decide +kernel),M1 (by decide +kernel),M1 (by decide +kernel),iG,P6];dsimp only;rw [M1 (by decide +kernel),M1 (by decide +kernel),M1 (by decide +kernel),iG,P6];dsimp only;rw [gW hs,Qi (jR hb).1 (jR hb).2];rfl
theorem uI {n x:Int} {k:List Nat} (h:mc.cs=a++12::n::b) (h0:0<=n) (hs:s.length<=63):Go mc 1 (at_ (x::s) a.length k) (at_ ((x+n) % mc.b::s) (a.length+2) k):=by
 refine Zm ?_ rfl;rw [fZ (args:=[n]) h (by decide) rfl,show Vf 12="more" from rfl,M1 (je (by decide +kernel) (by decide +kernel) (by decide +kernel))];have e:(((iJ [n]).toNat:Nat):Int)=n:=by simp [iJ];omega
 unfold W2 cR;rw [M1 (by decide +kernel),M1 (by decide +kernel),M1 (by decide +kernel),M1 (by decide +kernel),iG,P6];dsimp only;rw [Ph rfl,e,gW hs];rfl
theorem CL {x:Int} {k:List Nat} (h:mc.cs=a++13::b) (hx:0<=x/\x < mc.b) (hs:s.length<=62):Go mc 1 (at_ (x::s) a.length k) (at_ (x::x::s) (a.length+1) k):=by refine Zm ?_ rfl;rw [fZ (args:=[]) h (by decide) rfl,show Vf 13="twice" from rfl,M1 (je (by decide +kernel) (by decide +kernel) (by decide +kernel))];unfold W2 cR;rw [M1 (by decide +kernel),M1 (by decide +kernel),M1 (by decide +kernel),M1 (by decide +kernel),iG,P6];dsimp only;rw [M1 (by decide +kernel),Ph rfl,gW (by omega),P6];rw [gW (by rw [Pp];omega),Qi hx.1 hx.2];rfl
theorem CI {x y:Int} {k:List Nat} (h:mc.cs=a++14::b) (hx:0<=x/\x < mc.b) (hy:0<=y/\y < mc.b) (hs:s.length<=62):Go mc 1 (at_ (y::x::s) a.length k) (at_ (x::y::s) (a.length+1) k):=by refine Zm ?_ rfl;rw [fZ (args:=[]) h (by decide) rfl,show Vf 14="about" from rfl,M1 (je (by decide +kernel) (by decide +kernel) (by decide +kernel))];unfold W2 cR;rw [M1 (by decide +kernel),M1 (by decide +kernel),M1 (by decide +kernel),M1 (by decide +kernel),iG,P6];dsimp only;rw [M1 (by decide +kernel),M1 (by decide +kernel),Ph rfl,iG,P6];dsimp only;rw [gW (by omega),P6];rw [gW (by rw [Pp];omega),Qi hx.1 hx.2,Qi hy.1 hy.2];rfl
theorem EY {k:List Nat} (h:mc.cs=a++(fN 8 9 n++b)):Go mc 1 (at_ s a.length k) (at_ s (a.length+(fN 8 9 n).length+n) k):=by
 refine Zm (s1:=at_ s (a.length+(fN 8 9 n).length+n) k) ?_ rfl;unfold fN at h ⊢;by_cases c:(n:Int)<=9
 ·rw [Ph c] at h ⊢;have e:(iJ [(n:Int)]).toNat=n:=by simp [iJ]
  rw [fZ (args:=[(n:Int)]) h (by decide) rfl,show Vf 8="skip" from rfl,e,M1 (Jy (.inl rfl) (by omega))];unfold W2 jS;rw [Ph (by decide +kernel),Ph (by decide +kernel)];rfl
 ·rw [M1 c] at h ⊢;have e:(iJ [(n:Int) % 100,(n:Int) / 100]).toNat=n:=by simp [iJ];omega
  rw [fZ (args:=[(n:Int) % 100,(n:Int) / 100]) h (by decide) rfl,show Vf 9="jump" from rfl,e,M1 (je (by decide +kernel) (by decide +kernel) (by decide +kernel))];unfold W2 jS;rw [Ph (by decide +kernel),Ph (by decide +kernel)];rfl
theorem EZ {x:Int} {k:List Nat} (h:mc.cs=a++(fN 10 11 n++b)):Go mc 1 (at_ (x::s) a.length k) (at_ s (a.length+(fN 10 11 n).length+if x=0 then n else 0) k):=by
 refine Zm (s1:=at_ s (a.length+(fN 10 11 n).length+if x=0 then n else 0) k) ?_ rfl;unfold fN at h ⊢;by_cases c:(n:Int)<=9
 ·rw [Ph c] at h ⊢;have e:(iJ [(n:Int)]).toNat=n:=by simp [iJ]
  rw [fZ (args:=[(n:Int)]) h (by decide) rfl,show Vf 10="zero" from rfl,e,M1 (Jy (.inr rfl) (by omega))];unfold W2 jS;rw [Ph (by decide +kernel),M1 (by decide +kernel),Ph (by decide +kernel),iG];by_cases hx:x=0
  ·rw [Ph hx];simp [hx]
  ·rw [M1 hx];simp [hx]
 ·rw [M1 c] at h ⊢;have e:(iJ [(n:Int) % 100,(n:Int) / 100]).toNat=n:=by simp [iJ];omega
  rw [fZ (args:=[(n:Int) % 100,(n:Int) / 100]) h (by decide) rfl,show Vf 11="none" from rfl,e,M1 (je (by decide +kernel) (by decide +kernel) (by decide +kernel))];unfold W2 jS;rw [Ph (by decide +kernel),M1 (by decide +kernel),Ph (by decide +kernel),iG];by_cases hx:x=0
  ·rw [Ph hx];simp [hx]
  ·rw [M1 hx];simp [hx]
theorem iV {i m:Int} {f:Ve} (h:cO (.gap i m) t=some f):∃ n,t=.num n/\n<=m/\f=([],[n],[]):=by
 cases t with
 | num n =>
  have h:(if n<=m then some ([],[n],[]) else none:Option Ve)=some f:=h;by_cases c:n<=m
  ·rw [Ph c] at h;cases h;exact ⟨n,rfl,c,rfl⟩
  ·rw [M1 c] at h;cases h
 | _=>cases h
theorem m9 {i:Int} {f:Ve} (h:cO (.slot i) t=some f):∃ n,t=.arg n/\f=([],[],[n]):=by
 cases t with
 | arg n=>cases h;exact ⟨n,rfl,rfl⟩
 | _=>cases h
theorem uC {m:Int} {f:Ve} (h:cO (.num m) t=some f):t=.num m/\f=([],[],[]):=by
 cases t with
 | num n =>
  have h:(if n=m then some ([],[],[]) else none:Option Ve)=some f:=h;by_cases c:n=m
  ·rw [Ph c] at h;cases h;exact ⟨by rw [c],rfl⟩
  ·rw [M1 c] at h;cases h
 | _=>cases h
theorem eE {i:Int} {f:Ve} (h:cO (.hole i) t=some f):f=([t],[],[]):=by cases h;rfl
theorem jD {a b:Pa} {f:Ve} (h:cO (.two o a b) t=some f):∃ x y f1 f2,t=.two o x y/\cO a x=some f1/\cO b y=some f2/\f=Hd f1 f2:=by
 cases t with
 | two o' x y=>obtain ⟨e,f1,f2,h1,h2,h3⟩:=fC h;subst e;exact ⟨x,y,f1,f2,rfl,h1,h2,h3⟩
 | _=>cases h
structure okA (mc:MC):Prop where
 len:mc.as.length=4
 ar:∀ x ∈ mc.as,0<=x/\x < mc.b
 b2:2<=mc.b
theorem uj (h:okA mc) {n:Int} (h0:0<=n) (h1:n<=3):mc.as.getD n.toNat 0 % mc.b=mc.as.getD n.toNat 0:=by
 have l:=h.len;have hn:n.toNat < mc.as.length:=by omega
 have e:mc.as.getD n.toNat 0=mc.as[n.toNat]:=by rw [PX,Pe hn];rfl
 have:=h.ar _ (List.getElem_mem hn);rw [e];exact Qi this.1 this.2
theorem lY (h:okA mc):∀ t:Tr,UO t->0<=bK mc.as mc.b t/\bK mc.as mc.b t < mc.b
 | .num n,_=>⟨Qn _ (by have:=h.b2;omega),Qh _ (by have:=h.b2;omega)⟩
 | .arg k,ht=>by show 0<=mc.as.getD k.toNat 0/\mc.as.getD k.toNat 0 < mc.b;rw [<- uj h ht.1 ht.2];exact ⟨Qn _ (by have:=h.b2;omega),Qh _ (by have:=h.b2;omega)⟩
 | .two o x y,_=>jR h.b2
 | .pick x y z,ht=>by
  show 0<=(if bK mc.as mc.b x=0 then bK mc.as mc.b z else bK mc.as mc.b y)/\(if bK mc.as mc.b x=0 then bK mc.as mc.b z else bK mc.as mc.b y) < mc.b;split
  ·exact lY h z ht.2.2
  ·exact lY h y ht.2.1
def eI (p:Pc):Prop:=∀ (mc:MC) (t:Tr) (f:Ve) (a b s:List Int) (k:List Nat),okA mc->UO t->cO p.pt t=some f->mc.cs=a++((cK p).map (kM f.2.1 f.2.2)++b)->s.length<=61 ->
 ∃ m,m<=(cK p).length/\Go mc m (at_ ((f.1.map (bK mc.as mc.b)).reverse++s) a.length k) (at_ (bK mc.as mc.b t::s) (a.length+(cK p).length) k)
theorem hZ {s s2':MS} (h:Go mc n s s') (e1:s=s2) (e2:s'=s2'):Go mc n s2 s2':=by subst e1 e2;exact h
theorem eQ {s':List Int} {p':Nat} {k:List Nat} (h1:s=s') (h2:p=p'):at_ s p k=at_ s' p' k:=by rw [h1,h2]
theorem pT (x y b:Int):two "add" x y b=(x+y) % b:=by unfold two;rw [M1 (by decide +kernel),Ph rfl]
theorem F7 (x y b:Int):two "mul" x y b=x * y % b:=by unfold two;rw [M1 (by decide +kernel),M1 (by decide +kernel),M1 (by decide +kernel)]
theorem HP:eI ⟨"one",.gap 0 99,[.int 1,.tup [.str "low",.int 0]]⟩:=by
 intro mc t f a b s k hA ht hf hc hs;have l3:s.length<=63:=by omega
 have l2:s.length<=62:=by omega
 obtain ⟨n,rfl,hn,rfl⟩:=iV hf;have hc:mc.cs=a++1::(n % 100)::b:=hc;have e:n % 100=n:=Qi ht.1 (by omega);rw [e] at hc;exact ⟨1,by decide,qC (s:=s) hc ht.1 l3⟩
theorem HQ:eI ⟨"two",.gap 0 9999,[.int 2,.tup [.str "low",.int 0],.tup [.str "high",.int 0]]⟩:=by
 intro mc t f a b s k hA ht hf hc hs;have l3:s.length<=63:=by omega
 have l2:s.length<=62:=by omega
 obtain ⟨n,rfl,hn,rfl⟩:=iV hf;have hc:mc.cs=a++2::(n % 100)::(n / 100)::b:=hc;have h0:=ht.1;exact ⟨1,by decide,hZ (CJ (s:=s) hc (by omega) (by omega) l3) rfl (eQ (PZ (· % mc.b::s) (by omega)) rfl)⟩
theorem Fu:eI ⟨"slot",.slot 0,[.int 3,.tup [.str "arg",.int 0]]⟩:=by
 intro mc t f a b s k hA ht hf hc hs;have l3:s.length<=63:=by omega
 have l2:s.length<=62:=by omega
 obtain ⟨n,rfl,rfl⟩:=m9 hf;have hc:mc.cs=a++3::n::b:=hc;exact ⟨1,by decide,hZ (uG (s:=s) hc ht.1 ht.2 l3) rfl (eQ (PZ (·::s) (uj hA ht.1 ht.2)) rfl)⟩
theorem HK:eI ⟨"add",.two "add" (.hole 0) (.hole 1),[.int 4]⟩:=by
 intro mc t f a b s k hA ht hf hc hs;have l3:s.length<=63:=by omega
 have l2:s.length<=62:=by omega
 obtain ⟨x,y,f1,f2,rfl,h1,h2,rfl⟩:=jD hf;cases eE h1;cases eE h2;have hc:mc.cs=a++4::b:=hc;exact ⟨1,by decide,uF (s:=s) hc hA.b2 l3⟩
theorem vF:eI ⟨"sub",.two "sub" (.hole 0) (.hole 1),[.int 5]⟩:=by
 intro mc t f a b s k hA ht hf hc hs;have l3:s.length<=63:=by omega
 have l2:s.length<=62:=by omega
 obtain ⟨x,y,f1,f2,rfl,h1,h2,rfl⟩:=jD hf;cases eE h1;cases eE h2;have hc:mc.cs=a++5::b:=hc;exact ⟨1,by decide,yC (s:=s) hc hA.b2 l3⟩
theorem HN:eI ⟨"mul",.two "mul" (.hole 0) (.hole 1),[.int 6]⟩:=by
 intro mc t f a b s k hA ht hf hc hs;have l3:s.length<=63:=by omega
 have l2:s.length<=62:=by omega
 obtain ⟨x,y,f1,f2,rfl,h1,h2,rfl⟩:=jD hf;cases eE h1;cases eE h2;have hc:mc.cs=a++6::b:=hc;exact ⟨1,by decide,CK (s:=s) hc hA.b2 l3⟩
theorem Fq:eI ⟨"less",.two "less" (.hole 0) (.hole 1),[.int 7]⟩:=by
 intro mc t f a b s k hA ht hf hc hs;have l3:s.length<=63:=by omega
 have l2:s.length<=62:=by omega
 obtain ⟨x,y,f1,f2,rfl,h1,h2,rfl⟩:=jD hf;cases eE h1;cases eE h2;have hc:mc.cs=a++7::b:=hc;exact ⟨1,by decide,Ad (s:=s) hc hA.b2 l3⟩
theorem Fs:eI ⟨"more",.two "add" (.hole 0) (.gap 0 99),[.int 12,.tup [.str "low",.int 0]]⟩:=by
 intro mc t f a b s k hA ht hf hc hs;have l3:s.length<=63:=by omega
 have l2:s.length<=62:=by omega
 obtain ⟨x,y,f1,f2,rfl,h1,h2,rfl⟩:=jD hf;cases eE h1;obtain ⟨n,rfl,hn,rfl⟩:=iV h2;have n0:0<=n:=ht.2.2.1;have e:n % 100=n:=Qi n0 (by omega);have hc:mc.cs=a++12::(n % 100)::b:=hc;rw [e] at hc;exact ⟨1,by decide,hZ (uI (s:=s) hc n0 l3) rfl (eQ (PZ (·::s) (by show (bK mc.as mc.b x+n) % mc.b=two "add" (bK mc.as mc.b x) (n % mc.b) mc.b;rw [pT];simp [Int.add_emod])) rfl)⟩
theorem HM:eI ⟨"inc",.two "add" (.hole 0) (.num 1),[.int 12,.int 1]⟩:=by
 intro mc t f a b s k hA ht hf hc hs;have l3:s.length<=63:=by omega
 have l2:s.length<=62:=by omega
 obtain ⟨x,y,f1,f2,rfl,h1,h2,rfl⟩:=jD hf;cases eE h1;obtain ⟨rfl,rfl⟩:=uC h2;have hc:mc.cs=a++12::1::b:=hc;exact ⟨1,by decide,hZ (uI (s:=s) hc (by decide) l3) rfl (eQ (PZ (·::s) (by show (bK mc.as mc.b x+1) % mc.b=two "add" (bK mc.as mc.b x) (1 % mc.b) mc.b;rw [pT];simp [Int.add_emod])) rfl)⟩
theorem Fp:eI ⟨"both",.two "add" (.slot 0) (.slot 1),[.int 3,.tup [.str "arg",.int 0],.int 3,.tup [.str "arg",.int 1],.int 4]⟩:=by
 intro mc t f a b s k hA ht hf hc hs;have l3:s.length<=63:=by omega
 have l2:s.length<=62:=by omega
 obtain ⟨x,y,f1,f2,rfl,h1,h2,rfl⟩:=jD hf;obtain ⟨n,rfl,rfl⟩:=m9 h1;obtain ⟨m,rfl,rfl⟩:=m9 h2;have hc1:mc.cs=a++3::n::(3::m::4::b):=hc;have hc2:mc.cs=(a++[3,n])++3::m::(4::b):=by rw [hc1];simp
 have hc3:mc.cs=(a++[3,n,3,m])++4::b:=by rw [hc1];simp
 have g1:=uG (s:=s) (k:=k) hc1 ht.2.1.1 ht.2.1.2 l3;have g2:=uG (s:=mc.as.getD n.toNat 0 % mc.b::s) (k:=k) hc2 ht.2.2.1 ht.2.2.2 (by rw [Pp];omega);have g3:=uF (x:=mc.as.getD n.toNat 0 % mc.b) (y:=mc.as.getD m.toNat 0 % mc.b) (s:=s) (k:=k) hc3 hA.b2 l3;rw [uj hA ht.2.1.1 ht.2.1.2] at g1 g2 g3;rw [uj hA ht.2.2.1 ht.2.2.2] at g2 g3;exact ⟨3,by decide,(g1.trans (hZ g2 (eQ rfl (by simp)) rfl)).trans (hZ g3 (eQ rfl (by simp)) (eQ rfl (by rw [tB];rfl)))⟩
theorem yW:eI ⟨"twofold",.two "mul" (.hole 0) (.num 2),[.int 13,.int 4]⟩:=by
 intro mc t f a b s k hA ht hf hc hs;have l3:s.length<=63:=by omega
 have l2:s.length<=62:=by omega
 obtain ⟨x,y,f1,f2,rfl,h1,h2,rfl⟩:=jD hf;cases eE h1;obtain ⟨rfl,rfl⟩:=uC h2;have hc1:mc.cs=a++13::(4::b):=hc;have hc2:mc.cs=(a++[13])++4::b:=by rw [hc1];simp
 have g1:=CL (s:=s) (k:=k) hc1 (lY hA x ht.2.1) l2;have g2:=uF (x:=bK mc.as mc.b x) (y:=bK mc.as mc.b x) (s:=s) (k:=k) hc2 hA.b2 l3;refine ⟨2,by decide,g1.trans (hZ g2 (eQ rfl (by simp)) (eQ (PZ (·::s) ?_) (by rw [tB];rfl)))⟩;show two "add" _ _ _=two "mul" (bK mc.as mc.b x) (2 % mc.b) mc.b;rw [pT,F7,show bK mc.as mc.b x+bK mc.as mc.b x=bK mc.as mc.b x * 2 by omega];simp [Int.mul_emod]
theorem Dt:eI ⟨"fewer",.two "sub" (.hole 0) (.gap 0 99),[.int 1,.tup [.str "low",.int 0],.int 5]⟩:=by
 intro mc t f a b s k hA ht hf hc hs;have l3:s.length<=63:=by omega
 have l2:s.length<=62:=by omega
 obtain ⟨x,y,f1,f2,rfl,h1,h2,rfl⟩:=jD hf;cases eE h1;obtain ⟨n,rfl,hn,rfl⟩:=iV h2;have n0:0<=n:=ht.2.2.1;have e:n % 100=n:=Qi n0 (by omega);have hc1:mc.cs=a++1::(n % 100)::(5::b):=hc;rw [e] at hc1;have hc2:mc.cs=(a++[1,n])++5::b:=by rw [hc1];simp
 have g1:=qC (s:=bK mc.as mc.b x::s) (k:=k) hc1 n0 (by rw [Pp];omega);have g2:=yC (x:=bK mc.as mc.b x) (y:=n % mc.b) (s:=s) (k:=k) hc2 hA.b2 l3;exact ⟨2,by decide,g1.trans (hZ g2 (eQ rfl (by simp)) (eQ rfl (by rw [tB];rfl)))⟩
theorem HL:eI ⟨"far",.two "add" (.hole 0) (.gap 0 9999),[.int 2,.tup [.str "low",.int 0],.tup [.str "high",.int 0],.int 4]⟩:=by
 intro mc t f a b s k hA ht hf hc hs;have l3:s.length<=63:=by omega
 have l2:s.length<=62:=by omega
 obtain ⟨x,y,f1,f2,rfl,h1,h2,rfl⟩:=jD hf;cases eE h1;obtain ⟨n,rfl,hn,rfl⟩:=iV h2;have n0:0<=n:=ht.2.2.1;have hc1:mc.cs=a++2::(n % 100)::(n / 100)::(4::b):=hc;have hc2:mc.cs=(a++[2,n % 100,n / 100])++4::b:=by rw [hc1];simp
 have g1:=CJ (s:=bK mc.as mc.b x::s) (k:=k) hc1 (by omega) (by omega) (by rw [Pp];omega);rw [show n / 100 * 100+n % 100=n by omega] at g1;have g2:=uF (x:=bK mc.as mc.b x) (y:=n % mc.b) (s:=s) (k:=k) hc2 hA.b2 l3;exact ⟨2,by decide,g1.trans (hZ g2 (eQ rfl (by simp)) (eQ rfl (by rw [tB];rfl)))⟩
theorem By:eI ⟨"addmul",.two "add" (.two "mul" (.hole 0) (.hole 1)) (.gap 0 99),[.int 6,.int 12,.tup [.str "low",.int 0]]⟩:=by
 intro mc t f a b s k hA ht hf hc hs;have l3:s.length<=63:=by omega
 have l2:s.length<=62:=by omega
 obtain ⟨u,y,f1,f2,rfl,h1,h2,rfl⟩:=jD hf;obtain ⟨x,z,f3,f4,rfl,h3,h4,rfl⟩:=jD h1;cases eE h3;cases eE h4;obtain ⟨n,rfl,hn,rfl⟩:=iV h2;have n0:0<=n:=ht.2.2.1;have e:n % 100=n:=Qi n0 (by omega);have hc1:mc.cs=a++6::(12::(n % 100)::b):=hc;rw [e] at hc1;have hc2:mc.cs=(a++[6])++12::n::b:=by rw [hc1];simp
 have g1:=CK (x:=bK mc.as mc.b x) (y:=bK mc.as mc.b z) (s:=s) (k:=k) hc1 hA.b2 l3;have g2:=uI (x:=two "mul" (bK mc.as mc.b x) (bK mc.as mc.b z) mc.b) (s:=s) (k:=k) hc2 n0 l3;refine ⟨2,by decide,g1.trans (hZ g2 (eQ rfl (by simp)) (eQ (PZ (·::s) ?_) (by rw [tB];rfl)))⟩;show _=two "add" (two "mul" (bK mc.as mc.b x) (bK mc.as mc.b z) mc.b) (n % mc.b) mc.b;rw [pT];simp [Int.add_emod]
theorem Bz:eI ⟨"turned",.two "less" (.gap 0 99) (.hole 0),[.int 1,.tup [.str "low",.int 0],.int 14,.int 7]⟩:=by
 intro mc t f a b s k hA ht hf hc hs;have l3:s.length<=63:=by omega
 have l2:s.length<=62:=by omega
 obtain ⟨y,x,f1,f2,rfl,h1,h2,rfl⟩:=jD hf;cases eE h2;obtain ⟨n,rfl,hn,rfl⟩:=iV h1;have n0:0<=n:=ht.2.1.1;have e:n % 100=n:=Qi n0 (by omega);have hc1:mc.cs=a++1::(n % 100)::(14::7::b):=hc;rw [e] at hc1;have hc2:mc.cs=(a++[1,n])++14::(7::b):=by rw [hc1];simp
 have hc3:mc.cs=(a++[1,n,14])++7::b:=by rw [hc1];simp
 have g1:=qC (s:=bK mc.as mc.b x::s) (k:=k) hc1 n0 (by rw [Pp];omega);have g2:=CI (x:=bK mc.as mc.b x) (y:=n % mc.b) (s:=s) (k:=k) hc2 (lY hA x ht.2.2) (lY hA (.num n) ht.2.1) l2;have g3:=Ad (x:=n % mc.b) (y:=bK mc.as mc.b x) (s:=s) (k:=k) hc3 hA.b2 l3;exact ⟨3,by decide,(g1.trans (hZ g2 (eQ rfl (by simp)) rfl)).trans (hZ g3 (eQ rfl (by simp)) (eQ rfl (by rw [tB];rfl)))⟩
theorem Ft:eI ⟨"pair",.two "sub" (.gap 0 99) (.gap 1 99),[.int 1,.tup [.str "low",.int 0],.int 1,.tup [.str "low",.int 1],.int 5]⟩:=by
 intro mc t f a b s k hA ht hf hc hs;have l3:s.length<=63:=by omega
 have l2:s.length<=62:=by omega
 obtain ⟨x,y,f1,f2,rfl,h1,h2,rfl⟩:=jD hf;obtain ⟨m,rfl,hm,rfl⟩:=iV h1;obtain ⟨n,rfl,hn,rfl⟩:=iV h2;have n0:0<=n:=ht.2.2.1;have e:n % 100=n:=Qi n0 (by omega);have m0:0<=m:=ht.2.1.1;have e2:m % 100=m:=Qi m0 (by omega);have hc1:mc.cs=a++1::(m % 100)::(1::(n % 100)::5::b):=hc;rw [e,e2] at hc1;have hc2:mc.cs=(a++[1,m])++1::n::(5::b):=by rw [hc1];simp
 have hc3:mc.cs=(a++[1,m,1,n])++5::b:=by rw [hc1];simp
 have g1:=qC (s:=s) (k:=k) hc1 m0 l3;have g2:=qC (s:=m % mc.b::s) (k:=k) hc2 n0 (by rw [Pp];omega);have g3:=yC (x:=m % mc.b) (y:=n % mc.b) (s:=s) (k:=k) hc3 hA.b2 l3;exact ⟨3,by decide,(g1.trans (hZ g2 (eQ rfl (by simp)) rfl)).trans (hZ g3 (eQ rfl (by simp)) (eQ rfl (by rw [tB];rfl)))⟩
def Wq (mc:MC) (t:Tr) (ns:List Int) (d:Nat):Prop:=∀ (a b s:List Int) (k:List Nat),mc.cs=a++(ns++b)->s.length+d<=61->∃ m,m<=ns.length/\Go mc m (at_ s a.length k) (at_ (bK mc.as mc.b t::s) (a.length+ns.length) k)
theorem Wq.mono {d e:Nat} (h:Wq mc t ns d) (l:d<=e):Wq mc t ns e:=λa b s k hc hs=>h a b s k hc (by omega)
theorem DZ {d:Nat}:∀ (l:List (Tr × List Int)),(∀ x ∈ l,Wq mc x.1 x.2 d)->∀ (a b s:List Int) (k:List Nat),mc.cs=a++((l.map (·.2)).flatten++b)->s.length+l.length+d<=62 ->
  ∃ m,m<=(l.map (·.2)).flatten.length/\Go mc m (at_ s a.length k) (at_ ((l.map λx=>bK mc.as mc.b x.1).reverse++s) (a.length+(l.map (·.2)).flatten.length) k)
 | [],_,a,b,s,k,_,_=>⟨0,Pq _,.nil⟩
 | x::l,h,a,b,s,k,hc,hs=>by
  rw [PB,Qw,Qa] at hc;rw [Pp] at hs;obtain ⟨m1,l1,g1⟩:=h x P0 a _ s k hc (by omega);obtain ⟨m2,l2,g2⟩:=DZ l (λy hy=>h y (PR _ hy)) (a++x.2) b (bK mc.as mc.b x.1::s) k (by rw [hc,Qa]) (by rw [Pp];omega);refine ⟨m1+m2,by rw [PB,Qw,tB];omega,g1.trans (hZ g2 (eQ rfl (by rw [tB])) (eQ ?_ ?_))⟩
  ·rw [PB,Ry,Qa];rfl
  ·rw [PB,Qw,tB,tB];omega
theorem Aq {mc:MC} {d:Nat} {f:Tr->D->Option (List D)}:∀ {ts:List Tr} {cs:List D} {SX:List (List D)},ts.length=cs.length->gM f ts cs=SX.map some->(∀ t ∈ ts,∀ c es,f t c=some es->∃ ns:List Int,es=ns.map D.int/\Wq mc t ns d) ->
  ∃ l:List (Tr × List Int),l.map (·.1)=ts/\SX.flatten=((l.map (·.2)).flatten).map D.int/\∀ x ∈ l,Wq mc x.1 x.2 d
 | [],[],SX,_,h,_=>by
  have:SX=[]:=by cases SX with | nil=>rfl | cons _ _=>cases h
  subst this;exact ⟨[],rfl,rfl,λx hx=>(nomatch hx)⟩
 | [],c::cs,_,h,_,_=>by cases h
 | t::ts,[],_,h,_,_=>by cases h
 | t::ts,c::cs,SX,hl,h,hf=>by
  cases SX with
  | nil=>cases h
  | cons x SX =>
   have h':f t c::gM f ts cs=some x::SX.map some:=h;injection h' with h1 h2;obtain ⟨ns,e1,r1⟩:=hf t P0 c x h1;obtain ⟨l,e2,e3,r2⟩:=Aq (mc:=mc) (d:=d) (f:=f) (ts:=ts) (cs:=cs) (SX:=SX) (by simpa using hl) h2 λt ht=>hf t (PR _ ht);refine ⟨(t,ns)::l,by rw [PB,e2],by rw [Qw,e1,e3,PB,Qw,PY],λy hy=>?_⟩;rcases Py.mp hy with rfl | hy
   ·exact r1
   ·exact r2 y hy
theorem qJ {mc:MC} (hA:okA mc) (hp:∀ p ∈ ps,fY p.pt=true/\eI p/\∀ t f,cO p.pt t=some f->f.1.length<=2):∀ (n:Nat) (t:Tr) (c:D) (es:List D),UO t->eY ps n t c=some es->∃ ns:List Int,es=ns.map D.int/\Wq mc t ns (2 * a9 t)
 | 0,_,_,_,_,h=>by cases h
 | n+1,t,c,es,ok,h=>by
  have h:(match nV c with | none=>none | some x=>if x.1="pick" then mx (eY ps n) t x.2 else kN (eY ps n) ps t x.1 x.2)=some es:=h
  cases ec:nV c with
  | none=>rw [ec] at h;cases h
  | some x =>
   rw [ec] at h;dsimp only at h;by_cases hpk:x.1="pick"
   ·rw [Ph hpk] at h;obtain ⟨t1,t2,t3,ca,cb,cd,xa,xb,xd,rfl,_,la,lb,ld,rfl⟩:=iQ h;obtain ⟨n1,e1,r1⟩:=qJ hA hp n t1 ca xa ok.1 la;obtain ⟨n2,e2,r2⟩:=qJ hA hp n t2 cb xb ok.2.1 lb;obtain ⟨n3,e3,r3⟩:=qJ hA hp n t3 cd xd ok.2.2 ld;subst e1 e2 e3;have hj:=i7 8 9 (n3.length:Int);let L:=n2++fN 8 9 (n3.length:Int);refine ⟨n1++(fN 10 11 (L.length:Int)++(L++n3)),?_,?_⟩
    ·unfold f6 ml;have eL:((n2.map D.int++(fN 8 9 ((n3.map D.int).length:Int)).map D.int).length:Int)=(L.length:Int):=by simp [L]
     rw [eL,Pd];simp [L]
    ·intro a b s k hc hs;have d1:a9 t1+1<=a9 (.pick t1 t2 t3):=by simp only [a9];omega
     have d2:a9 t2+1<=a9 (.pick t1 t2 t3):=by simp only [a9];omega
     have d3:a9 t3+1<=a9 (.pick t1 t2 t3):=by simp only [a9];omega
     obtain ⟨m1,l1,g1⟩:=r1 a (fN 10 11 (L.length:Int)++(L++n3)++b) s k (by rw [hc];simp) (by omega);have g2:=EZ (mc:=mc) (a:=a++n1) (b:=L++n3++b) (n:=L.length) (x:=bK mc.as mc.b t1) (s:=s) (k:=k) (by rw [hc];simp);have g12:=g1.trans (hZ g2 (eQ rfl (by rw [tB])) rfl);by_cases hz:bK mc.as mc.b t1=0
     ·rw [Ph hz] at g12;obtain ⟨m3,l3,g3⟩:=r3 (a++n1++fN 10 11 (L.length:Int)++L) b s k (by rw [hc];simp) (by omega);refine ⟨m1+1+m3,?_,g12.trans (hZ g3 (eQ rfl ?_) (eQ ?_ ?_))⟩
      ·have:=i7 10 11 (L.length:Int);have j2:(2:Int)<=fU L.length:=by unfold fU;split <;> omega
       simp only [tB];omega
      ·simp only [tB]
      ·show bK mc.as mc.b t3::s=(if bK mc.as mc.b t1=0 then bK mc.as mc.b t3 else bK mc.as mc.b t2)::s;rw [Ph hz]
      ·simp only [tB];omega
     ·rw [M1 hz] at g12;obtain ⟨m3,l3,g3⟩:=r2 (a++n1++fN 10 11 (L.length:Int)) (fN 8 9 (n3.length:Int)++n3++b) s k (by rw [hc];simp [L]) (by omega);have g4:=EY (mc:=mc) (a:=a++n1++fN 10 11 (L.length:Int)++n2) (b:=n3++b) (n:=n3.length) (s:=bK mc.as mc.b t2::s) (k:=k) (by rw [hc];simp [L]);refine ⟨m1+1+(m3+1),?_,g12.trans ((hZ g3 (eQ rfl ?_) rfl).trans (hZ g4 (eQ rfl ?_) (eQ ?_ ?_)))⟩
      ·have:=i7 10 11 (L.length:Int);have j2:(2:Int)<=fU L.length:=by unfold fU;split <;> omega
       have lL:L.length=n2.length+(fN 8 9 (n3.length:Int)).length:=tB;simp only [tB];omega
      ·simp only [tB];omega
      ·simp only [tB]
      ·show bK mc.as mc.b t2::s=(if bK mc.as mc.b t1=0 then bK mc.as mc.b t3 else bK mc.as mc.b t2)::s;rw [M1 hz]
      ·have lL:L.length=n2.length+(fN 8 9 (n3.length:Int)).length:=tB;simp only [tB];omega
   ·rw [M1 hpk] at h;obtain ⟨p,g,SX,e1,e2,hl,e,rfl⟩:=iP h;have hpm:=(hE e1).1;obtain ⟨nh,pg,two⟩:=hp p hpm;have tail:=k8 nh e2
    obtain ⟨l,f1,f2,r⟩:=Aq (mc:=mc) (d:=2 * a9 t - 2) (f:=eY ps n) hl e λx hx c es hq=>by have hs:=(iR (tail x hx)).2;obtain ⟨ns,q1,q2⟩:=qJ hA hp n x c es (iA t x ok (mj (tail x hx))) hq;exact ⟨ns,q1,q2.mono (by omega)⟩
    refine ⟨(l.map (·.2)).flatten++(cK p).map (kM g.2.1 g.2.2),?_,?_⟩
    ·unfold fQ;rw [f2,PY,Ra];rfl
    ·intro a b s k hc hs
     have ll:l.length<=2:=by have:=PZ List.length f1;rw [Pd] at this;have:=two t g e2;omega
     have dp:=kh t;obtain ⟨m1,l1,g1⟩:=DZ l r a ((cK p).map (kM g.2.1 g.2.2)++b) s k (by rw [hc,Qa]) (by omega);obtain ⟨m2,l2,g2⟩:=pg mc t g (a++(l.map (·.2)).flatten) b s k hA ok e2 (by rw [hc];simp) (by omega);have el:(l.map λx=>bK mc.as mc.b x.1)=g.1.map (bK mc.as mc.b):=by rw [<- f1,Ra];rfl
     rw [el] at g1;refine ⟨m1+m2,by rw [tB,Pd];omega,g1.trans (hZ g2 (eQ rfl (by rw [tB])) (eQ rfl ?_))⟩;rw [tB,tB,Pd];omega
theorem EK {x:Int} (h:mc.cs=a++0::b):jg mc (n+1) (at_ [x] a.length [])=.ends x:=by
 have e:fJ mc (at_ [x] a.length [])=some ⟨[x],a.length+1,[],true⟩:=by rw [fZ (args:=[]) h (by decide) rfl,show Vf 0="end" from rfl,M1 (je (by decide +kernel) (by decide +kernel) (by decide +kernel))];unfold W2;rw [M1 (by decide +kernel),Ph rfl];rfl
 show (match fJ mc _ with | none=>_ | some s=>_)=_;rw [e];rfl
theorem Fc (hA:okA mc) (hp:∀ p ∈ ps,fY p.pt=true/\eI p/\∀ t f,cO p.pt t=some f->f.1.length<=2) {c:D} (ok:UO t) (dp:a9 t<=8) (h:eY ps n t c=some es) (hc:mc.cs.map D.int=es++[.int 0]) {N:Nat} (hN:mc.cs.length<=N):jg mc N ⟨[],0,[],false⟩=.ends (bK mc.as mc.b t):=by
 obtain ⟨ns,rfl,r⟩:=qJ hA hp n t c es ok h
 have inj:∀ (u v:List Int),u.map D.int=v.map D.int->u=v:=by
  intro u
  induction u with
  | nil=>intro v e;cases v with | nil=>rfl | cons _ _=>cases e
  | cons x u ih =>
   intro v e
   cases v with
   | nil=>cases e
   | cons y v =>rw [PB,PB] at e;injection e with e1 e2;injection e1 with e1;rw [e1,ih v e2]
 have ec:mc.cs=ns++[0]:=inj _ _ (by rw [hc,PY];rfl);obtain ⟨m,l,g⟩:=r [] [0] [] [] (by rw [ec];rfl) (by show 0+2 * a9 t<=61;omega);rw [ec,tB] at hN;have l1:([0]:List Int).length=1:=rfl;obtain ⟨j,rfl⟩:∃ j,N=m+(j+1):=⟨N - m - 1,by omega⟩
 have e2:=g.run (j+1);refine Eq.trans e2 ?_;have z:([]:List Int).length+ns.length=ns.length:=by simp
 rw [z];exact EK ec
theorem hl2 {p:Pc} (h:iO p.pt<=2):∀ t f,cO p.pt t=some f->f.1.length<=2:=λt f e=>by rw [lZ _ _ _ e];exact h
def argsOk (as:List Int) (b:Int):Prop:=as.length=4/\(∀ x ∈ as,0<=x/\x < b)/\2<=b/\b<=10000
def okO (o:Str):Prop:=o="add"\/o="sub"\/o="mul"\/o="less"
theorem HA (h:okO o):¬ o="num"/\¬ o="arg"/\¬ o="pick":=by rcases h with rfl | rfl | rfl | rfl <;> decide +kernel
theorem Cd {as:List Int} {b k:Int} (h:argsOk as b) (h0:0<=k) (h1:k<=3):as[k.toNat]?=some (as.getD k.toNat 0):=by
 have hl:=h.1;have hk:k.toNat < as.length:=by omega
 rw [PX,Pe hk];rfl
theorem nP {as:List Int} {b:Int} (h:argsOk as b):∀ t:Tr,UO t->0<=bK as b t/\bK as b t < b
 | .num n,_=>⟨Qn _ (by have:=h.2.2.1;omega),Qh _ (by have:=h.2.2.1;omega)⟩
 | .arg k,ht=>h.2.1 _ (PJ (Cd h ht.1 ht.2))
 | .two o x y,_=>jR h.2.2.1
 | .pick x y z,ht=>by
  unfold bK;split
  ·exact nP h z ht.2.2
  ·exact nP h y ht.2.1
def mq (n:Nat) (ds:List D) (d:D):Prop:=∃ t as b,ds=[toD t,.tup (as.map D.int),.int b]/\UO t/\a9 t<=n/\argsOk as b/\d=.int (bK as b t)
theorem Ef {x y:Str} (h:x=y):decide (x=y)=true:=Pw h
theorem sY {x y:Str} (h:¬ x=y):decide (x=y)=false:=Pj h
def D6 (K:W.Frag):Sp:=λvs H Q _=>∃ (a t:Addr) (ns:List Int) (p q:Int) (rest:List V),vs=[.ref a,.ref t]/\Yu K H a ns/\H t=some (.lst (.int p::.int q::rest))/\0<=p /\
 ∀ (b:Int) (H':Hp) (p' q':Int),S4 t H H'->H' t=some (.lst (.int p'::.int q'::rest))->0<=p'->2<=b->b<=10000->Q (.int b) H'
def D0 (K:W.Frag):Sp:=λvs H Q _=>∃ (a t:Addr) (ns:List Int) (b p q:Int) (rest:List V),vs=[.ref a,.ref t,.int b]/\Yu K H a ns/\H t=some (.lst (.int p::.int q::rest))/\0<=p/\2<=b/\b<=10000 /\
 ∀ (v:V) (H':Hp) (as:List Int) (p' q':Int),S4 t H H'->H' t=some (.lst (.int p'::.int q'::rest))->0<=p'->argsOk as b->Dat K H' (.tup (as.map D.int)) v->Q v H'
theorem vc (T:Txt P w K mg) (Ld:Ok P w base k T.Kr (wc K)):Ok P w base (k+1) T.Ms (D6 K):=by
 refine T.Ms.f.ok WV (λvs H Q E h=>?_) (λcdv A outer s H vs Q E hr h=>?_)
 ·obtain ⟨a,t,ns,p,q,rest,rfl,_⟩:=h;rfl
 have nd:=WV.nd;obtain ⟨a,t,ns,p,q,rest,rfl,hS,hT,hp,post⟩:=h;refine ⟨_,(aH (aP (pc (D:=T.Kr) Ld hr (aD (pv 0) (aD (pv 1) (aD (bY (aD aF (aD aF (aD aF (aD aF (aD aF (aD aF aC))))))) aC)))))),?_⟩;refine ⟨_,rfl,_,rfl,dB (by decide),λl hl=>?_⟩;have nel:l≠t:=λz=>by rw [z,hT] at hl;cases hl
 have s1:SH H (upd H l (.lst [.int 2,.int 3,.int 5,.int 10,.int 256,.int 10000])):=aV hl _;refine ⟨a,t,l,ns,_,p,q,rest,rfl,hS.same s1,SO.of aI,nel,by decide,by decide,s1 _ _ hT,hp,λi x H5 p5 q5 b5 t5 g5 hx=>?_⟩
 obtain ⟨m,em,hm⟩:∃ m:Int,x=.int m/\2<=m/\m<=10000:=by have:=PJ hx;simp only [Py,P8,Qx] at this;rcases this with e | e | e | e | e | e <;> exact ⟨_,e,by decide,by decide⟩
 subst em;exact post m H5 p5 q5 (s1.but.trans b5) t5 g5 hm.1 hm.2
theorem uU (T:Txt P w K mg) (Kp:Ok P w base k T.J8 (rN K)) (Ld:Ok P w base k T.Kr (wc K)):Ok P w base (k+1) T.Mo (D0 K):=by
 refine T.Mo.f.ok WU (λvs H Q E h=>?_) (λcdv A outer s H vs Q E hr h=>?_)
 ·obtain ⟨a,t,ns,b,p,q,rest,rfl,_⟩:=h;rfl
 have nd:=WU.nd;obtain ⟨a,t,ns,b,p,q,rest,rfl,hS,hT,hp,hb,hb2,post⟩:=h;refine ⟨_,(aH (aP (eP dY rfl T.KL fP (aD (eV (own:=["_law_k"]) (fr:=[0,1,2]) (N':=["_law_k","_law_script","_law_town","_law_base"]) (ko rfl T.MF (aD aF aC)) rfl (by show dS ["_law_script","_law_town","_law_base"] (λx=>(aK lO).names.lookup x) _ _ _ _=true;decide +kernel) rfl (λ_ _ _ _ _=>(a7 (i:=0) (by show List.Nodup [("_law_k":Str),("_law_script":Str),("_law_town":Str),("_law_base":Str)];decide +kernel) rfl (Or.inl rfl))) (λ_ _ _ _ _=>c7) (λ_ _ _ _ _=>(pc (D:=T.Kr) Ld hr (aD (pv 1) (aD (pv 2) (aD (bY (aD aF (aD aF (aD (bL oy (pv 3) aF) (aD (pc (D:=T.J8) Kp hr (aD (pv 1) (aD (pv 2) (aD (pv 3) aC)))) aC))))) aC)))))) aC)))),?_⟩;refine jO (iL ?_)
 refine rp 4 (λR hR=>hR) (by decide) rfl
  (λl i G'=>∃ (as:List Int) (p' q':Int),S4 t H G'/\G' t=some (.lst (.int p'::.int q'::rest))/\0<=p'/\G' l=some (.lst (as.map V.int))/\as.length=i/\(∀ x ∈ as,0<=x/\x < b)) (λl hl=>?_) (λl i G' hl hi pn=>?_) (λl G' hl pn=>?_)
 ·have nl:l≠t:=λz=>by rw [z,hT] at hl;cases hl
  exact ⟨[],p,q,(aV hl _).but,(aV hl _) _ _ hT,hp,aI,rfl,λx hx=>absurd hx (by simp)⟩
 ·obtain ⟨as,p',q',bt,tt,gp,hl',la,oka⟩:=pn;have nl:l≠t:=λz=>by rw [z,hT] at hl;cases hl
  refine ⟨_,rfl,_,rfl,_,rfl,b,1,rfl,rfl,_,rfl,_,rfl,_,rfl,a,t,ns,b,p',q',rest,rfl,hS.but bt hT,tt,gp,by omega,by omega,λr H1 p1 q1 b1 t1 g1 r0 r1=>⟨dB (by simp),λm hm=>?_⟩⟩;have nm:m≠t:=λz=>by rw [z,t1] at hm;cases hm
  have hl1:=b1 l _ nl hl';have nml:m≠l:=λz=>by rw [z,hl1] at hm;cases hm
  have s2:SH H1 (upd H1 m (.lst [.int 0,.int 1,.int (b - 1),.int r])):=aV hm _;have bt2:=(bt.trans b1).trans s2.but;refine ⟨a,t,m,ns,_,p1,q1,rest,rfl,hS.but bt2 hT,SO.of aI,nm,by simp,by simp,s2 _ _ t1,g1,λj x H5 p5 q5 b5 t5 g5 hx=>?_⟩
  obtain ⟨y,ey,hy⟩:∃ y:Int,x=.int y/\0<=y/\y < b:=by
   have:=PJ hx;simp only [Py,P8,Qx] at this;rcases this with e | e | e | e
   ·exact ⟨_,e,by omega,by omega⟩
   ·exact ⟨_,e,by omega,by omega⟩
   ·exact ⟨_,e,by omega,by omega⟩
   ·exact ⟨_,e,by omega,by omega⟩
  subst ey;have YC:=b5 l _ nl (s2 _ _ hl1);refine ⟨as.map V.int,YC,cM (by rw [Pd];omega),⟨_,rfl⟩,as++[y],p5,q5,?_,?_,g5,?_,by simp [la],?_⟩
  ·intro c o hc hco;have nc:c≠l:=aU hco hl;rw [aS nc];exact b5 c o hc (bt2 c o hc hco)
  ·rw [aS (PL nl)];exact t5
  ·rw [aI,PY];rfl
  ·intro z hz;rcases P9.mp hz with hz | hz
   ·exact oka z hz
   ·rw [PN.mp hz];exact hy
 ·obtain ⟨as,p',q',bt,tt,gp,hl',la,oka⟩:=pn;refine ⟨l,as.map V.int,rfl,.inl ⟨SO.of hl',λu hu=>?_⟩⟩;have nu:u≠t:=λz=>by rw [z,tt] at hu;cases hu
  have s8:SH G' (upd G' u (.tup (as.map V.int))):=aV hu _;exact post _ _ as p' q' (bt.trans s8.but) (s8 _ _ tt) gp ⟨la,oka,hb,hb2⟩ (Dat.tupI (Tg.of aI) (dN as))
def Ca (ds:List D) (d:D):Prop:=∃ o x y b,ds=[.str o,.int x,.int y,.int b]/\okO o/\2<=b/\b<=10000/\0<=x/\x < b/\0<=y/\y < b/\d=.int (two o x y b)
theorem xA (T:Txt P w K mg)  : Ok P w base (k+1) T.LA (Th K Ca):=by
 refine T.LA.f.ok Xl (λvs H Q E h=>?_) (λcdv A outer s H vs Q E hr h=>?_)
 ·obtain ⟨ds,d,hd,⟨o,x,y,b,rfl,_⟩,_⟩:=h;exact hd.length.symm
 have nd:=Xl.nd;obtain ⟨ds,d,hd,⟨o,x,y,b,rfl,ho,hb,hb2,hx,hx2,hy,hy2,rfl⟩,post⟩:=h;obtain ⟨v0,v1,v2,v3,rfl,q0,q1,q2,q3⟩:=Gf hd;refine ⟨_,(aE (bE (aN bV (pv 0) aO (aT _)) (aH (aP (bL eZ (bL cJ (pv 1) (pv 2)) (pv 3)))) aQ)
 (aE (bE (aN bV (pv 0) aO (aT _)) (aH (aP (bL eZ (bL oy (pv 1) (pv 2)) (pv 3)))) aQ)
 (aE (bE (aN bV (pv 0) aO (aT _)) (aH (aP (bL eZ (bL ow (pv 1) (pv 2)) (pv 3)))) aQ)
 (aH (aP (fG (aN km (pv 1) (pv 2) (aT _)) aF aF)))))),?_⟩
 refine aR (K:=K) (b:=decide (o="add")) (aJ (bI (aA q0) aL)) (λc H1 s1=>?_) (λc H1 s1=>?_)
 ·refine bJ (K:=K) (d:=.int (two o x y b)) ?_ λv H' s q=>post v H' (s1.trans s) q;have e:two o x y b=(x+y) % b:=by rw [Po c];rfl
  rw [e];exact jN (c8 (aA (s1.dat q1)) (aA (s1.dat q2))) (aA (s1.dat q3)) (by omega)
 have q0:=s1.dat q0;have q1:=s1.dat q1;have q2:=s1.dat q2;have q3:=s1.dat q3;have n1:=Pu c;refine aR (K:=K) (b:=decide (o="sub")) (aJ (bI (aA q0) aL)) (λc H2 s2=>?_) (λc H2 s2=>?_)
 ·refine bJ (K:=K) (d:=.int (two o x y b)) ?_ λv H' s q=>post v H' (s1.trans (s2.trans s)) q;have e:two o x y b=(x - y) % b:=by rw [Po c];rfl
  rw [e];exact jN (vN (aA (s2.dat q1)) (aA (s2.dat q2))) (aA (s2.dat q3)) (by omega)
 have q0:=s2.dat q0;have q1:=s2.dat q1;have q2:=s2.dat q2;have q3:=s2.dat q3;have n2:=Pu c;refine aR (K:=K) (b:=decide (o="mul")) (aJ (bI (aA q0) aL)) (λc H3 s3=>?_) (λc H3 s3=>?_)
 ·refine bJ (K:=K) (d:=.int (two o x y b)) ?_ λv H' s q=>post v H' (s1.trans (s2.trans (s3.trans s))) q;have e:two o x y b=x * y % b:=by rw [Po c];rfl
  rw [e];exact jN (vK (aA (s3.dat q1)) (aA (s3.dat q2)) (.inr ⟨by omega,by omega⟩)) (aA (s3.dat q3)) (by omega)
 have n3:=Pu c;refine bJ (K:=K) (d:=.int (two o x y b)) ?_ λv H' s q=>post v H' (s1.trans (s2.trans (s3.trans s))) q
 have eo:o="less":=by
  rcases ho with h | h | h | h
  ·exact absurd h n1
  ·exact absurd h n2
  ·exact absurd h n3
  ·exact h
 have e:two o x y b=if x < y then 1 else 0:=by rw [eo];rfl
 rw [e];refine mC (b:=decide (x < y)) (aJ (cQ (p:=λi j=>decide (i < j)) (aA (s3.dat q1)) (aA (s3.dat q2)))) (λc2=>?_) (λc2=>?_)
 ·rw [Ph (Po c2)];exact aG
 ·rw [M1 (Pu c2)];exact aG
theorem su (T:Txt P w K mg) (M9:Ok P w base k T.LA (Th K Ca)) (KZ:Ok P w base k T.Ka (Th K (mq n))):Ok P w base (k+1) T.Ka (Th K (mq (n+1))):=by
 refine T.Ka.f.ok Wh (λvs H Q E h=>?_) (λcdv A outer s H vs Q E hr h=>?_)
 ·obtain ⟨ds,d,hd,⟨t,as,b,rfl,_⟩,_⟩:=h;exact hd.length.symm
 have nd:=Wh.nd;obtain ⟨ds,d,hd,⟨t,as,b,rfl,ht,hn,ha,rfl⟩,post⟩:=h;obtain ⟨v0,v1,v2,rfl,q0,q1,q2⟩:=sT hd;refine ⟨_,(aE (bE (aN bV (aY aZ (pv 0) aF) aO (aT _)) (aH (aP (bL eZ (aY aZ (pv 0) aF) (pv 2)))) aQ)
 (aE (bE (aN bV (aY aZ (pv 0) aF) aO (aT _)) (aH (aP (aY aZ (pv 1) (aY aZ (pv 0) aF)))) aQ)
 (aE (bE (aN bV (aY aZ (pv 0) aF) aO (aT _)) (aH (aP (pc (D:=T.Ka) KZ hr (aD (fG (aN bV (pc (D:=T.Ka) KZ hr (aD (aY aZ (pv 0) aF) (aD (pv 1) (aD (pv 2) aC)))) aF (aT _)) (aY aZ (pv 0) aF) (aY aZ (pv 0) aF)) (aD (pv 1) (aD (pv 2) aC)))))) aQ)
 (aH (aP (pc (D:=T.LA) M9 hr (aD (aY aZ (pv 0) aF) (aD (pc (D:=T.Ka) KZ hr (aD (aY aZ (pv 0) aF) (aD (pv 1) (aD (pv 2) aC)))) (aD (pc (D:=T.Ka) KZ hr (aD (aY aZ (pv 0) aF) (aD (pv 1) (aD (pv 2) aC)))) (aD (pv 2) aC)))))))))),?_⟩
 have hb0:0 < b:=by have:=ha.2.2.1;omega
 cases t with
 | num m =>have q0:Dat K H (.tup [.str "num",.int m]) v0:=q0;refine aR (K:=K) (b:=true) (RT.as (aJ (bI (a6 (k:=0) (aA q0) aG rfl) aL)) (Ef rfl)) (λc H2 s2=>?_) (λc=>nomatch c);exact bJ (K:=K) (d:=.int (m % b)) (jN (a6 (k:=1) (aA (s2.dat q0)) aG rfl) (aA (s2.dat q2)) hb0) λv H' s q=>post v H' (s2.trans s) q
 | arg m =>
  have q0:Dat K H (.tup [.str "arg",.int m]) v0:=q0;refine aR (K:=K) (b:=false) (RT.as (aJ (bI (a6 (k:=0) (aA q0) aG rfl) aL)) (sY (by decide +kernel))) (λc=>nomatch c) (λc H2 s2=>?_);refine aR (K:=K) (b:=true) (RT.as (aJ (bI (a6 (k:=0) (aA (s2.dat q0)) aG rfl) aL)) (Ef rfl)) (λc H3 s3=>?_) (λc=>nomatch c);have S8:=s2.trans s3;have em:m=((m.toNat:Nat):Int):=by have:=ht.1;omega
  refine bJ (K:=K) (d:=.int (as.getD m.toNat 0)) (a6 (k:=m.toNat) (ds:=as.map D.int) (aA (S8.dat q1)) (RE.as (a6 (k:=1) (aA (S8.dat q0)) aG rfl) (PZ D.int em)) ?_) λv H' s q=>post v H' (S8.trans s) q;rw [Pr,Cd ha ht.1 ht.2];rfl
 | two o x y =>
  have q0:Dat K H (.tup [.str o,toD x,toD y]) v0:=q0;obtain ⟨n1,n2,n3⟩:=HA ht.1;have dx:a9 x<=n:=by simp only [a9] at hn;omega
  have dy:a9 y<=n:=by simp only [a9] at hn;omega
  refine aR (K:=K) (b:=false) (RT.as (aJ (bI (a6 (k:=0) (aA q0) aG rfl) aL)) (sY n1)) (λc=>nomatch c) (λc H1 s1=>?_);refine aR (K:=K) (b:=false) (RT.as (aJ (bI (a6 (k:=0) (aA (s1.dat q0)) aG rfl) aL)) (sY n2)) (λc=>nomatch c) (λc H2 s2=>?_);have s12:=s1.trans s2;refine aR (K:=K) (b:=false) (RT.as (aJ (bI (a6 (k:=0) (aA (s12.dat q0)) aG rfl) aL)) (sY n3)) (λc=>nomatch c) (λc H3 s3=>?_);have S8:=s12.trans s3;have q0:=S8.dat q0;have q1:=S8.dat q1;have q2:=S8.dat q2;have wx:=nP ha x ht.2.1;have wy:=nP ha y ht.2.2;refine bJ (K:=K) (d:=.int (two o (bK as b x) (bK as b y) b)) (bM (R:=Ca) (aB (a6 (k:=0) (aA q0) aG rfl) (aB (bM (R:=mq n) (d:=.int (bK as b x)) (aB (a6 (k:=1) (aA q0) aG rfl) (aB (aA q1) (aB (aA q2) aM))) ⟨x,as,b,rfl,ht.2.1,dx,ha,rfl⟩) (aB (bM (R:=mq n) (d:=.int (bK as b y)) (aB (a6 (k:=2) (aA q0) aG rfl) (aB (aA q1) (aB (aA q2) aM))) ⟨y,as,b,rfl,ht.2.2,dy,ha,rfl⟩) (aB (aA q2) aM)))) ⟨o,_,_,b,rfl,ht.1,ha.2.2.1,ha.2.2.2,wx.1,wx.2,wy.1,wy.2,rfl⟩) λv H' s q=>post v H' (S8.trans s) q
 | pick x y z =>
  have q0:Dat K H (.tup [.str "pick",toD x,toD y,toD z]) v0:=q0;have dx:a9 x<=n:=by simp only [a9] at hn;omega
  have dy:a9 y<=n:=by simp only [a9] at hn;omega
  have dz:a9 z<=n:=by simp only [a9] at hn;omega
  refine aR (K:=K) (b:=false) (RT.as (aJ (bI (a6 (k:=0) (aA q0) aG rfl) aL)) (sY (by decide +kernel))) (λc=>nomatch c) (λc H1 s1=>?_);refine aR (K:=K) (b:=false) (RT.as (aJ (bI (a6 (k:=0) (aA (s1.dat q0)) aG rfl) aL)) (sY (by decide +kernel))) (λc=>nomatch c) (λc H2 s2=>?_);have s12:=s1.trans s2;refine aR (K:=K) (b:=true) (RT.as (aJ (bI (a6 (k:=0) (aA (s12.dat q0)) aG rfl) aL)) (Ef rfl)) (λc H3 s3=>?_) (λc=>nomatch c);have S8:=s12.trans s3;have q0:=S8.dat q0;have q1:=S8.dat q1;have q2:=S8.dat q2;refine bJ (K:=K) (d:=.int (if bK as b x=0 then bK as b z else bK as b y)) (bM (R:=mq n) (ds:=[toD (if bK as b x=0 then z else y),.tup (as.map D.int),.int b]) (aB (mC (b:=decide (bK as b x=0)) (aJ (mV (bM (R:=mq n) (d:=.int (bK as b x)) (aB (a6 (k:=1) (aA q0) aG rfl) (aB (aA q1) (aB (aA q2) aM))) ⟨x,as,b,rfl,ht.1,dx,ha,rfl⟩) aG)) (λc=>?_) (λc=>?_)) (aB (aA q1) (aB (aA q2) aM))) ?_) λv H' s q=>post v H' (S8.trans s) q
  ·rw [Ph (Po c)];exact a6 (k:=3) (aA q0) aG rfl
  ·rw [M1 (Pu c)];exact a6 (k:=2) (aA q0) aG rfl
  ·by_cases hz:bK as b x=0
   ·rw [Ph hz,Ph hz];exact ⟨z,as,b,rfl,ht.2.2,dz,ha,rfl⟩
   ·rw [M1 hz,M1 hz];exact ⟨y,as,b,rfl,ht.2.1,dy,ha,rfl⟩
def yk (ds es:List D):Prop:=ds=[]/\es=NM.map D.str
theorem sr (T:Txt P w K mg)  : Ok P w base (k+1) T.K4 (kL K yk):=by
 refine T.K4.f.ok Wi (λvs H Q E h=>?_) (λcdv A outer s H vs Q E hr h=>?_)
 ·obtain ⟨ds,es,hd,⟨rfl,_⟩,_⟩:=h;exact hd.length.symm
 have nd:=Wi.nd;obtain ⟨ds,es,hd,⟨rfl,rfl⟩,post⟩:=h;have e0:=hd.VZ;subst e0;refine' ⟨_,?XU,?Y8⟩
 case' XU=>refine' aE ?a ?b
 case' a=>refine' bQ (i:=0) ?c ?d ?e ?f
 case c=>exact nd
 case d=>exact rfl
 case e=>exact Or.inl rfl
 case' f=>refine' bY ?g
 case' g=>refine' aD ?h ?i
 case h=>exact aO
 case' i=>refine' aD ?j ?k
 case j=>exact aO
 case' k=>refine' aD ?l ?m
 case l=>exact aO
 case' m=>refine' aD ?n ?o
 case n=>exact aO
 case' o=>refine' aD ?p ?q
 case p=>exact aO
 case' q=>refine' aD ?r ?s
 case r=>exact aO
 case' s=>refine' aD ?t ?u
 case t=>exact aO
 case' u=>refine' aD ?v ?w
 case v=>exact aO
 case' w=>refine' aD ?x ?y
 case x=>exact aO
 case' y=>refine' aD ?z ?aa
 case z=>exact aO
 case' aa=>refine' aD ?ab ?ac
 case ab=>exact aO
 case' ac=>refine' aD ?ad ?ae
 case ad=>exact aO
 case' ae=>refine' aD ?af ?ag
 case af=>exact aO
 case ag=>exact aC
 case' b=>refine' aH ?ah
 case ah=>exact (aP (bL jr (pv 0) (bY (aD aO (aD aO (aD aO (aD aO aC)))))))
 refine gY (K:=K) (iC (aB aL (aB aL (aB aL (aB aL (aB aL (aB aL (aB aL (aB aL (aB aL (aB aL (aB aL (aB aL (aB aL aM)))))))))))))) λl ys H1 hl s1 hy dy=>?_;refine jO (RC.use (K:=K) (js (a8 (k:=0) (LD.of hy dy)) (jW (iC (aB aL (aB aL (aB aL (aB aL aM)))))) (by decide)) λl2 zs H2 hl2 s2 hz dz=>post l2 zs H2 (s1.trans s2) hz (s1.free hl2) ?_);exact dz
theorem EL (x y:Int):Zj (.int x) (.int y)=decide (x=y):=by unfold Zj;by_cases h:x=y <;> simp [h]
theorem Ah (x:Int):∀ ys:List Int,Zt (.int x) (ys.map V.int)=decide (x ∈ ys)
 | []=>by simp [Zt]
 | y::ys=>by
  have ih:=Ah x ys;unfold Zt at ih ⊢;rw [PB,QJ,ih,EL];by_cases h:y=x
  ·subst h;simp
  ·have h':¬ x=y:=λz=>h z.symm;simp [h,h']
theorem A5 (ys:List Int):(ys.map V.int).all lg=true:=by rw [QF];intro v hv;obtain ⟨y,_,rfl⟩:=Qz.mp hv;rfl
theorem DO {x:Int} {ys:List Int} (h1:RE K ta σ H (.int x)) (h2:RE K tb σ H (.tup (ys.map D.int))):RE K (VE (rIn K false) ta tb) σ H (.bl (decide (x ∈ ys))):=λH1 s Q q =>
 h1 H1 s _ λv H2 s2 q2=>h2 H2 (s.trans s2) _ λw H3 s3 q3=>by obtain ⟨a,vs,ev,hq,hd⟩:=q3.S7;have e:=qm hd;subst e;rw [q2.SN];refine ⟨a,_,ev,.inr hq,rfl,A5 ys,?_⟩;rw [Ah];exact q _ _ (s2.trans s3) (Dat.VW _)
def GI (ds:List D) (d:D):Prop:=∃ i:Int,ds=[.int i]/\d=.int (cG i)
theorem qU (T:Txt P w K mg)  : Ok P w base (k+1) T.LF (Th K GI):=by
 refine T.LF.f.ok V4 (λvs H Q E h=>?_) (λcdv A outer s H vs Q E hr h=>?_)
 ·obtain ⟨ds,d,hd,⟨i,rfl,rfl⟩,_⟩:=h;exact hd.length.symm
 have nd:=V4.nd;obtain ⟨ds,d,hd,⟨i,rfl,rfl⟩,post⟩:=h;obtain ⟨v0,rfl,h0⟩:=ji hd;refine ⟨_,(aE (bE (aN eO (pv 0) (bA (aD aF (aD aF (aD aF (aD aF aC))))) (by with_unfolding_all rfl)) (aH (aP aF)) aQ)
 (aH (aP (fG (aN eO (pv 0) (bA (aD aF (aD aF (aD aF (aD aF (aD aF aC)))))) (by with_unfolding_all rfl)) aF aF)))),?_⟩
 refine aR (K:=K) (b:=decide (i ∈ ([2,9,11,15]:List Int))) (aJ (DO (ys:=[2,9,11,15]) (aA h0) (bF (aB aG (aB aG (aB aG (aB aG aM))))))) (λc H1 s1=>?_) (λc H1 s1=>?_)
 ·have e:cG i=2:=by unfold cG;rw [Ph (Po c)]
  rw [e] at post;exact bJ (K:=K) (d:=.int 2) aG λv H2 s2 q=>post v H2 (s1.trans s2) q
 ·have c:=Pu c;refine bJ (K:=K) (d:=.int (cG i)) (mC (b:=decide (i ∈ ([1,3,8,10,12]:List Int))) (aJ (DO (ys:=[1,3,8,10,12]) (aA (s1.dat h0)) (bF (aB aG (aB aG (aB aG (aB aG (aB aG aM)))))))) (λc2=>RE.as aG ?_) (λc2=>RE.as aG ?_)) λv H2 s2 q=>post v H2 (s1.trans s2) q
  ·unfold cG;rw [M1 c,Ph (Po c2)];rfl
  ·unfold cG;rw [M1 c,M1 (Pu c2)];rfl
theorem nX (ds:List D):Td ds []=ds.isEmpty:=by cases ds <;> rfl
def X8 (a b:Addr) (H H':Hp):Prop:=∀ x o,x≠a->x≠b->H x=some o->H' x=some o
theorem oZ {a b:Addr} (s:SH H H'):X8 a b H H':=λx o _ _ e=>s x o e
theorem X8.trans {a b:Addr} (x:X8 a b H H1) (y:X8 a b H1 H2):X8 a b H H2:=λc o n1 n2 e=>y c o n1 n2 (x c o n1 n2 e)
theorem Iv {n:Int} (h1:¬ nm="load") (h2:¬ nm="skip") (h3:¬ nm="zero"):j9 nm Y6 n=n:=by
 unfold j9
 have e:KTD.datumAt nm Y6=none:=by show (if decide (nm="load")=true then _ else if decide (nm="skip")=true then _ else if decide (nm="zero")=true then _ else _)=_;rw [M1 (by simp [h1]),M1 (by simp [h2]),M1 (by simp [h3])];rfl
 rw [e]
theorem oK (h1:¬ nm="load") (h2:¬ nm="skip") (h3:¬ nm="zero"):iH nm n=false:=by unfold iH;rw [Iv h1 h2 h3];exact Pj (by omega)
theorem Ej:iH "zero" n=decide (9 < n):=by unfold iH;rw [show j9 "zero" Y6 n=9 by kernel_rfl];exact i4 (by omega)
theorem Ei:iH "skip" n=decide (9 < n):=by unfold iH;rw [show j9 "skip" Y6 n=9 by kernel_rfl];exact i4 (by omega)
theorem Eh:iH "load" n=decide (3 < n):=by unfold iH;rw [show j9 "load" Y6 n=3 by kernel_rfl];exact i4 (by omega)
noncomputable def Zd (nm:Str) (num on:Nat) (st:MS):Option (Nat × MS):=if iH nm num=true then none else jS nm num on st
def D3 (K:W.Frag):Sp:=λvs H Q _=>∃ (nm:Str) (num on:Nat) (lp lk:Addr) (st:MS),vs=[.str nm,.int num,.int on,.ref lp,.ref lk]/\nm ∈ WS/\H lp=some (.lst (pV st.pile))/\H lk=some (.lst (XW st.kept))/\lp≠lk/\st.kept.length<=16 /\
 (∀ p,Zd nm num on st=some p->∀ H',X8 lp lk H H'->H' lp=some (.lst (pV p.2.pile))->H' lk=some (.lst (XW p.2.kept))->Q (.int p.1) H') /\
 (Zd nm num on st=none->∀ H' zs ws,X8 lp lk H H'->H' lp=some (.lst zs)->H' lk=some (.lst ws)->Q .SM H')
theorem uY (T:Txt P w K mg)  : Ok P w base (k+1) T.Mr (D3 K):=by
 refine T.Mr.f.ok WW (λvs H Q E h=>?_) (λcdv A outer s H vs Q E hr h=>?_)
 ·obtain ⟨nm,num,on,lp,lk,st,rfl,_⟩:=h;rfl
 have nd:=WW.nd;obtain ⟨nm,num,on,lp,lk,st,rfl,hws,hp,hk,ne,k16,ok,bad⟩:=h;refine ⟨_,(aE (bE (aN eO (pv 0) (bA (aD aO (aD aO aC))) (by with_unfolding_all rfl)) (aE (bE (PW.pt (fH (aN (vA hr) (pv 3) (bY aC) (aT _)) (eR (PW.pt (rj (aN bV (pv 0) aO (aT _)) (nF (aN kl (pv 1) aF (aT _)))))))) (aH (aP gR)) aQ)
 (aH (aP (fG (aN bV (lJ PD QK QZ lD (pv 3)) aF (aT _)) (bL cJ (pv 2) (pv 1)) (pv 2))))) aQ)
 (aE (bE (aN eO (pv 0) (bA (aD aO (aD aO aC))) (by with_unfolding_all rfl)) (aH (aP (fG (PW.pt (rj (aN bV (pv 0) aO (aT _)) (nF (aN kl (pv 1) aF (aT _))))) gR (bL cJ (pv 2) (pv 1))))) aQ)
 (aE (bE (aN bV (pv 0) aO (aT _)) (aE (bE (aN kl (aX aW rfl T.JY bU (aD (pv 4) aC)) aF (aT _)) (aH (aP gR)) aQ)
 (aE (bP (fF PD P5 P7 cC (pv 4) (aD (pv 2) aC)))
 (aH (aP (pv 1))))) aQ)
 (aH (aP (fG (aN (Dp hr) (pv 4) (bY aC) (aT _)) (lJ PD QK QZ lD (pv 4)) gR)))))),?_⟩
 have dp:SG K H (st.pile.reverse.map D.int) (pV st.pile):=dN _;refine aR (K:=K) (b:=decide (nm ∈ (["zero","none"]:List Str))) (aJ (j7 (ys:=["zero","none"]) (aA (K:=K) (k:=0) (Dat.Tf nm)) (bF (aB aL (aB aL aM))))) (λc H1 s1=>?_) (λc H1 s1=>?_)
 ·have c:=Po c;have hp1:=s1 _ _ hp;have hk1:=s1 _ _ hk
  have et:iH nm num=(decide (nm="zero") && decide ((9:Int) < num)):=by
   rcases Py.mp c with rfl | c
   ·rw [Ej,Pw (rfl:("zero":Str)="zero"),QH];exact i4 (by omega)
   ·obtain rfl:=PN.mp c;rw [oK (by decide +kernel) (by decide +kernel) (by decide +kernel),Pj (by decide +kernel:¬ ("none":Str)="zero")];rfl
  have ew:jS nm num on st=(eG st).map λp=>(if p.1=0 then on+num else on,p.2):=by unfold jS;rw [M1 (by rcases Py.mp c with rfl | c;exact (by decide +kernel);obtain rfl:=PN.mp c;exact (by decide +kernel)),Ph c]
  have hn:=xR (K:=K) (k:=3) (σ:=start ["_law_name","_law_number","_law_on","_law_pile","_law_ways"] [.str nm,.int num,.int on,.ref lp,.ref lk]) hp1 (s1.SQ dp) (jy _) (by rw [i6];decide);rw [nX] at hn;refine aR (K:=K) (b:=(st.pile.reverse.map D.int).isEmpty || (decide (nm="zero") && decide ((9:Int) < num))) (dP (aJ hn) λ_=>vV (aJ (bI (aA (K:=K) (k:=0) (Dat.Tf nm)) aL)) λ_=>aJ (cQ (p:=λi j=>decide (j < i)) (aA (K:=K) (k:=1) (Dat.SK (num:Int))) aG)) (λcb H2 s2=>?_) (λcb H2 s2=>?_)
  ·refine bad ?_ H2 _ _ (oZ (s1.trans s2)) (s2 _ _ hp1) (s2 _ _ hk1);unfold Zd;rw [et]
   cases hz:(decide (nm="zero") && decide ((9:Int) < num)) with
   | true=>rfl
   | false =>
    rw [hz,Bool.or_false] at cb
    have hpn:st.pile=[]:=by
     cases hq:st.pile with
     | nil=>rfl
     | cons x r=>rw [hq] at cb;simp at cb
    rw [M1 Pk,ew];unfold eG;rw [hpn];rfl
  ·rw [QG] at cb
   obtain ⟨x,r,hx⟩:∃ x r,st.pile=x::r:=by
    cases hq:st.pile with
    | nil=>rw [hq] at cb;exact nomatch cb.1
    | cons x r=>exact ⟨x,r,rfl⟩
   have hp2:H2 lp=some (.lst (pV r++[.int x])):=by rw [<- gI,<- hx];exact s2 _ _ hp1
   have hk2:=s2 _ _ hk1
   have eg:∀ p,(if x=0 then on+num else on,{ st with pile:=r })=p->Zd nm num on st=some p:=λp e=>by unfold Zd;rw [et,cb.2,M1 Pk,ew];unfold eG;rw [hx];exact PZ some e
   refine ⟨_,rfl,.inl ⟨rfl,_,SO.of hp2⟩,lp,_,.int x,rfl,rfl,hp2,by simp,?_⟩;rw [Q0];have b3:X8 lp lk H (upd H2 lp (.lst (pV r))):=(oZ (s1.trans s2)).trans λy o n _ e=>by rw [aS n];exact e
   have k3:upd H2 lp (.lst (pV r)) lk=some (.lst (XW st.kept)):=by rw [aS (PL ne)];exact hk2
   refine ⟨rfl,_,rfl,?_⟩;have es:decide (V.int x=V.int 0)=decide (x=0):=i4 ⟨λz=>V.int.inj z,λz=>by rw [z]⟩;rw [es];by_cases hz:x=0
   ·rw [Pw hz];refine j4 ⟨_,rfl,_,rfl,on,num,rfl,rfl,?_⟩;have:=ok _ (eg _ rfl) _ b3 aI k3;rw [Ph hz,Se] at this;exact this
   ·rw [Pj hz];refine j0 ⟨_,rfl,?_⟩;have:=ok _ (eg _ rfl) _ b3 aI k3;rw [M1 hz] at this;exact this
 have n1:=Pu c;have hp1:=s1 _ _ hp;have hk1:=s1 _ _ hk;refine aR (K:=K) (b:=decide (nm ∈ (["skip","jump"]:List Str))) (aJ (j7 (ys:=["skip","jump"]) (aA (K:=K) (k:=0) (Dat.Tf nm)) (bF (aB aL (aB aL aM))))) (λc H2 s2=>?_) (λc H2 s2=>?_)
 ·have c:=Po c
  have et:iH nm num=(decide (nm="skip") && decide ((9:Int) < num)):=by
   rcases Py.mp c with rfl | c
   ·rw [Ei,Pw (rfl:("skip":Str)="skip"),QH];exact i4 (by omega)
   ·obtain rfl:=PN.mp c;rw [oK (by decide +kernel) (by decide +kernel) (by decide +kernel),Pj (by decide +kernel:¬ ("jump":Str)="skip")];rfl
  have ew:jS nm num on st=some (on+num,st):=by unfold jS;rw [Ph c]
  refine RT.use (b:=decide (nm="skip") && decide ((9:Int) < num)) (vV (aJ (bI (aA (K:=K) (k:=0) (Dat.Tf nm)) aL)) λ_=>aJ (cQ (p:=λi j=>decide (j < i)) (aA (K:=K) (k:=1) (Dat.SK (num:Int))) aG)) λH3 s3=>?_;have S8:=s1.trans (s2.trans s3)
  cases hz:(decide (nm="skip") && decide ((9:Int) < num)) with
  | true=>exact j4 (bad (by unfold Zd;rw [et,hz];rfl) H3 _ _ (oZ S8) (S8 _ _ hp) (S8 _ _ hk))
  | false =>refine j0 ⟨_,rfl,_,rfl,on,num,rfl,rfl,?_⟩;have:=ok (on+num,st) (by unfold Zd;rw [et,hz,ew];rfl) H3 (oZ S8) (S8 _ _ hp) (S8 _ _ hk);rw [Se] at this;exact this
 have n2:=Pu c;have hp2:=s2 _ _ hp1;have hk2:=s2 _ _ hk1;have s12:=s1.trans s2;have et:iH nm num=false:=oK (λz=>by rw [z] at hws;revert hws;decide +kernel) (λz=>n2 (by rw [z];decide +kernel)) (λz=>n1 (by rw [z];decide +kernel));refine aR (K:=K) (b:=decide (nm="call")) (aJ (bI (aA (K:=K) (k:=0) (Dat.Tf nm)) aL)) (λc H3 s3=>?_) (λc H3 s3=>?_)
 ·have c:=Po c;have hp3:=s3 _ _ hp2;have hk3:=s3 _ _ hk2;have S8:=s12.trans s3;have ew:Zd nm num on st=if st.kept.length=16 then none else some (num,{ st with kept:=on::st.kept }):=by unfold Zd jS;rw [et,M1 n2,M1 n1,Ph c];rfl
  have LK:LD K H3 ((st.kept.reverse.map λ(n:Nat)=>(n:Int)).map D.int) (.ref lk):=LD.of (hk3.trans (by rw [uQ])) (dN _);refine aR (K:=K) (b:=decide (st.kept.length=16)) (RT.as (aJ (cQ (p:=λi j=>decide (j < i)) (eA (a8 (k:=4) LK)) aG)) (i4 (by rw [Pd,Pd,Qj];omega))) (λc2 H4 s4=>?_) (λc2 H4 s4=>?_)
  ·exact bad (by rw [ew,Ph (Po c2)]) H4 _ _ (oZ (S8.trans s4)) (s4 _ _ hp3) (s4 _ _ hk3)
  ·have c2:=Pu c2;have hk4:=s4 _ _ hk3;have ll:=Ak st.kept;refine iZ (K:=K) (d:=.int (on:Int)) (aA (k:=2) (Dat.SK (on:Int))) hk4 (by omega) λy G5 b5 hk5 dy5=>?_;rw [dy5.SN] at hk5;refine ⟨_,rfl,ok (num,{ st with kept:=on::st.kept }) (by rw [ew,M1 c2]) G5 ((oZ (S8.trans s4)).trans λx o _ n e=>b5 x o n e) (b5 _ _ ne (s4 _ _ hp3)) (by rw [nj];exact hk5)⟩
 have n3:=Pu c;have hp3:=s3 _ _ hp2;have hk3:=s3 _ _ hk2;have S8:=s12.trans s3;have hn:=xT (K:=K) (k:=4) (σ:=start ["_law_name","_law_number","_law_on","_law_pile","_law_ways"] [.str nm,.int num,.int on,.ref lp,.ref lk]) hk3 (by rw [uQ];exact dN (st.kept.reverse.map λ(n:Nat)=>(n:Int))) (jy _) (by rw [i6];decide);rw [nX] at hn;refine RT.use (aJ hn) λH4 s4=>?_;have hp4:=s4 _ _ hp3;have hk4:=s4 _ _ hk3;have Uv:=S8.trans s4
 have ew:Zd nm num on st=match st.kept with
  | []=>none
  | k::r=>some (k,{ st with kept:=r }):=by unfold Zd jS;rw [et,M1 n2,M1 n1,M1 n3];rfl
 cases hq:st.kept with
 | nil =>rw [hq] at ew hk4;exact j0 (bad ew H4 _ _ (oZ Uv) hp4 hk4)
 | cons x r =>
  rw [hq] at ew;have hk5:H4 lk=some (.lst (XW r++[.int x])):=by rw [<- nj,<- hq];exact hk4
  have eb:(!((((x::r).reverse.map λ(n:Nat)=>(n:Int)).map D.int).isEmpty))=true:=by simp
  rw [eb];refine j4 ⟨_,rfl,.inl ⟨rfl,_,SO.of hk5⟩,lk,_,.int x,rfl,rfl,hk5,by simp,?_⟩;rw [Q0];exact ok (x,{ st with kept:=r }) ew _ ((oZ Uv).trans λy o _ n e=>by rw [aS n];exact e) (by rw [aS ne];exact hp4) aI
noncomputable abbrev S10:List Str:=["put","far","load","add","sub","mul","less","more","twice","about"]
theorem rB (h:RE K te σ G d) (hl:G l=some (.lst xs)) (hx:xs.length<=1000)
  (q:∀ y G',S4 l G G'->G' l=some (.lst (xs++[y]))->Dat K G' d y->En.nx σ G') (hv:σ[j]?=some (some (.ref l)):=by rfl):rR (Z3 K "list" kH (fT j) (bW te dW)) En σ G:=by
 refine ⟨_,hv,.inl ⟨rfl,_,SO.of hl⟩,h.use λy H1 s1 q1=>?_⟩;have hl1:=s1 _ _ hl;refine ⟨l,xs,y,rfl,rfl,hl1,cM hx,?_⟩;have b:S4 l H1 (upd H1 l (.lst (xs++[y]))):=S4.upd (SH.refl _).but;exact q y _ (s1.but.trans b) aI (Dat.mono (b.grow hl1 aI) _ q1)
theorem DU (h:RE K te σ G d) (hl:G l=some (.lst xs)) (hx:xs.length<=1000)
  (q:∀ y G',S4 l G G'->G' l=some (.lst (xs++[y]))->Dat K G' d y->us En σ G') (hv:σ[j]?=some (some (.ref l)):=by rfl):lX (rR (Z3 K "list" kH (fT j) (bW te dW))) us En σ G:=eB (rB h hl hx q hv)
noncomputable def ZK (mc:MC) (nm:Str) (num:Nat) (st:MS):Option MS:=if iH nm num=true then none else cR mc nm num st
def D1 (K:W.Frag):Sp:=λvs H Q _=>∃ (nm:Str) (num:Nat) (lp:Addr) (vg:V) (mc:MC) (st:MS),vs=[.str nm,.int num,.ref lp,vg,.int mc.b]/\nm ∈ S10/\H lp=some (.lst (pV st.pile))/\Dat K H (.tup (mc.as.map D.int)) vg/\qS mc/\j6 mc st /\
 (∀ s,ZK mc nm num st=some s->∀ H',S4 lp H H'->H' lp=some (.lst (pV s.pile))->Q (.bl true) H')/\(ZK mc nm num st=none->∀ H' zs,S4 lp H H'->H' lp=some (.lst zs)->Q (.bl false) H')
theorem DF {z:V} (hl:H l=some (.lst (ys++[z]))) (q:Q z (upd H l (.lst ys))) (e:σ[j]?=some (some (.ref l)):=by rfl):Ip K "list" DE (fT j) σ H Q :=
 ⟨_,e,.inl ⟨rfl,_,SO.of hl⟩,l,_,z,rfl,rfl,hl,by simp,by rw [Q0];exact q⟩
theorem i8 {n:Int} (h:st.pile.length≠64):cI mc n st=some { st with pile:=n % mc.b::st.pile }:=by unfold cI;rw [M1 h]
theorem Az {n:Int} (h:st.pile.length=64):cI mc n st=none:=by unfold cI;rw [Ph h]
theorem h8 {x:Int} {r:List Int} (h:st.pile=x::r):eG st=some (x,{ st with pile:=r }):=by unfold eG;rw [h]
theorem qN {x b:Int} (h0:0<=x) (h1:x < b):x % b=x:=Qi h0 h1
theorem uV (T:Txt P w K mg) (M9:Ok P w base k T.LA (Th K Ca)):Ok P w base (k+1) T.Mp (D1 K):=by
 refine T.Mp.f.ok WX (λvs H Q E h=>?_) (λcdv A outer s H vs Q E hr h=>?_)
 ·obtain ⟨nm,num,lp,vg,mc,st,rfl,_⟩:=h;rfl
 have nd:=WX.nd;obtain ⟨nm,num,lp,vg,mc,st,rfl,hss,hp,hg,oc,os,ok,bad⟩:=h;refine ⟨_,(aE (bE (aN eO (pv 0) (bA (aD aO (aD aO (aD aO aC)))) (by with_unfolding_all rfl)) (aE (bE (PW.pt (fH (aN kl (aX aW rfl T.JY bU (aD (pv 2) aC)) aF (aT _)) (eR (PW.pt (rj (aN bV (pv 0) aO (aT _)) (nF (aN kl (pv 1) aF (aT _)))))))) (aH (aP d8)) aQ)
 (aH (bP (fF PD P5 P7 cC (pv 2) (aD (fG (aN bV (pv 0) aO (aT _)) (aY aZ (pv 3) (pv 1)) (bL eZ (pv 1) (pv 4))) aC))))) (aH (bE (aN eO (pv 0) (bA (aD aO (aD aO aC))) (by with_unfolding_all rfl)) (aE (bE (PW.pt (fH (aN (vA hr) (pv 2) (bY aC) (aT _)) (eR (PW.pt (rj (aN bV (pv 0) aO (aT _)) (nF (aN kl (aX aW rfl T.JY bU (aD (pv 2) aC)) aF (aT _)))))))) (aH (aP d8)) aQ)
 (aH (bP (fF PD P5 P7 cC (pv 2) (aD (fG (aN bV (pv 0) aO (aT _)) (aY bX (pv 2) (Av wt aF)) (bL eZ (bL cJ (lJ PD QK QZ lD (pv 2)) (pv 1)) (pv 4))) aC))))) (aE (bE (aN km (aX aW rfl T.JY bU (aD (pv 2) aC)) aF (aT _)) (aH (aP d8)) aQ)
 (aE (rg (i:=5) (j:=6) rfl nd rfl rfl (by decide) rfl rfl (aD (lJ PD QK QZ lD (pv 2)) (aD (lJ PD QK QZ lD (pv 2)) aC)) (by kernel_rfl))
 (aH (bE (aN bV (pv 0) aO (aT _)) (aH (bP (fF PD Q8 Ru ki (pv 2) (aD (bY (aD (pv 5) (aD (pv 6) aC))) aC)))) (aH (bP (fF PD P5 P7 cC (pv 2) (aD (pc (D:=T.LA) M9 hr (aD (pv 0) (aD (pv 6) (aD (pv 5) (aD (pv 4) aC))))) aC)))))))))))
 (aH (aP d8))),?_⟩
 have b2:=oc.b2;have l64:=os.l;have ll:=vD st.pile;have LP:∀ {G:Hp},G lp=some (.lst (pV st.pile))->LD K G (st.pile.reverse.map D.int) (.ref lp):=λh=>LD.of h (dN _);refine eB (RT.use (b:=decide (nm ∈ (["put","far","load"]:List Str))) (aJ (j7 (ys:=["put","far","load"]) (aA (K:=K) (k:=0) (Dat.Tf nm)) (bF (aB aL (aB aL (aB aL aM)))))) λH1 s1=>?_);have hp1:=s1 _ _ hp;by_cases cA:nm ∈ (["put","far","load"]:List Str)
 ·rw [Pw cA]
  have et:iH nm num=(decide (nm="load") && decide ((3:Int) < num)):=by
   by_cases hz:nm="load"
   ·subst hz;rw [Eh,Pw (rfl:("load":Str)="load"),QH];exact i4 (by omega)
   ·rw [oK hz (λz=>by rw [z] at cA;revert cA;decide +kernel) (λz=>by rw [z] at cA;revert cA;decide +kernel),Pj hz];rfl
  have ew:cR mc nm num st=cI mc (if nm="load" then mc.as.getD num 0 else num) st:=by
   unfold cR;by_cases hz:nm="load"
   ·rw [M1 (by rw [hz];decide +kernel),Ph hz,Ph hz]
   ·rw [Ph (by rcases Py.mp cA with z | z;rw [z];exact P0;rcases Py.mp z with z | z;rw [z];exact PR _ P0;exact absurd (PN.mp z) hz),M1 hz]
  refine j4 (aR (K:=K) (b:=decide (st.pile.length=64) || (decide (nm="load") && decide ((3:Int) < num))) (dP (RT.as (aJ (cQ (p:=λi j=>decide (j < i)) (eA (a8 (k:=2) (LP hp1))) aG)) (i4 (by rw [Pd,Qj];omega))) λ_=>vV (aJ (bI (aA (K:=K) (k:=0) (Dat.Tf nm)) aL)) λ_=>aJ (cQ (p:=λi j=>decide (j < i)) (aA (K:=K) (k:=1) (Dat.SK (num:Int))) aG)) (λc H2 s2=>?_) (λc H2 s2=>?_))
  ·refine bad ?_ H2 _ (s1.trans s2).but (s2 _ _ hp1);unfold ZK;rw [et]
   cases hz:(decide (nm="load") && decide ((3:Int) < num)) with
   | true=>rfl
   | false =>rw [hz,Bool.or_false] at c;rw [M1 Pk,ew,Az (Po c)]
  ·rw [QG] at c;have nl:=Pu c.1
   have ed:ZK mc nm num st=some { st with pile:=(if nm="load" then mc.as.getD num 0 else (num:Int) % mc.b)::st.pile }:=by
    unfold ZK;rw [et,c.2,M1 Pk,ew,i8 nl];by_cases hz:nm="load"
    ·rw [Ph hz,Ph hz]
     have h3:num<=3:=by rw [Pw hz,QH] at c;have:=Pu c.2;omega
     have hm:=oc.ai (mc.as.getD num 0) (by
      rw [PX,Pe (by have:=oc.as;omega:num < mc.as.length)];exact List.getElem_mem _)
     rw [qN hm.1 hm.2]
    ·rw [M1 hz,M1 hz]
   refine rB (K:=K) (d:=.int (if nm="load" then mc.as.getD num 0 else (num:Int) % mc.b)) (mC (b:=decide (nm="load")) (aJ (bI (aA (K:=K) (k:=0) (Dat.Tf nm)) aL)) (λcz=>?_) (λcz=>?_)) (s2 _ _ hp1) (by omega) λy G b hG dy=>?_
   ·have cz:=Po cz;rw [Ph cz]
    have h3:num<=3:=by rw [Pw cz,QH] at c;have:=Pu c.2;omega
    have la:=oc.as
    exact a6 (k:=num) (aA (k:=3) ((s1.trans s2).dat hg)) (aA (k:=1) (Dat.SK (num:Int))) (by
     rw [Pr,Pe (by omega:num < mc.as.length),PX,Pe (by omega:num < mc.as.length)];rfl)
   ·rw [M1 (Pu cz)];exact jN (aA (k:=1) (Dat.SK (num:Int))) (aA (k:=4) (Dat.SK mc.b)) (by omega)
   ·rw [dy.SN] at hG;exact ok _ ed G ((s1.trans s2).but.trans b) (by rw [gI];exact hG)
 rw [Pj cA];have et:iH nm num=false:=oK (λz=>cA (by rw [z];decide +kernel)) (λz=>by rw [z] at hss;revert hss;decide +kernel) (λz=>by rw [z] at hss;revert hss;decide +kernel)
 have ew:ZK mc nm num st=(eG st).bind λu =>
  if nm="more" then cI mc (u.1+num) u.2
  else if nm="twice" then (cI mc u.1 u.2).bind λs=>cI mc u.1 s
  else if nm="about" then (eG u.2).bind λl=>(cI mc u.1 l.2).bind λs=>cI mc l.1 s
  else (eG u.2).bind λl=>cI mc (two nm l.1 u.1 mc.b) l.2:=by
  unfold ZK cR;rw [et,M1 Pk,M1 (λz=>cA (by rcases Py.mp z with z | z;rw [z];exact P0;rw [PN.mp z];decide +kernel)),M1 (λz=>cA (by rw [z];decide +kernel))]
 rw [ew] at ok bad;refine j0 (RT.use (b:=decide (nm ∈ (["more","twice"]:List Str))) (aJ (j7 (ys:=["more","twice"]) (aA (K:=K) (k:=0) (Dat.Tf nm)) (bF (aB aL (aB aL aM))))) λH2 s2=>?_);have hp2:=s2 _ _ hp1;have s12:=s1.trans s2;by_cases cB:nm ∈ (["more","twice"]:List Str)
 ·rw [Pw cB];have hn:=xR (K:=K) (k:=2) (σ:=start ["_law_name","_law_number","_law_pile","_law_args_here","_law_base","_law_other","_law_one"] [.str nm,.int num,.ref lp,vg,.int mc.b]) hp2 (dN st.pile.reverse) (jy _) (by rw [i6];decide);rw [nX] at hn;refine j4 (aR (K:=K) (b:=(st.pile.reverse.map D.int).isEmpty || (decide (nm="twice") && decide (st.pile.length=64))) (dP (aJ hn) λ_=>vV (aJ (bI (aA (K:=K) (k:=0) (Dat.Tf nm)) aL)) λ_=>RT.as (aJ (cQ (p:=λi j=>decide (j < i)) (eA (a8 (k:=2) (LP hp2))) aG)) (i4 (by rw [Pd,Qj];omega))) (λc H3 s3=>?_) (λc H3 s3=>?_))
  ·refine bad ?_ H3 _ (s12.trans s3).but (s3 _ _ hp2)
   cases hq:st.pile with
   | nil=>unfold eG;rw [hq];rfl
   | cons x r =>
    rw [hq] at c;have e0:((x::r).reverse.map D.int).isEmpty=false:=by simp
    rw [e0,QC,Px] at c;have ct:=Po c.1;have cl:r.length+1=64:=Po c.2;rw [h8 hq,P6,M1 (by rw [ct];decide +kernel),Ph ct,i8 (by show r.length≠64;omega),P6,Az (by show r.length+1=64;exact cl)]
  ·rw [QG] at c
   obtain ⟨x,r,hx⟩:∃ x r,st.pile=x::r:=by
    cases hq:st.pile with
    | nil=>rw [hq] at c;exact nomatch c.1
    | cons x r=>exact ⟨x,r,rfl⟩
   have xb:=os.p x (by rw [hx];exact P0);have rl:r.length+1<=64:=by rw [hx] at l64;exact l64
   have hp3:H3 lp=some (.lst (pV r++[.int x])):=by rw [<- gI,<- hx];exact s3 _ _ hp2
   have S8:=s12.trans s3;have lr:=vD r;refine ⟨_,rfl,.inl ⟨rfl,_,SO.of hp3⟩,RT.use (b:=decide (nm="twice")) (aJ (bI (aA (K:=K) (k:=0) (Dat.Tf nm)) aL)) λH4 s4=>?_⟩;have hp4:=s4 _ _ hp3;by_cases ct:nm="twice"
   ·rw [Pw ct]
    have c64:r.length+1≠64:=by rw [Pw ct,QH,hx] at c;exact Pu c.2
    refine j4 (RE.use (mf (d:=.int x) (ds:=r.reverse.map D.int) (a8 (K:=K) (k:=2) (LD.of hp4 (SG.append (dN r.reverse) (SG.cons (Dat.SK x) SG.nil)))) (AH aG)) λv H5 s5 qv=>?_);rw [qv.SN];refine ⟨lp,_,_,rfl,rfl,s5 _ _ hp4,cM (by rw [tB];show (pV r).length+1<=1000;omega),?_⟩;refine ok { st with pile:=x::x::r } ?_ _ ((S8.trans (s4.trans s5)).but.trans (S4.upd (SH.refl _).but)) (by rw [aI,gI,gI]);rw [h8 hx,P6,M1 (by rw [ct];decide +kernel),Ph ct,i8 (by show r.length≠64;omega),P6,i8 (by show r.length+1≠64;exact c64),qN xb.1 xb.2]
   ·rw [Pj ct]
    have cm:nm="more":=by
     rcases Py.mp cB with z | z
     ·exact z
     ·exact absurd (PN.mp z) ct
    refine j0 (DF hp4 ⟨_,rfl,x,num,rfl,rfl,_,rfl,x+num,mc.b,rfl,rfl,by show 0 < mc.b;omega,lp,pV r,_,rfl,rfl,aI,cM (by omega),?_⟩);refine ok { st with pile:=(x+num) % mc.b::r } ?_ _ ((S8.trans s4).but.trans (S4.upd (S4.upd (SH.refl _).but))) (by rw [aI,gI]);rw [h8 hx,P6,Ph cm,i8 (by show r.length≠64;omega)]
 rw [Pj cB];have nm1:¬ nm="more":=λz=>cB (by rw [z];decide +kernel);have nm2:¬ nm="twice":=λz=>cB (by rw [z];decide +kernel);refine j0 (aR (K:=K) (b:=decide (st.pile.length < 2)) (RT.as (aJ (cQ (p:=λi j=>decide (i < j)) (eA (a8 (k:=2) (LP hp2))) aG)) (i4 (by rw [Pd,Qj];omega))) (λc H3 s3=>?_) (λc H3 s3=>?_))
 ·have c:=Po c;refine bad ?_ H3 _ (s12.trans s3).but (s3 _ _ hp2)
  match hq:st.pile,c with
  | [],_=>unfold eG;rw [hq];rfl
  | [x],_ =>rw [h8 hq,P6,M1 nm1,M1 nm2];have e:eG { st with pile:=[] }=none:=rfl;split <;> (rw [e];rfl)
  | _::_::_,c=>exact absurd c (by simp)
 ·have c:=Pu c
  obtain ⟨u,l,r,hx⟩:∃ u l r,st.pile=u::l::r:=by
   match hq:st.pile,c with
   | [],c=>exact absurd c (by simp)
   | [x],c=>exact absurd c (by simp)
   | u::l::r,_=>exact ⟨u,l,r,rfl⟩
  have ub:=os.p u (by rw [hx];exact P0);have lb:=os.p l (by rw [hx];exact PR _ P0);have rl:r.length+2<=64:=by rw [hx] at l64;exact l64
  have lr:=vD r;have S8:=s12.trans s3;have hp3:H3 lp=some (.lst ((pV r++[.int l])++[.int u])):=by rw [<- gI,<- gI,<- hx];exact s3 _ _ hp2
  refine DF hp3 (DF aI ⟨_,_,rfl,?_⟩);generalize e5:upd (upd H3 lp _) lp (.lst (pV r))=H5;have hp5:H5 lp=some (.lst (pV r)):=by rw [<- e5];exact aI
  have b5:S4 lp H H5:=by rw [<- e5];exact S8.but.trans (S4.upd (S4.upd (SH.refl _).but))
  refine RT.use (b:=decide (nm="about")) (aJ (bI (aA (K:=K) (k:=0) (Dat.Tf nm)) aL)) λH6 s6=>?_;have hp6:=s6 _ _ hp5;have b6:=b5.trans s6.but;by_cases ca:nm="about"
  ·rw [Pw ca];refine j4 ⟨_,rfl,.inl ⟨rfl,_,SO.of hp6⟩,_,rfl,_,rfl,dB (show 2<=1000 by decide),λlb2 nb=>?_⟩;have nlb:lp≠lb2:=λz=>by rw [<- z,hp6] at nb;cases nb
   refine ⟨lp,lb2,_,_,rfl,rfl,by rw [aS nlb];exact hp6,aI,dB (by show (pV r).length+2<=1000;omega),?_⟩;refine ok { st with pile:=l::u::r } ?_ _ ((b6.trans (aV nb _).but).trans (S4.upd (SH.refl _).but)) (by rw [aI,gI,gI,Qa];rfl);rw [h8 hx,P6,M1 nm1,M1 nm2,Ph ca,h8 (st:={ st with pile:=l::r }) rfl,P6,i8 (by show r.length≠64;omega),P6,i8 (by show r.length+1≠64;omega),qN ub.1 ub.2,qN lb.1 lb.2]
  ·rw [Pj ca]
   have okO:okO nm:=by
    have h:=hss;simp only [S10,Py,P8,Qx] at h;rcases h with h | h | h | h | h | h | h | h | h | h
    ·exact absurd (by rw [h];decide +kernel) cA
    ·exact absurd (by rw [h];decide +kernel) cA
    ·exact absurd (by rw [h];decide +kernel) cA
    ·exact .inl h
    ·exact .inr (.inl h)
    ·exact .inr (.inr (.inl h))
    ·exact .inr (.inr (.inr h))
    ·exact absurd h nm1
    ·exact absurd h nm2
    ·exact absurd h ca
   have tw:=jR (o:=nm) (x:=l) (y:=u) b2;refine j0 (rB (K:=K) (d:=.int (two nm l u mc.b)) (bM (R:=Ca) (aB (aA (k:=0) (Dat.Tf nm)) (aB (aA (k:=6) (Dat.SK l)) (aB (aA (k:=5) (Dat.SK u)) (aB (aA (k:=4) (Dat.SK mc.b)) aM)))) ⟨nm,l,u,mc.b,rfl,okO,b2,oc.b9,lb.1,lb.2,ub.1,ub.2,rfl⟩) hp6 (by omega) λy G b hG dy=>?_);rw [dy.SN] at hG;refine ok { st with pile:=two nm l u mc.b::r } ?_ G (b6.trans b) (by rw [gI];exact hG);rw [h8 hx,P6,M1 nm1,M1 nm2,M1 ca,h8 (st:={ st with pile:=l::r }) rfl,P6,i8 (by show r.length≠64;omega),qN tw.1 tw.2]
noncomputable def FO:Res->D
 | .ends v=>.tup [.str "ends",.int v]
 | .fault p=>.tup [.str "fault",.int p]
 | .late=>.tup [.str "late",.int 0]
theorem DT:RL K (kr (kL K yk) [] E dW) σ H (NM.map D.str):=jW λH1 s Q q=>⟨[],_,SG.nil,⟨rfl,rfl⟩,λr us H' s' h n d=>q r us H' n s' h d⟩
noncomputable def xW (st:MS):D:=.tup [.int st.place,.tup (st.pile.reverse.map D.int)]
noncomputable def hW (mc:MC):Nat->MS->List D
 | 0,_=>[]
 | n+1,st=>match fJ mc st with
  | none=>[]
  | some s=>xW st::if s.ended=true then [] else hW mc n s
theorem zm {t:TE} (h:RL K t σ H es):RE K (Xy (λxs H Q=>∃ p ys,xs=[.ref p]/\((SO K H p ys/\∀ l,H l=none->Q (.ref l) (upd H l (.tup ys)))\/(Tg K H p ys/\Q (.ref p) H))) (bW t dW)) σ H (.tup es):=λH1 s Q q =>
 iL ((h.mono s).use λv H' s' hd=>by
  obtain ⟨l,ys,rfl,hy,hd⟩:=hd;exact ⟨l,ys,rfl,.inl ⟨hy.WA,λp hp=>q _ _ (s'.trans (aV hp _)) (Dat.tupI (Tg.of aI) ((aV hp _).SQ hd))⟩⟩)
theorem C7:∀ i:Fin 17,NM.getD i ""="end"\/NM.getD i "" ∈ WS\/NM.getD i "" ∈ S10:=by decide +kernel
theorem C6 (h0:0<=c) (h1:c<=16):Vf c="end"\/Vf c ∈ WS\/Vf c ∈ S10:=C7 ⟨c.toNat,by omega⟩
theorem F0 (hc:mc.cs[st.place]?=some c) (hb:jn mc.cs st.place c=false):fJ mc st =
  if Vf c="end" then (jq st).map λs=>{ s with place:=st.place+1+cG c }
  else if Vf c ∈ WS then (Zd (Vf c) (lF mc.cs st.place c) (st.place+1+cG c) st).map λp=>{ p.2 with place:=p.1 }
  else (ZK mc (Vf c) (lF mc.cs st.place c) st).map λs=>{ s with place:=st.place+1+cG c }:=by
 have e:fJ mc st=if iH (Vf c) (lF mc.cs st.place c)=true then none else W2 mc (Vf c) (lF mc.cs st.place c) (st.place+1+cG c) st:=by unfold fJ;rw [hc];dsimp only;rw [M1 (by rw [hb];exact Pk)]
 rw [e];by_cases he:Vf c="end"
 ·rw [Ph he,M1 (by rw [he,oK (by decide +kernel) (by decide +kernel) (by decide +kernel)];exact Pk)];unfold W2;rw [M1 (by rw [he];decide +kernel),Ph he]
 ·rw [M1 he];by_cases hw:Vf c ∈ WS
  ·rw [Ph hw];unfold Zd W2;by_cases ht:iH (Vf c) (lF mc.cs st.place c)=true
   ·rw [Ph ht,Ph ht];rfl
   ·rw [M1 ht,M1 ht,Ph hw]
  ·rw [M1 hw];unfold ZK W2;by_cases ht:iH (Vf c) (lF mc.cs st.place c)=true
   ·rw [Ph ht,Ph ht];rfl
   ·rw [M1 ht,M1 ht,M1 hw,M1 he]
theorem X8.grow {a b:Addr} {xs' ys':List V} (t:X8 a b H H') (h1:H a=some (.lst xs)) (h2:H b=some (.lst ys)) (h3:H' a=some (.lst xs')) (h4:H' b=some (.lst ys')):gA K H H':=by
 have nt:∀ {c:Addr} {o:HO},H c=some o->(∀ xs,o≠.lst xs)->H' c=some o:=λ{c o} e n =>
  t c o (λz=>n _ (by rw [z,h1] at e;cases e;rfl)) (λz=>n _ (by rw [z,h2] at e;cases e;rfl)) e
 refine ⟨λc xs q=>?_,λc zs q=>?_⟩
 ·rcases q with (q | ⟨u,q⟩) | q
  ·exact .inl (.inl (nt q (λ_ z=>by cases z)))
  ·exact .inl (.inr ⟨u,nt q (λ_ z=>by cases z)⟩)
  ·exact .inr q
 ·rcases q with (q | ⟨u,q⟩) | q
  ·by_cases e1:c=a
   ·exact ⟨_,SO.of (by rw [e1];exact h3)⟩
   ·by_cases e2:c=b
    ·exact ⟨_,SO.of (by rw [e2];exact h4)⟩
    ·exact ⟨zs,.inl (.inl (t c _ e1 e2 q))⟩
  ·exact ⟨zs,.inl (.inr ⟨u,nt q (λ_ z=>by cases z)⟩)⟩
  ·exact ⟨zs,.inr q⟩
theorem Cr {s:MS} (h:cR mc nm num st=some s):s.kept=st.kept:=by
 unfold cR at h;split at h
 ·exact (gX h).2.1
 ·split at h
  ·exact (gX h).2.1
  ·obtain ⟨u,hu,h⟩:=Ql.mp h;have ku:=(jv hu).2.1;split at h
   ·exact (gX h).2.1.trans ku
   ·split at h
    ·obtain ⟨s1,h1,h2⟩:=Ql.mp h;exact (gX h2).2.1.trans ((gX h1).2.1.trans ku)
    ·split at h
     ·obtain ⟨l,hl,h⟩:=Ql.mp h;obtain ⟨s1,h1,h2⟩:=Ql.mp h;exact (gX h2).2.1.trans ((gX h1).2.1.trans ((jv hl).2.1.trans ku))
     ·obtain ⟨l,hl,h⟩:=Ql.mp h;exact (gX h).2.1.trans ((jv hl).2.1.trans ku)
noncomputable def mB:Nat->List Int->List Int
 | _,[]=>[]
 | i,c::r=>c * ([1,100].getD i 0)::mB (i+1) r
theorem xM:∀ (i:Nat) (ns:List Int),(mB i ns).length=ns.length
 | _,[]=>rfl
 | i,c::r=>by rw [mB,Pp,Pp,xM]
theorem xK:∀ (ns:List Int) (i k:Nat),(mB i ns)[k]?=ns[k]?.map λc=>c * ([1,100].getD (i+k) 0)
 | [],_,_=>by simp [mB]
 | c::r,i,0=>by simp [mB]
 | c::r,i,k+1=>by
  rw [mB,List.getElem?_cons_succ,List.getElem?_cons_succ,xK r (i+1) k];congr 2
  funext c
  rw [show i+1+k=i+(k+1) by omega]
theorem DA:ns.length<=2->(mB 0 ns).sum=iJ ns:=by
 intro h
 match ns,h with
 | [],_=>rfl
 | [a],_=>show a * 1+0=(0:Int) * 100+a;omega
 | [a,b],_=>show a * 1+(b * 100+0)=((0:Int) * 100+b) * 100+a;omega
theorem FW (h1:RE K te σ G d) (h2:RC K tl σ G es)
  (q:∀ v G1,SH G G1->Dat K G1 d v->∀ l ys G2,SH G1 G2->G2 l=some (.lst ys)->SG K G2 es ys->∀ p,G2 p=none->En.rt (.ref p) (upd G2 p (.tup [v,.ref l]))):Ec (zB (bW te (bW tl dW))) En σ G :=
 h1.use λv G1 s q1=>(h2.mono s).use λl ys G2 n s2 hy dy=>⟨dB (show 2<=1000 by decide),λp np=>q v G1 s q1 l ys G2 s2 hy dy p np⟩
theorem DW {tk:TE} {fs:List D} (h:RC K tl σ H es) (h2:RC K tk σ H fs)
  (q:∀ l ys H1,H l=none->SH H H1->H1 l=some (.lst ys)->SG K H1 es ys->∀ l2 zs H2,H1 l2=none->SH H1 H2->H2 l2=some (.lst zs)->SG K H2 fs zs->us En ((σ.set i (some (.ref l))).set j (some (.ref l2))) H2):lX (Iu i j (bW tl (bW tk dW))) us En σ H :=
 h.use λl ys H1 n s hy dy=>(h2.mono s).use λl2 zs H2 n2 s2 hz dz=>⟨_,_,rfl,q l ys H1 n s hy dy l2 zs H2 n2 s2 hz dz⟩
def D2 (K:W.Frag):Sp:=λvs H Q _=>∃ (lc lk:Addr) (vg:V) (mc:MC) (n:Nat) (s0:MS),vs=[.ref lc,vg,.int mc.b,.int n,.int s0.place,.ref lk]/\qS mc/\j6 mc s0/\s0.pile=[]/\s0.ended=false/\H lc=some (.lst (mc.cs.map V.int))/\H lk=some (.lst (XW s0.kept))/\lc≠lk/\Dat K H (.tup (mc.as.map D.int)) vg/\n<=1000 /\
 ∀ (p:Addr) (v1:V) (ld:Addr) (ys:List V) (H':Hp),S4 lk H H'->H' p=some (.tup [v1,.ref ld])->Dat K H' (FO (jg mc n s0)) v1->H' ld=some (.lst ys)->SG K H' (hW mc n s0) ys->Q (.ref p) H'
theorem uX (T:Txt P w K mg) (NW:Ok P w base k T.K4 (kL K yk)) (NP:Ok P w base k T.LF (Th K GI)) (Ob:Ok P w base k T.Mr (D3 K)) (N9:Ok P w base k T.Mp (D1 K)):Ok P w base (k+1) T.Mq (D2 K):=by
 refine T.Mq.f.ok WY (λvs H Q E h=>?_) (λcdv A outer s H vs Q E hr h=>?_)
 ·obtain ⟨lc,lk,vg,mc,n,s0,rfl,_⟩:=h;rfl
 have nd:=WY.nd;obtain ⟨lc,lk,vg,mc,n,s0,rfl,oc,os,hpl,hen,hc,hk,nck,hg,n9,post⟩:=h;refine ⟨_,(aE (rg (i:=6) (j:=7) rfl nd rfl rfl (by decide) rfl rfl (aD (bY aC) (aD (bY aC) aC)) (by kernel_rfl))
 (aE (jK Qt rfl (ko rfl T.MF (aD (pv 3) aC)) (a7 (i:=8) nd rfl (Or.inl rfl)) (aE (bE (PW.pt (fH (aN km (pv 4) aF (aT _)) (fH (aN tH (pv 4) (aX aW rfl T.JY bU (aD (pv 0) aC)) (aT _)) (eR (aN kl (aY bX (pv 0) (pv 4)) aF (aT _)))))) (aH (aP (bA (aD (bA (aD aO (aD (pv 4) aC))) (aD (pv 7) aC))))) aQ)
 (aE (rg (i:=9) (j:=10) rfl nd rfl rfl (by decide) rfl rfl (aD (aY bX (xH NW hr rfl T.K4.m T.K4.f.kp T.K4.b .nil gN) (aY bX (pv 0) (pv 4))) (aD (pc (D:=T.LF) NP hr (aD (aY bX (pv 0) (pv 4)) aC)) aC)) (by kernel_rfl))
 (aE (bQ (i:=11) nd rfl (Or.inl rfl) (jJ AJ (pv 0) (iY (bL cJ (pv 4) aF)) (iY (bL cJ (bL cJ (pv 4) aF) (pv 10)))))
 (aE (bE (aN km (aX aW rfl T.JY bU (aD (pv 11) aC)) (pv 10) (aT _)) (aH (aP (bA (aD (bA (aD aO (aD (pv 4) aC))) (aD (pv 7) aC))))) aQ)
 (aE (bQ (i:=12) nd rfl (Or.inl rfl) (aX (qi rfl) rfl T.Oz yr (aD (eV (own:=["_law_spot","_law_cell"]) (fr:=[]) (N':=["_law_spot","_law_cell"]) (Du rfl T.Nw (aD (pv 11) aC)) rfl (by show dS ["_law_code","_law_args_here","_law_base","_law_most","_law_at","_law_ways","_law_pile","_law_did","_law_k","_law_name","_law_many","_law_cells","_law_number","_law_on","_law_now"] (λx=>(aK lP).names.lookup x) _ _ _ _=true;decide +kernel) rfl (λ_ _ _ _ _=>(Aw (K:=K) (n:=2) rfl rfl (bN (a7 (i:=0) (by show List.Nodup [("_law_spot":Str),("_law_cell":Str)];decide +kernel) rfl (Or.inl rfl)) (bN (a7 (i:=1) (by show List.Nodup [("_law_spot":Str),("_law_cell":Str)];decide +kernel) rfl (Or.inl rfl)) eH)))) (λ_ _ _ _ _=>c7) (λ_ _ _ _ _=>(bL ow (pv 1) (aY (r:=sD K) aZ (bA (aD aF (aD aF aC))) (pv 0))))) aC)))
 (aE (rg (i:=13) (j:=14) rfl nd rfl rfl (by decide) rfl rfl (aD (bL cJ (bL cJ (pv 4) aF) (aX aW rfl T.JY bU (aD (pv 11) aC))) (aD (bA (aD (pv 4) (aD (eP dY rfl T.KL fP (aD (pv 6) aC)) aC))) aC)) (by kernel_rfl))
 (aE (bE (aN bV (pv 9) aO (aT _)) (aE (bE (aN lI (aX aW rfl T.JY bU (aD (pv 6) aC)) aF (aT _)) (aH (aP (bA (aD (bA (aD aO (aD (pv 4) aC))) (aD (pv 7) aC))))) aQ)
 (aH (aP (bA (aD (bA (aD aO (aD (aY bX (pv 6) aF) aC))) (aD (bL jr (pv 7) (bY (aD (pv 14) aC))) aC)))))) aQ)
 (aE (bE (aN eO (pv 9) (bA (aD aO (aD aO (aD aO (aD aO (aD aO (aD aO aC))))))) (by with_unfolding_all rfl)) (aH (bQ (i:=13) nd rfl (Or.inl rfl) (pc (D:=T.Mr) Ob hr (aD (pv 9) (aD (pv 12) (aD (pv 13) (aD (pv 6) (aD (pv 5) aC)))))))) (aH (bE (cW (bR (pc (D:=T.Mp) N9 hr (aD (pv 9) (aD (pv 12) (aD (pv 6) (aD (pv 1) (aD (pv 2) aC)))))) (λ_=>rfl))) (aH (bQ (i:=13) nd rfl (Or.inl rfl) gR)) aQ)))
 (aE (bE (aN vB (pv 13) gR (aT _)) (aH (aP (bA (aD (bA (aD aO (aD (pv 4) aC))) (aD (pv 7) aC))))) aQ)
 (aE (bP (fF PySem.F.plainAttrs_list PySem.F.slot_list_append PySem.F.type_list_append cC (pv 7) (aD (pv 14) aC)))
 (aH (bQ (i:=4) nd rfl (Or.inl rfl) (pv 13))))))))))))))
 (aH (aP (bA (aD (bA (aD aO (aD aF aC))) (aD (pv 7) aC))))))),?_⟩
 have Xs:=oc.cs;have l1:=Xs.l1;refine DW (K:=K) (es:=[]) (fs:=[]) (iC aM) (iC aM) λlp ysp H1 nlp t1 hyp dyp ld ysd H2 nld t2 hyd dyd=>?_;obtain rfl:=dyp.VZ;obtain rfl:=dyd.VZ;have t12:=t1.trans t2;have O9:lp≠lk:=λz=>by rw [z,hk] at nlp;cases nlp
 have O1:lp≠lc:=λz=>by rw [z,hc] at nlp;cases nlp
 have O6:ld≠lk:=λz=>by rw [z,t1 _ _ hk] at nld;cases nld
 have Pb:ld≠lc:=λz=>by rw [z,t1 _ _ hc] at nld;cases nld
 have ON:ld≠lp:=λz=>by rw [z,hyp] at nld;cases nld
 have Z9:H lp=none:=nlp;have hld0:H ld=none:=t1.free nld
 have fin:∀ {te:TE} {σ:L2.St} {G:Hp} {xs:List V} (r:Res),RE K te σ G (FO r)->jg mc n s0=r->G ld=some (.lst xs)->SG K G (hW mc n s0) xs->S4 lk H G->σ[7]?=some (some (.ref ld))->Ec (zB (bW te (bW (fT 7) dW))) { nx:=λ_ H'=>Q .SM H',rt:=Q } σ G:=λ{te σ G xs} r h1 h2 h3 h4 h5 h6 =>
  h1.use λv G1 u1 q1=>⟨_,h6,dB (show 2<=1000 by decide),λp np=>post p v ld xs _ ((h5.trans u1.but).trans (aV np _).but) aI (by rw [h2];exact (aV np _).dat q1) ((aV np _) _ _ (u1 _ _ h3)) ((u1.trans (aV np _)).SQ h4)⟩
 refine eB ⟨_,rfl,(n:Int),rfl,by omega,by omega,nY (n:=(n:Int).toNat) (λi σ G=>∃ (st:MS) (xs:List V) (rows:List D) (z8 z9 z10 z11 z12 z13 z14:Option V),σ=[some (.ref lc),some vg,some (.int mc.b),some (.int n),some (.int st.place),some (.ref lk),some (.ref lp),some (.ref ld),z8,z9,z10,z11,z12,z13,z14] /\
  G lc=some (.lst (mc.cs.map V.int))/\Dat K G (.tup (mc.as.map D.int)) vg/\G lp=some (.lst (pV st.pile))/\G lk=some (.lst (XW st.kept))/\G ld=some (.lst xs)/\SG K G rows xs/\j6 mc st/\st.ended=false/\S4 lk H G/\jg mc n s0=jg mc (n - i) st/\rows++hW mc (n - i) st=hW mc n s0/\rows.length=i) ?_ ?_ ?_⟩
 ·exact ⟨s0,[],[],none,none,none,none,none,none,none,rfl,t12 _ _ hc,t12.dat hg,by rw [hpl];exact t2 _ _ hyp,t12 _ _ hk,hyd,SG.nil,os,hen,t12.but,rfl,rfl,rfl⟩
 ·rintro i σ G hi ⟨st,xs,rows,z8,z9,z10,z11,z12,z13,z14,rfl,gc,gg,gp,gk,gd,dG,os,he,bG,hr2,W3,lrow⟩;refine kJ ?_;dsimp only;obtain ⟨k',ek⟩:∃ k',n - i=k'+1:=⟨n - i - 1,by omega⟩
  have ek2:n - (i+1)=k':=by omega
  rw [ek] at hr2 W3;have ll:=dG.length;have hin:i < n:=by omega
  have LC:∀ {F:Hp},SH G F->LD K F (cD mc.cs) (.ref lc):=λs=>LD.of (s _ _ gc) (dN _)
  cases hcs:mc.cs[st.place]? with
  | none =>
   have hp:mc.cs.length<=st.place:=List.getElem?_eq_none_iff.mp hcs;have e:fJ mc st=none:=by unfold fJ;rw [hcs]
   refine aR (K:=K) (b:=true) (RT.as (dP (b:=false) (c:=true) (RT.as (aJ (cQ (p:=λi j=>decide (i < j)) (aA (K:=K) (k:=4) (Dat.SK (st.place:Int))) aG)) (Pj (by omega))) λ_=>RT.as (dP (b:=true) (c:=true) (RT.as (aJ (cQ (p:=λi j=>decide (j<=i)) (aA (K:=K) (k:=4) (Dat.SK (st.place:Int))) (eA (a8 (k:=0) (LC (SH.refl _)))))) (Pw (by rw [Pd];omega))) λz=>nomatch z) rfl) rfl) (λ_ G1 u1=>?_) (λc=>nomatch c);exact fin (.fault st.place) (bF (aB aL (aB (aA (K:=K) (k:=4) (Dat.SK (st.place:Int))) aM))) (by rw [hr2,jg,e]) (u1 _ _ gd) (by rw [hW,e] at W3;dsimp only at W3;rw [PM] at W3;rw [<- W3];exact u1.SQ dG) (bG.trans u1.but) rfl
  | some c =>
  have hp:st.place < mc.cs.length:=(P1.mp hcs).1;obtain ⟨c0,c99⟩:=Xs.c _ _ hcs;have hx':=Ge hcs;have rc:∀ {F:Hp} {w8 w9 w10 w11 w12 w13 w14:Option V},SH G F->RE K (VE (BC K) (fT 0) (fT 4)) [some (.ref lc),some vg,some (.int mc.b),some (.int n),some (.int st.place),some (.ref lk),some (.ref lp),some (.ref ld),w8,w9,w10,w11,w12,w13,w14] F (.int c):=λs=>iD (k:=st.place) (a8 (k:=0) (LC s)) (aA (K:=K) (k:=4) (Dat.SK (st.place:Int))) hx';refine aR (K:=K) (b:=decide (16 < c)) (RT.as (dP (b:=false) (c:=decide (16 < c)) (RT.as (aJ (cQ (p:=λi j=>decide (i < j)) (aA (K:=K) (k:=4) (Dat.SK (st.place:Int))) aG)) (Pj (by omega))) λ_=>RT.as (dP (b:=false) (c:=decide (16 < c)) (RT.as (aJ (cQ (p:=λi j=>decide (j<=i)) (aA (K:=K) (k:=4) (Dat.SK (st.place:Int))) (eA (a8 (k:=0) (LC (SH.refl _)))))) (Pj (by rw [Pd];omega))) λ_=>aJ (cQ (p:=λi j=>decide (j < i)) (rc (SH.refl _)) aG)) rfl) rfl) (λc16 G1 u1=>?_) (λc16 G1 u1=>?_)
  ·have e:fJ mc st=none:=rP (by unfold wI;rw [hcs];show jn _ _ _=true;unfold jn;rw [c16];rfl);exact fin (.fault st.place) (bF (aB aL (aB (aA (K:=K) (k:=4) (Dat.SK (st.place:Int))) aM))) (by rw [hr2,jg,e]) (u1 _ _ gd) (by rw [hW,e] at W3;dsimp only at W3;rw [PM] at W3;rw [<- W3];exact u1.SQ dG) (bG.trans u1.but) rfl
  ·have c16:=Pu c16;have hn:(NM.map D.str)[c.toNat]?=some (.str (Vf c)):=by rw [Pr,Ho c.toNat (by omega)];rfl
   have ec:c=((c.toNat:Nat):Int):=by omega
   refine DV (K:=K) (d:=.str (Vf c)) (e:=.int (cG c)) (aB (iD (k:=c.toNat) DT (RE.as (rc u1) (PZ D.int ec)) hn) (aB (bM (R:=GI) (aB (rc u1) aM) ⟨c,rfl,rfl⟩) aM)) λv9 v10 G2 u2 d9 d10=>?_;obtain rfl:=d9.S3;obtain rfl:=d10.SN;have u12:=u1.trans u2;have el:(st.place:Int)+1=((st.place+1:Nat):Int):=by omega
   have eh:(st.place:Int)+1+(cG c:Int)=((st.place+1+cG c:Nat):Int):=by omega
   refine gY (K:=K) (es:=(YA mc.cs st.place c).map D.int) (RC.as (AD (lo:=st.place+1) (hi:=st.place+1+cG c) (a8 (k:=0) (LC u12)) (RE.as (c8 (aA (K:=K) (k:=4) (Dat.SK (st.place:Int))) aG) (PZ D.int el)) (RE.as (c8 (c8 (aA (K:=K) (k:=4) (Dat.SK (st.place:Int))) aG) (aA (k:=10) (Dat.SK (cG c:Int)))) (PZ D.int eh))) (by rw [show st.place+1+cG c - (st.place+1)=cG c by omega];exact zM mc.cs st.place c)) λl11 ys11 G3 n11 u3 hy11 dy11=>?_;have u13:=u12.trans u3;have L11:LD K G3 ((YA mc.cs st.place c).map D.int) (.ref l11):=LD.of hy11 dy11;have lns:(YA mc.cs st.place c).length=min (cG c) (mc.cs.length - (st.place+1)):=by unfold YA;rw [Qe,Q5]
   refine aR (K:=K) (b:=jn mc.cs st.place c) (RT.as (aJ (cQ (p:=λi j=>decide (i < j)) (eA (a8 (k:=11) L11)) (aA (k:=10) (Dat.SK (cG c:Int))))) ?_) (λhb G4 u4=>?_) (λhb G4 u4=>?_)
   ·unfold jn;rw [Pj c16,QC,Pd,lns];exact i4 (by omega)
   ·have e:fJ mc st=none:=rP (by unfold wI;rw [hcs];exact hb);exact fin (.fault st.place) (bF (aB aL (aB (aA (K:=K) (k:=4) (Dat.SK (st.place:Int))) aM))) (by rw [hr2,jg,e]) ((u13.trans u4) _ _ gd) (by rw [hW,e] at W3;dsimp only at W3;rw [PM] at W3;rw [<- W3];exact (u13.trans u4).SQ dG) (bG.trans (u13.trans u4).but) rfl
   have u14:=u13.trans u4;have L11:=u4.ld L11;obtain ⟨h16,hlb⟩:=wJ hb;obtain ⟨en,n99⟩:=An (p:=st.place) (c:=c) Xs;obtain ⟨l2,nsb⟩:=Di (p:=st.place) (c:=c) Xs;have lnb:(YA mc.cs st.place c).length=cG c:=by rw [lns];omega
   have se:=F0 hcs hb;have nmc:=C6 c0 h16;generalize Vf c=nm at *;generalize hnum:lF mc.cs st.place c=num at *;refine eJ (K:=K) (d:=.int num) (RE.as (vO (ns:=mB 0 (YA mc.cs st.place c)) (jW (DM (a8 (k:=11) L11) (by rw [Pd];omega) ((mB 0 (YA mc.cs st.place c)).map D.int) (by rw [Pd,Pd,xM]) (by decide) rfl (λF k cc e w s hcc hee hw=>?_)))) (by rw [DA l2,en])) λv12 G5 u5 d12=>?_
   ·rw [Pr] at hcc hee;rw [xK] at hee;obtain ⟨x,hx,rfl⟩:=PU.mp hcc;rw [hx] at hee;have ee:D.int (x * ([1,100]:List Int).getD (0+k) 0)=e:=Qf hee;subst ee;have xb:=nsb x (PJ hx);have k2:k < 2:=by have:=(P1.mp hx).1;omega
    have hg2:([.int 1,.int 100]:List D)[k]?=some (.int (([1,100]:List Int).getD (0+k) 0)):=by
     match k,k2 with
     | 0,_=>rfl
     | 1,_=>rfl
    have gb:([1,100]:List Int).getD (0+k) 0=1\/([1,100]:List Int).getD (0+k) 0=100:=by
     match k,k2 with
     | 0,_=>exact .inl rfl
     | 1,_=>exact .inr rfl
    exact vK (aA (k:=1) hw) (a6 (k:=k) (bF (aB aG (aB aG aM))) (aA (k:=0) (Dat.SK (k:Int))) hg2) (.inr ⟨by omega,by omega⟩)
   obtain rfl:=d12.SN;have u15:=u14.trans u5;have eo:(st.place:Int)+1+(((YA mc.cs st.place c).map D.int).length:Int)=((st.place+1+cG c:Nat):Int):=by rw [Pd,lnb];omega
   have LP:∀ {F:Hp},F lp=some (.lst (pV st.pile))->LD K F (st.pile.reverse.map D.int) (.ref lp):=λh=>LD.of h (dN _);refine DV (K:=K) (d:=.int ((st.place+1+cG c:Nat):Int)) (e:=xW st) (aB (RE.as (c8 (c8 (aA (K:=K) (k:=4) (Dat.SK (st.place:Int))) aG) (eA (a8 (k:=11) (u5.ld L11)))) (PZ D.int eo)) (aB (bF (aB (aA (K:=K) (k:=4) (Dat.SK (st.place:Int))) (aB (zm (a8 (k:=6) (LP (u15 _ _ gp)))) aM))) aM)) λv13 v14 G6 u6 d13 d14=>?_;obtain rfl:=d13.SN;have u16:=u15.trans u6;generalize st.place+1+cG c=on at *;refine aR (K:=K) (b:=decide (nm="end")) (aJ (bI (aA (K:=K) (k:=9) (Dat.Tf nm)) aL)) (λce G7 u7=>?_) (λce G7 u7=>?_)
   ·have ce:=Po ce;rw [Ph ce] at se;have u17:=u16.trans u7;refine aR (K:=K) (b:=!decide (st.pile.length=1)) (RT.as (aJ (kI (eA (a8 (k:=6) (LP (u17 _ _ gp)))) aG)) (PZ Bool.not (i4 (by rw [Pd,Qj];omega)))) (λcl G8 u8=>?_) (λcl G8 u8=>?_)
    ·have cl:=Pu ((Sx _).mp cl);have e:fJ mc st=none:=by rw [se];unfold jq;rw [M1 cl];rfl
     exact fin (.fault st.place) (bF (aB aL (aB (aA (K:=K) (k:=4) (Dat.SK (st.place:Int))) aM))) (by rw [hr2,jg,e]) ((u17.trans u8) _ _ gd) (by rw [hW,e] at W3;dsimp only at W3;rw [PM] at W3;rw [<- W3];exact (u17.trans u8).SQ dG) (bG.trans (u17.trans u8).but) rfl
    ·have cl:=Po ((RQ _).mp cl)
     obtain ⟨x,hx⟩:∃ x,st.pile=[x]:=by
      match hq:st.pile,cl with
      | [x],_=>exact ⟨x,rfl⟩
     have e:fJ mc st=some { st with ended:=true,place:=on }:=by rw [se];unfold jq;rw [Ph cl];rfl
     have W6:=u17.trans u8
     have hrE:jg mc n s0=.ends x:=by rw [hr2,jg,e];show (if true=true then Res.ends (st.pile.headD 0) else _)=_;rw [Ph rfl,hx];rfl
     have htE:rows++[xW st]=hW mc n s0:=by rw [<- W3,hW,e];rfl
     have LDd:∀ {F:Hp},SH G F->LD K F rows (.ref ld):=λs=>LD.of (s _ _ gd) (s.SQ dG);refine FW (K:=K) (d:=.tup [.str "ends",.int x]) (bF (aB aL (aB (iD (k:=0) (a8 (k:=6) (LP (W6 _ _ gp))) aG (by rw [hx];rfl)) aM))) (js (a8 (k:=7) (LDd W6)) (jW (iC (aB (aA (k:=14) ((u7.trans u8).dat d14)) aM))) (by show rows.length+1<=1000;omega)) λv1 G9 u9 q9 l2 ys2 GA ua hya dya p np=>?_;have u19:=W6.trans u9;have uA:=(u19.trans ua).trans (aV np (.tup [v1,.ref l2]));refine post p v1 l2 ys2 _ (bG.trans uA.but) aI ?_ ((aV np _) _ _ hya) ?_
     ·rw [hrE];exact (ua.trans (aV np _)).dat q9
     ·rw [<- htE];exact (aV np _).SQ dya
   have ce:=Pu ce;rw [M1 ce] at se;have u17:=u16.trans u7;have d14:=u7.dat d14
   have nmc:nm ∈ WS\/nm ∈ S10:=by
    rcases nmc with h | h | h
    ·exact absurd h ce
    ·exact .inl h
    ·exact .inr h
   refine pR (λσ' G'=>∃ w13:V,σ'=[some (.ref lc),some vg,some (.int mc.b),some (.int n),some (.int st.place),some (.ref lk),some (.ref lp),some (.ref ld),some (.int (0+(i:Int))),some (.str nm),some (.int (cG c)),some (.ref l11),some (.int num),some w13,some v14] /\
    G' lc=some (.lst (mc.cs.map V.int))/\Dat K G' (.tup (mc.as.map D.int)) vg/\G' ld=some (.lst xs)/\SG K G' rows xs/\Dat K G' (xW st) v14/\S4 lk H G' /\
    ((w13=.SM/\fJ mc st=none)\/∃ s',fJ mc st=some s'/\s'.ended=false/\w13=.int s'.place/\G' lp=some (.lst (pV s'.pile))/\G' lk=some (.lst (XW s'.kept)))) ?_ ?_
   ·rintro σ' G' ⟨w13,rfl,fc,fg,fd,fD,f14,fB,hor⟩;rcases hor with ⟨rfl,e⟩ | ⟨s',e,es,rfl,fp,fk⟩
    ·refine aR (K:=K) (b:=true) (RT.as (aJ (oC (K:=K) (d:=.SM) (aA (k:=13) Dat.X5))) rfl) (λ_ G8 u8=>?_) (λc=>nomatch c);exact fin (.fault st.place) (bF (aB aL (aB (aA (K:=K) (k:=4) (Dat.SK (st.place:Int))) aM))) (by rw [hr2,jg,e]) (u8 _ _ fd) (by rw [hW,e] at W3;dsimp only at W3;rw [PM] at W3;rw [<- W3];exact u8.SQ fD) (fB.trans u8.but) rfl
    ·refine aR (K:=K) (b:=false) (RT.as (aJ (oC (K:=K) (d:=.int (s'.place:Int)) (aA (k:=13) (Dat.SK _)))) rfl) (λc=>nomatch c) (λ_ G8 u8=>?_);obtain ⟨os2,_⟩:=AL oc os e;have fd8:=u8 _ _ fd;refine DU (K:=K) (d:=xW st) (aA (k:=14) (u8.dat f14)) fd8 (by omega) λy G9 b9 fd9 dy9=>?_;have gr:=b9.grow (K:=K) fd8 fd9;refine ⟨_,rfl,s',xs++[y],rows++[xW st],_,_,_,_,_,_,_,rfl,b9 _ _ (PL Pb) (u8 _ _ fc),Dat.mono gr _ (u8.dat fg),b9 _ _ (PL ON) (u8 _ _ fp),b9 _ _ (PL O6) (u8 _ _ fk),fd9,SG.append (SG.mono gr _ (u8.SQ fD)) (SG.cons dy9 SG.nil),os2,es,λx o nx ex=>b9 x o (λz=>by rw [z,hld0] at ex;cases ex) (u8 _ _ (fB x o nx ex)),?_,?_,by rw [tB,lrow];rfl⟩
     ·rw [hr2,jg,e,ek2];show (if s'.ended=true then _ else _)=_;rw [es,M1 Pk]
     ·rw [<- W3,hW,e,ek2,Qa];show _++([xW st]++_)=_++(xW st::if s'.ended=true then _ else _)
      rw [es,M1 Pk];rfl
   ·intro J;refine RT.use (b:=decide (nm ∈ WS)) (aJ (j7 (ys:=["skip","jump","zero","none","call","back"]) (aA (K:=K) (k:=9) (Dat.Tf nm)) (bF (aB aL (aB aL (aB aL (aB aL (aB aL (aB aL aM))))))))) λG8 u8=>?_;have W6:=u17.trans u8;have d14:=u8.dat d14;have gp8:=W6 _ _ gp;have gk8:=W6 _ _ gk;by_cases hw:nm ∈ WS
    ·rw [Pw hw];rw [Ph hw] at se;refine j4 ⟨_,rfl,_,rfl,_,rfl,_,rfl,_,rfl,nm,num,on,lp,lk,st,rfl,hw,gp8,gk8,O9,os.k,λp hp9 G9 b9 fp fk=>?_,λhn9 G9 zs ws b9 fp fk=>?_⟩
     ·have gr:=b9.grow (K:=K) gp8 gk8 fp fk;refine J _ G9 ⟨_,rfl,b9 _ _ (PL O1) nck (W6 _ _ gc),Dat.mono gr _ (W6.dat gg),b9 _ _ ON O6 (W6 _ _ gd),SG.mono gr _ (W6.SQ dG),Dat.mono gr _ d14,λx o nx ex=>b9 x o (λz=>by rw [z,Z9] at ex;cases ex) nx (W6 _ _ (bG x o nx ex)),.inr ⟨{ p.2 with place:=p.1 },by rw [se,hp9];rfl,?_,rfl,fp,fk⟩⟩;show p.2.ended=false;unfold Zd at hp9;split at hp9
      ·cases hp9
      ·rw [(Eu os hp9).2];exact he
     ·have gr:=b9.grow (K:=K) gp8 gk8 fp fk;exact J _ G9 ⟨_,rfl,b9 _ _ (PL O1) nck (W6 _ _ gc),Dat.mono gr _ (W6.dat gg),b9 _ _ ON O6 (W6 _ _ gd),SG.mono gr _ (W6.SQ dG),Dat.mono gr _ d14,λx o nx ex=>b9 x o (λz=>by rw [z,Z9] at ex;cases ex) nx (W6 _ _ (bG x o nx ex)),.inl ⟨rfl,by rw [se,hn9];rfl⟩⟩
    ·rw [Pj hw];rw [M1 hw] at se;have hss:nm ∈ S10:=nmc.resolve_left hw;refine j0 ⟨_,rfl,_,rfl,_,rfl,_,rfl,_,rfl,nm,num,lp,vg,mc,st,rfl,hss,gp8,W6.dat gg,oc,os,λs' hs9 G9 b9 fp=>⟨true,rfl,?_⟩,λhn9 G9 zs b9 fp=>⟨false,rfl,?_⟩⟩
     ·have gr:=b9.grow (K:=K) gp8 fp;refine j0 (J _ G9 ⟨_,rfl,b9 _ _ (PL O1) (W6 _ _ gc),Dat.mono gr _ (W6.dat gg),b9 _ _ ON (W6 _ _ gd),SG.mono gr _ (W6.SQ dG),Dat.mono gr _ d14,λx o nx ex=>b9 x o (λz=>by rw [z,Z9] at ex;cases ex) (W6 _ _ (bG x o nx ex)),.inr ⟨{ s' with place:=on },by rw [se,hs9];rfl,?_,rfl,fp,?_⟩⟩)
      ·show s'.ended=false;unfold ZK at hs9;split at hs9
       ·cases hs9
       ·rw [(Cs oc.b2 os hs9).2];exact he
      ·show G9 lk=some (.lst (XW s'.kept))
       have ekk:s'.kept=st.kept:=by
        unfold ZK at hs9;split at hs9
        ·cases hs9
        ·exact Cr hs9
       rw [ekk];exact b9 _ _ (PL O9) gk8
     ·have gr:=b9.grow (K:=K) gp8 fp;exact j4 (J _ G9 ⟨_,rfl,b9 _ _ (PL O1) (W6 _ _ gc),Dat.mono gr _ (W6.dat gg),b9 _ _ ON (W6 _ _ gd),SG.mono gr _ (W6.SQ dG),Dat.mono gr _ d14,λx o nx ex=>b9 x o (λz=>by rw [z,Z9] at ex;cases ex) (W6 _ _ (bG x o nx ex)),.inl ⟨rfl,by rw [se,hn9];rfl⟩⟩)
 ·rintro σ G ⟨st,xs,rows,z8,z9,z10,z11,z12,z13,z14,rfl,gc,gg,gp,gk,gd,dG,os,he,bG,hr2,W3,lrow⟩;have e0:n - (n:Int).toNat=0:=by omega
  rw [e0] at hr2 W3;have W3:rows++[]=hW mc n s0:=W3;rw [PM] at W3;exact fin .late (bF (aB aL (aB aG aM))) hr2 gd (by rw [<- W3];exact dG) bG rfl
def zx (K:W.Frag):Sp:=λvs H Q _=>∃ (lc:Addr) (vg:V) (mc:MC) (n:Nat),vs=[.ref lc,vg,.int mc.b,.int n]/\qS mc/\H lc=some (.lst (mc.cs.map V.int))/\Dat K H (.tup (mc.as.map D.int)) vg/\n<=1000 /\
 ∀ (p:Addr) (v1:V) (ld:Addr) (ys:List V) (H':Hp),SH H H'->H' p=some (.tup [v1,.ref ld])->Dat K H' (FO (jg mc n ZV)) v1->H' ld=some (.lst ys)->SG K H' (hW mc n ZV) ys->Q (.ref p) H'
theorem xx (T:Txt P w K mg) (Oa:Ok P w base k T.Mq (D2 K)):Ok P w base (k+1) T.MG (zx K):=by
 refine T.MG.f.ok Xm (λvs H Q E h=>?_) (λcdv A outer s H vs Q E hr h=>?_)
 ·obtain ⟨lc,vg,mc,n,rfl,_⟩:=h;rfl
 have nd:=Xm.nd;obtain ⟨lc,vg,mc,n,rfl,oc,hc,hg,n9,post⟩:=h;refine ⟨_,(aH (aP (pc (D:=T.Mq) Oa hr (aD (pv 0) (aD (pv 1) (aD (pv 2) (aD (pv 3) (aD aF (aD (bY aC) aC))))))))),?_⟩;refine ⟨_,rfl,_,rfl,_,rfl,_,rfl,dB (by decide),λlk nk=>?_⟩;have ne:lc≠lk:=λz=>by rw [<- z,hc] at nk;cases nk
 have s1:=aV nk (.lst []);refine ⟨lc,lk,vg,mc,n,ZV,rfl,oc,Dl,rfl,rfl,s1 _ _ hc,aI,ne,s1.dat hg,n9,λp v1 ld ys H' b h1 h2 h3 h4=>post p v1 ld ys H' (λx o e=>b x o (λz=>by rw [z,nk] at e;cases e) (s1 x o e)) h1 h2 h3 h4⟩
abbrev si (x:Int):Prop:=0<=x/\x<=99
theorem qy:∀ (p:Pa) (t:Tr) (f:Ve),UO t->cO p t=some f->(∀ x ∈ f.2.1,0<=x/\x<=9999)/\∀ x ∈ f.2.2,0<=x/\x<=3
 | .hole i,t,f,_,h=>by cases h;exact ⟨λx hx=>(nomatch hx),λx hx=>(nomatch hx)⟩
 | .gap i m,t,f,ok,h=>by obtain ⟨n,rfl,_,rfl⟩:=iV h;exact ⟨λx hx=>by rw [PN.mp hx];exact ok,λx hx=>(nomatch hx)⟩
 | .slot i,t,f,ok,h=>by obtain ⟨n,rfl,rfl⟩:=m9 h;exact ⟨λx hx=>(nomatch hx),λx hx=>by rw [PN.mp hx];exact ok⟩
 | .num m,t,f,ok,h=>by obtain ⟨rfl,rfl⟩:=uC h;exact ⟨λx hx=>(nomatch hx),λx hx=>(nomatch hx)⟩
 | .two o a b,t,f,ok,h=>by obtain ⟨x,y,f1,f2,rfl,h1,h2,rfl⟩:=jD h;obtain ⟨a1,a2⟩:=qy a x f1 ok.2.1 h1;obtain ⟨b1,b2⟩:=qy b y f2 ok.2.2 h2;exact ⟨λz hz=>(P9.mp hz).elim (a1 z) (b1 z),λz hz=>(P9.mp hz).elim (a2 z) (b2 z)⟩
noncomputable def uq:Cl->Bool
 | .n i=>decide (0<=i) && decide (i<=99)
 | _=>true
theorem uE {l:List Int} {m:Int} (h:∀ x ∈ l,0<=x/\x<=m) (hm:0<=m) (k:Nat):0<=l.getD k 0/\l.getD k 0<=m:=by
 rw [PX]
 cases e:l[k]? with
 | none=>exact ⟨RN _,hm⟩
 | some x=>exact h x (PJ e)
variable {nums ks:List Int}
theorem ES (h1:∀ x ∈ nums,0<=x/\x<=9999) (h2:∀ x ∈ ks,0<=x/\x<=3) {c:Cl} (hc:uq c=true):si (kM nums ks c):=by
 cases c with
 | n i=>simp only [uq,Px,Qg] at hc;exact hc
 | arg k=>have:=uE h2 (by decide) k;exact ⟨this.1,by show ks.getD k 0<=99;omega⟩
 | low k=>have:=uE h1 (by decide) k;show 0<=nums.getD k 0 % 100/\nums.getD k 0 % 100<=99;omega
 | high k=>have:=uE h1 (by decide) k;show 0<=nums.getD k 0 / 100/\nums.getD k 0 / 100<=99;omega
theorem Hr {a f:Int} {m:Nat} (ha:si a) (hf:si f) (hm:m<=9999):∀ x ∈ fN a f m,si x:=by
 unfold fN;intro x hx;split at hx
 ·simp only [Py,P8,Qx] at hx;rcases hx with rfl | rfl
  ·exact ha
  ·exact ⟨by omega,by omega⟩
 ·simp only [Py,P8,Qx] at hx;rcases hx with rfl | rfl | rfl
  ·exact hf
  ·exact ⟨by omega,by omega⟩
  ·exact ⟨by omega,by omega⟩
theorem As {f:Tr->D->Option (List D)}:∀ {ts:List Tr} {cs:List D} {SX:List (List D)},gM f ts cs=SX.map some->(∀ t ∈ ts,∀ c es,f t c=some es->es.length<=999->∀ x,D.int x ∈ es->si x)->SX.flatten.length<=999->∀ x,D.int x ∈ SX.flatten->si x
 | [],cs,SX,h,_,_=>by
  have:SX=[]:=by cases SX with | nil=>rfl | cons _ _=>cases h
  subst this;intro x hx;cases hx
 | t::ts,[],SX,h,_,_=>by
  have:SX=[]:=by cases SX with | nil=>rfl | cons _ _=>cases h
  subst this;intro x hx;cases hx
 | t::ts,c::cs,SX,h,hf,hl=>by
  cases SX with
  | nil=>cases h
  | cons y SX =>
   have h':f t c::gM f ts cs=some y::SX.map some:=h;injection h' with h1 h2;rw [Qw,tB] at hl;intro x hx;rw [Qw] at hx;rcases P9.mp hx with hx | hx
   ·exact hf t P0 c y h1 (by omega) x hx
   ·exact As h2 (λt ht=>hf t (PR _ ht)) (by omega) x hx
theorem qK (hp:∀ p ∈ ps,fY p.pt=true/\(cK p).all uq=true):∀ (n:Nat) (t:Tr) (c:D) (es:List D),UO t->eY ps n t c=some es->es.length<=999->∀ x,D.int x ∈ es->si x
 | 0,_,_,_,_,h,_=>by cases h
 | n+1,t,c,es,ok,h,hl=>by
  have h:(match nV c with | none=>none | some x=>if x.1="pick" then mx (eY ps n) t x.2 else kN (eY ps n) ps t x.1 x.2)=some es:=h
  cases ec:nV c with
  | none=>rw [ec] at h;cases h
  | some y =>
   rw [ec] at h;dsimp only at h;intro x hx;by_cases hpk:y.1="pick"
   ·rw [Ph hpk] at h;obtain ⟨t1,t2,t3,ca,cb,cd,xa,xb,xd,rfl,_,la,lb,ld,rfl⟩:=iQ h;unfold f6 ml at hx hl;simp only [tB] at hl;have q1:=qK hp n t1 ca xa ok.1 la (by omega) x;have q2:=qK hp n t2 cb xb ok.2.1 lb (by omega) x;have q3:=qK hp n t3 cd xd ok.2.2 ld (by omega) x
    have jm:∀ {a f:Int} {m:Nat},si a->si f->m<=9999->D.int x ∈ (fN a f m).map D.int->si x:=λha hf hm h=>by obtain ⟨z,hz,e⟩:=Qz.mp h;injection e with e;subst e;exact Hr ha hf hm z hz
    rcases P9.mp hx with hx | hx
    ·rcases P9.mp hx with hx | hx
     ·rcases P9.mp hx with hx | hx
      ·exact q1 hx
      ·exact jm (by decide) (by decide) (by rw [tB];omega) hx
     ·rcases P9.mp hx with hx | hx
      ·exact q2 hx
      ·exact jm (by decide) (by decide) (by omega) hx
    ·exact q3 hx
   ·rw [M1 hpk] at h;obtain ⟨p,g,SX,e1,e2,hlen,e,rfl⟩:=iP h;obtain ⟨nh,ci⟩:=hp p (hE e1).1;have tail:=k8 nh e2;unfold fQ at hx hl;rw [tB] at hl;rcases P9.mp hx with hx | hx
    ·exact As e (λu hu c es q l=>qK hp n u c es (iA t u ok (mj (tail u hu))) q l) (by omega) x hx
    ·obtain ⟨z,hz,ez⟩:=Qz.mp hx;injection ez with ez;subst ez;obtain ⟨v1,v2⟩:=qy p.pt t g ok e2;exact ES v1 v2 (QF.mp ci z hz)
structure goP (p:Pc):Prop where
 nh:fY p.pt=true
 pg:eI p
 hl:∀ t f,cO p.pt t=some f->f.1.length<=2
 ci:(cK p).all uq=true
theorem GV:∀ p ∈ Yz,goP p:=by
 intro p hp;simp only [Yz,BP,ZI,List.cons_append,Rg,PM,Py,P8,Qx] at hp;rcases hp with rfl | rfl | rfl | rfl | rfl | rfl | rfl | rfl | rfl | rfl | rfl | rfl | rfl | rfl | rfl | rfl
 ·exact ⟨rfl,HP,hl2 (by decide),by decide +kernel⟩
 ·exact ⟨rfl,HQ,hl2 (by decide),by decide +kernel⟩
 ·exact ⟨rfl,Fu,hl2 (by decide),by decide +kernel⟩
 ·exact ⟨rfl,HK,hl2 (by decide),by decide +kernel⟩
 ·exact ⟨rfl,vF,hl2 (by decide),by decide +kernel⟩
 ·exact ⟨rfl,HN,hl2 (by decide),by decide +kernel⟩
 ·exact ⟨rfl,Fq,hl2 (by decide),by decide +kernel⟩
 ·exact ⟨rfl,Fs,hl2 (by decide),by decide +kernel⟩
 ·exact ⟨rfl,HM,hl2 (by decide),by decide +kernel⟩
 ·exact ⟨rfl,Fp,hl2 (by decide),by decide +kernel⟩
 ·exact ⟨rfl,yW,hl2 (by decide),by decide +kernel⟩
 ·exact ⟨rfl,Dt,hl2 (by decide),by decide +kernel⟩
 ·exact ⟨rfl,By,hl2 (by decide),by decide +kernel⟩
 ·exact ⟨rfl,Bz,hl2 (by decide),by decide +kernel⟩
 ·exact ⟨rfl,HL,hl2 (by decide),by decide +kernel⟩
 ·exact ⟨rfl,Ft,hl2 (by decide),by decide +kernel⟩
noncomputable def tP (cs:List Int):List D:=(iI cs (cs.length+1) 0).1
noncomputable def mP (cs:List Int):Option Nat:=(iI cs (cs.length+1) 0).2
theorem yf (h:cs.length<=p):iI cs (n+1) p=([],none):=by unfold iI;rw [RD h]
theorem Et (h:cs[p]?=some c) (hb:jn cs p c=true):iI cs (n+1) p=([],some p):=by unfold iI;rw [h];dsimp only;rw [Ph hb]
theorem wu (h:cs[p]?=some c) (hb:jn cs p c=false):iI cs (n+1) p=(zr cs p c::(iI cs n (p+1+cG c)).1,(iI cs n (p+1+cG c)).2):=by rw [iI,h];dsimp only;rw [M1 (by rw [hb];exact Pk)]
structure ZL (cs:List Int) (p n:Nat) (rows:List D):Prop where
 hr:rows++(iI cs n p).1=tP cs
 hf:(iI cs n p).2=mP cs
 hp:p<=cs.length
 hn:cs.length+1<=n+p
 hl:rows.length<=p
theorem ZL.end {rows:List D} (S:ZL cs p n rows) (h:¬ p < cs.length):rows=tP cs/\mP cs=none:=by
 have hn:=S.hn;have hp:=S.hp;obtain ⟨n,rfl⟩:∃ m,n=m+1:=⟨n - 1,by omega⟩
 have r:=S.hr;have f:=S.hf;rw [yf (by omega)] at r f;rw [PM] at r;exact ⟨r,f.symm⟩
theorem ZL.bad {rows:List D} (S:ZL cs p n rows) (h:cs[p]?=some c) (hb:jn cs p c=true):mP cs=some p:=by
 have hn:=S.hn;have hp:=S.hp;obtain ⟨n,rfl⟩:∃ m,n=m+1:=⟨n - 1,by omega⟩
 have f:=S.hf;rw [Et h hb] at f;exact f.symm
theorem ZL.on {rows:List D} (S:ZL cs p n rows) (h:cs[p]?=some c) (hb:jn cs p c=false):∃ m,ZL cs (p+1+cG c) m (rows++[zr cs p c]):=by
 have hn:=S.hn;have hp:=S.hp;have hl:=S.hl;obtain ⟨n,rfl⟩:∃ m,n=m+1:=⟨n - 1,by omega⟩
 have r:=S.hr;have f:=S.hf;rw [wu h hb] at r f;obtain ⟨_,hlt⟩:=wJ hb;refine ⟨n,⟨?_,f,by omega,by omega,?_⟩⟩
 ·rw [Qa];exact r
 ·rw [tB,Pp,Qk];omega
theorem ZL.start (cs:List Int):ZL cs 0 (cs.length+1) []:=⟨rfl,rfl,Qy _,Pq _,Pq _⟩
def D4 (K:W.Frag):Sp:=λvs H Q _=>∃ cs,okC cs/\Y4 K H [.l (cD cs)] vs/\mP cs=none/\∀ r us H',SH H H'->H' r=some (.lst us)->H r=none->SG K H' (tP cs) us->Q (.ref r) H'
noncomputable def JQ (σ:L2.St) (_:Hp):Nat:=match σ[2]? with
 | some (some (V.int p))=>(2000 - p).toNat
 | _=>0
theorem Bt (T:Txt P w K mg) (MM:Ok P w base k T.Lm (Xq K pY)) (Ku:Ok P w base k T.JW (Xq K wC)):Ok P w base (k+1) T.Nj (D4 K):=by
 refine T.Nj.f.ok Yk (λvs H Q E h=>?_) (λcdv A outer s H vs Q E hr h=>?_)
 ·obtain ⟨cs,ok,hd,_⟩:=h;exact hd.length.symm
 have nd:=Yk.nd;obtain ⟨cs,ok,hd,nf,post1⟩:=h;obtain ⟨v0,rfl,h0⟩:=AS hd;have h0:LD K H (cD cs) v0:=h0;refine ⟨_,(aE (bP (pc (D:=T.Lm) MM hr (aD (pv 0) aC)))
 (aE (bQ (i:=1) nd rfl (Or.inl rfl) (bY aC))
 (aE (bQ (i:=2) nd rfl (Or.inl rfl) aF)
 (aE (rh Qt (aN km (pv 2) (aX aW rfl T.JY bU (aD (pv 0) aC)) (aT _)) (aE (gH (pc (D:=T.JW) Ku hr (aD (pv 0) (aD (pv 2) aC))) (gF rfl (bN (a7 (i:=3) nd rfl (Or.inl rfl)) (bN (a7 (i:=4) nd rfl (Or.inl rfl)) eH))))
 (aE (bP (fF PD P5 P7 cC (pv 1) (aD (bA (aD (pv 2) (aD (pv 3) (aD (pv 4) aC)))) aC)))
 (aH (yZ (i:=2) nd rfl (Or.inl rfl) (bL cJ aF (aX aW rfl T.JY bU (aD (pv 4) aC))) uN)))))
 (aH (aP (pv 1))))))),?_⟩
 have l1:=ok.l1;refine jf (RE.use (eF (R:=pY) (d:=.SM) (gB (a8 (K:=K) (k:=0) h0) dU) ⟨cD cs,rfl,by rw [Pd];omega,ur ok,rfl⟩) λv4 H1 s1 _=>?_);refine gY (K:=K) (es:=[]) (iC aM) λl ys H2 hl s2 hy dy=>?_;refine eJ (K:=K) (d:=.int 0) aG λv2 H3 s3 q3=>?_;obtain rfl:=q3.SN;have X4:H l=none:=s1.free hl;refine eB (rX (λσ G=>∃ (p n:Nat) (z3 z4:Option V) (xs:List V) (rows:List D),σ=[some v0,some (.ref l),some (.int p),z3,z4]/\SH H G/\G l=some (.lst xs)/\SG K G rows xs/\ZL cs p n rows) JQ ?_ ?_ ?_)
 ·exact ⟨0,_,none,none,ys,[],rfl,s1.trans (s2.trans s3),s3 _ _ hy,s3.SQ dy,ZL.start cs⟩
 ·rintro σ G ⟨p,n,z3,z4,xs,rows,rfl,sG,hG,dG,S⟩;have g0:=sG.ld h0;refine RT.use (b:=decide ((p:Int) < ((cD cs).length:Int))) (aJ (cQ (p:=λi j=>decide (i < j)) (aA (K:=K) (Dat.SK (p:Int))) (eA (a8 g0)))) λG1 t1=>?_;by_cases hlt:p < cs.length
  ·rw [Pw (by rw [Pd];omega:(p:Int) < ((cD cs).length:Int))];refine j4 ?_;have hx:cs[p]?=some cs[p]:=Pe hlt;generalize cs[p]=c at hx;have g0:=t1.ld g0;have rA:RB K (bW (fT 0) (bW (fT 2) dW)) [some v0,some (.ref l),some (.int (p:Int)),z3,z4] G1 [.l (cD cs),.d (.int p)]:=gB (a8 (k:=0) g0) (iK (aA (k:=2) (Dat.SK (p:Int))) dU)
   cases hb:jn cs p c with
   | true =>have z:=S.bad hx hb;rw [nf] at z;cases z
   | false =>
    refine jX (K:=K) (d:=.str (Vf c)) (e:=.tup (kS cs p (cG c))) (eF (R:=wC) rA ⟨cs,p,c,rfl,ok,hx,hb,rfl⟩) λv3 v4 G2 t2 g3 g4=>?_;have t12:=t1.trans t2;have hG2:=t12 _ _ hG;have ll:=dG.length;have sl:=S.hl;refine iZ (K:=K) (d:=zr cs p c) (bF (aB (aA (k:=2) (Dat.SK (p:Int))) (aB (aA (k:=3) g3) (aB (aA (k:=4) g4) aM)))) hG2 (by omega) λy G3 b3 hG3 dy3=>?_;have gr:=b3.grow (K:=K) hG2 hG3;have g4:=Dat.mono gr _ g4;obtain ⟨h16,hlb⟩:=wJ hb;have lb:(kS cs p (cG c)).length=cG c:=by rw [qc];omega
    refine ⟨_,rfl,RE.use (c8 (K:=K) aG (fL (aA (k:=4) g4))) λv5 G4 t4 q5=>?_⟩;refine ⟨p,1+((kS cs p (cG c)).length:Int),rfl,q5.SN,?_⟩;have ep:(p:Int)+(1+((kS cs p (cG c)).length:Int))=((p+1+cG c:Nat):Int):=by rw [lb];omega
    obtain ⟨m,S'⟩:=S.on hx hb;have sH:SH H G3:=λb o e=>b3 b o (λz=>by rw [z,X4] at e;cases e) ((sG.trans t12) b o e);refine ⟨⟨p+1+cG c,m,some v3,some v4,xs++[y],rows++[zr cs p c],by rw [<- ep];rfl,sH.trans t4,t4 _ _ hG3,t4.SQ (SG.append (SG.mono gr _ (t12.SQ dG)) (SG.cons dy3 SG.nil)),S'⟩,?_⟩;show (2000 - ((p:Int)+(1+((kS cs p (cG c)).length:Int)))).toNat < (2000 - (p:Int)).toNat;omega
  ·rw [Pj (by rw [Pd];omega:¬ (p:Int) < ((cD cs).length:Int))];refine j0 ?_;obtain ⟨e1,e2⟩:=S.end hlt;subst e1;exact ⟨_,rfl,post1 l xs G1 (sG.trans t1) (t1 _ _ hG) X4 (t1.SQ dG)⟩
 ·intro σ G Q1 Q2 hQ hc;obtain ⟨v,e,v',e',p,ys,e2,hq,i,j,e3,e4,b,e5,q⟩:=hc;exact ⟨v,e,v',e',p,ys,e2,hq,i,j,e3,e4,b,e5,hQ _ _ q⟩
inductive Wk (cs:List Int):Nat->Nat->Nat->Prop
 | nil {p:Nat}:Wk cs 0 p p
 | cons {m p q:Nat} {c:Int}:cs[p]?=some c->jn cs p c=false->Wk cs m (p+1+cG c) q->Wk cs (m+1) p q
variable {q:Nat}
theorem Wk.trans {m r:Nat} (a:Wk cs m p q) (b:Wk cs n q r):Wk cs (n+m) p r:=by
 induction a with
 | nil=>exact b
 | cons h1 h2 _ ih=>exact .cons h1 h2 (ih b)
theorem Wk.le {m:Nat} (a:Wk cs m p q):p+m<=q:=by
 induction a with
 | nil=>exact Pq _
 | cons _ _ _ ih=>omega
theorem Wk.rows {m:Nat} (a:Wk cs m p q):∃ rows,∀ n,iI cs (n+m) p=(rows++(iI cs n q).1,(iI cs n q).2):=by
 induction a with
 | nil=>exact ⟨[],λn=>rfl⟩
 | cons h1 h2 _ ih =>obtain ⟨rows,h⟩:=ih;exact ⟨_::rows,λn=>by rw [<- Nat.add_assoc,wu h1 h2,h n];rfl⟩
def iU (ns:List Int):Prop:=∀ cs a b:List Int,cs=a++(ns++b)->∃ m,Wk cs m a.length (a.length+ns.length)
theorem iS {x y:List Int} (hx:iU x) (hy:iU y):iU (x++y):=λcs a b e=>by obtain ⟨m,w1⟩:=hx cs a (y++b) (by rw [e,Qa]);obtain ⟨n,w2⟩:=hy cs (a++x) b (by rw [e,Qa,Qa]);rw [tB] at w2;rw [tB,<- Nat.add_assoc];exact ⟨_,w1.trans w2⟩
theorem oM:iU []:=λ_ a _ _=>⟨0,.nil⟩
theorem oN (hc:c<=16) (hl:args.length=cG c):iU (c::args):=λcs a b e=>by
 have e1:cs[a.length]?=some c:=by rw [e,Qp (Pq _),SE];rfl
 refine ⟨1,.cons e1 ?_ ?_⟩
 ·unfold jn;rw [Pj (by omega),Pj]
  ·rfl
  ·rw [e];simp only [tB,Pp];omega
 ·rw [Pp,hl,Nat.add_assoc,Nat.add_comm 1];exact .nil
noncomputable def oO:Nat->List Cl->Bool
 | _,[]=>true
 | n+1,.n i::r=>decide (i<=16) && decide (cG i<=r.length) && oO n (r.drop (cG i))
 | _,_=>false
theorem yg:∀ (n:Nat) (cl:List Cl),oO n cl=true->iU (cl.map (kM nums ks))
 | _,[],_=>oM
 | 0,c::r,h=>by cases c <;> cases h
 | n+1,.n i::r,h=>by
  have h:(decide (i<=16) && decide (cG i<=r.length) && oO n (r.drop (cG i)))=true:=h;rw [Px,Px] at h;have l:=Po h.1.2
  have e:(Cl.n i::r).map (kM nums ks)=(i::(r.take (cG i)).map (kM nums ks))++(r.drop (cG i)).map (kM nums ks):=by rw [List.cons_append,<- PY,RG];rfl
  rw [e];exact iS (oN (Po h.1.1) (by rw [Pd,Qe];omega)) (yg n _ h.2)
 | n+1,.arg _::r,h=>by cases h
 | n+1,.low _::r,h=>by cases h
 | n+1,.high _::r,h=>by cases h
theorem uf {a f:Int} {m:Int} (ha:a<=16/\cG a=1) (hf:f<=16/\cG f=2):iU (fN a f m):=by
 unfold fN;split
 ·exact oN ha.1 ha.2.symm
 ·exact oN hf.1 hf.2.symm
theorem qZ {f:Tr->D->Option (List D)} (h:∀ t c es,f t c=some es->∃ ns:List Int,es=ns.map D.int/\iU ns):∀ {ts:List Tr} {cs:List D} {SX:List (List D)},gM f ts cs=SX.map some->∃ ns:List Int,SX.flatten=ns.map D.int/\iU ns
 | [],cs,SX,e=>by
  have:SX=[]:=by cases SX with | nil=>rfl | cons _ _=>cases e
  subst this;exact ⟨[],rfl,oM⟩
 | t::ts,[],SX,e=>by
  have:SX=[]:=by cases SX with | nil=>rfl | cons _ _=>cases e
  subst this;exact ⟨[],rfl,oM⟩
 | t::ts,c::cs,SX,e=>by
  cases SX with
  | nil=>cases e
  | cons y SX =>have e':f t c::gM f ts cs=some y::SX.map some:=e;injection e' with e1 e2;obtain ⟨n1,rfl,w1⟩:=h t c y e1;obtain ⟨n2,e3,w2⟩:=qZ h e2;exact ⟨n1++n2,by rw [Qw,e3,PY],iS w1 w2⟩
theorem jw (hp:∀ p ∈ ps,∃ n,oO n (cK p)=true):∀ (n:Nat) (t:Tr) (c:D) (es:List D),eY ps n t c=some es->∃ ns:List Int,es=ns.map D.int/\iU ns
 | 0,_,_,_,h=>by cases h
 | n+1,t,c,es,h=>by
  have h:(match nV c with | none=>none | some x=>if x.1="pick" then mx (eY ps n) t x.2 else kN (eY ps n) ps t x.1 x.2)=some es:=h
  cases ec:nV c with
  | none=>rw [ec] at h;cases h
  | some y =>
   rw [ec] at h;dsimp only at h;by_cases hpk:y.1="pick"
   ·rw [Ph hpk] at h;obtain ⟨t1,t2,t3,ca,cb,cd,xa,xb,xd,rfl,_,la,lb,ld,rfl⟩:=iQ h;obtain ⟨na,rfl,wa⟩:=jw hp n t1 ca xa la;obtain ⟨nb,rfl,wb⟩:=jw hp n t2 cb xb lb;obtain ⟨nd,rfl,wd⟩:=jw hp n t3 cd xd ld;unfold f6 ml;rw [<- PY,<- PY,<- PY,<- PY];exact ⟨_,rfl,iS (iS (iS wa (uf (by decide) (by decide))) (iS wb (uf (by decide) (by decide)))) wd⟩
   ·rw [M1 hpk] at h;obtain ⟨p,g,SX,e1,e2,hlen,e,rfl⟩:=iP h;obtain ⟨k,hk⟩:=hp p (hE e1).1;obtain ⟨ns,e3,w⟩:=qZ (jw hp n) e;unfold fQ;refine ⟨ns++(cK p).map (kM g.2.1 g.2.2),?_,iS w (yg k _ hk)⟩;rw [e3,PY,Ra];rfl
theorem sO:∀ p ∈ Yz,oO 12 (cK p)=true:=QF.mp (by decide +kernel)
theorem xi:∀ {u v:List Int},u.map D.int=v.map D.int->u=v
 | [],[],_=>rfl
 | x::u,y::v,e=>by rw [PB,PB] at e;injection e with e1 e2;injection e1 with e1;rw [e1,xi e2]
 | [],_::_,e=>by cases e
 | _::_,[],e=>by cases e
variable {nn:List Int}
theorem CY (hp:∀ p ∈ ps,∃ n,oO n (cK p)=true) {c:D} (h:eY ps n t c=some (nn.map D.int)):mP (nn++[0])=none/\∃ rows,tP (nn++[0])=rows++[zr (nn++[0]) nn.length 0]:=by
 obtain ⟨ns,e,w⟩:=jw hp n t c _ h;have e:=xi e;subst e;obtain ⟨m,wk⟩:=w (nn++[0]) [] [0] rfl;have hm:=wk.le;obtain ⟨rows,hr⟩:=wk.rows;have z:([]:List Int).length+nn.length=nn.length:=by simp
 rw [z] at hm hr;have l:(nn++[0]).length=nn.length+1:=by simp
 have e1:(nn++[0])[nn.length]?=some 0:=by rw [Qp (Pq _),SE];rfl
 have hb:jn (nn++[0]) nn.length 0=false:=by unfold jn;rw [l,Pj (by decide),Pj (show ¬ nn.length+1<=nn.length+cG 0 by rw [show cG 0=0 by decide];omega)];rfl
 obtain ⟨k,hk⟩:∃ k,nn.length+1+1=k+1+m:=⟨nn.length+1 - m,by simp at hm;omega⟩
 have ee:iI (nn++[0]) k (nn.length+1+cG 0)=([],none):=by
  cases k with
  | zero=>rfl
  | succ k=>exact yf (by rw [l];exact Pq _)
 have hz:=hr (k+1);rw [wu e1 hb,ee] at hz;unfold mP tP;rw [l,hk];have hz:iI (nn++[0]) (k+1+m) 0=(rows++[zr (nn++[0]) nn.length 0],none):=hz;rw [hz];exact ⟨rfl,rows,rfl⟩
theorem Fb (hp:∀ p ∈ ps,goP p) {c:D} (ok:UO t) (h:eY ps n t c=some (nn.map D.int)) (l:nn.length<=800):okC (nn++[0]):=by
 refine ⟨by simp,by simp;omega,λi x hx=>?_⟩;rcases P9.mp (PJ hx) with hm | hm
 ·exact qK (λp h=>⟨(hp p h).nh,(hp p h).ci⟩) n t c _ ok h (by rw [Pd];omega) x (Qz.mpr ⟨x,hm,rfl⟩)
 ·rw [PN.mp hm];decide
variable {lc:Addr} {vg:V}
theorem FM (oc:qS mc) (hc:H lc=some (.lst (mc.cs.map V.int))) (hg:Dat K H (.tup (mc.as.map D.int)) vg) (n9:n<=1000)
  (hA:∀ H1 Q,Q [V.ref lc,vg,V.int mc.b,V.int n] H1->tA σ H1 Q):RE K (VE (sD K) (kr (zx K) [] E tA) (tC (.int 0))) σ H (FO (jg mc n ZV)):=λH1 s Q q =>
 hA H1 _ ⟨lc,vg,mc,n,rfl,oc,s _ _ hc,s.dat hg,n9,λp v1 ld ys H' s' hp d1 _ _=>⟨p,[v1,.ref ld],0,v1,rfl,rfl,Tg.of hp,rfl,q v1 H' s' d1⟩⟩
theorem BK {k:Nat} (ok:okC cs) (nf:mP cs=none) (h:LD K H (cD cs) v) (e:σ[k]?=some (some v):=by rfl):RC K (kr (D4 K) [] E (bW (fT k) dW)) σ H (tP cs):=λH1 s Q q =>
 RB.use (K:=K) (gB (a8 (k:=k) (s.ld h) e) dU) λvs H2 s2 q2=>⟨cs,ok,by rw [PM];exact q2,nf,λr us H' s' hr hr0 hd=>q r us H' (s2.free hr0) (s2.trans s') hr hd⟩
theorem FN {tK:TA} {v:Int} (oc:qS mc) (hc:H lc=some (.lst (mc.cs.map V.int))) (hg:Dat K H (.tup (mc.as.map D.int)) vg) (r:jg mc 1000 ZV=.ends v)
  (hA:∀ H1 Q,Q [V.ref lc,vg] H1->tA σ H1 Q) (hK:∀ H1 Q,Q [V.int mc.b] H1->tK σ H1 Q):RE K (Ea (D5 K) CF E tA tK) σ H (.int v):=λH1 s Q q =>
 hA H1 _ (hK H1 _ ⟨lc,vg,mc,1000,v,rfl,oc,s _ _ hc,s.dat hg,by decide,by decide,r,λH' s'=>q _ H' s' (Dat.SK v)⟩)
def xZ (K:W.Frag):Sp:=λvs H Q _=>∃ (a:Addr) (ns:List Int),vs=[.ref a]/\Yu K H a ns/\∀ H',Q (.bl true) H'
theorem Jk {t:TE} {es':List D} (e:es=es') (h:RC K t σ H es):RC K t σ H es':=by subst e;exact h
theorem HB (T:Txt P w K mg) (ML:Ok P w base k T.KY (rO K 8)) (Oo:Ok P w base k T.MH (Gy K)) (O7:Ok P w base k T.OA (lV K nQ)) (Nm:Ok P w base k T.L7 (Xq K wB)) (L1:Ok P w base k T.Kq (Xq K (jA 8))) (OJ:Ok P w base k T.Nj (D4 K)) (Oc:Ok P w base k T.Ms (D6 K)) (N8:Ok P w base k T.Mo (D0 K)) (KZ:Ok P w base k T.Ka (Th K (mq 8))) (On:Ok P w base k T.MG (zx K)) (O8:Tc P w K mg base WG k T.Oi T.NU ["code","args","size","steps"] (D5 K)):Ok P w base (k+1) T.Om (xZ K):=by
 refine T.Om.f.ok ZC (λvs H Q E h=>?_) (λcdv A outer s H vs Q E hr h=>?_)
 ·obtain ⟨a,ns,rfl,_⟩:=h;rfl
 have nd:=ZC.nd;obtain ⟨a,ns,rfl,hS,post⟩:=h;refine' ⟨_,?XU,?Y8⟩
 case XU =>
  refine' aE ?y14 ?y15
  case y14=>exact (bQ (i:=1) nd rfl (Or.inl rfl) (bY (aD aF (aD aF (aD aF aC)))))
  case y15 =>
   refine' aE ?y12 ?y13
   case y12=>exact (rg (i:=2) (j:=3) rfl nd rfl rfl (by decide) rfl rfl (aD (pc (D:=T.KY) ML hr (aD (pv 0) (aD (pv 1) (aD aF aC)))) (aD (pc (D:=T.MH) Oo hr (aD (pv 0) (aD (pv 1) aC))) aC)) (by kernel_rfl))
   case y13 =>
    refine' aE ?y10 ?y11
    case y10=>exact (bQ (i:=4) nd rfl (Or.inl rfl) (pc (D:=T.OA) O7 hr (aD (pv 2) (aD (pv 3) aC))))
    case y11 =>
     refine' aE ?y8 ?y9
     case y8 =>
      refine' bE ?y2 ?y3 ?y4
      case y2=>exact (PW.pt (fH (aN Bv (pc (D:=T.L7) Nm hr (aD (pv 4) aC)) d8 (aT _)) (fH (aN lI (aX aW rfl T.JY bU (aD (pv 4) aC)) (bL cJ (pc (D:=T.Kq) L1 hr (aD (pv 2) (aD (pv 3) aC))) aF) (aT _)) (eR (aN lI (aY aZ (aY bX (pc (D:=T.Nj) OJ hr (aD (pv 4) aC)) (Av wt aF)) aF) aO (aT _))))))
      case y3 =>
       refine' aH ?y1
       case y1=>exact (aP d8)
      case y4=>exact aQ
     case y9 =>
      refine' aE ?y6 ?y7
      case y6=>exact (jK Qt rfl (ko rfl T.MF (aD aF aC)) (a7 (i:=5) nd rfl (Or.inl rfl)) (aE (bQ (i:=6) nd rfl (Or.inl rfl) (pc (D:=T.Ms) Oc hr (aD (pv 0) (aD (pv 1) aC))))
 (aE (bQ (i:=7) nd rfl (Or.inl rfl) (pc (D:=T.Mo) N8 hr (aD (pv 0) (aD (pv 1) (aD (pv 6) aC)))))
 (aE (bQ (i:=8) nd rfl (Or.inl rfl) (pc (D:=T.Ka) KZ hr (aD (pv 2) (aD (pv 7) (aD (pv 6) aC)))))
 (aH (bE (PW.pt (fH (aN (HF hr) (aY aZ (pc (D:=T.MG) On hr (aD (pv 4) (aD (pv 7) (aD (pv 6) (aD aF aC))))) aF) (bA (aD aO (aD (pv 8) aC))) (aT _)) (eR (aN lI (Dr O8 hr rfl T.O2 T.OL.kp (IG T) gN (aD (pv 4) (aD (pv 7) aC)) (Fx (pv 6) HV)) (pv 8) (aT _))))) (aH (aP d8)) aQ))))))
      case y7 =>
       refine' aH ?y5
       case y5=>exact (aP d8)
 case Y8 =>
  refine fR ⟨dB (by decide),λt ht=>?_⟩;have hS0:=hS.same (aV ht (.lst [.int 0,.int 0,.int 10]));refine eB ?_;refine ⟨_,rfl,_,rfl,a,t,ns,8,0,0,10,rfl,hS0,aI,by decide,by decide,by decide,by decide,by decide,λv1 H1 X p1 q1 c1 b1 t1 g1 gc1 gd1 ZP dp1 sz1 dX=>?_⟩;refine ⟨_,rfl,_,rfl,a,t,ns,p1,q1,[.int c1],rfl,hS0.but b1 aI,t1,g1,λsub l ys H3 p3 q3 b3 t3 g3 hsub hl hy dy=>⟨v1,.ref l,rfl,?_⟩⟩;have ZO:=(hS0.but b1 aI).but b3 t1;have dX3:Dat K H3 (toD X) v1:=Dat.mono (b3.grow t1 t3) _ dX;have dp8:a9 X<=8:=by omega
  have sz31:bB X<=31:=by omega
  have sz40:bB X<=40:=by omega
  have hps:(BP++sub).Sublist Yz:=(Sw BP).append hsub;have F:=EW hsub;generalize BP++sub=ps at hps dy F;have gi:BY ps X:=⟨F.ok,F.gs,ZP,dp8,sz40⟩
  have hL:LD K H3 (ps.map VD) (.ref l):=LD.of hy dy;have go:∀ p ∈ ps,goP p:=λp hp=>GV p (hps.subset hp);obtain ⟨b,hb,_⟩:=AU (λp hp=>(F.hp p hp).1) (ke F.bp X ZP);obtain ⟨es,eS,eL⟩:=GX F.ok F.la dp8 hb
  obtain ⟨nn,rfl⟩:∃ nn:List Int,es=nn.map D.int:=by obtain ⟨nn,e,_⟩:=jw (λp hp=>⟨12,sO p (hps.subset hp)⟩) 8 X b.2 es eS;exact ⟨nn,e⟩
  rw [Pd] at eL;have l4:nn.length<=400:=by have:=jF F.ok.ok 8 X b.2 _ eS;rw [Pd] at this;omega
  have Xs:=Fb go ZP eS (by omega);obtain ⟨nf,rows,er⟩:=CY (λp hp=>⟨12,sO p (hps.subset hp)⟩) eS;have ec:(nn++[0]).map D.int=nn.map D.int++[D.int 0]:=by simp
  dsimp only;refine gY (K:=K) (gU (R:=nQ) (iK (aA (k:=2) dX3) (gB (a8 (k:=3) hL) dU)) ⟨ps,X,b,_,rfl,gi,F.la,hb,eS,rfl⟩) λl5 y5 H5 YC s5 hy5 dy5=>?_;rw [<- ec] at dy5;have LC:LD K H5 (cD (nn++[0])) (.ref l5):=LD.of hy5 dy5;have y5e:=qm dy5;subst y5e;have nl5:l5≠t:=PL (aU t3 YC);have dX5:=s5.dat dX3;have lc5:(cD (nn++[0])).length=nn.length+1:=by simp
  refine aR (K:=K) (b:=false) (RT.as (dP (b:=false) (c:=false) (RT.as (aJ (BE (eF (R:=wB) (d:=.bl true) (gB (a8 (k:=4) LC) dU) ⟨_,rfl,by rw [lc5];omega,by rw [ur Xs]⟩) f7)) rfl) λ_=>dP (b:=false) (c:=false) (RT.as (aJ (kI (eA (a8 (k:=4) LC)) (c8 (eF (R:=jA 8) (d:=.int b.1) (iK (aA (k:=2) dX5) (gB (a8 (k:=3) (s5.ld hL)) dU)) ⟨ps,X,rfl,F.ok,ZP,dp8,by decide,by rw [hb];rfl⟩) aG))) (by rw [lc5,Pw (by omega)];rfl)) λ_=>RT.as (aJ (vM (x:="end") (y:="end") (a6 (k:=1) (mf (jW (Jk er (BK (k:=4) Xs nf LC))) (AH aG)) aG rfl) aL)) (by rw [Pw rfl];rfl)) rfl) (λc=>nomatch c) (λ_ H7 s7=>?_);have s57:=s5.trans s7;refine eB ⟨3,rfl,by decide,by decide,nY (n:=3) (λi σ G=>∃ (z5 z6 z7 z8:Option V) (p q:Int),σ=[some (.ref a),some (.ref t),some v1,some (.ref l),some (.ref l5),z5,z6,z7,z8]/\Yu K G a ns/\G t=some (.lst [.int p,.int q,.int c1])/\0<=p/\Dat K G (toD X) v1/\G l5=some (.lst ((nn++[0]).map V.int))) ?_ ?_ ?_⟩
  ·exact ⟨none,none,none,none,p3,q3,rfl,ZO.same s57,s57 _ _ t3,g3,s7.dat dX5,s7 _ _ hy5⟩
  ·rintro i σ G hi ⟨z5,z6,z7,z8,p,q,rfl,hSG,tG,gp,dG,lG⟩;refine kJ ?_;dsimp only;refine fR ⟨_,rfl,_,rfl,a,t,ns,p,q,[.int c1],rfl,hSG,tG,gp,λbb H8 p8 q8 b8 t8 g8 hb1 hb2=>?_⟩;refine fR ⟨_,rfl,_,rfl,_,rfl,a,t,ns,bb,p8,q8,[.int c1],rfl,hSG.but b8 tG,t8,g8,hb1,hb2,λu H9 as p9 q9 b9 t9 g9 ha dA=>?_⟩;have dX9:=Dat.mono (b9.grow t8 t9) _ (Dat.mono (b8.grow tG t8) _ dG);have l9:=b9 _ _ nl5 (b8 _ _ nl5 lG);have oc:qS ⟨nn++[0],as,bb⟩:=⟨Xs,ha.1,ha.2.1,ha.2.2.1,ha.2.2.2⟩
   have run:=Fc (mc:=⟨nn++[0],as,bb⟩) ⟨ha.1,ha.2.1,ha.2.2.1⟩ (λp hp=>⟨(go p hp).nh,(go p hp).pg,(go p hp).hl⟩) ZP dp8 eS ec (N:=1000) (by show (nn++[0]).length<=1000;rw [tB];show nn.length+1<=1000;omega);refine eJ (K:=K) (d:=.int (bK as bb X)) (bM (R:=mq 8) (aB (aA (k:=2) dX9) (aB (aA (k:=7) dA) (aB (aA (k:=6) (Dat.SK bb)) aM))) ⟨X,as,bb,rfl,ZP,dp8,ha,rfl⟩) λvd H10 s10 qd=>?_;obtain rfl:=qd.SN;have dA10:=s10.dat dA;have l10:=s10 _ _ l9;refine jk (b:=false) (RT.as (dP (b:=false) (c:=false) (RT.as (aJ (FL (K:=K) (d:=.tup [.str "ends",.int (bK as bb X)]) (e:=.tup [.str "ends",.int (bK as bb X)]) (RE.as (FM (mc:=⟨nn++[0],as,bb⟩) (n:=1000) oc l10 dA10 (by decide) (λ_ _ q=>⟨_,rfl,_,rfl,_,rfl,q⟩)) (by rw [run];rfl)) (bF (aB aL (aB (aA (k:=8) (Dat.SK _)) aM))) rfl rfl (show 1<=20 by decide))) (by rw [kZ _ rfl];rfl)) λ_=>RT.as (aJ (kI (FN (mc:=⟨nn++[0],as,bb⟩) oc l10 dA10 run (λ_ _ q=>⟨_,rfl,_,rfl,q⟩) (λ_ _ q=>⟨_,rfl,q⟩)) (aA (k:=8) (Dat.SK _)))) (by rw [Pw rfl];rfl)) rfl) (λc=>nomatch c) (λ_ H11 s11=>?_);have s911:=s10.trans s11;exact mi ⟨_,_,_,_,p9,q9,rfl,((hSG.but b8 tG).but b9 t8).same s911,s911 _ _ t9,g9,s911.dat dX9,s911 _ _ l9⟩
  rintro σ G ⟨z5,z6,z7,z8,p,q,rfl,_⟩;exact post G
end
end My
end
namespace My
open PySem L2 PyProof.Rows
section
variable {P:Program} {w:World} {K:W.Frag} {mg:Str->Option Value} {base:Heap} {k:Nat}
theorem Dc (vs:List V) (H:Hp) (Q:VK) (E:XK):¬ rO K 0 vs H Q E:=λ⟨a,t,ns,room,p,q,c,_,_,_,_,_,_,_,h,_⟩=>by omega
theorem Bo (vs:List V) (H:Hp) (Q:VK) (E:XK):¬ kL K (kU 0) vs H Q E:=λ⟨ds,es,_,⟨x,k,_,_,h,_⟩,_⟩=>nomatch h
theorem C9 (vs:List V) (H:Hp) (Q:VK) (E:XK):¬ Th K (Gd 0) vs H Q E:=λ⟨ds,es,_,h,_⟩=>h
theorem Bp (vs:List V) (H:Hp) (Q:VK) (E:XK):¬ kL K (nR 0) vs H Q E:=λ⟨ds,es,_,⟨t,_,_,h,_⟩,_⟩=>by have:=kh t;omega
theorem Bn (vs:List V) (H:Hp) (Q:VK) (E:XK):¬ Xq K (jA 0) vs H Q E:=λ⟨as,d,_,h,_⟩=>Bm as d h
theorem C8 (vs:List V) (H:Hp) (Q:VK) (E:XK):¬ lV K (kT 0) vs H Q E:=λ⟨as,es,_,⟨ps,t,c,_,_,_,_,h,_⟩,_⟩=>by
 have:1<=a9 t:=by cases t <;> simp [a9]
 omega
theorem Da (vs:List V) (H:Hp) (Q:VK) (E:XK):¬ Th K (mq 0) vs H Q E:=λ⟨ds,es,_,⟨t,_,_,_,_,h,_⟩,_⟩=>by have:=kh t;omega
theorem chain (T:Txt P w K mg):Ok P w base 25 T.Om (xZ K):=by
 have w1:=xD (P:=P) (w:=w) (base:=base) (k:=0) T;have g1:=vi (P:=P) (w:=w) (base:=base) (k:=0) T;have n2:=yR (k:=1) T g1 w1;have wi:=pG (P:=P) (w:=w) (base:=base) (k:=0) T;have it:=yS (k:=2) T n2 (wi.mono (by decide));have nt:=vt (k:=3) T it
 have wk:∀ n:Nat,Ok P w base (n+1) T.Mj (kL K (nR n)):=by
  intro n
  induction n with
  | zero=>exact iz Bp
  | succ n ih=>exact Bu (k:=n+1) T (wi.mono (by omega)) ih
 have nm:=yQ (P:=P) (w:=w) (base:=base) (k:=0) T;have mk:=yP (k:=1) T g1 w1
 have pp:∀ n:Nat,Ok P w base (n+3) T.J6 (Th K (Rpp n)):=by
  intro n
  induction n with
  | zero=>exact jG (k:=2) (n:=0) T mk n2 (wi.mono (by decide)) (iz C9)
  | succ n ih=>exact jG (k:=n+3) (n:=n+1) T (mk.mono (by omega)) (n2.mono (by omega)) (wi.mono (by omega)) ih
 have ma:∀ n:Nat,Ok P w base (n+1) T.KH (kL K (kU n)):=by
  intro n
  induction n with
  | zero=>exact iz Bo
  | succ n ih=>exact xE (k:=n+1) T (wi.mono (by omega)) ih
 have nu:=qX (k:=4) T (ma 3);have pa:=sy (k:=6) T (pp 3) (nu.mono (by decide));have fi:=sv (k:=4) T (g1.mono (by decide)) (ma 3) (w1.mono (by decide));have ce:=yN (k:=5) T (w1.mono (by decide)) fi;have ins:=nz (P:=P) (w:=w) (base:=base) (k:=0) T;have ai:=mn (k:=6) T (w1.mono (by decide)) (ins.mono (by decide)) ce;have pc:=xC (k:=7) T (nm.mono (by decide)) pa ai;have ms:=oo (P:=P) (w:=w) (base:=base) (k:=0) T
 have mt:∀ n:Nat,Ok P w base (n+1) T.Ll (mK K oD n):=by
  intro n
  induction n with
  | zero=>exact iz Am
  | succ n ih=>exact yT (k:=n+1) T (ms.mono (by omega)) ih
 have fo:=xB (k:=4) T (mt 3)
 have lf:∀ n:Nat,Ok P w base n T.KW (mK K oL n):=by
  intro n
  induction n with
  | zero=>exact iz Am
  | succ n ih=>exact xw (k:=n) T ih
 have jo:=vj (P:=P) (w:=w) (base:=base) (k:=0) T;have jp:=om (k:=1) T jo;have wo:=yV (k:=5) T fo;have lb:=vm (k:=2) T jp;have bw:=pF (k:=6) T wo (lb.mono (by decide));have bc:=oj (k:=9) T (wk 8) (bw.mono (by decide));have st:=Bs (k:=9) T (pc.mono (by decide));have ns:=xF (k:=10) T st;have fc:=qW (P:=P) (w:=w) (base:=base) (k:=0) T
 have lc:∀ n:Nat,Ok P w base (2 * n+6) T.Kf (lV K (kT n)):=by
  intro n
  induction n with
  | zero=>exact iz C8
  | succ n ih =>have pk:=vk (k:=2 * n+6) T ih (jp.mono (by omega));have pp:=sC (k:=2 * n+6) T ih (fo.mono (by omega)) (fc.mono (by omega));exact sA (k:=2 * n+7) T pk pp
 have co:=yM (k:=22) T (bc.mono (by decide)) (lc 8);have ly:=HC (k:=23) T (nt.mono (by decide)) (ns.mono (by decide)) co;have ov:=uZ (P:=P) (w:=w) (base:=base) (k:=0) T
 have le:∀ n:Nat,Ok P w base (n+3) T.Kq (Xq K (jA n)):=by
  intro n
  induction n with
  | zero=>exact iz Bn
  | succ n ih=>exact sk (k:=n+3) T ih (ov.mono (by omega)) ((lf 3).mono (by omega))
 have lp:=qV (P:=P) (w:=w) (base:=base) (k:=0) T;have dr:=uW (P:=P) (w:=w) (base:=base) (k:=0) T;have pk:=va (k:=1) T dr
 have tr:∀ n:Nat,Ok P w base (n+2) T.KY (rO K n):=by
  intro n
  induction n with
  | zero=>exact iz Dc
  | succ n ih=>exact ve (k:=n+2) T (dr.mono (by omega)) (pk.mono (by omega)) ih
 have ls:=xy (k:=1) T (lp.mono (by decide)) (dr.mono (by decide));have lsz:=vc (k:=2) T pk;have lar:=uU (k:=2) T (dr.mono (by decide)) pk;have ltw:=xA (P:=P) (w:=w) (base:=base) (k:=0) T
 have lw:∀ n:Nat,Ok P w base (n+1) T.Ka (Th K (mq n)):=by
  intro n
  induction n with
  | zero=>exact iz Da
  | succ n ih=>exact su (k:=n+1) T (ltw.mono (by omega)) ih
 have lnm:=sr (P:=P) (w:=w) (base:=base) (k:=0) T;have lbe:=qU (P:=P) (w:=w) (base:=base) (k:=0) T;have lgo:=uY (P:=P) (w:=w) (base:=base) (k:=0) T;have lds:=uV (k:=1) T ltw;have lfr:=uX (k:=2) T (lnm.mono (by decide)) (lbe.mono (by decide)) (lgo.mono (by decide)) lds;have lru:=xx (k:=3) T lfr;have mns:=vq (k:=1) T w1;have mna:=vn (k:=1) T w1;have mwb:=oq (P:=P) (w:=w) (base:=base) (k:=0) T;have mic:=yO (k:=1) T w1;have mnc:=vp (k:=2) T mic;have mia:=mS (P:=P) (w:=w) (base:=base) (k:=0) T;have mnt:=qY (P:=P) (w:=w) (base:=base) (k:=0) T;have mmi:=mm (P:=P) (w:=w) (base:=base) (k:=0) T;have mtk:=pE (P:=P) (w:=w) (base:=base) (k:=0) T;have mpu:=pC (P:=P) (w:=w) (base:=base) (k:=0) T;have mfn:=ny (P:=P) (w:=w) (base:=base) (k:=0) T;have mwy:=qT (k:=1) T mtk;have mch:=nv (k:=1) T mtk mpu mwb;have mst:=pD (k:=2) T (mia.mono (by decide)) (mnt.mono (by decide)) mwy (mfn.mono (by decide)) mch;have msd:=yU (k:=2) T mnc (mns.mono (by decide)) (mna.mono (by decide)) (w1.mono (by decide)) (mmi.mono (by decide));have mrn:=HD (k:=4) T msd (mst.mono (by decide));have mli:=Bt (k:=3) T mnc (mia.mono (by decide));exact HB (k:=24) T ((tr 8).mono (by decide)) (ls.mono (by decide)) ly (mic.mono (by decide)) ((le 8).mono (by decide)) (mli.mono (by decide)) (lsz.mono (by decide)) (lar.mono (by decide)) ((lw 8).mono (by decide)) (lru.mono (by decide)) (mrn.mono (by decide))
end
noncomputable def df_mk {K:W.Frag} {h:Heap} {mg:Str->Option Value} {n:Str} {st:Stmt} {ps:List Str} {f:Addr} {oc:Value} {od an:Option Addr} {osl:Array (Option Value)} {kV doc pm cdv ct:Value} (X:K.In h) (G:h.Ns mainGlobals mg) (a:W.nsIn K mainGlobals n=some (some (.ref f))) (l:K.lookup f=some ⟨oc,od,.func (W.fnOf n n (cX st) (cP st) (aK st) .none kV doc pm an cdv ct),osl⟩) (c:W.codeIn K cdv n=true) (k:W.keepIn K (.ref f)=true)
  (hb:∀ us:List Value,us.length=ps.length->bindArgs (W.fnOf n n (cX st) (cP st) (aK st) .none kV doc pm an cdv ct) ⟨us,[]⟩=pure (ps.zip us)):Df K mg n st ps:=⟨f,_,kC l c k,W.mg_of X G a,.all hb⟩
abbrev NsD (K:W.Frag) (n:Str) (f:Addr):Prop:=W.nsIn K mainGlobals n=some (some (.ref f))
abbrev LkD (K:W.Frag) (n:Str) (st:Stmt) (f:Addr) (oc:Value) (od:Option Addr) (sl:Array (Option Value)) (kV dc pm:Value) (an:Option Addr) (cd ct:Value):Prop:=K.lookup f=some ⟨oc,od,.func (W.fnOf n n (cX st) (cP st) (aK st) .none kV dc pm an cd ct),sl⟩
variable {l:W.OpenLaw}
theorem all_mk {w:World} {K:W.Frag} {h:Heap} {mg:Str->Option Value} {fa:Addr} (X:K.In h) (G:h.Ns mainGlobals mg) (Zg:mg "law"=some (.ref fa)) (DD:Dfs K mg) {v36:Addr} {q36:Tok} {vc36:Value} {vd36:Option Addr} {vs36:Array (Option Value)} {vn36:Nat} {q43:Tok} {f36 f43:Addr} {od36 od43 an36 an43:Option Addr} {sl36 sl43:Array (Option Value)} {oc36 oc43 kV36 kV43 dc36 dc43 pm36 pm43 cd36 cd43 ct36 ct43:Value} {J0:Addr} {S1:Addr} {V7 Uq:Option Addr} {V8:Array (Option Value)} {V9 Ur Us Ut TH Uu:Value} {Tn:Addr} {W7 Vo:Option Addr} {W8:Array (Option Value)} {W9 Vp Vq Vr Uk Vs:Value} {To:Addr} {Xa Vt:Option Addr} {Xb:Array (Option Value)} {Xc Vu Vv Vw Ul Vx:Value} {TJ:Addr} {Xu VP:Option Addr} {Xv:Array (Option Value)} {Xw VQ VR VS Uw VT:Value} {S5:Addr} {Wr UT:Option Addr} {Ws:Array (Option Value)} {Wt UU UW UX T7 UY:Value} {S6:Addr} {Wu UZ:Option Addr} {Wv:Array (Option Value)} {Ww U0 U1 U3 T8 U4:Value} {Tp:Addr} {Xd Vy:Option Addr} {Xe:Array (Option Value)} {Xf Vz VA VB Um VC:Value} {Ls:Tok} {LS:Tok} {KU:Tok} {LR:Tok} {Ke:Tok} {Mi:Tok} {Kn:Tok} {K8:Tok} {LV:Tok} {Lq:Tok} {Ol:Tok} {NK:Tok} {Lr:Tok} {LQ:Tok} {LX:Tok} {Lu:Tok} {LW:Tok} {LU:Tok} {Mb:Addr} {Lp:Addr} {Ky:Addr} {Mx:Addr} {MN:Addr} {Ma:Addr} {Nc:Addr} {N1:Addr} {NI:Addr} {Ot:Addr} {N3:Addr} {Xx:Obj}
  (a36:NsD K "need_size" f36) (l36:K.lookup f36=some ⟨oc36,od36,.func (W.fnOf "need_size" "need_size" (cX fV) (cP fV) (aK fV) (.ref v36) kV36 dc36 pm36 an36 cd36 ct36),sl36⟩) (c36:W.codeIn K cd36 "need_size"=true) (k36:W.keepIn K (.ref f36)=true)
  (a43:NsD K "run" f43) (l43:LkD K "run" mI f43 oc43 od43 sl43 kV43 dc43 pm43 an43 cd43 ct43) (c43:W.codeIn K cd43 "run"=true) (k43:W.keepIn K (.ref f43)=true)
  (e36:K.lookup v36=some ⟨vc36,vd36,.seq #[.int 10000 q36] vn36,vs36⟩)
  (e43:∀ (z:Setting) (x_code XN XO:Value),W.peek K z (bindArgs (W.fnOf "run" "run" (cX mI) (cP mI) (aK mI) .none kV43 dc43 pm43 an43 cd43 ct43) ⟨[x_code,XN],[("size",XO)]⟩)=some ([("code",x_code),("args",XN),("size",XO),("steps",.int 1000 q43)]:List (Str × Value)))
  (L6:W.nsIn K mainGlobals "Machine"=some (some (.ref J0)))
  (TR:W.findIn K (.ref J0) "__init__"=some (some (.ref S1))) (TU:K.lookup S1=some ⟨V9,V7,.func (W.fnOf "__init__" "Machine.__init__" (cX cH) (cP cH) (aK cH) .none Ur Us Ut Uq TH Uu),V8⟩) (TV:W.codeIn K TH "Machine.__init__"=true) (TX:W.keepIn K (.ref S1)=true) (TY:W.isFn K (.ref S1)=true)
  (Wx:W.makesIn K J0=true) (Wz:W.keepIn K (.ref J0)=true)
  (Ux:W.findIn K (.ref J0) "take"=some (some (.ref Tn))) (Uy:K.lookup Tn=some ⟨W9,W7,.func (W.fnOf "take" "Machine.take" (cX dJ) (cP dJ) (aK dJ) .none Vp Vq Vr Vo Uk Vs),W8⟩) (Uz:W.codeIn K Uk "Machine.take"=true) (T4:W.keepIn K (.ref Tn)=true) (UA:W.isFn K (.ref Tn)=true)
  (UB:W.findIn K (.ref J0) "push"=some (some (.ref To))) (UC:K.lookup To=some ⟨Xc,Xa,.func (W.fnOf "push" "Machine.push" (cX dH) (cP dH) (aK dH) .none Vu Vv Vw Vt Ul Vx),Xb⟩) (UD:W.codeIn K Ul "Machine.push"=true) (T5:W.keepIn K (.ref To)=true) (UE:W.isFn K (.ref To)=true)
  (U5:W.findIn K (.ref J0) "way"=some (some (.ref TJ))) (U6:K.lookup TJ=some ⟨Xw,Xu,.func (W.fnOf "way" "Machine.way" (cX dZ) (cP dZ) (aK dZ) .none VQ VR VS VP Uw VT),Xv⟩) (U7:W.codeIn K Uw "Machine.way"=true) (Ua:W.keepIn K (.ref TJ)=true) (U8:W.isFn K (.ref TJ)=true)
  (Ub:W.findIn K (.ref J0) "finish"=some (some (.ref S5))) (Uc:K.lookup S5=some ⟨Wt,Wr,.func (W.fnOf "finish" "Machine.finish" (cX cV) (cP cV) (aK cV) .none UU UW UX UT T7 UY),Ws⟩) (Ud:W.codeIn K T7 "Machine.finish"=true) (Tu:W.keepIn K (.ref S5)=true) (Ue:W.isFn K (.ref S5)=true)
  (Ug:W.findIn K (.ref J0) "change"=some (some (.ref S6))) (Uh:K.lookup S6=some ⟨Ww,Wu,.func (W.fnOf "change" "Machine.change" (cX cU) (cP cU) (aK cU) .none U0 U1 U3 UZ T8 U4),Wv⟩) (Ui:W.codeIn K T8 "Machine.change"=true) (Tv:W.keepIn K (.ref S6)=true) (Uj:W.isFn K (.ref S6)=true)
  (UG:W.findIn K (.ref J0) "step"=some (some (.ref Tp))) (UH:K.lookup Tp=some ⟨Xf,Xd,.func (W.fnOf "step" "Machine.step" (cX dI) (cP dI) (aK dI) .none Vz VA VB Vy Um VC),Xe⟩) (UI:W.codeIn K Um "Machine.step"=true) (T6:W.keepIn K (.ref Tp)=true) (UJ:W.isFn K (.ref Tp)=true)
  (SI:X3 K J0)
  (UQ:W.findIn K (.ref J0) "cells"=some none)
  (UR:W.findIn K (.ref J0) "given"=some none)
  (Vd:W.findIn K (.ref J0) "size"=some none)
  (TQ:W.findIn K (.ref J0) "pile"=some none)
  (Tz:W.findIn K (.ref J0) "place"=some none)
  (T9:W.findIn K (.ref J0) "kept"=some none)
  (Up:W.findIn K (.ref J0) "ended"=some none)
  (K2:W.nsIn K mainGlobals "MOST_PARTS"=some (some (.int 40 Ls)))
  (Lf:W.nsIn K mainGlobals "MOST_DEEP"=some (some (.int 8 LS)))
  (KC:W.nsIn K mainGlobals "LONGEST_NAME"=some (some (.int 8 KU)))
  (KD:W.nsIn K mainGlobals "MOST_CELL"=some (some (.int 99 LR)))
  (J7:W.nsIn K mainGlobals "MOST_PATTERN_DEEP"=some (some (.int 3 Ke)))
  (Ly:W.nsIn K mainGlobals "MOST_GAP"=some (some (.int 9999 Mi)))
  (J9:W.nsIn K mainGlobals "MOST_PIECE_CELLS"=some (some (.int 12 Kn)))
  (KI:W.nsIn K mainGlobals "MOST_PIECES"=some (some (.int 16 K8)))
  (Lh:W.nsIn K mainGlobals "MOST_NEAR"=some (some (.int 9 LV)))
  (K0:W.nsIn K mainGlobals "CALL_CELLS"=some (some (.int 3 Lq)))
  (NV:W.nsIn K mainGlobals "END"=some (some (.int 0 Ol)))
  (Np:W.nsIn K mainGlobals "CALL"=some (some (.int 15 NK)))
  (K1:W.nsIn K mainGlobals "MOST_CELLS"=some (some (.int 1000 Lr)))
  (Le:W.nsIn K mainGlobals "MANY_ARGS"=some (some (.int 4 LQ)))
  (LO:W.nsIn K mainGlobals "MOST_SIZE"=some (some (.int 10000 LX)))
  (K3:W.nsIn K mainGlobals "MOST_STEPS"=some (some (.int 100000 Lu)))
  (Li:W.nsIn K mainGlobals "MOST_PILE"=some (some (.int 64 LW)))
  (Lg:W.nsIn K mainGlobals "MOST_KEPT"=some (some (.int 16 LU)))
  (Kl:W.nsIn K mainGlobals "MOST_IN_LEAF"=some (some (.ref Mb))) (Km:KTD.tabLook (KTD.datLooks λb=>K.lookup b) (λb=>K.lookup b) Mb TL=true)
  (J1:W.nsIn K mainGlobals "TREES_IN_BRANCH"=some (some (.ref Lp))) (J2:KTD.tabLook (KTD.datLooks λb=>K.lookup b) (λb=>K.lookup b) Lp TB=true)
  (Kc:W.nsIn K mainGlobals "MARK_LENGTHS"=some (some (.ref Ky))) (JZ:KTD.tabLook (KTD.datLooks λb=>K.lookup b) (λb=>K.lookup b) Ky TM=true)
  (Ks:W.nsIn K mainGlobals "FILLED_FROM"=some (some (.ref Mx))) (Kt:KTD.tabLook (KTD.datLooks λb=>K.lookup b) (λb=>K.lookup b) Mx TF=true)
  (Lj:W.nsIn K mainGlobals "MOST_TOLD"=some (some (.ref MN))) (Lk:KTD.tabLook (KTD.datLooks λb=>K.lookup b) (λb=>K.lookup b) MN Y6=true)
  (J5:W.nsIn K mainGlobals "INSTRUCTIONS"=some (some (.ref Ma))) (Ml:hX K (.tup INS) (.ref Ma)=true)
  (Lz:W.nsIn K mainGlobals "STRAIGHT"=some (some (.ref Nc))) (Nf:hX K (.tup STR) (.ref Nc)=true)
  (MT:W.nsIn K mainGlobals "AHEAD"=some (some (.ref N1))) (N4:hX K (.tup AHE) (.ref N1)=true)
  (MB:W.nsIn K mainGlobals "BEHIND"=some (some (.ref NI))) (NL:hX K (.tup BEH) (.ref NI)=true)
  (Nq:W.nsIn K mainGlobals "WAYS"=some (some (.ref Ot))) (Ou:hX K (.tup WAY) (.ref Ot)=true)
  (MU:W.nsIn K mainGlobals "BASIC"=some (some (.ref N3))) (N5:qL K BAS N3=true)
  (Mg:K.lookup Ky=some Xx) (Mc:KTD.tabLook KTD.flatLooks (λb=>K.lookup b) Ky ([("hole",.int 2),("gap",.int 3),("slot",.int 2)]:List (Str × PyData))=true) (Mh:KTD.hashesOf (λb=>K.lookup b) Ky=([("hole",.int 2),("gap",.int 3),("slot",.int 2)]:List (Str × PyData)).map λp=>(PySem.strKind l.prog w).hash p.1)
  (OV:W.nsIn K mainGlobals "len"=some none)
  (MK:W.nsIn K mainGlobals "isinstance"=some none)
  (OU:W.nsIn K mainGlobals "int"=some none)
  (Ov:W.nsIn K mainGlobals "bool"=some none)
  (OY:W.nsIn K mainGlobals "str"=some none)
  (N7:W.nsIn K mainGlobals "tuple"=some none)
  (Ow:W.nsIn K mainGlobals "list"=some none)
  (N6:W.nsIn K mainGlobals "range"=some none)
  (OS:W.nsIn K mainGlobals "all"=some none)
  (OT:W.nsIn K mainGlobals "any"=some none)
  (OX:W.nsIn K mainGlobals "set"=some none)
  (OZ:W.nsIn K mainGlobals "sum"=some none)
  (Ng:W.nsIn K mainGlobals "reversed"=some none)
  (O0:W.nsIn K mainGlobals "zip"=some none)
  (MQ:W.nsIn K mainGlobals "enumerate"=some none)
  (OW:W.nsIn K mainGlobals "min"=some none) :
  ∃ fd:FuncData,(∀ (s:Shared) (v:Value),BindsTo s fd ⟨[v],[]⟩ [("_law_script",v)])/\∀ base:Heap,K.In base->base.Ns mainGlobals mg->Tc l.prog w K mg base WG 25 fa fd ["_law_script"] (xZ K):=by
 have M:∀ {n:Str} {v:Value},W.nsIn K mainGlobals n=some (some v)->mg n=some v:=W.mg_of X G;have N:∀ {n:Str},W.nsIn K mainGlobals n=some none->mg n=none:=W.mg_none_of X G;have e:=Zg.symm.trans DD.Om.m;cases e
 let T:Txt l.prog w K mg :=
  {toDfs:=DD,
   LL:=f36,LM:=W.fnOf "need_size" "need_size" (cX fV) (cP fV) (aK fV) (.ref v36) kV36 dc36 pm36 an36 cd36 ct36,MP:=v36,Mn:=q36,LN:=⟨⟨_,_,_,_,_,_,_,_,_,rfl,l36,c36⟩,k36,⟨_,_,e36,rfl⟩⟩,Nu:=M a36,
   Oi:=f43,NU:=W.fnOf "run" "run" (cX mI) (cP mI) (aK mI) .none kV43 dc43 pm43 an43 cd43 ct43,OR:=q43,OL:=kC (st:=mI) l43 c43 k43,O2:=M a43,w_run:=e43,
   JU:=J0,L6:=M L6,
   Kj:=S1,Kk:=W.fnOf "__init__" "Machine.__init__" (cX cH) (cP cH) (aK cH) .none Ur Us Ut Uq TH Uu,Lc:=kC (st:=cH) TU TV TX,
   XQ:=⟨Wx,TR,TY,Wz⟩,
   Kx:=Tn,KB:=W.fnOf "take" "Machine.take" (cX dJ) (cP dJ) (aK dJ) .none Vp Vq Vr Vo Uk Vs,Mf:=kC (st:=dJ) Uy Uz T4,
   Tj:=⟨Ux,UA,T4⟩,
   KO:=To,KR:=W.fnOf "push" "Machine.push" (cX dH) (cP dH) (aK dH) .none Vu Vv Vw Vt Ul Vx,Md:=kC (st:=dH) UC UD T5,
   SR:=⟨UB,UE,T5⟩,
   K6:=TJ,K7:=W.fnOf "way" "Machine.way" (cX dZ) (cP dZ) (aK dZ) .none VQ VR VS VP Uw VT,Mz:=kC (st:=dZ) U6 U7 Ua,
   V6:=⟨U5,U8,Ua⟩,
   Kw:=S5,KA:=W.fnOf "finish" "Machine.finish" (cX cV) (cP cV) (aK cV) .none UU UW UX UT T7 UY,Lx:=kC (st:=cV) Uc Ud Tu,
   Vb:=⟨Ub,Ue,Tu⟩,
   Kv:=S6,Kz:=W.fnOf "change" "Machine.change" (cX cU) (cP cU) (aK cU) .none U0 U1 U3 UZ T8 U4,Lw:=kC (st:=cU) Uh Ui Tv,
   Vc:=⟨Ug,Uj,Tv⟩,
   KP:=Tp,KS:=W.fnOf "step" "Machine.step" (cX dI) (cP dI) (aK dI) .none Vz VA VB Vy Um VC,Me:=kC (st:=dI) UH UI T6,
   VO:=⟨UG,UJ,T6⟩,
   SI:=SI,
   UQ:=UQ,
   UR:=UR,
   Vd:=Vd,
   TQ:=TQ,
   Tz:=Tz,
   T9:=T9,
   Up:=Up,
   Ls:=Ls,K2:=M K2,
   LS:=LS,Lf:=M Lf,
   KU:=KU,KC:=M KC,
   LR:=LR,KD:=M KD,
   Ke:=Ke,J7:=M J7,
   Mi:=Mi,Ly:=M Ly,
   Kn:=Kn,J9:=M J9,
   K8:=K8,KI:=M KI,
   LV:=LV,Lh:=M Lh,
   Lq:=Lq,K0:=M K0,
   Ol:=Ol,NV:=M NV,
   NK:=NK,Np:=M Np,
   Lr:=Lr,K1:=M K1,
   LQ:=LQ,Le:=M Le,
   LX:=LX,LO:=M LO,
   Lu:=Lu,K3:=M K3,
   LW:=LW,Li:=M Li,
   LU:=LU,Lg:=M Lg,
   KN:=Mb,Kl:=M Kl,Km:=λh x=>Sf x Km,
   Kd:=Lp,J1:=M J1,J2:=λh x=>Sf x J2,
   Ki:=Ky,Kc:=M Kc,JZ:=λh x=>Sf x JZ,
   K5:=Mx,Ks:=M Ks,Kt:=λh x=>Sf x Kt,
   Mm:=MN,Lj:=M Lj,Lk:=λh x=>Sf x Lk,
   Kh:=Ma,J5:=M J5,KQ:=Ml,
   ME:=Nc,Lz:=M Lz,NH:=Nf,
   NB:=N1,MT:=M MT,Ox:=N4,
   Nh:=NI,MB:=M MB,Oj:=NL,
   N0:=Ot,Nq:=M Nq,OK:=Ou,
   NC:=N3,MU:=M MU,Oy:=N5,
   MO:=⟨⟨_,Mg⟩,λh x=>⟨_,W.kt_tab_in l.prog w x Mc (by decide +kernel) Mh,rfl⟩⟩,
   JY:=N OV,
   J4:=N MK,
   OO:=N OU,
   OM:=N Ov,
   OP:=N OY,
   KL:=N N7,
   NJ:=N Ow,
   MF:=N N6,
   Nv:=N OS,
   O3:=N OT,
   O5:=N OX,
   Oz:=N OZ,
   Nd:=N Ng,
   OQ:=N O0,
   Nw:=N MQ,
   O4:=N OW }
 obtain ⟨_,_,_,_,_,_,_,_,_,e,_⟩:=DD.Om.f.ex;exact ⟨_,λs v=>by rw [e];exact .of_eq rfl,λbase _ _=>chain T⟩
theorem walk {q:Program} {loose:List Str} {XP:(Str->Option Value)->Heap->Prop} {YP:World->Heap->Prop} {d:DefRec} {K:Params->W.Frag} (hn:l.most=some 63) (hdf:d.params.defaults=[])
  (hY:∀ (w:World) (h:Heap),YP w h->(K w.params).In h)
  (F:∀ (w:World) (mg:Str->Option Value) (fa:Addr) (h:Heap),(K w.params).In h->h.Ns mainGlobals mg->mg d.name=some (.ref fa) ->
   ∃ fd:FuncData,(∀ (s:Shared) (u:Value),BindsTo s fd ⟨[u],[]⟩ [("_law_script",u)])/\∀ base:Heap,(K w.params).In base->base.Ns mainGlobals mg->Tc l.prog w (K w.params) mg base WG 25 fa fd ["_law_script"] (xZ (K w.params))) :
  W.WalkO q loose XP YP l.row.toRowW d [] (λf vs=>PySem.call f vs) :=
 L2.Z5 (n:=63) (k:=25) (x:="_law_script") (CX:=λ_=>WG) (sp:=λw=>xZ (K w.params)) hn (by decide) hdf ⟨rfl,by decide,by decide⟩ hY F (λ_ _ a ns hl hO hS=>⟨a,ns,rfl,Ik hO hS,λ_=>rfl⟩) λ_ _ _ _ _ z=>z
end My
open PySem PySem.W PyProof.Rows
set_option maxRecDepth 100000 in
set_option maxHeartbeats 0 in
theorem PySem.Challenge.cw_piecelay_k16_whole_lay_holds : PySem.Challenge.rw_piecelay_k16_whole_lay.Holds := by
 w_on;refine holds_law My.said λsaid=>?_
 refine holds_open (q:=My.view) (loose:=My.loose) (Xt:=My.xt) (XP:=XL My.view []) (Yf:=Hook.obs (kHook My.k0.heap_1 My.kas My.kas_ok)) (Ya:=Hook.val (kHook My.k0.heap_1 My.kas My.kas_ok)) (YP:=Hook.says (kHook My.k0.heap_1 My.kas My.kas_ok)) (N:=My.NN) My.left (Hook.of (kHook My.k0.heap_1 My.kas My.kas_ok)) (Hook.keeps (kHook My.k0.heap_1 My.kas My.kas_ok)) (λs e=>xl_of s (Bool.and_eq_true_iff.mp e).1) XL.keeps (by rfl) (by rfl) (by rfl) (λs e=>recFacts_of (Bool.and_eq_true_iff.mp e).2) (by rfl) (by first | assumption | decide +kernel) (by decide +kernel) ⟨rfl,rfl,rfl,rfl,rfl,by decide +kernel⟩ ?hw ?hc
 case hw=>w_witness2
 k_fill
 refine My.walk (l:=PySem.Challenge.rw_piecelay_k16_whole_lay) rfl rfl (λw h Y=>PySem.W.kIn_of Y) ?F
 case F =>
  intro w mg fa h KX G hmg;refine' My.all_mk KX G hmg ?DD ?a36 ?l36 ?c36 ?k36 ?a43 ?l43 ?c43 ?k43 ?e36 ?e43 ?L6 ?TR ?TU ?TV ?TX ?TY ?Wx ?Wz ?Ux ?Uy ?Uz ?T4 ?UA ?UB ?UC ?UD ?T5 ?UE ?U5 ?U6 ?U7 ?Ua ?U8 ?Ub ?Uc ?Ud ?Tu ?Ue ?Ug ?Uh ?Ui ?Tv ?Uj ?UG ?UH ?UI ?T6 ?UJ ?SI ?UQ ?UR ?Vd ?TQ ?Tz ?T9 ?Up ?K2 ?Lf ?KC ?KD ?J7 ?Ly ?J9 ?KI ?Lh ?K0 ?NV ?Np ?K1 ?Le ?LO ?K3 ?Li ?Lg ?Kl ?Km ?J1 ?J2 ?Kc ?JZ ?Ks ?Kt ?Lj ?Lk ?J5 ?Ml ?Lz ?Nf ?MT ?N4 ?MB ?NL ?Nq ?Ou ?MU ?N5 ?Mg ?Mc ?Mh ?OV ?MK ?OU ?Ov ?OY ?N7 ?Ow ?N6 ?OS ?OT ?OX ?OZ ?Ng ?O0 ?MQ ?OW
  case DD =>
   constructor
   all_goals
    refine' My.df_mk KX G ?a ?l ?c ?k ?b
    case a=>k_is
    case l=>change _=_;k_is
    case c=>k_is
    case k=>k_is
    case b=>exact λus hl=>by first | (match us,hl with | [],_=>rfl) | (match us,hl with | [_],_=>rfl) | (match us,hl with | [_,_],_=>rfl) | (match us,hl with | [_,_,_],_=>rfl) | (match us,hl with | [_,_,_,_],_=>rfl) | (match us,hl with | [_,_,_,_,_],_=>rfl) | (match us,hl with | [_,_,_,_,_,_],_=>rfl)
  case a36 | a43=>change _=_;k_is
  case l36 | l43=>change _=_;k_is
  case c36 | c43 | k36 | k43=>k_is
  case e36 | L6 | TR | TU | TV | TX | Ux | Uy | Uz | T4 | UB | UC | UD | T5 | U5 | U6 | U7 | Ua | Ub | Uc | Ud | Tu | Ug | Uh | Ui | Tv | UG | UH | UI | T6 | K2 | Lf | KC | KD | J7 | Ly | J9 | KI | Lh | K0 | NV | Np | K1 | Le | LO | K3 | Li | Lg | Kl | J1 | Kc | Ks | Lj | J5 | Lz | MT | MB | Nq | MU | Mg | OV | MK | OU | Ov | OY | N7 | Ow | N6 | OS | OT | OX | OZ | Ng | O0 | MQ | OW=>k_is
  case e43=>intros;rfl
  case TY | Wx | Wz | UA | UE | U8 | Ue | Uj | UJ | UQ | UR | Vd | TQ | Tz | T9 | Up | Mh=>first | rfl | kernel_rfl | decide +kernel
  case SI=>refine ⟨?_,?_,?_,?_⟩ <;> (first | rfl | kernel_rfl | decide +kernel)
  case Km | J2 | JZ | Kt | Lk | Ml | Nf | N4 | NL | Ou | N5 | Mc=>first | rfl | decide +kernel
