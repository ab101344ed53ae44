import PyProof.Rows.All
import Lean
import KE.KTops
import KE.KRevSl
import KE.KFromBytes
import KE.KTryMore
import KE.KItem
import KE.KUnpack
import KE.KRevIter
import PySem.Challenge.RW_piecelay_k16_whole_lay
set_option Elab.async false
set_option linter.all false
set_option maxRecDepth 100000
set_option maxHeartbeats 0
abbrev tB:=@List.length_append
abbrev M1:=@if_neg
abbrev Pf:=@List.length_map
abbrev Pg:=@List.getElem?_eq_getElem
abbrev Ph:=@PySem.Heap.get?_push_of_some
abbrev Pj:=@PySem.wpAny_bind
abbrev Pk:=@if_pos
abbrev Po:=@decide_eq_false
abbrev Pp:=@Bool.false_ne_true
abbrev Pq:=@of_decide_eq_true
abbrev Pr:=@List.length_cons
abbrev Pu:=@Nat.le_refl
abbrev Pw:=@List.getElem?_map
abbrev Px:=@of_decide_eq_false
abbrev Py:=@decide_eq_true
abbrev Pz:=@Bool.and_eq_true
abbrev PB:=@List.mem_cons
abbrev PC:=@List.size_toArray
abbrev PD:=@List.map_cons
abbrev PF:=@PySem.wpAny_pure
abbrev PJ:=@PySem.F.plainAttrs_list
abbrev PL:=@PySem.Heap.lt_size
abbrev PM:=@List.mem_of_getElem?
abbrev PN:=@Ne.symm
abbrev PR:=@List.append_nil
abbrev PU:=@List.mem_singleton
abbrev PV:=@List.mem_cons_of_mem
abbrev PX:=@Option.map_eq_some_iff
abbrev PY:=@Nat.lt_of_lt_of_le
abbrev PZ:=@List.getD_eq_getElem?_getD
abbrev P0:=@List.map_append
abbrev P1:=@congrArg
abbrev P4:=@List.mem_cons_self
abbrev P5:=@List.getElem?_eq_some_iff
abbrev P6:=@PySem.Heap.get?_push_size
abbrev P7:=@PySem.F.slot_list_append
abbrev P8:=@Option.bind_some
abbrev P9:=@PySem.F.type_list_append
abbrev Qa:=@List.not_mem_nil
abbrev Qc:=@List.mem_append
abbrev Qd:=@List.append_assoc
abbrev Qe:=@Nat.ne_of_lt
abbrev Qf:=@Nat.le_trans
abbrev Qg:=@Option.some.inj
abbrev Qh:=@List.length_take
abbrev Qi:=@decide_eq_true_eq
abbrev Qj:=@Int.emod_lt_of_pos
abbrev Qk:=@Int.emod_eq_of_lt
abbrev Ql:=@List.length_reverse
abbrev Qm:=@List.length_nil
abbrev Qn:=@Option.bind_eq_some_iff
abbrev Qo:=@Bool.and_false
abbrev Qp:=@Int.emod_nonneg
abbrev Qq:=@List.take_add_one
abbrev Qs:=@List.getElem?_append_right
abbrev Qt:=@List.mem_append_right
abbrev Qu:=@PySem.Heap.size_push
abbrev Qv:=@PySem.PassesOwn.never
abbrev Qw:=@Bool.and_true
abbrev Qx:=@PySem.Heap.get?_push_at
abbrev Qy:=@List.flatten_cons
abbrev Qz:=@or_false
abbrev QA:=@Nat.zero_le
abbrev QB:=@List.mem_map
abbrev QC:=@Nat.pow_le_pow_right
abbrev QD:=@PySem.wpAny_truthy_bool
abbrev QE:=@Bool.false_or
abbrev QF:=@PyProof.Rows.callWith_type1
abbrev QG:=@PySem.wpAny_callSpecial?_slot
abbrev QH:=@List.all_eq_true
abbrev QI:=@Bool.or_eq_false_iff
abbrev QJ:=@Bool.true_and
abbrev QK:=@List.take_length
abbrev QL:=@List.any_cons
abbrev QM:=@PySem.F.slot_list_pop
abbrev QN:=@PySem.mem_of_lookup
abbrev QO:=@Nat.le_of_lt
abbrev QS:=@Nat.ne_of_gt
abbrev QT:=@Nat.lt_irrefl
abbrev QU:=@PySem.wpAny_call_entry
abbrev QV:=@List.lookup_cons
abbrev QW:=@List.take_zero
abbrev QX:=@PySem.wpAny_setField_rec
abbrev QY:=@List.filterMap_append
abbrev QZ:=@List.getElem?_append_left
abbrev Q0:=@PySem.wpAny_field
abbrev Q3:=@PySem.F.type_list_pop
abbrev Q4:=@List.dropLast_concat
abbrev Q5:=@List.filterMap_cons
abbrev Q6:=@Array.length_toList
abbrev Q7:=@List.length_drop
abbrev Q8:=@List.mem_filterMap
abbrev Q9:=@PySem.wpAny_Call_Name_kw
abbrev Ra:=@PySem.F.slot_list_extend
abbrev Rb:=@PyProof.Rows.F.plain_set_update_loop
abbrev Rc:=@List.map_map
abbrev Rf:=@PySem.wpAny_passesOwn
abbrev Rg:=@PySem.builtinLookup_eq_fast
abbrev Rh:=@List.foldl_cons
abbrev Ri:=@List.nil_append
abbrev Rj:=@PySem.F.slot_tuple_iterator_next
abbrev Rk:=@PySem.wpAny_newObj_type
abbrev Rl:=@PySem.wpAny_pyIter_list
abbrev Rm:=@List.mem_append_left
abbrev Rn:=@Bool.false_and
abbrev Ro:=@PySem.F.called_set
abbrev Rp:=@beq_eq_false_iff_ne
abbrev Rq:=@PyProof.Rows.slot_tuple_getitem
abbrev Rr:=@PySem.wpAny_holding
abbrev Rt:=@List.nodup_cons
abbrev Ru:=@List.find?_cons
abbrev Rv:=@Option.map_some
abbrev Rw:=@PySem.F.type_list_extend
abbrev Rx:=@PySem.sizeLine_eq
abbrev Ry:=@List.take_of_length_le
abbrev Rz:=@List.drop_append_of_le_length
abbrev RD:=@List.reverse_cons
abbrev RG:=@PySem.codeAny_mono
abbrev RH:=@List.getElem?_eq_none
abbrev RI:=@List.take_append_drop
abbrev RJ:=@PySem.wpAny_mono
abbrev RK:=@Nat.lt_succ_self
abbrev RM:=@List.filter_cons
abbrev RN:=@PySem.wpAny_standAt
abbrev RO:=@if_true
abbrev RP:=@Int.le_refl
abbrev RQ:=@PySem.typeLookup_type
abbrev RS:=@PyProof.Rows.F.entry_set_update_loop
abbrev RU:=@Bool.not_eq_false'
abbrev RV:=@List.length_filterMap_le
abbrev RW:=@PySem.wpAny_seqItems
abbrev RX:=@Int.toNat_natCast
abbrev RY:=@Bool.eq_false_iff
abbrev RZ:=@Nat.le_succ
abbrev R0:=@PySem.Calls.callWith_builtin
abbrev R1:=@List.drop_of_length_le
abbrev R3:=@PySem.wpAny_attempt
abbrev R4:=@Prod.ext
abbrev R5:=@Nat.le_add_right
abbrev R6:=@List.drop_append
abbrev R7:=@List.length_singleton
abbrev R8:=@PySem.wpAny_execs_nil
abbrev R9:=@Bool.eq_iff_iff
abbrev Sa:=@Nat.le_of_eq
abbrev Sb:=@List.forIn_cons
abbrev Sd:=@Nat.le_max_left
abbrev Se:=@PySem.F.slot_zip_next
abbrev Sf:=@Nat.pow_succ
abbrev Sg:=@Int.natCast_add
abbrev Sh:=@PySem.W.kt_text_in
abbrev Si:=@List.flatten_append
abbrev Sj:=@PySem.isSubtype_type
abbrev Sk:=@PySem.SeqAt.EqAt.int_str
abbrev Sl:=@PySem.SeqAt.EqAt.str_int
abbrev Sm:=@PyProof.Rows.assignInOrder_cons
abbrev Sn:=@PyProof.Rows.IsTup.new
abbrev So:=@PySem.wpAny_pyIter_tuple
abbrev Sq:=@PySem.Calls.spliced_cons
abbrev Ss:=@Nat.lt_of_le_of_lt
abbrev Su:=@Bool.false_eq_true
abbrev Sv:=@PySem.W.kia_one
abbrev Sw:=@List.filterMap_nil
abbrev Sx:=@Nat.lt_succ_of_lt
abbrev Sy:=@List.Sublist.refl
abbrev Sz:=@Bool.not_eq_true'
abbrev SA:=@beq_iff_eq
abbrev SD:=@if_false
abbrev SE:=@List.map_nil
abbrev SG:=@Nat.lt_trans
abbrev SH:=@Nat.sub_self
section
namespace LT
open PySem PySem.W PyProof.Rows
noncomputable def ran (p:Program) (w:World) (n₀:Nat) (a:Option Value):Nat->SharedT->Thread->Option SharedT
 | 0,_,_=>none
 | k+1,s,t=>bif through t then some s else bif Fast.tw6613529449190102663 n₀ a t then
   (Fast.tw10156331382660048174 (Fast.tw11892475500146522536 Fast.tw14364793385576792824) p w s t).bind λx=>ran p w n₀ a k x.1 x.2
  else none
variable {p:Program}
theorem FD {w:World} {n₀:Nat} {a:Option Value} (k:Nat):∀ {s s':SharedT} {t:Thread},ran p w n₀ a k s t=some s'->topRun treeTable p w n₀ a k s.abs t=some s'.abs:=by
 induction k with
 | zero=>intro s s' t h;cases h
 | succ k d =>
  intro s s' t h;unfold ran at h;rw [<- Fast.te6613529449190102663,<- Fast.te10156331382660048174,<- Fast.te11892475500146522536,<- Fast.te14364793385576792824] at h;unfold topRun;cases b:through t
  ·cases c:stepOk n₀ a t
   ·rw [b,c] at h;cases h
   ·rw [b,c] at h;obtain ⟨x,e,f⟩:=Qn.mp (show (stepT (denote treeTable) p w s t).bind _=some s' from h);rw [stepT_spec (s':=x.1) (t':=x.2) e];exact d f
  ·rw [b] at h;cases h;rfl
noncomputable def Ck (P:Params):BT:=((boot_heap P).objs.toList.foldl (λ(x:BT × Nat) o=>(x.1.ins x.2 o,x.2+1)) (BT.nil,0)).1
theorem Cm:∀ P,absHeap (Ck P) 11 {}=boot_heap P:=λP=>by kernel_rfl
noncomputable abbrev boot (P:Params) (os:OsState):SharedT:=⟨Ck P,11,{},#[],boot_drawn,boot_toks,os⟩
theorem Cn (P:Params) (os:OsState):(boot P os).abs=⟨boot_heap P,#[],boot_drawn,boot_toks,os⟩:=by show (⟨absHeap (Ck P) 11 {},#[],boot_drawn,boot_toks,os⟩:Shared)=_;rw [Cm]
noncomputable def Gx (p q:Program) (loose:List Str) (Xt:Shared->Bool) (P:Params) (s:Shared) :=
 (staticsOk (Fast.tw5923862056798008813 p.main.body) (boot_heap P) s.heap && namesBound p s.heap && gensDone s && laidKept (boot_heap P) s.heap,Fast.tw4187177175401517315 q loose (Fast.tw5923862056798008813 p.main.body) Xt true s)
theorem F1:∀ P:Params,((boot_heap P).isNs mainGlobals && (#[]:Array GenState).size == 0,(boot_heap P).objs.size,(boot_heap P).nsMap mainGlobals "__annotations__")=(true,11,some (.ref 6)):=λP=>by kernel_rfl
theorem left {q:Program} {loose:List Str} {Xt:Shared->Bool} {α:Type} {Yf:Shared->α} {Ya:World->α} {N:Nat} (e:opening p=plainProg p.main.scope.names) (b:Nat.ble 600 N=true) (f:∀ s,fenceModules? p s=some s)
  (h:∀ (w:World) (os:OsState),(ran p w 11 (some (.ref 6)) N (boot w.params os) (topStub p)).map (λs=>(Gx p q loose Xt w.params s.abs,Yf s.abs))=some ((true,openGood q loose),Ya w)):LeftO p q loose Xt Yf Ya N:=λw=>by
 obtain ⟨⟨c,g,d,k,os⟩,e,i⟩:=PX.mp (boot_open e b f w);obtain ⟨rfl,rfl,rfl,rfl⟩:c=boot_heap w.params/\g=Array.mk []/\d=boot_drawn/\k=boot_toks:=by simpa using i
 obtain ⟨s1,j,a⟩:=PX.mp (h w os);have r:=FD N j;rw [Cn] at r;obtain ⟨a,l⟩:=Prod.mk.inj a;unfold Gx at a;rw [<- Fast.te4187177175401517315,<- Fast.te5923862056798008813] at a;obtain ⟨m,n⟩:=Prod.mk.inj (show (staticsOk (importedModules p.main.body) (boot_heap w.params) s1.abs.heap && namesBound p s1.abs.heap && gensDone s1.abs && laidKept (boot_heap w.params) s1.abs.heap,openSeen q loose (importedModules p.main.body) Xt true s1.abs)=(true,openGood q loose) from a);obtain ⟨o,u,v⟩:_/\_/\_:=by simpa only [Prod.mk.injEq] using F1 w.params
 have t:topFrom treeTable p w N ⟨boot_heap w.params,Array.mk [],boot_drawn,boot_toks,os⟩=some s1.abs:=by unfold topFrom;dsimp only;rw [o,u,v,r];show (match staticsOk (importedModules p.main.body) (boot_heap w.params) s1.abs.heap && namesBound p s1.abs.heap && gensDone s1.abs && laidKept (boot_heap w.params) s1.abs.heap with | true=>_ | false=>_)=_;rw [m]
 unfold openEnds;rw [e];show (topFrom treeTable p w N _).map _=_;rw [t];exact P1 some (R4 n l)
end LT
namespace LT
section
universe u1 u2 u3 u4 u5 u6 u7 u8 u9
variable {S:Type u1} {A:Type u2} {B:Type u3} {C:Type u4} {D:Type u5} {E:Type u6} {F:Type u7} {R:Type u8} {V:Type u9}
noncomputable def IZ (x:A × B × C × D × E × F × R):A × B × C:=match x with | (a,b,c,_)=>(a,b,c)
noncomputable def lot5 (x:A × B × C × D × E × F × R):A × B:=match x with | (a,b,_)=>(a,b)
noncomputable def lot6 (x:A × B × C × D × E × F × R):C:=match x with | (_,_,c,_)=>c
variable {o:Option S} {f:S->A × B × C × D × E × F × R}
theorem ZY {a:A} {b:B} {c:C} (h:o.map (λs=>lot5 (f s))=some (a,b)) (h':o.map (λs=>lot6 (f s))=some c):o.map (λs=>IZ (f s))=some (a,b,c):=by
 cases o with
 | none=>cases h
 | some s =>have d:((f s).1,(f s).2.1)=(a,b):=Qg h;have e:(f s).2.2.1=c:=Qg h';cases d;cases e;rfl
noncomputable def lot2 (x:A × B × C × D × E × F × R):D × E × R:=match x with | (_,_,_,d,e,_,r)=>(d,e,r)
noncomputable def lot3 (x:A × B × C × D × E × F × R):F:=match x with | (_,_,_,_,_,f,_)=>f
theorem lots {y:A × B × C × D × E × F × R} {st:S->Bool} {a:S->V} {v:V} (d:o.map (λs=>IZ (f s))=some (y.1,y.2.1,y.2.2.1)) (g:o.map (λs=>lot2 (f s))=some (y.2.2.2.1,y.2.2.2.2.1,y.2.2.2.2.2.2))
  (h:o.map (λs=>lot3 (f s))=some y.2.2.2.2.2.1) (i:o.map (λs=>(st s,a s))=some (true,v)):o.map (λs=>((st s,f s),a s))=some ((true,y),v):=by
 cases o with
 | none=>cases d
 | some s =>have b:((f s).1,(f s).2.1,(f s).2.2.1)=(y.1,y.2.1,y.2.2.1):=Qg d;have c:((f s).2.2.2.1,(f s).2.2.2.2.1,(f s).2.2.2.2.2.2)=(y.2.2.2.1,y.2.2.2.2.1,y.2.2.2.2.2.2):=Qg g;have j:(f s).2.2.2.2.2.1=y.2.2.2.2.2.1:=Qg h;have e:(st s,a s)=(true,v):=Qg i;have k:f s=y:=R4 (P1 (λz=>z.1) b) (R4 (P1 (λz=>z.2.1) b) (R4 (P1 (λz=>z.2.2) b) (R4 (P1 (λz=>z.1) c) (R4 (P1 (λz=>z.2.1) c) (R4 j (P1 (λz=>z.2.2) c))))));have l:st s=true:=P1 (λz=>z.1) e;have m:a s=v:=P1 (λz=>z.2) e;show some ((st s,f s),a s)=some ((true,y),v);rw [l,m,k]
end
end LT
namespace My
open PySem
noncomputable def top (i:Nat):Stmt:=PySem.Challenge.pw_piecelay_k16_whole_lay.main.body.getD i (.Pass ⟨0,0,0,0⟩)
end My
namespace My
open PySem PySem.W PyProof.Rows
noncomputable abbrev lw:=PySem.Challenge.rw_piecelay_k16_whole_lay
noncomputable abbrev lp:=lw.row.prog
theorem sd1:namesResolve lp=true:=by kernel_rfl
theorem sd2:(namesMeet lp lp.main.body λ_ n=>attrL n)=true:=by kernel_rfl
theorem sd3:looksOpen lp=true:=by unfold looksOpen;rw [sd1,sd2];kernel_rfl
theorem said:OpenLaw.wellSaid lw=true:=by unfold OpenLaw.wellSaid OpenRow.wellSaid OpenRow.partSaid;rw [sd3];kernel_rfl
end My
end
section
open PySem PySem.W PyProof.Rows
section
local macro_rules | `(tactic| o_head $H:term)=>`(tactic| (have _hook:=$H;assumption))
theorem My.k0 (h:PySem.Challenge.rw_piecelay_k16_whole_lay.row.Holds):PySem.Challenge.rw_piecelay_k16_whole_lay.row.Holds:=by
 k_head
end
namespace My
noncomputable def view:Program:={ PySem.Challenge.pw_piecelay_k16_whole_lay with main:={ PySem.Challenge.pw_piecelay_k16_whole_lay.main with body:=[top 1,top 2,top 3,top 4,top 5,top 6,top 7,top 8,top 9,top 10,top 12,top 13,top 14,top 15,top 16,top 17,top 19,top 21,top 22,top 23,top 24,top 25,top 26,top 27,top 28,top 29,top 30,top 32,top 33,top 34,top 35,top 36,top 37,top 38,top 39,top 40,top 41,top 42,top 43,top 44,top 45,top 47,top 49,top 50,top 51,top 52,top 53,top 54,top 55,top 56,top 57,top 58,top 59,top 60,top 61,top 62,top 63,top 64,top 65,top 66,top 67,top 68,top 69,top 70,top 71,top 73,top 74,top 75,top 76,top 77,top 78,top 79,top 80,top 81,top 82,top 84,top 85,top 86,top 87,top 88,top 89,top 90,top 92,top 93,top 94,top 95,top 96,top 97,top 98,top 99,top 100,top 101,top 102,top 103,top 104,top 105,top 106,top 107,top 108,top 109,top 110,top 111,top 112,top 113] } }
noncomputable abbrev PRG:Program:=PySem.Challenge.pw_piecelay_k16_whole_lay
noncomputable abbrev loose:List Str:=["need_size","MOST_IN_LEAF","TREES_IN_BRANCH","MOST_TOLD","run","MARK_LENGTHS","FILLED_FROM","BASIC"]
noncomputable abbrev xt (s:Shared):Bool:=xlAt view [] s && recOk (RowW.records (OpenRow.toRowW (OpenLaw.row PySem.Challenge.rw_piecelay_k16_whole_lay))) s
noncomputable abbrev kas:List Addr:=[2,3,15,22,23,24,25,28,35,36,37,40,47,48,49,52,59,60,61,64,71,72,73,76,83,84,85,88,95,96,97,100,107,108,109,112,119,120,121,124,131,133,134,136,137,138,139,140,143,145,146,148,149,150,152,153,155,156,157,160,161,162,163,165,166,168,169,170,173,174,175,176,177,179,180,182,183,184,186,187,189,190,191,194,195,196,198,199,201,202,203,205,206,208,209,210,212,213,215,216,217,218,219,220,221,222,223,224,225,226,227,228,229,230,231,232,233,234,235,236,237,240,241,242,244,245,247,248,249,251,252,254,255,256,258,259,261,262,270,272,273,275,276,277,279,280,282,283,284,286,287,289,290,291,293,294,296,297,298,300,301,303,304,305,307,308,310,311,312,314,315,317,318,319,320,321,322,323,326,328,329,331,332,333,334,336,337,339,340,341,343,344,346,347,348,349,350,351,352,353,354,355,356,357,358,359,360,361,362,363,364,365,366,367,368,369,370,371,372,373,374,375,376,377,378,379,380,381,382,383,384,385,386,387,388,389,390,391,393,394,396,397,398,401,402,403,405,406,408,409,410,413,414,415,418,419,420,422,423,425,426,427,429,430,432,433,434,437,438,439,441,442,444,445,446,449,450,451,453,454,456,457,458,460,461,463,464,465,467,468,470,471,472,474,475,477,478,479,481,482,484,485,486,487,488,490,491,493,494,495,497,498,500,501,502,504,505,507,508,509,511,512,514,515,516,519,520,521,523,524,526,527,528,531,532,533,536,537,538,540,541,543,544,545,547,548,550,551,552,554,555,557,558,559,561,562,564,565,566,568,569,571,572,573,576,577,578,581,582,583,585,586,588,589,590,592,593,595,596,597,599,600,602,603,604,606,607,609,610,611,613,614,616,617,618,620,621,623,624,625,627,628,630,631,632,634,635,637,638,639,642,643,644,646,647,649,650,651,654,655,656,658,659,661,662,663,665,666,668,669,670,673,674,694,696,697,699,700]
theorem kas_ok:∀ P,kas=(My.k0.heap_1 P).map (·.1):=λ_=>by kernel_rfl
noncomputable abbrev hk:Hook:=kHook My.k0.heap_1 kas kas_ok
noncomputable abbrev NN:Nat:=9000
noncomputable abbrev CM (w:World) (os:OsState):=LT.ran PRG w 11 (some (.ref 6)) NN (LT.boot w.params os) (topStub PRG)
noncomputable abbrev wg (P:Params) (s:SharedT):Bool:=staticsOk (Fast.tw5923862056798008813 PRG.main.body) (boot_heap P) s.abs.heap && namesBound PRG s.abs.heap && gensDone s.abs && laidKept (boot_heap P) s.abs.heap
noncomputable abbrev FZ (s:SharedT):=Fast.tw4187177175401517315 view loose (Fast.tw5923862056798008813 PRG.main.body) xt true s.abs
noncomputable abbrev yD:=openGood view loose
noncomputable abbrev DK (w:World) (os:OsState):Prop:=(CM w os).map (λs=>LT.lot5 (FZ s))=some (yD.1,yD.2.1)
noncomputable abbrev DL (w:World) (os:OsState):Prop:=(CM w os).map (λs=>LT.lot6 (FZ s))=some yD.2.2.1
noncomputable abbrev DH (w:World) (os:OsState):Prop:=(CM w os).map (λs=>LT.lot2 (FZ s))=some (yD.2.2.2.1,yD.2.2.2.2.1,yD.2.2.2.2.2.2)
noncomputable abbrev DI (w:World) (os:OsState):Prop:=(CM w os).map (λs=>LT.lot3 (FZ s))=some yD.2.2.2.2.2.1
noncomputable abbrev DJ (w:World) (os:OsState):Prop:=(CM w os).map (λs=>(wg w.params s,Hook.obs hk s.abs))=some (true,Hook.val hk w)
set_option maxHeartbeats 0 in
theorem ra5:∀ (w:World) (os:OsState),DK (w.withFollow "special-get-raises" false) os:=λw os=>by unfold DK;kernel_rfl
set_option maxHeartbeats 0 in
theorem rb5:∀ (w:World) (os:OsState),DK (w.withFollow "special-get-raises" true) os:=λw os=>by unfold DK;kernel_rfl
set_option maxHeartbeats 0 in
theorem ra6:∀ (w:World) (os:OsState),DL (w.withFollow "special-get-raises" false) os:=λw os=>by unfold DL;kernel_rfl
set_option maxHeartbeats 0 in
theorem rb6:∀ (w:World) (os:OsState),DL (w.withFollow "special-get-raises" true) os:=λw os=>by unfold DL;kernel_rfl
set_option maxHeartbeats 0 in
theorem ra2:∀ (w:World) (os:OsState),DH (w.withFollow "special-get-raises" false) os:=λw os=>by unfold DH;kernel_rfl
set_option maxHeartbeats 0 in
theorem rb2:∀ (w:World) (os:OsState),DH (w.withFollow "special-get-raises" true) os:=λw os=>by unfold DH;kernel_rfl
set_option maxHeartbeats 0 in
theorem ra3:∀ (w:World) (os:OsState),DI (w.withFollow "special-get-raises" false) os:=λw os=>by unfold DI;kernel_rfl
set_option maxHeartbeats 0 in
theorem rb3:∀ (w:World) (os:OsState),DI (w.withFollow "special-get-raises" true) os:=λw os=>by unfold DI;kernel_rfl
set_option maxHeartbeats 0 in
theorem ra4:∀ (w:World) (os:OsState),DJ (w.withFollow "special-get-raises" false) os:=λw os=>by unfold DJ;kernel_rfl
set_option maxHeartbeats 0 in
theorem rb4:∀ (w:World) (os:OsState),DJ (w.withFollow "special-get-raises" true) os:=λw os=>by unfold DJ;kernel_rfl
theorem left:LeftO PRG view loose xt (Hook.obs hk) (Hook.val hk) NN :=
 LT.left (by rfl) (by decide) (λs=>by rfl) λw os=>LT.lots (LT.ZY (byRow2 "special-get-raises" (P:=λw=>DK w os) (λw=>ra5 w os) (λw=>rb5 w os) w) (byRow2 "special-get-raises" (P:=λw=>DL w os) (λw=>ra6 w os) (λw=>rb6 w os) w)) (byRow2 "special-get-raises" (P:=λw=>DH w os) (λw=>ra2 w os) (λw=>rb2 w os) w) (byRow2 "special-get-raises" (P:=λw=>DI w os) (λw=>ra3 w os) (λw=>rb3 w os) w) (byRow2 "special-get-raises" (P:=λw=>DJ w os) (λw=>ra4 w os) (λw=>rb4 w os) w)
end My
end
section
namespace L2
open PySem PySem.Spec PyProof.Rows
noncomputable abbrev Key:=Sum Int Str
noncomputable def tF:Key->Value->Bool
 | .inl k,v=>Value.isInt k v
 | .inr x,v=>Value.isStrOf x v
noncomputable def JM (w:World):Key->Int
 | .inl k=>hashInt k
 | .inr x=>hashStr w x
theorem fE:∀ {k:Key} {v:Value},tF k v=true->(∃ i t,k=Sum.inl i/\v=Value.int i t)\/(∃ x t,k=Sum.inr x/\v=Value.str x t)
 | .inl i,v,h=>by obtain ⟨t,e⟩:=Value.isInt_shape (k:=i) (v:=v) h;exact .inl ⟨i,t,rfl,e⟩
 | .inr x,v,h=>by obtain ⟨t,e⟩:=Value.isStrOf_shape (x:=x) (v:=v) h;exact .inr ⟨x,t,rfl,e⟩
theorem Bb (i:Int) (t:Tok):tF (.inl i) (.int i t)=true:=by simp [tF,Value.isInt]
theorem Bc (x:Str) (t:Tok):tF (.inr x) (.str x t)=true:=by simp [tF,Value.isStrOf]
theorem Hu (a b:Int):decide ((Sum.inl a:Key)=Sum.inl b)=(a == b):=by
 by_cases e:a=b
 ·subst e;simp
 ·have h:¬ (Sum.inl a:Key)=Sum.inl b:=λq=>e (Sum.inl.inj q);rw [Po h];exact (Rp.mpr e).symm
theorem Hx (a b:Str):decide ((Sum.inr a:Key)=Sum.inr b)=decide (a=b):=by
 by_cases e:a=b
 ·subst e;simp
 ·have h:¬ (Sum.inr a:Key)=Sum.inr b:=λq=>e (Sum.inr.inj q);rw [Po h,Po e]
theorem Hv (a:Int) (b:Str):decide ((Sum.inl a:Key)=Sum.inr b)=false:=Po (λq=>nomatch q)
theorem Hw (a:Str) (b:Int):decide ((Sum.inr a:Key)=Sum.inl b)=false:=Po (λq=>nomatch q)
noncomputable def fX (prog:Program) (w:World):PySem.KeyKind prog w Key where
 is:=tF
 hash:=JM w
 inj:=λv a b g f=>by
  rcases fE g with ⟨i,t,rfl,rfl⟩ | ⟨x,t,rfl,rfl⟩
  ·rcases fE f with ⟨j,u,rfl,e⟩ | ⟨y,u,rfl,e⟩
   ·injection e with c _;rw [c]
   ·exact nomatch e
  ·rcases fE f with ⟨j,u,rfl,e⟩ | ⟨y,u,rfl,e⟩
   ·exact nomatch e
   ·injection e with c _;rw [c]
 byValue:=λk v h=>by rcases fE h with ⟨i,t,rfl,rfl⟩ | ⟨x,t,rfl,rfl⟩ <;> rfl
 pyHash:=λd h=>by
  rcases fE d with ⟨i,t,rfl,rfl⟩ | ⟨x,t,rfl,rfl⟩
  ·exact wpAny_pyHash_int h
  ·exact wpAny_pyHash_str h
 eqBool:=λl d h=>by
  rcases fE l with ⟨i,t,rfl,rfl⟩ | ⟨x,t,rfl,rfl⟩
  ·rcases fE d with ⟨j,u,rfl,rfl⟩ | ⟨y,u,rfl,rfl⟩
   ·rw [Hu] at h;exact wpAny_eqBool_int h
   ·rw [Hv] at h;exact Sk i t y u _ _ _ _ h
  ·rcases fE d with ⟨j,u,rfl,rfl⟩ | ⟨y,u,rfl,rfl⟩
   ·rw [Hw] at h;exact Sl x t j u _ _ _ _ h
   ·rw [Hx] at h;exact wpAny_eqBool_str h
 «strs»:=λk x t v h=>by
  rcases fE h with ⟨i,u,rfl,e⟩ | ⟨y,u,rfl,e⟩
  ·exact nomatch e
  ·injection e with c _;subst c;cases v <;> rfl
theorem xp (prog:Program) (w:World) (i:Int) (t:Tok):(fX prog w).is (.inl i) (.int i t)=true:=Bb i t
theorem xq (prog:Program) (w:World) (x:Str) (t:Tok):(fX prog w).is (.inr x) (.str x t)=true:=Bc x t
inductive V where
 | SO | bl (b:Bool) | int (i:Int) | str (x:Str) | YU (b:Array UInt8) | flt (b:UInt64) | ref (a:Addr) | ty (n:String)
 deriving DecidableEq
noncomputable def RelV:V->Value->Prop
 | .SO,u=>u=Value.none
 | .bl b,u=>u=Value.bool b
 | .int i,u=>∃ t,u=Value.int i t
 | .str x,u=>∃ t,u=Value.str x t
 | .YU b,u=>∃ t,u=Value.bytes b t
 | .flt b,u=>∃ t,u=Value.float b t
 | .ref a,u=>u=Value.ref a
 | .ty n,u=>u=Value.type n
noncomputable abbrev Vals:List V->List Value->Prop:=Paired RelV
variable {xs:List V} {us:List Value}
theorem Vals.length (r:Vals xs us):xs.length=us.length:=Paired.length r
theorem Vals.get:∀ {xs:List V} {us:List Value} {i:Nat} {x:V},Vals xs us->xs[i]?=some x->∃ u,us[i]?=some u/\RelV x u
 | _,_,_,_,.nil,e=>by simp at e
 | _,_,0,_,.cons r _,e=>by simp at e;subst e;exact ⟨_,rfl,r⟩
 | _,_,i+1,x,.cons _ t,e=>by obtain ⟨u,a,b⟩:=Vals.get (i:=i) (x:=x) t (by simpa using e);exact ⟨u,by simpa using a,b⟩
variable {u:Value}
theorem Vals.set {x:V} (r:RelV x u):∀ {xs:List V} {us:List Value} (i:Nat),Vals xs us->Vals (xs.set i x) (us.set i u)
 | _,_,_,.nil=>.nil
 | _,_,0,.cons _ t=>.cons r t
 | _,_,i+1,.cons q t=>.cons q (Vals.set r i t)
theorem Vals.append:∀ {xs ys:List V} {us a:List Value},Vals xs us->Vals ys a->Vals (xs++ys) (us++a)
 | _,_,_,_,.nil,s=>s
 | _,_,_,_,.cons r t,s=>.cons r (Vals.append t s)
theorem Vals.take:∀ {xs:List V} {us:List Value} (n:Nat),Vals xs us->Vals (xs.take n) (us.take n)
 | _,_,0,_=>.nil
 | _,_,_+1,.nil=>.nil
 | _,_,n+1,.cons r t=>.cons r (Vals.take n t)
theorem Vals.drop:∀ {xs:List V} {us:List Value} (n:Nat),Vals xs us->Vals (xs.drop n) (us.drop n)
 | _,_,0,r=>r
 | _,_,_+1,.nil=>.nil
 | _,_,n+1,.cons _ t=>Vals.drop n t
noncomputable def WD:Option V->Option Value->Prop
 | some v,some u=>RelV v u
 | none,none=>True
 | _,_=>False
noncomputable def KV {κ:Type}:List (κ × V)->List (κ × Value)->Prop:=Paired λ(p:κ × V) (q:κ × Value)=>p.1=q.1/\RelV p.2 q.2
noncomputable def kV:Key->V
 | .inl i=>.int i
 | .inr x=>.str x
inductive HO where
 | lst (xs:List V)
 | tup (xs:List V)
 | dK (kvs:List (Key × V)) | dT (kvs:List (List Key × V))
 | set (S:Int->Bool) (n:Nat)
 | ins (C dx:Addr) (fs:List (Str × V))
 | own (x:Addr)
 | xd (fs:List (Str × V))
 | met (f x:Addr)
 | Zp (lo hi:Int)
 | Zq (o:Obj) (u:HO)
 | tbl (ps:Array Value)
 | ext (φ:Heap->Prop)
noncomputable abbrev Hp:=Addr->Option HO
noncomputable def upd (H:Hp) (a:Addr) (o:HO):Hp:=λb=>if b=a then some o else H b
variable {H:Hp} {a:Addr}
theorem aI {o:HO}:upd H a o a=some o:=by unfold upd;rw [Pk rfl]
variable {b:Addr}
theorem aS {o:HO} (h:b≠a):upd H a o b=H b:=by unfold upd;rw [M1 h]
theorem aU {o:HO} (h:H a=some o) (h':H b=none):a≠b:=by intro e;subst e;rw [h] at h';cases h'
section
variable (P:Program) (w:World)
noncomputable def Td (H:Hp) (h:Heap) (a:Addr):HO->Prop
 | .lst xs=>xs.length<=sizeLine/\∃ (its:List Value) (n:Nat),Vals xs its/\h.get? a=some { cls:=.type "list",data:=.seq its.toArray n }
 | .tup xs=>xs.length<=sizeLine/\∃ its:List Value,Vals xs its/\IsTup h a its.toArray
 | .dK c=>c.length<=sizeLine/\(a == sysModules)=false/\∃ vs,KV c vs/\h.DictOf (fX P w) a vs
 | .dT c=>c.length<=sizeLine/\(a == sysModules)=false/\∃ xs:List (List Key × Addr × Value),
   Paired (λ(p:List Key × V) (q:List Key × Addr × Value)=>p.1=q.1/\H q.2.1=some (.tup (p.1.map kV))/\RelV p.2 q.2.2) c xs /\
   ∃ o es j,h.get? a=some o/\o.ExactDict/\o.data=.dict es j/\es.toList=xs.map (entryOfKey (tupleKind (fX P w)))/\(xs.map (·.1)).Nodup
 | .set S n=>h.SetOf (intKind P w) a S n
 | .ins C e fs=>H e=some (.own a)/\fs.length<=1000/\e≠a/\h.get? a=some (W.instObj C e) /\
   ∃ d,h.Ns1 e d/\(∀ f,WD (fs.lookup f) (d f))/\PySem.Within d (fs.map (·.1))
 | .own _=>∃ o,h.get? a=some o
 | .xd fs=>∃ d,h.Ns1 a d/\∀ f,WD (fs.lookup f) (d f)
 | .Zp lo hi=>∃ t u v,h.get? a=some { cls:=.type "range",data:=.fields #[.int lo t,.int hi u,.int 1 v] }
 | .Zq o u=>h.get? a=some o/\Td H h a u
 | .tbl ps=>h.get? a=some { cls:=.none,data:=.fields ps }
 | .met f x=>h.get? a=some (W.methodObj (.ref f) (.ref x))
 | .ext φ=>φ h/\(∃ o,h.get? a=some o)/\∀ g i:Heap,φ g->(∀ o,g.get? a=some o->i.get? a=some o)->φ i
noncomputable def WE (H:Hp) (h:Heap):Prop:=∀ a o,H a=some o->Td P w H h a o
end
section
variable {P:Program} {w:World} {H H':Hp} {h h':Heap} {a:Addr} {o:HO}
theorem Td.lt (x:Td P w H h a o):a < h.objs.size:=by
 cases o with
 | lst xs=>obtain ⟨_,_,_,_,e⟩:=x;exact PL e
 | tup xs=>obtain ⟨_,_,_,p⟩:=x;exact p.lt
 | dK c=>obtain ⟨_,_,_,_,o,_,_,e,_⟩:=x;exact PL e
 | dT c=>obtain ⟨_,_,_,_,o,_,_,e,_⟩:=x;exact PL e
 | set S n=>obtain ⟨o,_,_,_,e,_⟩:=x;exact PL e
 | ins C d fs=>obtain ⟨_,_,_,e,_⟩:=x;exact PL e
 | own y=>obtain ⟨_,e⟩:=x;exact PL e
 | xd fs=>obtain ⟨_,⟨_,_,_,e,_⟩,_⟩:=x;exact PL e
 | Zp lo hi=>obtain ⟨_,_,_,e⟩:=x;exact PL e
 | Zq g u=>obtain ⟨e,_⟩:=x;exact PL e
 | tbl ps=>exact PL (show h.get? a=some _ from x)
 | met f y=>exact PL (show h.get? a=some _ from x)
 | ext φ=>obtain ⟨_,⟨_,e⟩,_⟩:=x;exact PL e
theorem Paired.mapP {α β:Type} {F G:α->β->Prop}:∀ {l₁:List α} {l₂:List β},Paired F l₁ l₂->(∀ a b,F a b->G a b)->Paired G l₁ l₂
 | _,_,.nil,_=>.nil
 | _,_,.cons r t,f=>.cons (f _ _ r) (Paired.mapP t f)
theorem Td.stay (x:Td P w H h a o) (k:∀ b u,(b=a\/H b=some (.own a))->h.get? b=some u->h'.get? b=some u)
  (s:∀ b,H b=some (.own a)->H' b=some (.own a)) (A:∀ b xs,H b=some (.tup xs)->H' b=some (.tup xs)):Td P w H' h' a o:=by
 induction o with
 | lst xs=>obtain ⟨z,its,n,r,e⟩:=x;exact ⟨z,its,n,r,k _ _ (.inl rfl) e⟩
 | tup xs=>obtain ⟨z,its,r,g,e,c⟩:=x;exact ⟨z,its,r,g,k _ _ (.inl rfl) e,c⟩
 | dK j=>obtain ⟨z,y,vs,r,g,es,i,e,c⟩:=x;exact ⟨z,y,vs,r,g,es,i,k _ _ (.inl rfl) e,c⟩
 | dT j =>obtain ⟨z,y,xs,r,g,es,i,e,c⟩:=x;exact ⟨z,y,xs,Paired.mapP r λp q z=>⟨z.1,A _ _ z.2.1,z.2.2⟩,g,es,i,k _ _ (.inl rfl) e,c⟩
 | set S n=>obtain ⟨g,es,i,t,e,c⟩:=x;exact ⟨g,es,i,t,k _ _ (.inl rfl) e,c⟩
 | ins C F fs =>obtain ⟨d,z,B,e,l,⟨m,es,i,D,c⟩,r⟩:=x;exact ⟨s _ d,z,B,k _ _ (.inl rfl) e,l,⟨m,es,i,k _ _ (.inr d) D,c⟩,r⟩
 | own y=>obtain ⟨g,e⟩:=x;exact ⟨g,k _ _ (.inl rfl) e⟩
 | xd fs=>obtain ⟨l,⟨m,es,i,e,c⟩,r⟩:=x;exact ⟨l,⟨m,es,i,k _ _ (.inl rfl) e,c⟩,r⟩
 | Zp lo hi=>obtain ⟨t,u,v,e⟩:=x;exact ⟨t,u,v,k _ _ (.inl rfl) e⟩
 | Zq g u E=>obtain ⟨e,q⟩:=x;exact ⟨k _ _ (.inl rfl) e,E q⟩
 | tbl ps =>have e:h.get? a=some { cls:=.none,data:=.fields ps }:=x;show h'.get? a=some { cls:=.none,data:=.fields ps };exact k a _ (.inl rfl) e
 | met f y =>have e:h.get? a=some (W.methodObj (.ref f) (.ref y)):=x;show h'.get? a=some (W.methodObj (.ref f) (.ref y));exact k a _ (.inl rfl) e
 | ext φ=>obtain ⟨p,⟨o,e⟩,st⟩:=x;exact ⟨st _ _ p λo q=>k _ _ (.inl rfl) q,⟨o,k _ _ (.inl rfl) e⟩,st⟩
theorem WE.lt (x:WE P w H h) (e:H a=some o):a < h.objs.size:=(x a o e).lt
theorem WE.fresh (x:WE P w H h) (e:h.objs.size<=a):H a=none:=by
 cases q:H a with
 | none=>rfl
 | some u=>exact absurd (PY (x.lt q) e) (QT _)
theorem WE.kept (x:WE P w H h) (k:∀ b u,h.get? b=some u->h'.get? b=some u):WE P w H h':=λa o e =>
 (x a o e).stay (λb u _ q=>k b u q) (λ_ q=>q) λ_ _ q=>q
theorem WE.laid (x:WE P w H h) (k:∀ b u,h.get? b=some u->h'.get? b=some u) (i:h.objs.size<=a) (d:Td P w (upd H a o) h' a o):WE P w (upd H a o) h':=λb u e=>by
 have f:=x.fresh i;by_cases g:b=a
 ·subst g;rw [aI] at e;cases e;exact d
 ·rw [aS g] at e;exact (x b u e).stay (λc v _ q=>k c v q) (λc q=>by rw [aS (aU q f)];exact q) λc xs q=>by rw [aS (aU q f)];exact q
end
noncomputable def Rd (H:Hp) (a:Addr) (u:HO):Prop:=H a=some u\/∃ o,H a=some (.Zq o u)
variable {P:Program} {w:World} {h:Heap}
theorem Rd.ok {u:HO} (r:Rd H a u) (x:WE P w H h):Td P w H h a u:=by
 rcases r with r | ⟨o,r⟩
 ·exact x a u r
 ·obtain ⟨_,q⟩:=x a _ r;exact q
noncomputable def Mut:Option HO->Prop
 | some (.lst _)=>True
 | some (.dK _)=>True
 | some (.dT _)=>True
 | some (.set _ _)=>True
 | some (.ins _ _ _)=>True
 | some (.ext _)=>True
 | _=>False
section
variable {P:Program} {w:World} {H:Hp} {h h':Heap} {x e:Addr} {o':HO}
theorem WE.write (ok:WE P w H h) (i:Mut (H x)) (n:e=x\/H e=some (.own x)) (k:∀ b u,b≠e->h.get? b=some u->h'.get? b=some u) (l:∃ u,h'.get? e=some u)
  (m:Td P w (upd H x o') h' x o'):WE P w (upd H x o') h':=λb u q=>by
 have f:∀ c y,H c=some (.own y)->c≠x:=λc y r z=>by subst z;rw [r] at i;exact i
 have g:∀ c xs,H c=some (.tup xs)->c≠x:=λc xs r z=>by subst z;rw [r] at i;exact i
 by_cases j:b=x
 ·subst j;rw [aI] at q;cases q;exact m
 ·rw [aS j] at q;by_cases d:b=e
  ·have q':H b=some (.own x):=by
    rcases n with z | z
    ·exact absurd (d.trans z) j
    ·rw [d];exact z
   rw [q] at q';cases q';obtain ⟨v,o⟩:=l;exact ⟨v,by rw [d];exact o⟩
  ·refine (ok b u q).stay (λc v hc r=>k c v ?_ r) (λc r=>by rw [aS (f c b r)];exact r) λc xs r=>by rw [aS (g c xs r)];exact r
   rcases hc with rfl | hc
   ·exact d
   ·rintro rfl;rcases n with z | z
    ·exact f c b hc z
    ·rw [hc] at z;cases z;exact j rfl
end
structure Un (fs ex:List Addr) (H H':Hp) (h h':Heap):Prop where
 keep:∀ b o,h.get? b=some o->H b=none->b ∉ fs->b ∉ ex->h'.get? b=some o
 slot:∀ b o,h.get? b=some o->H b=none->b ∈ fs->b ∉ ex->∃ sl,h'.get? b=some { o with slots:=sl }
 free:∀ b o,h.get? b=some o->H b=none->b ∉ ex->H' b=none
 there:∀ b o,h.get? b=some o->b ∉ ex->∃ o',h'.get? b=some o'
 tups:∀ b xs,H b=some (.tup xs)->H' b=some (.tup xs)
 Yn:∀ b o u,H b=some (.Zq o u)->H' b=some (.Zq o u)
 Ys:∀ b ps,H b=some (.tbl ps)->∃ more,H' b=some (.tbl (ps++more))
section
variable {fs fs' ex ex':List Addr} {H H1 H2:Hp} {h h1 h2 h':Heap} {a x e:Addr} {o:HO}
theorem Un.any (u:Un fs ex H H1 h h1) {b:Addr} {c:Obj} (q:h.get? b=some c) (n:H b=none) (d:b ∉ ex):∃ g,h1.get? b=some { c with slots:=g }:=by
 by_cases f:b ∈ fs
 ·exact u.slot b c q n f d
 ·exact ⟨c.slots,u.keep b c q n f d⟩
theorem Un.kept (k:∀ b u,h.get? b=some u->h'.get? b=some u):Un fs ex H H h h' :=
 ⟨λb c q _ _ _=>k b c q,λb c q _ _ _=>⟨c.slots,k b c q⟩,λ_ _ _ n _=>n,λb c q _=>⟨c,k b c q⟩,λ_ _ q=>q,λ_ _ _ q=>q,λ_ ps q=>⟨#[],by rw [q];simp⟩⟩
theorem Un.refl:Un fs ex H H h h:=Un.kept λ_ _ q=>q
theorem Un.laid (k:∀ b u,h.get? b=some u->h'.get? b=some u) (d:h.objs.size<=a) (c:H a=none):Un fs ex H (upd H a o) h h' where
 keep:=λb u q _ _ _=>k b u q
 slot:=λb u q _ _ _=>⟨u.slots,k b u q⟩
 free:=λb u q n _=>by rw [aS (Qe (PY (PL q) d))];exact n
 there:=λb u q _=>⟨u,k b u q⟩
 tups:=λb xs q=>by rw [aS (aU q c)];exact q
 Yn:=λb u xs q=>by rw [aS (aU q c)];exact q
 Ys:=λb ps q=>⟨#[],by rw [aS (aU q c),q];simp⟩
theorem Un.write (d:Mut (H x)) (l:e=x\/H e=some (.own x)) (k:∀ b u,b≠e->h.get? b=some u->h'.get? b=some u) (f:∃ u,h'.get? e=some u):Un fs ex H (upd H x o) h h':=by
 have i:∀ b,H b=none->b≠x:=λb n z=>by subst z;rw [n] at d;exact d
 have j:∀ b,H b=none->b≠e:=λb n z=>by
  subst z;rcases l with r | r
  ·exact i b n r
  ·rw [n] at r;cases r
 have g:∀ b u,H b=some u->¬ Mut (some u)->b≠x:=λb u q nm z=>by subst z;rw [q] at d;exact nm d
 refine ⟨λb u q n _ _=>k b u (j b n) q,λb u q n _ _=>⟨u.slots,k b u (j b n) q⟩,λb u q n _=>by rw [aS (i b n)];exact n,λb u q _=>?_,
  λb xs q=>by rw [aS (g b _ q λz=>z)];exact q,λb u xs q=>by rw [aS (g b _ q λz=>z)];exact q,λb ps q=>⟨#[],by rw [aS (g b _ q λz=>z),q];simp⟩⟩
 by_cases c:b=e
 ·subst c;exact f
 ·exact ⟨u,k b u c q⟩
end
noncomputable def trk (h:Heap) (H:Hp):List Addr:=(List.range h.objs.size).filter λa=>(H a).isSome
noncomputable def uJ (h:Heap) (H:Hp):Heap:=W.hideAll h (trk h H)
theorem A9 (h:Heap) (H:Hp):(uJ h H).objs.size=h.objs.size:=W.hideAll_size _ _
variable {o:Obj}
theorem CQ (e:h.get? b=some o) (n:H b=none):(uJ h H).get? b=some o :=
 W.hideAll_get _ e λc=>by have q:(H b).isSome=true:=(List.mem_filter.mp c).2;rw [n] at q;simp at q
theorem Fi (e:(uJ h H).get? b=some o):h.get? b=some o/\H b=none:=by
 have c:h.get? b=some o:=W.of_hideAll (trk h H) e;refine ⟨c,?_⟩
 cases q:H b with
 | none=>rfl
 | some x =>have d:b ∈ trk h H:=List.mem_filter.mpr ⟨List.mem_range.mpr (PL c),by simp [q]⟩;have z:(uJ h H).get? b=none:=W.hideAll_none (trk h H) d;rw [z] at e;cases e
structure Mod (K:W.Frag) (mg:Str->Option Value) (base:Heap):Prop where
 kin:K.In base
 glob:base.Ns mainGlobals mg
 blt:∃ mb,base.Ns builtinsNs mb/\∀ x:Str,x≠"__name__"->mb x=bootBuiltins x
 nolimit:base.NoLimit
structure Cx where
 prog:Program
 w:World
 K:W.Frag
 mg:Str->Option Value
 base:Heap
 A:Around
 N:List Str
 s₀:Shared
 H₀:Hp
 env:Env
 outer:List Env
 stack:List Env
 ex:List Addr
 fn:Str->Bool
 calm:Bool
 pn:List (Addr × Obj)
 xe:Value->Shared->Prop
noncomputable def frs (l:List Env):List Addr:=l.filterMap (·.frame)
noncomputable abbrev Cx.fs (X:Cx):List Addr:=frs X.outer
noncomputable def Vis (c:Scope) (x:Str):Prop:=c.names.lookup x=some .local\/c.names.lookup x=some .cell\/c.names.lookup x=some .free
noncomputable def Loc (c:Scope) (x:Str):Prop:=c.names.lookup x=some .local\/c.names.lookup x=some .cell
noncomputable def JE (env:Env) (h:Heap) (m:Str->Option Value) (x:Str) (u:Value):Prop :=
 (env.kindOf x=some .local/\m x=some u)\/((env.kindOf x=some .cell\/env.kindOf x=some .free)/\∃ c,env.cells.lookup x=some c/\h.IsCell c (some u))
structure Cx.Ok (X:Cx):Prop where
 mod:Mod X.K X.mg X.base
 kind:X.env.scope.kind=.function
 glob:X.env.globals=mainGlobals
 blt:X.env.builtins=builtinsNs
 above:X.s₀.heap.objs.size<=X.env.locals
 inj:∀ x y c,X.env.cells.lookup x=some c->X.env.cells.lookup y=some c->x=y
 has:∀ x,(X.env.kindOf x=some .cell\/X.env.kindOf x=some .free)->∃ c,X.env.cells.lookup x=some c
 cab:∀ x c,X.fn x=true->X.env.cells.lookup x=some c->X.s₀.heap.objs.size<=c
 hd:X.calm=true->X.A.handled=none
 frames:X.A.frames=some X.stack
 stk:X.stack=X.outer\/(X.stack=X.env::X.outer/\X.env.frame=some X.env.locals)
 exf:∀ b ∈ X.ex,b≠X.env.locals/\∀ x c,X.env.cells.lookup x=some c->c≠b
 bs:∀ b o,X.base.get? b=some o->X.s₀.heap.get? b=some o/\X.H₀ b=none
 ZZ:X.base.objs.size<=X.s₀.heap.objs.size
 Zr:∀ b o,X.base.get? b=some o->b ∉ X.ex
 Z0:∀ b ∈ X.ex,b ∉ X.fs
 Xr:X.s₀.heap.FunFrames X.base X.outer
 frf:∀ b ∈ X.fs,X.H₀ b=none
structure Inv (X:Cx) (pins:List (Addr × Obj)) (σ:List (Option V)) (H:Hp) (s:Shared):Prop where
 ok:X.Ok
 os:s.os=X.s₀.os
 bare:AllBare s.gens
 base:Un X.fs X.ex X.H₀ H X.s₀.heap s.heap
 loc:∃ m,s.heap.Ns X.env.locals m/\∀ (i:Nat) (x:Str) (v:V),X.N[i]?=some x->σ[i]?=some (some v)->Vis X.env.scope x->∃ u,RelV v u/\JE X.env s.heap m x u
 cell:∀ x c,X.env.cells.lookup x=some c->∃ v,s.heap.IsCell c v
 free:H X.env.locals=none
 We:∀ x c,X.env.cells.lookup x=some c->H c=none
 pin:∀ p ∈ X.pn++pins,s.heap.get? p.1=some p.2/\H p.1=none/\p.1≠X.env.locals/\p.1 ∉ X.fs/\∀ v,p.2.data≠.cell v
 hok:WE X.prog X.w H s.heap
 len:σ.length=X.N.length
section
variable {X:Cx} {pins:List (Addr × Obj)} {σ:List (Option V)} {H H':Hp} {s:Shared} {h':Heap}
theorem Cx.Ok.nofr (ok:X.Ok) {b:Addr} {o:Obj} (e:X.base.get? b=some o):b ∉ X.fs:=λc=>by have:=(ok.Xr.mem c).1;rw [e] at this;cases this
theorem Inv.bs (I:Inv X pins σ H s):∀ b o,X.base.get? b=some o->s.heap.get? b=some o/\H b=none:=λb o e =>
 ⟨I.base.keep b o (I.ok.bs b o e).1 (I.ok.bs b o e).2 (I.ok.nofr e) (I.ok.Zr b o e),I.base.free b o (I.ok.bs b o e).1 (I.ok.bs b o e).2 (I.ok.Zr b o e)⟩
theorem Inv.bk (I:Inv X pins σ H s):∀ b o,X.base.get? b=some o->s.heap.get? b=some o:=λb o e=>(I.bs b o e).1
theorem Inv.mod (I:Inv X pins σ H s):Mod X.K X.mg X.base:=I.ok.mod
theorem Inv.Wc (I:Inv X pins σ H s):X.K.In s.heap:=I.ok.mod.kin.keeps I.bk
theorem Inv.lt (I:Inv X pins σ H s):X.env.locals < s.heap.objs.size:=let ⟨_,c,_⟩:=I.loc;c.lt
theorem Inv.sz (I:Inv X pins σ H s):X.s₀.heap.objs.size<=s.heap.objs.size:=Qf I.ok.above (QO I.lt)
variable {a:Addr}
theorem Inv.nofs (I:Inv X pins σ H s) (h:s.heap.objs.size<=a):a ∉ X.fs:=λc=>by obtain ⟨_,o,d,_⟩:=I.ok.Xr.mem c;exact absurd (PY (PL d) (Qf I.sz h)) (QT _)
theorem Inv.cne (I:Inv X pins σ H s):∀ x c,X.env.cells.lookup x=some c->c≠X.env.locals:=λx c e z=>by obtain ⟨v,o,g,i⟩:=I.cell x c e;obtain ⟨m,⟨j,es,k,d,f,_⟩,_⟩:=I.loc;rw [z,d] at g;cases g;rw [f] at i;cases i
theorem Inv.Xr (I:Inv X pins σ H s):s.heap.FunFrames X.base X.outer:=by
 have all:∀ (l:List Env),(∀ b ∈ frs l,b ∈ X.fs)->X.s₀.heap.FunFrames X.base l->s.heap.FunFrames X.base l:=by
  intro l
  induction l with
  | nil=>intro _ _;trivial
  | cons env r i =>intro g j;obtain ⟨hk,⟨L,o,c,k,m,n⟩,p⟩:=j;have d:L ∈ X.fs:=g L (by unfold frs;rw [Q5,c];exact P4);obtain ⟨q,e⟩:=I.base.slot L o m (I.ok.frf L d) d λz=>I.ok.Z0 L z d;exact ⟨hk,⟨L,_,c,k,e,n⟩,i (λb f=>g b (by unfold frs;rw [Q5,c];exact PV _ f)) p⟩
 exact all X.outer (λ_ f=>f) I.ok.Xr
theorem Inv.stack (I:Inv X pins σ H s):s.heap.FunFrames X.base X.stack:=by
 rcases I.ok.stk with e | ⟨e,c⟩
 ·rw [e];exact I.Xr
 ·rw [e];obtain ⟨m,d,_⟩:=I.loc;refine .cons (by rw [I.ok.kind];decide) c d ?_ I.Xr;exact Heap.get?_none_of_le (Qf I.ok.ZZ I.ok.above)
theorem Inv.Yo (I:Inv X pins σ H s):∀ b ∈ frs X.stack,b ∈ X.env.locals::X.fs:=λb c=>by
 rcases I.ok.stk with e | ⟨e,d⟩
 ·rw [e] at c;exact PV _ c
 ·rw [e] at c;unfold frs at c;rw [Q5,d] at c;exact c
theorem Inv.YV (I:Inv X pins σ H s):∀ b ∈ frs X.stack,H b=none:=λb hb=>by
 rcases PB.mp (I.Yo b hb) with e | hb
 ·rw [e];exact I.free
 ·obtain ⟨_,o,c,_⟩:=I.ok.Xr.mem hb;exact I.base.free b o c (I.ok.frf b hb) λz=>I.ok.Z0 b z hb
variable {g':Array GenState} {t':Nat} {d':Drawn} {ch:List Addr}
theorem Inv.step (I:Inv X pins σ H s)
  (g:∀ b ∈ ch,(b ∈ X.ex\/X.s₀.heap.objs.size<=b)/\b≠X.env.locals/\(∀ x c,X.env.cells.lookup x=some c->c≠b)/\∀ p ∈ X.pn++pins,p.1≠b)
  (keep:∀ b o,b≠X.env.locals->b ∉ X.fs->b ∉ ch->s.heap.get? b=some o->H b=none->h'.get? b=some o)
  (slot:∀ b o,b≠X.env.locals->b ∈ X.fs->b ∉ ch->s.heap.get? b=some o->H b=none->∃ J,h'.get? b=some { o with slots:=J }) (free:∀ b o,b ∉ ch->s.heap.get? b=some o->H b=none->H' b=none)
  (there:∀ b o,b ∉ ch->s.heap.get? b=some o->∃ D,h'.get? b=some D)
  (tups:∀ b xs,H b=some (.tup xs)->H' b=some (.tup xs)) (Yn:∀ b o u,H b=some (.Zq o u)->H' b=some (.Zq o u)) (Ys:∀ b ps,H b=some (.tbl ps)->∃ E,H' b=some (.tbl (ps++E)))
  (ns:∀ m,s.heap.Ns X.env.locals m->h'.Ns X.env.locals m) (K:WE X.prog X.w H' h') (S:AllBare g') :
  Inv X pins σ H' { s with heap:=h',gens:=g',drawn:=d',toks:=t' }:=by
 have F:∀ b o,X.s₀.heap.get? b=some o->b≠X.env.locals:=λb o e=>Qe (PY (PL e) I.ok.above)
 have y:∀ b o,X.s₀.heap.get? b=some o->b ∉ X.ex->b ∉ ch:=λb o e f B=>by
  rcases (g b B).1 with z | z
  ·exact f z
  ·exact absurd (PY (PL e) z) (QT _)
 have j:∀ x c,X.env.cells.lookup x=some c->∀ v,s.heap.IsCell c v->h'.IsCell c v:=λx c e v ⟨o,C,L⟩=>by
  have t:c ∉ ch:=λz=>(g c z).2.2.1 x c e rfl;by_cases N:c ∈ X.fs
  ·obtain ⟨J,q⟩:=slot c o (I.cne x c e) N t C (I.We x c e);exact ⟨_,q,L⟩
  ·exact ⟨o,keep c o (I.cne x c e) N t C (I.We x c e),L⟩
 refine ⟨I.ok,I.os,S,⟨λb o e n B f=>?_,λb o e n B f=>?_,λb o e n f=>?_,λb o e f=>?_,λb xs e=>tups b xs (I.base.tups b xs e),λb o xs e=>Yn b o xs (I.base.Yn b o xs e),λb ps e=>?_⟩,?_,λx c e=>?_,?_,λx c e=>?_,λp O=>?_,K,I.len⟩
 ·exact keep b o (F b o e) B (y b o e f) (I.base.keep b o e n B f) (I.base.free b o e n f)
 ·obtain ⟨J,A⟩:=I.base.slot b o e n B f;obtain ⟨M,G⟩:=slot b _ (F b o e) B (y b o e f) A (I.base.free b o e n f);exact ⟨M,G⟩
 ·obtain ⟨D,A⟩:=I.base.there b o e f;exact free b D (y b o e f) A (I.base.free b o e n f)
 ·obtain ⟨D,A⟩:=I.base.there b o e f;exact there b D (y b o e f) A
 ·obtain ⟨T,A⟩:=I.base.Ys b ps e;obtain ⟨U,G⟩:=Ys b _ A;exact ⟨T++U,by rw [G,Array.append_assoc]⟩
 ·obtain ⟨m,W,Y⟩:=I.loc;refine ⟨m,ns m W,λi x v A G Z=>?_⟩;obtain ⟨u,r,l⟩:=Y i x v A G Z;refine ⟨u,r,?_⟩;rcases l with l | ⟨k,c,e,z⟩
  ·exact .inl l
  ·exact .inr ⟨k,c,e,j x c e _ z⟩
 ·obtain ⟨v,z⟩:=I.cell x c e;exact ⟨v,j x c e v z⟩
 ·obtain ⟨m,⟨o,_,_,C,_⟩,_⟩:=I.loc;exact free _ o (λz=>(g _ z).2.1 rfl) C I.free
 ·obtain ⟨v,o,C,L⟩:=I.cell x c e;exact free c o (λz=>(g c z).2.2.1 x c e rfl) C (I.We x c e)
 ·obtain ⟨e,n,Q,R,d⟩:=I.pin p O;have t:p.1 ∉ ch:=λz=>(g p.1 z).2.2.2 p O rfl;exact ⟨keep p.1 p.2 Q R t e n,free p.1 p.2 t e n,Q,R,d⟩
theorem Inv.un (I:Inv X pins σ H s) (u:Un X.fs [] H H' s.heap h') (d:WE X.prog X.w H' h'):Inv X pins σ H' { s with heap:=h',toks:=t' }:=by
 obtain ⟨m,⟨o,es,q,j,r⟩,_⟩:=id I.loc;obtain ⟨t,k⟩:=u.any j I.free (by simp)
 exact I.step (g':=s.gens) (d':=s.drawn) (ch:=[]) (λ_ z=>nomatch z) (λb o _ f _ e n=>u.keep b o e n f (by simp)) (λb o _ f _ e n=>u.slot b o e n f (by simp)) (λb o _ e n=>u.free b o e n (by simp)) (λb o _ e=>u.there b o e (by simp)) u.tups u.Yn u.Ys (λv l=>by
  obtain ⟨x,g,i,c,p⟩:=l;rw [j] at c;cases c;exact ⟨_,g,i,k,p⟩) d I.bare
theorem Inv.call (I:Inv X pins σ H s) (u:Un (frs X.stack) ch H H' s.heap h') (i:WE X.prog X.w H' h') (t:AllBare g')
  (f:∀ b ∈ ch,(b ∈ X.ex\/X.s₀.heap.objs.size<=b)/\b≠X.env.locals/\(∀ x c,X.env.cells.lookup x=some c->c≠b)/\∀ p ∈ X.pn++pins,p.1≠b) :
  Inv X pins σ H' { s with heap:=h',gens:=g',drawn:=d',toks:=t' }:=by
 obtain ⟨m,⟨o,es,B,q,r⟩,_⟩:=id I.loc;obtain ⟨C,j⟩:=u.any q I.free λz=>(f _ z).2.1 rfl
 exact I.step (ch:=ch) f (λb o j v d e n=>u.keep b o e n (λz=>(PB.mp (I.Yo b z)).elim j v) d) (λb o _ _ d e n=>u.any e n d) (λb o d e n=>u.free b o e n d) (λb o d e=>u.there b o e d) u.tups u.Yn u.Ys (λD y=>by
  obtain ⟨E,k,l,g,A⟩:=y;rw [q] at g;cases g;exact ⟨_,k,l,j,A⟩) i t
theorem Inv.turned {d:Addr} (I:Inv X pins σ H s) (k:∀ b o,b≠d->s.heap.get? b=some o->h'.get? b=some o) (j:H d=none) (i:d≠X.env.locals)
  (l:d ∈ X.ex\/X.s₀.heap.objs.size<=d) (t:∀ x c,X.env.cells.lookup x=some c->c≠d) (y:∀ p ∈ X.pn++pins,p.1≠d):Inv X pins σ H { s with heap:=h',toks:=t' }:=by
 have g:∀ b u,H b=some u->b≠d:=λb u e z=>by rw [z,j] at e;cases e
 refine I.step (g':=s.gens) (d':=s.drawn) (ch:=[d]) (λb A=>?_) (λb o _ _ f e _=>k b o (λz=>f (by simp [z])) e) (λb o _ _ f e _=>⟨o.slots,k b o (λz=>f (by simp [z])) e⟩) (λ_ _ _ _ n=>n)
  (λb o f e=>⟨o,k b o (λz=>f (by simp [z])) e⟩) (λ_ _ e=>e) (λ_ _ _ e=>e) (λb ps e=>⟨#[],by rw [e];simp⟩) (λm B=>?_) (λb u e=>?_) I.bare
 ·have e:b=d:=by simpa using A
  subst e;exact ⟨l,i,t,y⟩
 ·obtain ⟨o,es,C,D,r⟩:=B;exact ⟨o,es,C,k _ o (PN i) D,r⟩
 ·refine (I.hok b u e).stay (λc v f q=>k c v ?_ q) (λ_ q=>q) λ_ _ q=>q;rcases f with z | z
  ·rw [z];exact g b u e
  ·exact g c _ z
theorem Inv.tok (I:Inv X pins σ H s) (t:Nat):Inv X pins σ H { s with toks:=t }:=I.un (h':=s.heap) (t':=t) Un.refl I.hok
theorem Inv.kept (I:Inv X pins σ H s) (k:∀ b u,s.heap.get? b=some u->h'.get? b=some u):Inv X pins σ H { s with heap:=h',toks:=t' }:=I.un (Un.kept k) (I.hok.kept k)
variable {o:HO}
theorem Inv.laid (I:Inv X pins σ H s) (k:∀ b u,s.heap.get? b=some u->h'.get? b=some u) (c:s.heap.objs.size<=a) (d:Td X.prog X.w (upd H a o) h' a o) :
  Inv X pins σ (upd H a o) { s with heap:=h',toks:=t' }:=I.un (Un.laid k c (I.hok.fresh c)) (I.hok.laid k c d)
theorem Inv.write {x e:Addr} (I:Inv X pins σ H s) (f:Mut (H x)) (g:e=x\/H e=some (.own x)) (k:∀ b u,b≠e->s.heap.get? b=some u->h'.get? b=some u) (c:∃ u,h'.get? e=some u)
  (d:Td X.prog X.w (upd H x o) h' x o):Inv X pins σ (upd H x o) { s with heap:=h',toks:=t' }:=I.un (Un.write f g k c) (I.hok.write f g k c d)
theorem Inv.YW {c:List (Addr × Obj)} (I:Inv X pins σ H s) (h:∀ p ∈ c,s.heap.get? p.1=some p.2/\H p.1=none/\p.1≠X.env.locals/\p.1 ∉ X.fs/\∀ v,p.2.data≠.cell v):Inv X c σ H s :=
 ⟨I.ok,I.os,I.bare,I.base,I.loc,I.cell,I.free,I.We,λp d=>(Qc.mp d).elim (λz=>I.pin p (Rm _ z)) (h p),I.hok,I.len⟩
variable {i:Nat} {x:Str}
theorem xu {N:List Str} (c:N.Nodup) {j:Nat} (a:N[i]?=some x) (b:N[j]?=some x):i=j:=by obtain ⟨f,d⟩:=P5.mp a;obtain ⟨g,e⟩:=P5.mp b;exact (List.getElem_inj c).mp (d.trans e.symm)
variable {M:Model} {A:Around} {v:V} {u:Value}
theorem tZ {E:Value->Shared->Prop} {Q:Unit->Shared->Prop} (I:Inv X pins σ H s) (hN:X.N.Nodup) (hi:X.N[i]?=some x) (t:Loc X.env.scope x) (r:RelV v u)
  (h:∀ s',Inv X pins (σ.set i (some v)) H s'->(∃ a,Heap.SameBut a s.heap s'.heap/\(a=X.env.locals\/X.env.cells.lookup x=some a))->Q () s') (hf:X.fn x=true\/X.env.scope.names.lookup x=some .local:=by first | exact .inl rfl | exact .inr rfl | assumption):wpAny M A (storeName X.env x u) Q E s:=by
 obtain ⟨m,W,hl⟩:=id I.loc;have J:(X.env.scope.kind == .class || (X.env.scope.kind == .module && X.env.locals != X.env.globals))=false:=by rw [I.ok.kind];rfl
 have hiσ:i < σ.length:=by rw [I.len];exact (P5.mp hi).1
 have cne:=I.cne
 have g:∀ {a:Addr} {h':Heap},(∃ o,s.heap.get? a=some o/\H a=none)->Heap.SameBut a s.heap h'->WE X.prog X.w H h':=λ{a h'} ha f b ob e=>by
  obtain ⟨_,_,B⟩:=ha;refine (I.hok b ob e).stay (λc S hc q=>(f.2 c ?_).trans q) (λ_ q=>q) λ_ _ q=>q;rintro rfl;rcases hc with rfl | hc
  ·rw [B] at e;cases e
  ·rw [B] at hc;cases hc
 rcases t with hk | hk
 ·refine wpAny_storeName_local hk W (λh' Y f=>?_) J;obtain ⟨oL,_,_,Z,_⟩:=id W;refine h _ ⟨I.ok,I.os,I.bare,⟨λb o e n D t=>?_,λb o e n D t=>?_,I.base.free,λb o e t=>?_,I.base.tups,I.base.Yn,I.base.Ys⟩,⟨_,Y,λj y v' l C e3=>?_⟩,λy c e=>?_,I.free,I.We,λp hp=>?_,g ⟨oL,Z,I.free⟩ f,by simpa using I.len⟩ ⟨_,f,.inl rfl⟩
  ·exact (f.2 b (Qe (PY (PL e) I.ok.above))).trans (I.base.keep b o e n D t)
  ·obtain ⟨sl,l⟩:=I.base.slot b o e n D t;exact ⟨sl,(f.2 b (Qe (PY (PL e) I.ok.above))).trans l⟩
  ·obtain ⟨o',l⟩:=I.base.there b o e t;exact ⟨o',(f.2 b (Qe (PY (PL e) I.ok.above))).trans l⟩
  ·by_cases F:j=i
   ·subst F;rw [hi] at l;cases l;rw [List.getElem?_set_self hiσ] at C;cases C;exact ⟨u,r,.inl ⟨hk,by simp⟩⟩
   ·rw [List.getElem?_set_ne (PN F)] at C;obtain ⟨u',r',q⟩:=hl j y v' l C e3;refine ⟨u',r',?_⟩;rcases q with ⟨k,e⟩ | ⟨k,c,e,z⟩
    ·refine .inl ⟨k,?_⟩;have:y≠x:=λe=>F (xu hN l (e ▸ hi));simp [this,e]
    ·exact .inr ⟨k,c,e,z.sameBut f (cne y c e)⟩
  ·obtain ⟨S,z⟩:=I.cell y c e;exact ⟨S,z.sameBut f (cne y c e)⟩
  ·obtain ⟨e,n,T,nf,d⟩:=I.pin p hp;exact ⟨(f.2 p.1 T).trans e,n,T,nf,d⟩
 ·have G:X.fn x=true:=by
   rcases hf with z | z
   ·exact z
   ·rw [z] at hk;cases hk
  obtain ⟨c,hc⟩:=I.ok.has x (.inl hk);obtain ⟨S,z⟩:=I.cell x c hc;refine wpAny_storeName_cell I.ok.kind hk hc z (λh' K f=>?_);obtain ⟨oc,L,O⟩:=id z;refine h { s with heap:=h' } ⟨I.ok,I.os,I.bare,⟨λb o e n D t=>?_,λb o e n D t=>?_,I.base.free,λb o e t=>?_,I.base.tups,I.base.Yn,I.base.Ys⟩,⟨m,W.sameBut f (PN (cne x c hc)),λj y v' l C e3=>?_⟩,λy U e=>?_,I.free,I.We,λp hp=>?_,g ⟨oc,L,I.We x c hc⟩ f,by simpa using I.len⟩ ⟨c,f,.inr hc⟩
  ·exact (f.2 b (Qe (PY (PL e) (I.ok.cab x c G hc)))).trans (I.base.keep b o e n D t)
  ·obtain ⟨sl,l⟩:=I.base.slot b o e n D t;exact ⟨sl,(f.2 b (Qe (PY (PL e) (I.ok.cab x c G hc)))).trans l⟩
  ·obtain ⟨o',l⟩:=I.base.there b o e t;exact ⟨o',(f.2 b (Qe (PY (PL e) (I.ok.cab x c G hc)))).trans l⟩
  ·by_cases F:j=i
   ·subst F;rw [hi] at l;cases l;rw [List.getElem?_set_self hiσ] at C;cases C;exact ⟨u,r,.inr ⟨.inl hk,c,hc,K⟩⟩
   ·rw [List.getElem?_set_ne (PN F)] at C;obtain ⟨u',r',q⟩:=hl j y v' l C e3;refine ⟨u',r',?_⟩;rcases q with q | ⟨k,U,e,z'⟩
    ·exact .inl q
    ·refine .inr ⟨k,U,e,z'.sameBut f ?_⟩;rintro rfl;exact F (xu hN l (I.ok.inj _ _ _ e hc ▸ hi))
  ·by_cases R:U=c
   ·subst R;exact ⟨_,K⟩
   ·obtain ⟨w2,z2⟩:=I.cell y U e;exact ⟨w2,z2.sameBut f R⟩
  ·obtain ⟨e,n,T,nf,d⟩:=I.pin p hp;refine ⟨(f.2 p.1 ?_).trans e,n,T,nf,d⟩;intro q;rw [q,L] at e;have q':oc=p.2:=Qg e;exact d S (by rw [<- q'];exact O)
theorem lW {E:Value->Shared->Prop} {Q:Unit->Shared->Prop} (I:Inv X pins σ H s) (c:X.N.Nodup) (hi:X.N[i]?=some x) (d:Loc X.env.scope x) (r:RelV v u)
  (h:∀ s',Inv X pins (σ.set i (some v)) H s'->Q () s') (e:X.fn x=true\/X.env.scope.names.lookup x=some .local:=by first | exact .inl rfl | exact .inr rfl | assumption):wpAny M A (storeName X.env x u) Q E s :=
 tZ I c hi d r (λs' f _=>h s' f) e
theorem Inv.call' {s':Shared} (I:Inv X pins σ H s) (g:s'.os=s.os) (u:Un (frs X.stack) ch H H' s.heap s'.heap) (d:WE X.prog X.w H' s'.heap) (j:AllBare s'.gens)
  (f:∀ b ∈ ch,(b ∈ X.ex\/X.s₀.heap.objs.size<=b)/\b≠X.env.locals/\(∀ x c,X.env.cells.lookup x=some c->c≠b)/\∀ p ∈ X.pn++pins,p.1≠b):Inv X pins σ H' s':=by
 obtain ⟨h',g',d',t',k⟩:=s';have e:k=s.os:=g;subst e;exact I.call (g':=g') (t':=t') (d':=d') u d j f
end
noncomputable abbrev XK:=Value->Option Addr->Hp->Prop
noncomputable abbrev St:=List (Option V)
noncomputable abbrev VK:=V->Hp->Prop
noncomputable abbrev TE:=St->Hp->VK->Prop
noncomputable abbrev TT:=St->Hp->(Bool->Hp->Prop)->Prop
noncomputable abbrev TA:=St->Hp->(List V->Hp->Prop)->Prop
structure kx where
 nx:St->Hp->Prop
 rt:VK
 bk:St->Hp->Prop:=λ_ _=>False
 ct:St->Hp->Prop:=λ_ _=>False
noncomputable abbrev TS:=kx->St->Hp->Prop
noncomputable def EP (X:Cx) (c:List (Addr × Obj)) (σ:St) (Q:VK) (u:Value) (s':Shared):Prop:=∃ v d,Inv X c σ d s'/\RelV v u/\Q v d
noncomputable def TP (X:Cx) (c:List (Addr × Obj)) (σ:St) (Q:Bool->Hp->Prop) (b:Bool) (s':Shared):Prop:=∃ d,Inv X c σ d s'/\Q b d
noncomputable def AP (X:Cx) (c:List (Addr × Obj)) (σ:St) (Q:List V->Hp->Prop) (us:List Value) (s':Shared):Prop:=∃ vs d,Inv X c σ d s'/\Vals vs us/\Q vs d
noncomputable def SP (X:Cx) (c:List (Addr × Obj)) (D:kx) (f:Flow) (s':Shared):Prop :=
 match f with
 | .next=>∃ σ' d,Inv X c σ' d s'/\D.nx σ' d
 | .brk=>∃ σ' d,Inv X c σ' d s'/\D.bk σ' d
 | .cont=>∃ σ' d,Inv X c σ' d s'/\D.ct σ' d
 | .ret u=>∃ v σ' d,Inv X c σ' d s'/\RelV v u/\D.rt v d
noncomputable def PE (X:Cx) (e:Expr) (t:TE):Prop :=
 ∀ (c:List (Addr × Obj)) (s:Shared) (σ:St) (H:Hp) (Q:VK),Inv X c σ H s->t σ H Q->wpAny (model X.prog X.w) X.A (eval e X.env) (EP X c σ Q) X.xe s
noncomputable def PT (X:Cx) (e:Expr) (t:TT):Prop :=
 ∀ (c:List (Addr × Obj)) (s:Shared) (σ:St) (H:Hp) (Q:Bool->Hp->Prop),Inv X c σ H s->t σ H Q->wpAny (model X.prog X.w) X.A (isTrue e X.env (eval e X.env)) (TP X c σ Q) X.xe s
noncomputable def PW (X:Cx) (e:Expr) (t:TT):Prop :=
 ∀ (d:Sem Value) (c:List (Addr × Obj)) (s:Shared) (σ:St) (H:Hp) (Q:Bool->Hp->Prop),Inv X c σ H s->t σ H Q->wpAny (model X.prog X.w) X.A (isTrue e X.env d) (TP X c σ Q) X.xe s
variable {X:Cx}
theorem PW.pt {e:Expr} {t:TT} (h:PW X e t):PT X e t:=h _
noncomputable def PA (X:Cx) (es:List Expr) (t:TA):Prop :=
 ∀ (d:Pos) (c:List (Addr × Obj)) (s:Shared) (σ:St) (H:Hp) (Q:List V->Hp->Prop),Inv X c σ H s->t σ H Q->wpAny (model X.prog X.w) X.A (spliced (backTo d (starEach es X.env))) (AP X c σ Q) X.xe s
noncomputable def PS (X:Cx) (st:Stmt) (t:TS):Prop :=
 ∀ (c:List (Addr × Obj)) (s:Shared) (σ:St) (H:Hp) (D:kx),Inv X c σ H s->t D σ H->wpAny (model X.prog X.w) X.A (exec st X.env) (SP X c D) X.xe s
noncomputable def YJ (X:Cx) (st:List Stmt) (t:TS):Prop :=
 ∀ (c:List (Addr × Obj)) (s:Shared) (σ:St) (H:Hp) (D:kx),Inv X c σ H s->t D σ H->wpAny (model X.prog X.w) X.A (execs st X.env) (SP X c D) X.xe s
variable {M:Model} {A:Around} {s:Shared}
theorem S1 {α:Type} {t:Sem α} {Q c:α->Shared->Prop} {E:Value->Shared->Prop} (h:wpAny M A t Q E s) (d:∀ a s,Q a s->c a s):wpAny M A t c E s:=RJ h d λ_ _ x=>x
section
variable {X:Cx}
noncomputable def fT (i:Nat):TE:=λσ H Q=>∃ v,σ[i]?=some (some v)/\Q v H
noncomputable def tC (v:V):TE:=λ_ H Q=>Q v H
variable {x:Str}
theorem HL {i:Nat} {j:Pos} (q:X.N[i]?=some x) (t:Vis X.env.scope x) (k:(x == ("__debug__":Str))=false:=by decide) (n:(x == ("__classdict__":Str))=false:=by decide):PE X (.Name x j) (fT i):=by
 intro g s σ H Q I h;obtain ⟨v,e,h⟩:=h;obtain ⟨m,y,z⟩:=I.loc;obtain ⟨u,r,l⟩:=z i x v q e t;have f:EP X g σ Q u s:=⟨v,H,I,r,h⟩
 rcases l with ⟨hk,B⟩ | ⟨hk,c,p,d⟩
 ·exact wpAny_Name (wpAny_loadName_local I.ok.kind hk y B f) k
 ·rcases hk with hk | hk
  ·exact wpAny_Name (wpAny_loadName_cell I.ok.kind hk p d f) k
  ·exact wpAny_Name (wpAny_loadName_free I.ok.kind hk p d f n) k
theorem aF {i j c}:PE X (.Constant (.int i) j c) (tC (.int i)):=λ_ _ _ H _ I h=>wpAny_Constant_int ⟨.int i,H,I.tok _,⟨_,rfl⟩,h⟩
theorem d8 {b j c}:PE X (.Constant (.bool b) j c) (tC (.bl b)):=λ_ _ _ H _ I h=>Constant_bool ⟨.bl b,H,I,rfl,h⟩
theorem gR {j c}:PE X (.Constant .none j c) (tC .SO):=λ_ _ _ H _ I h=>Constant_none ⟨.SO,H,I,rfl,h⟩
theorem aO {x j c}:PE X (.Constant (.str x) j c) (tC (.str x)):=λ_ _ _ H _ I h=>Calls.Constant_str ⟨.str x,H,I.tok _,⟨_,rfl⟩,h⟩
noncomputable def Gl (X:Cx) (x:Str):Prop:=X.env.kindOf x=some .globalImplicit
variable {pins:List (Addr × Obj)} {s:Shared} {σ:St} {H:Hp} {u:Value}
theorem nq {E:Value->Shared->Prop} {c:Pos} {Q:Value->Shared->Prop} (I:Inv X pins σ H s) (d:Gl X x) (e:X.mg x=some u) (h:Q u s)
  (f:(x == ("__debug__":Str))=false:=by decide):wpAny (model X.prog X.w) X.A (eval (.Name x c) X.env) Q E s :=
 Calls.Name_function_global I.ok.kind d (Calls.loadGlobal_global (by rw [I.ok.glob];exact I.mod.glob.keeps I.bk) e h) f
theorem lj {E:Value->Shared->Prop} {c:Pos} {Q:Value->Shared->Prop} (I:Inv X pins σ H s) (d:Gl X x) (e:X.mg x=none) (f:bootBuiltins x=some u) (h:Q u s)
  (g:x≠"__name__":=by decide) (i:(x == ("__debug__":Str))=false:=by decide):wpAny (model X.prog X.w) X.A (eval (.Name x c) X.env) Q E s:=by
 obtain ⟨l,j,k⟩:=I.mod.blt;exact Calls.Name_function_global I.ok.kind d (Calls.loadGlobal_builtin (by rw [I.ok.glob];exact I.mod.glob.keeps I.bk) e (by rw [I.ok.blt];exact j.keeps I.bk) ((k x g).trans f) h) i
variable {v:V}
theorem bT {c:Pos} (d:Gl X x) (e:X.mg x=some u) (r:RelV v u) (f:(x == ("__debug__":Str))=false:=by decide):PE X (.Name x c) (tC v) :=
 λ_ _ _ H _ I h=>nq I d e ⟨v,H,I,r,h⟩ f
theorem iB {c:Pos} (d:Gl X x) (e:X.mg x=none) (f:bootBuiltins x=some u) (r:RelV v u) (g:x≠"__name__":=by decide) (i:(x == ("__debug__":Str))=false:=by decide):PE X (.Name x c) (tC v) :=
 λ_ _ _ H _ I h=>lj I d e f ⟨v,H,I,r,h⟩ g i
variable {a b:Expr} {ta tb:TE} {pos:Pos}
variable {tA tB':TT} {rest:List Expr}
noncomputable def Js (t u:TT):TT:=λσ H Q=>t σ H λc d=>if c=true then u σ d Q else Q false d
noncomputable def tOr (t u:TT):TT:=λσ H Q=>t σ H λc d=>if c=true then Q true d else u σ d Q
noncomputable def Iu (t:TT):TT:=λσ H Q=>t σ H λc d=>Q (!c) d
theorem nF (d:PT X a tA):PW X (.BoolOp .And [a] pos) tA:=by
 intro f pins s σ H Q I h;refine isTrue_and (S1 (d pins s σ H Q I h) λc s1 e=>?_)
 cases c with
 | true=>exact isTrue_and_nil e
 | false=>exact e
theorem eR (d:PT X a tA):PW X (.BoolOp .Or [a] pos) tA:=by
 intro f pins s σ H Q I h;refine isTrue_or (S1 (d pins s σ H Q I h) λc s1 e=>?_)
 cases c with
 | false=>exact isTrue_or_nil e
 | true=>exact e
theorem rj (g:PT X a tA) (i:PW X (.BoolOp .And (b::rest) pos) tB'):PW X (.BoolOp .And (a::b::rest) pos) (Js tA tB'):=by
 intro j pins s σ H Q I h;refine isTrue_and (S1 (g pins s σ H _ I h) λc s1 ⟨d,e,f⟩=>?_)
 cases c with
 | true=>exact i j pins s1 σ d Q e f
 | false=>exact ⟨d,e,f⟩
theorem fH (g:PT X a tA) (i:PW X (.BoolOp .Or (b::rest) pos) tB'):PW X (.BoolOp .Or (a::b::rest) pos) (tOr tA tB'):=by
 intro j pins s σ H Q I h;refine isTrue_or (S1 (g pins s σ H _ I h) λc s1 ⟨d,e,f⟩=>?_)
 cases c with
 | true=>exact ⟨d,e,f⟩
 | false=>exact i j pins s1 σ d Q e f
theorem cW (d:PT X a tA):PT X (.UnaryOp .Not a pos) (Iu tA):=by intro pins s σ H Q I h;exact isTrue_not (d pins s σ H (λc e=>Q (!c) e) I h)
noncomputable def Eb (ta tb:TE):TE:=λσ H Q=>ta σ H λx d=>∃ c,x=.bl c/\if c=true then tb σ d Q else Q (.bl false) d
noncomputable def Jx (ta tb:TE):TE:=λσ H Q=>ta σ H λx d=>∃ c,x=.bl c/\if c=true then Q (.bl true) d else tb σ d Q
noncomputable def GF (ta:TE):TE:=λσ H Q=>ta σ H λx d=>∃ c,x=.bl c/\Q (.bl (!c)) d
theorem jI {c} {t:TE} (h:PE X a t):PE X (.BoolOp c [a] pos) t:=λpins s σ H Q I d=>BoolOp_one (h pins s σ H Q I d)
theorem jH (g:PE X a ta) (i:PE X (.BoolOp .And (b::rest) pos) tb):PE X (.BoolOp .And (a::b::rest) pos) (Eb ta tb):=by
 intro pins s σ H Q I h;refine BoolOp_and (S1 (g pins s σ H _ I h) λv s1 ⟨x,e,f,j,d⟩=>?_);obtain ⟨c,rfl,d⟩:=d;cases j;refine QD ?_
 cases c with
 | true=>exact i pins s1 σ e Q f d
 | false=>exact ⟨.bl false,e,f,rfl,d⟩
theorem Dt (g:PE X a ta) (i:PE X (.BoolOp .Or (b::rest) pos) tb):PE X (.BoolOp .Or (a::b::rest) pos) (Jx ta tb):=by
 intro pins s σ H Q I h;refine BoolOp_or (S1 (g pins s σ H _ I h) λv s1 ⟨x,e,f,j,d⟩=>?_);obtain ⟨c,rfl,d⟩:=d;cases j;refine QD ?_
 cases c with
 | false=>exact i pins s1 σ e Q f d
 | true=>exact ⟨.bl true,e,f,rfl,d⟩
theorem HK (e:PE X a ta):PE X (.UnaryOp .Not a pos) (GF ta):=by intro pins s σ H Q I h;refine UnaryOp_ (S1 (e pins s σ H _ I h) λv s1 ⟨x,f,g,i,d⟩=>?_);obtain ⟨c,rfl,d⟩:=d;cases i;exact not_of (QD ⟨.bl (!c),f,g,rfl,d⟩)
noncomputable def tIf (t:TT) (ta tb:TE):TE:=λσ H Q=>t σ H λc d=>if c=true then ta σ d Q else tb σ d Q
theorem fG {c:Expr} (i:PT X c tA) (j:PE X a ta) (k:PE X b tb):PE X (.IfExp c a b pos) (tIf tA ta tb):=by
 intro pins s σ H Q I h;refine wpAny_IfExp (S1 (i pins s σ H _ I h) λd s1 ⟨e,f,g⟩=>?_)
 cases d with
 | true=>exact j pins s1 σ e Q f g
 | false=>exact k pins s1 σ e Q f g
end
noncomputable def SR (K:W.Frag) (H:Hp) (a:Addr) (xs:List V):Prop :=
 Rd H a (.lst xs) \/
  ∃ (o:Obj) (its:Array Value) (n:Nat),K.lookup a=some o/\o.cls=.type "list"/\o.dict=none/\o.data=.seq its n/\its.size<=sizeLine/\Vals xs its.toList
noncomputable def Ti (K:W.Frag) (H:Hp) (a:Addr) (xs:List V):Prop :=
 Rd H a (.tup xs) \/
  ∃ (o:Obj) (its:Array Value) (n:Nat),K.lookup a=some o/\o.cls=.type "tuple"/\o.data=.seq its n/\its.size<=sizeLine/\Vals xs its.toList
noncomputable def JG:Value->Option V
 | .none=>some .SO
 | .bool b=>some (.bl b)
 | .int i _=>some (.int i)
 | .str x _=>some (.str x)
 | .bytes b _=>some (.YU b)
 | .float b _=>some (.flt b)
 | .ref a=>some (.ref a)
 | .type n=>some (.ty n)
 | _=>none
theorem RelV.abs {x:V} (r:RelV x u):JG u=some x:=by
 cases x with
 | SO=>cases r;rfl
 | bl _=>cases r;rfl
 | int _=>obtain ⟨t,rfl⟩:=r;rfl
 | str _=>obtain ⟨t,rfl⟩:=r;rfl
 | YU _=>obtain ⟨t,rfl⟩:=r;rfl
 | flt _=>obtain ⟨t,rfl⟩:=r;rfl
 | ref _=>cases r;rfl
 | ty _=>cases r;rfl
theorem RelV.inj {x y:V} (r:RelV x u) (q:RelV y u):x=y:=Qg (r.abs.symm.trans q.abs)
theorem Vals.inj:∀ {xs ys:List V} {us:List Value},Vals xs us->Vals ys us->xs=ys
 | _,_,_,.nil,.nil=>rfl
 | _,_,_,.cons r t,.cons c t'=>by rw [r.inj c,Vals.inj t t']
section
variable {X:Cx} {pins:List (Addr × Obj)} {σ:St} {H:Hp} {s:Shared} {a:Addr} {xs ys:List V}
variable {K:W.Frag}
theorem SR.of (h:H a=some (.lst xs)):SR K H a xs:=.inl (.inl h)
theorem Ti.of (h:H a=some (.tup xs)):Ti K H a xs:=.inl (.inl h)
theorem Inv.list (I:Inv X pins σ H s) (h:SR X.K H a xs):∃ its:List Value,Vals xs its/\PlainL s.heap a its.toArray/\xs.length<=sizeLine:=by
 rcases h with h | ⟨o,its,n,hk,c,d,f,g,r⟩
 ·obtain ⟨z,its,n,r,e⟩:=h.ok I.hok;exact ⟨its,r,⟨_,n,e,rfl,rfl,rfl⟩,z⟩
 ·refine ⟨its.toList,r,⟨o,n,I.Wc a o hk,c,d,by simpa using f⟩,?_⟩;have e:=r.length;simp only [Q6] at e;lia
theorem Inv.tuple (I:Inv X pins σ H s) (h:Ti X.K H a xs):∃ its:List Value,Vals xs its/\IsTup s.heap a its.toArray/\xs.length<=sizeLine:=by
 rcases h with h | ⟨o,its,n,hk,c,d,f,r⟩
 ·obtain ⟨z,its,r,p⟩:=h.ok I.hok;exact ⟨its,r,p,z⟩
 ·refine ⟨its.toList,r,⟨o,I.Wc a o hk,c,n,by simpa using d⟩,?_⟩;have e:=r.length;simp only [Q6] at e;lia
theorem Inv.Zs (I:Inv X pins σ H s) (h:SR X.K H a xs) (h':SR X.K H a ys):xs=ys:=by
 obtain ⟨its,r,⟨o,n,e,_,_,d⟩,_⟩:=I.list h;obtain ⟨its',f,⟨i,j,c,_,_,d'⟩,_⟩:=I.list h';rw [e] at c;cases c;rw [d] at d';injection d' with g _;have:its=its':=by simpa using P1 Array.toList g
 subst this;exact r.inj f
theorem Inv.Ye (I:Inv X pins σ H s) (h:Ti X.K H a xs) (h':Ti X.K H a ys):xs=ys:=by
 obtain ⟨its,r,⟨o,e,_,n,d⟩,_⟩:=I.tuple h;obtain ⟨its',f,⟨i,c,_,j,d'⟩,_⟩:=I.tuple h';rw [e] at c;cases c;rw [d] at d';injection d' with g _;have:its=its':=by simpa using P1 Array.toList g
 subst this;exact r.inj f
end
noncomputable abbrev Cx.X3 (X:Cx) (E:Value->Shared->Prop):Cx:={ X with xe:=E }
noncomputable abbrev Cx.nox (X:Cx):Cx:=X.X3 λ_ _=>False
theorem Cx.Ok.X3 (ok:X.Ok) (E:Value->Shared->Prop):(X.X3 E).Ok :=
 ⟨ok.mod,ok.kind,ok.glob,ok.blt,ok.above,ok.inj,ok.has,ok.cab,ok.hd,ok.frames,ok.stk,ok.exf,ok.bs,ok.ZZ,ok.Zr,ok.Z0,ok.Xr,ok.frf⟩
theorem Cx.Ok.V0 {E:Value->Shared->Prop} (ok:(X.X3 E).Ok):X.Ok :=
 ⟨ok.mod,ok.kind,ok.glob,ok.blt,ok.above,ok.inj,ok.has,ok.cab,ok.hd,ok.frames,ok.stk,ok.exf,ok.bs,ok.ZZ,ok.Zr,ok.Z0,ok.Xr,ok.frf⟩
section
variable {X:Cx} {pins:List (Addr × Obj)} {σ:St} {H:Hp} {s:Shared} {E:Value->Shared->Prop}
theorem Inv.X3 (I:Inv X pins σ H s) (E:Value->Shared->Prop):Inv (X.X3 E) pins σ H s:=⟨I.ok.X3 E,I.os,I.bare,I.base,I.loc,I.cell,I.free,I.We,I.pin,I.hok,I.len⟩
theorem Inv.V0 (I:Inv (X.X3 E) pins σ H s):Inv X pins σ H s:=⟨I.ok.V0,I.os,I.bare,I.base,I.loc,I.cell,I.free,I.We,I.pin,I.hok,I.len⟩
theorem SP.V0 {D:kx} {f:Flow} {s':Shared} (h:SP (X.X3 E) pins D f s'):SP X pins D f s':=by
 cases f with
 | next=>obtain ⟨σ',c,I,q⟩:=h;exact ⟨σ',c,I.V0,q⟩
 | brk=>obtain ⟨σ',c,I,q⟩:=h;exact ⟨σ',c,I.V0,q⟩
 | cont=>obtain ⟨σ',c,I,q⟩:=h;exact ⟨σ',c,I.V0,q⟩
 | ret u=>obtain ⟨v,σ',c,I,r,q⟩:=h;exact ⟨v,σ',c,I.V0,r,q⟩
theorem YJ.nox {st:List Stmt} {t:TS} (h:YJ X.nox st t):YJ X st t:=λpins s σ H D I c =>
 RJ (h pins s σ H D (I.X3 _) c) (λ_ _ q=>q.V0) λ_ _ z=>False.elim z
end
section
variable {X:Cx} {st:Stmt} {rest:List Stmt} {t u:TS} {e:Expr} {te:TE} {pos:Pos}
noncomputable def AO:TS:=λD σ H=>D.nx σ H
noncomputable def lX (t u:TS):TS:=λD σ H=>t { D with nx:=u D } σ H
theorem aQ:YJ X [] AO:=λ_ _ σ H _ I h=>R8 ⟨σ,H,I,h⟩
theorem aE (d:PS X st t) (g:YJ X rest u):YJ X (st::rest) (lX t u):=by
 intro c s σ H D I h;refine wpAny_execs_cons (S1 (d c s σ H { D with nx:=u D } I h) λf s1 q=>?_)
 cases f with
 | next =>obtain ⟨σ',i,j,q⟩:=q;exact g c s1 σ' i D j q
 | ret v=>exact q
 | brk=>exact q
 | cont=>exact q
theorem aH (d:PS X st t):YJ X [st] t:=by
 intro c s σ H D I h;refine wpAny_execs_cons (S1 (d c s σ H D I h) λf s1 q=>?_)
 cases f with
 | next=>exact R8 q
 | ret v=>exact q
 | brk=>exact q
 | cont=>exact q
noncomputable def GD:TS:=λD σ H=>D.ct σ H
theorem xN:PS X (.Continue pos) GD:=λ_ _ σ H _ I h=>wpAny_Continue ⟨σ,H,I,h⟩
theorem Inv.quiet {c:List (Addr × Obj)} {σ:St} {H:Hp} {s:Shared} (I:Inv X c σ H s):interactive X.env=false:=by simp [interactive,I.ok.kind]
noncomputable def rR (te:TE):TS:=λD σ H=>te σ H λ_ c=>D.nx σ c
theorem bP (d:PE X e te) (f:swapsWith e none pos.line X.env=pure false:=by rfl):PS X (.Expr e pos) (rR te):=by intro c s σ H D I h;exact wpAny_Expr_any (S1 (d c s σ H _ I h) λv s1 ⟨x,g,i,k,j⟩=>⟨σ,g,i,j⟩) I.quiet f
noncomputable def Ee (te:TE):TS:=λD σ H=>te σ H D.rt
theorem aP (d:PE X e te):PS X (.Return (some e) pos) (Ee te):=by intro c s σ H D I h;exact wpAny_Return_some (S1 (d c s σ H _ I h) λv s1 ⟨x,f,g,i,j⟩=>⟨x,σ,f,g,i,j⟩)
noncomputable def Jy:TS:=λD _ H=>D.rt .SO H
theorem Ay:PS X (.Return none pos) Jy:=λ_ _ σ H _ I h=>wpAny_Return_none ⟨.SO,σ,H,I,rfl,h⟩
noncomputable def F5 (c:TT) (t u:TS):TS:=λD σ H=>c σ H λb d=>if b=true then t D σ d else u D σ d
theorem bE {c:Expr} {a b:List Stmt} {g:TT} (l:PT X c g) (m:YJ X a t) (n:YJ X b u):PS X (.If c a b pos) (F5 g t u):=by
 intro f s σ H D I h;refine wpAny_If (S1 (l f s σ H _ I h) λd s1 ⟨i,j,k⟩=>?_)
 cases d with
 | true=>exact m f s1 σ i D j k
 | false=>exact n f s1 σ i D j k
noncomputable def Ir:TS:=λ_ _ _=>False
theorem dF:PS X st Ir:=λ_ _ _ _ _ _ h=>h.elim
end
noncomputable abbrev TG:=V->St->Hp->(St->Hp->Prop)->Prop
noncomputable abbrev Z1:=List V->St->Hp->(St->Hp->Prop)->Prop
noncomputable def PG (X:Cx) (c:Expr) (t:TG):Prop :=
 ∀ (d:List (Addr × Obj)) (s:Shared) (σ:St) (H:Hp) (v:V) (u:Value) (Q:St->Hp->Prop),Inv X d σ H s->RelV v u->t v σ H Q ->
  wpAny (model X.prog X.w) X.A (assign c X.env u) (λ_ s'=>∃ σ' e,Inv X d σ' e s'/\Q σ' e) X.xe s
noncomputable def PGs (X:Cx) (ts:List Expr) (t:Z1):Prop :=
 ∀ (c:List (Addr × Obj)) (s:Shared) (σ:St) (H:Hp) (vs:List V) (us:List Value) (Q:St->Hp->Prop),Inv X c σ H s->Vals vs us->t vs σ H Q ->
  wpAny (model X.prog X.w) X.A (assignInOrder ((assignEach ts X.env).map (·.2)) us) (λ_ s'=>∃ σ' d,Inv X c σ' d s'/\Q σ' d) X.xe s
noncomputable abbrev Cc:=V->V->V->Hp->(Hp->Prop)->Prop
noncomputable def GI (X:Cx) (t:Cc):Prop :=
 ∀ (c:List (Addr × Obj)) (s:Shared) (σ:St) (H:Hp) (o i v:V) (d e u:Value) (Q:Hp->Prop),Inv X c σ H s->RelV o d->RelV i e->RelV v u->t o i v H Q ->
  wpAny (model X.prog X.w) X.A (setItem d e u) (λ_ s'=>∃ f,Inv X c σ f s'/\Q f) X.xe s
noncomputable abbrev TIp:=V->V->Hp->VK->Prop
noncomputable def PIp (X:Cx) (d:Operator) (t:TIp):Prop :=
 ∀ (c:List (Addr × Obj)) (s:Shared) (σ:St) (H:Hp) (x y:V) (v u:Value) (Q:VK),Inv X c σ H s->RelV x v->RelV y u->t x y H Q ->
  wpAny (model X.prog X.w) X.A (inplaceOp d v u) (EP X c σ Q) X.xe s
section
variable {X:Cx} {pos:Pos}
noncomputable def d6 (i:Nat):TG:=λv σ H Q=>Q (σ.set i (some v)) H
variable {i:Nat} {x:Str}
theorem a7 (d:X.N.Nodup) (hi:X.N[i]?=some x) (e:Loc X.env.scope x) (f:X.fn x=true\/X.env.scope.names.lookup x=some .local:=by first | exact .inl rfl | exact .inr rfl | assumption):PG X (.Name x pos) (d6 i):=by intro c s σ H v u Q I r h;exact wpAny_assign_Name (lW I d hi e r (λs' g=>⟨_,H,g,h⟩) f)
noncomputable def CD:Z1:=λvs σ H Q=>vs=[]/\Q σ H
noncomputable def mw (t:TG) (u:Z1):Z1:=λvs σ H Q=>∃ v r,vs=v::r/\t v σ H λσ' c=>u r σ' c Q
theorem eH:PGs X [] CD:=by intro c s σ H vs us Q I r h;obtain ⟨e,h⟩:=h;subst e;cases r;exact assignInOrder_nil ⟨σ,H,I,h⟩
variable {e:Expr} {es:List Expr}
theorem bN {t:TG} {u:Z1} (d:PG X e t) (f:PGs X es u)
  (g:(assignEach (e::es) X.env).map (·.2)=assign e X.env::(assignEach es X.env).map (·.2):=by rfl):PGs X (e::es) (mw t u):=by
 intro c s σ H vs us Q I r h;obtain ⟨v,p,j,h⟩:=h;subst j
 cases r with
 | cons r k =>rw [g];refine Sm (S1 (d c s σ H _ _ _ I r h) λ_ s1 ⟨σ1,l,m,n⟩=>?_);exact f c s1 σ1 l _ _ Q m k n
noncomputable def A7 (K:W.Frag) (n:Nat) (t:Z1):TG:=λv σ H Q=>∃ a xs,v=.ref a/\Ti K H a xs/\xs.length=n/\t xs σ H Q
theorem gF {k:Nat} {t:Z1} {n:Nat} (j:X.calm=true) (h:PGs X es t)
  (l:(assignEach es X.env).length=n:=by rfl) (d:(assignEach es X.env).findIdx? (·.1)=none:=by rfl):PG X (.Tuple es k pos) (A7 X.K n t):=by
 intro c s σ H v u Q I r f;obtain ⟨a,xs,m,p,q,f⟩:=f;subst m;cases r;obtain ⟨its,g,y,C⟩:=I.tuple p;refine assign_Tuple_tuple (I.ok.hd j) y (by simp [l,<- q,g.length]) d λh' z=>?_;have B:Inv X c σ H { s with heap:=h' }:=I.kept (t':=s.toks) λb o e=>z b o (Qe (PL e)) e;exact h c _ σ H xs _ Q B (by simpa using g) f
noncomputable def JK (to c:TE) (t:Cc):TG:=λv σ H Q=>to σ H λo d=>c σ d λi f=>t o i v f λg=>Q σ g
variable {o:Expr} {to ti:TE}
theorem vF {i:Expr} {t:Cc} (g:PE X o to) (hi:PE X i ti) (j:GI X t)
  (k:∀ v,assign (.Subscript o i pos) X.env v=(do
   let d <- holding [v] (eval o X.env);let f <- holding [v,d] (eval i X.env)
   standAt pos
   holding [v,d,f] (setItem d f v)
   release [v,d,f] []):=by intro _;rfl):PG X (.Subscript o i pos) (JK to ti t):=by
 intro c s σ H v u Q I r h;rw [k];refine Pj (Rr (S1 (g c s σ H _ I h) λd s1 ⟨x,l,m,n,p⟩=>?_));refine Pj (Rr (S1 (hi c s1 σ l _ m p) λf q ⟨y,z,B,C,D⟩=>?_));refine Pj (RN (Pj (Rr (S1 (j c q σ z x y v d f u _ B n C r D) λ_ J ⟨E,F,G⟩=>?_))));exact wpAny_release ⟨σ,E,F,G⟩
noncomputable def rQ (c:TE) (g:TG):TS:=λD σ H=>c σ H λx d=>g x σ d D.nx
variable {te:TE}
theorem gH {d:Expr} {g:TG} (f:PE X e te) (j:PG X d g) (k:swapsWithSole [d] e pos.line X.env=pure false:=by rfl) (l:swappedStores [d] e X.env=pure none:=by rfl)
  (m:(assignEach [d] X.env).map (·.2)=[assign d X.env]:=by rfl):PS X (.Assign [d] e pos) (rQ te g):=by
 intro c s σ H D I h;refine wpAny_Assign_stores (S1 (f c s σ H _ I h) λv s1 ⟨x,n,p,r,t⟩=>?_) k l;rw [m];exact S1 (j c s1 σ n x v _ p r t) λ_ y q=>q
variable {pos':Pos}
theorem bQ (d:X.N.Nodup) (hi:X.N[i]?=some x) (f:Loc X.env.scope x) (g:PE X e te) (j:swapsWith e (some (.Name x pos')) pos.line X.env=pure false:=by rfl) (k:X.fn x=true\/X.env.scope.names.lookup x=some .local:=by first | exact .inl rfl | exact .inr rfl | assumption) :
  PS X (.Assign [.Name x pos'] e pos) (rQ te (d6 i)):=by
 intro c s σ H D I h;refine wpAny_Assign_Name (S1 (g c s σ H _ I h) λv s1 ⟨y,l,m,n,p⟩=>?_) j;exact lW m d hi f n (λr q=>⟨_,l,q,p⟩) k
noncomputable def Iv (i j:Nat) (c:TA):TS:=λD σ H=>c σ H λvs d=>∃ v w,vs=[v,w]/\D.nx ((σ.set i (some v)).set j (some w)) d
theorem rg {j:Nat} {y:Str} {a b:Expr} {C:TA} {k l pt:Pos} {m n d} (L:X.calm=true) (E:X.N.Nodup) (hi:X.N[i]?=some x) (O:X.N[j]?=some y) (r:i≠j)
  (F:X.env.scope.names.lookup x=some .local) (G:X.env.scope.names.lookup y=some .local) (Q:PA X [a,b] C)
  (R:swappedStores [.Tuple [.Name x k,.Name y l] m pt] (.Tuple [a,b] n d) X.env=pure (some [x,y]))
  (S:swapsWithSole [.Tuple [.Name x k,.Name y l] m pt] (.Tuple [a,b] n d) pos.line X.env=pure false:=by rfl) :
  PS X (.Assign [.Tuple [.Name x k,.Name y l] m pt] (.Tuple [a,b] n d) pos) (Iv i j C):=by
 intro c s σ H D I h;rw [exec_Assign_arm];refine Pj (RN ?_);rw [S];refine Pj (PF ?_);rw [M1 (by decide)];refine Pj (Tuple_ (S1 (Q _ c s σ H _ I h) λus s1 ⟨vs,J,T,U,t⟩=>?_));obtain ⟨v,w,W,t⟩:=t;subst W
 obtain ⟨f,g,rfl,Y,z⟩:∃ f g,us=[f,g]/\RelV v f/\RelV w g:=by
  cases U with
  | cons p q =>
   cases q with
   | cons Z q' =>cases q';exact ⟨_,_,rfl,p,Z⟩
 refine Rk ?_ (by show 2<=sizeLine;decide);have I2:Inv X c σ J { s1 with heap:=s1.heap.push { cls:=.type "tuple",data:=.seq [f,g].toArray } }:=T.kept (t':=s1.toks) λb o e=>Ph _ e;rw [R];refine Pj (PF ?_);show wpAny (model X.prog X.w) X.A (do rule "assign.swapped-stores";let items <- unpackItems (.ref s1.heap.objs.size) 2 none;assignInOrder [λv=>bindName X.env y v,λv=>bindName X.env x v] items.reverse;pure Flow.next) _ _ _;refine Pj (wpAny_rule (Pj (unpackItems_tuple (items:=#[f,g]) (I.ok.hd L) (Sn s1.heap _) λh' B=>?_)));have I3:=I2.kept (h':=h') (t':=s1.toks) λb o e=>B b o (Qe (PL e)) e;show wpAny _ _ (assignInOrder [λv=>bindName X.env y v,λv=>bindName X.env x v] [g,f] >>= λ_=>pure Flow.next) _ _ _;refine Pj (Sm (wpAny_bindName (lW I3 E O (.inl G) z (λs2 I4=>?_) (.inr G))));refine Sm (wpAny_bindName (lW I4 E hi (.inl F) Y (λs3 K=>assignInOrder_nil (PF ?_)) (.inr F)));rw [List.set_comm _ _ (PN r)] at K;exact ⟨_,J,K,t⟩
noncomputable def JU (i:Nat) (te:TE) (ti:TIp):TS:=λD σ H=>∃ x,σ[i]?=some (some x)/\te σ H λy c=>ti x y c λz d=>D.nx (σ.set i (some z)) d
variable {op:Operator}
theorem yZ {ti:TIp} (p:X.N.Nodup) (hi:X.N[i]?=some x) (g:Loc X.env.scope x) (q:PE X e te) (t:PIp X op ti) (B:X.fn x=true\/X.env.scope.names.lookup x=some .local:=by first | exact .inl rfl | exact .inr rfl | assumption) :
  PS X (.AugAssign (.Name x pos') op e pos) (JU i te ti):=by
 intro d s σ H D I h;obtain ⟨v,C,h⟩:=h;obtain ⟨m,E,F⟩:=I.loc;have j:Vis X.env.scope x:=by rcases g with k | k;exact .inl k;exact .inr (.inl k)
 obtain ⟨u,r,l⟩:=F i x v hi C j;refine wpAny_AugAssign_Name ?_
 have n:wpAny (model X.prog X.w) X.A (eval e X.env) (λw s₂=>wpAny (model X.prog X.w) X.A (inplaceOp op u w) (λr s₃=>wpAny (model X.prog X.w) X.A (storeName X.env x r) (λ_=>SP X d D .next) X.xe s₃) X.xe s₂) X.xe s:=by refine S1 (q d s σ H _ I h) λw s1 ⟨y,G,J,K,L⟩=>?_;refine S1 (t d s1 σ G v y u w _ J r K L) λz Y ⟨Z,O,Q,R,S⟩=>?_;exact lW Q p hi g R (λs3 T=>⟨_,O,T,S⟩) B
 rcases l with ⟨hk,U⟩ | ⟨hk,c,W,f⟩
 ·exact wpAny_loadName_local I.ok.kind hk E U n
 ·rcases hk with hk | hk
  ·exact wpAny_loadName_cell I.ok.kind hk W f n
  ·rcases g with k | k
   ·have:X.env.scope.names.lookup x=some .free:=hk;rw [k] at this;cases this
   ·have:X.env.scope.names.lookup x=some .free:=hk;rw [k] at this;cases this
noncomputable def Jt (to ti te:TE) (d:V->V->Hp->VK->Prop) (c:TIp) (Z3:Cc):TS:=λD σ H=>to σ H λo f=>ti σ f λi g=>d o i g λx j=>te σ j λy k=>c x y k λz l=>Z3 o i z l λm=>D.nx σ m
noncomputable def IE (X:Cx) (t:V->V->Hp->VK->Prop):Prop :=
 ∀ (c:List (Addr × Obj)) (s:Shared) (σ:St) (H:Hp) (o i:V) (d f:Value) (Q:VK),Inv X c σ H s->RelV o d->RelV i f->t o i H Q ->
  wpAny (model X.prog X.w) X.A (getItem d f) (EP X c σ Q) X.xe s
theorem Ax {i:Expr} {m:V->V->Hp->VK->Prop} {j:TIp} {Z3:Cc} {k:Pos} (t:PE X o to) (hi:PE X i ti) (y:IE X m) (z:PE X e te) (B:PIp X op j) (C:GI X Z3)
  (E:∀ f g d,augStore i f g d=(do holding [d,f,g] (setItem f g d);release [d,f,g] [];pure .next):=by intros;rfl):PS X (.AugAssign (.Subscript o i k) op e pos) (Jt to ti te m j Z3):=by
 intro c s σ H D I h;refine wpAny_AugAssign_SubscriptAny (S1 (t c s σ H _ I h) λf s1 ⟨n,F,G,p,J⟩=>?_) E;refine S1 (hi c s1 σ F _ G J) λg K ⟨q,L,N,r,O⟩=>?_;refine S1 (y c K σ L n q f g _ N p r O) λl Q ⟨R,S,T,U,W⟩=>?_;refine S1 (z c Q σ S _ T W) λv Y ⟨Z,H4,I4,r4,q4⟩=>?_;refine S1 (B c Y σ H4 R Z l v _ I4 U r4 q4) λd s5 ⟨x5,H5,I5,r5,q5⟩=>?_;exact S1 (C c s5 σ H5 n q x5 f g d _ I5 p r r5 q5) λ_ s6 ⟨H6,I6,q6⟩=>⟨σ,H6,I6,q6⟩
noncomputable def ipI (f:Int->Int->Int):TIp:=λx y H Q=>∃ i j,x=.int i/\y=.int j/\Q (.int (f i j)) H
theorem uN:PIp X .Add (ipI λi j=>i+j):=by intro c s σ H x y v u Q I d f h;obtain ⟨i,j,g,k,q⟩:=h;subst g;subst k;obtain ⟨t,rfl⟩:=d;obtain ⟨t',rfl⟩:=f;exact iadd_int ⟨.int _,H,I.tok _,⟨_,rfl⟩,q⟩
theorem Hs:PIp X .Sub (ipI λi j=>i - j):=by intro c s σ H x y v u Q I d f h;obtain ⟨i,j,g,k,q⟩:=h;subst g;subst k;obtain ⟨t,rfl⟩:=d;obtain ⟨t',rfl⟩:=f;exact isub_int ⟨.int _,H,I.tok _,⟨_,rfl⟩,q⟩
noncomputable def Eg (c:TT) (j:TS):TS:=λD σ H=>∃ W:Nat->St->Hp->Prop,(∃ m,W m σ H)/\∀ m σ H,W m σ H ->
 c σ H λb d=>if b=true then ∃ N:St->Hp->Prop,(∀ σ' f,N σ' f->∃ g,g < m/\W g σ' f)/\j { D with nx:=N,ct:=N,bk:=D.nx } σ d else D.nx σ d
theorem rh {c:Expr} {body:List Stmt} {y:TT} {z:TS} (B:PassesOwn (model X.prog X.w) X.A X.env X.xe) (K:PT X c y) (L:YJ X body z):PS X (.While c body [] pos) (Eg y z):=by
 intro d s σ H D I h;obtain ⟨W,⟨O,Q⟩,g⟩:=h;refine wpAny_While (codeAny_whileLoop (λn s'=>∃ σ' C,Inv X d σ' C s'/\W n σ' C) ?_ O ⟨σ,H,I,Q⟩);rintro n s1 ⟨σ1,E,R,S⟩;refine Rf B (S1 (K d s1 σ1 E _ R (g n σ1 E S)) λb T ⟨F,G,k⟩=>?_)
 cases b with
 | true =>
  obtain ⟨N,J,k⟩:=k;rw [Pk rfl];refine Rf B (S1 (L d T σ1 F _ G k) λf U l=>?_)
  cases f with
  | next =>obtain ⟨σ3,j,m,p⟩:=l;obtain ⟨q,r,t⟩:=J σ3 j p;exact ⟨q,r,σ3,j,m,t⟩
  | cont =>obtain ⟨σ3,j,m,p⟩:=l;obtain ⟨q,r,t⟩:=J σ3 j p;exact ⟨q,r,σ3,j,m,t⟩
  | brk=>exact l
  | ret v=>exact l
 | false =>rw [M1 Pp];exact R8 ⟨σ1,F,G,k⟩
end
structure It where
 go:Nat->Hp->Prop
 Yg:Nat->Hp->V->Hp->Prop
 stop:Nat->Hp->Prop
noncomputable def rY (X:Cx) (d:List (Addr × Obj)) (H:Hp) (b:Addr):Prop :=
 H b=none/\b≠X.env.locals/\b ∉ X.fs/\(b ∈ X.ex\/X.s₀.heap.objs.size<=b)/\(∀ x c,X.env.cells.lookup x=some c->c≠b)/\∀ p ∈ X.pn++d,p.1≠b
variable {σ:St}
theorem Inv.X4 {d:List (Addr × Obj)} {g:Hp} (I:Inv X d σ H s) (f:s.heap.objs.size<=b) (i:g b=none):rY X d g b:=by
 refine ⟨i,QS (PY I.lt f),I.nofs f,.inr (Qf I.sz f),λx c e z=>?_,λp j z=>?_⟩
 ·obtain ⟨v,q⟩:=I.cell x c e;exact absurd (PY q.lt (by rw [z];exact f)) (QT _)
 ·exact absurd (PY (PL (I.pin p j).1) (by rw [z];exact f)) (QT _)
structure pq (P:Program) (w:World) (K:W.Frag) (tg:Expr) (J:It) (fp:List Addr) (it:Addr) (tn:Nat->Heap->Prop):Prop where
 mem:it ∈ fp
 obj:∀ i h,tn i h->∀ b ∈ fp,∃ o,h.get? b=some o/\∀ v,o.data≠.cell v
 keep:∀ i h h',tn i h->(∀ b ∈ fp,∀ o,h.get? b=some o->h'.get? b=some o)->tn i h'
 item:∀ (X:Cx),X.prog=P->X.w=w->X.K=K->X.calm=true->∀ (i:Nat) (pins:List (Addr × Obj)) (s:Shared) (σ:St) (H:Hp) (E:Value->Shared->Prop),Inv X pins σ H s->(∀ b ∈ fp,rY X pins H b)->tn i s.heap->J.go i H ->
  wpAny (model P w) X.A (pyNext (.ref it)) (λr s1=>∃ u,r=some u /\
   wpAny (model P w) X.A (letOwnedTupleGo tg (.ref it) u) (λ_ s2=>∃ x H',Inv X pins σ H' s2/\RelV x u/\J.Yg i H x H'/\tn (i+1) s2.heap/\∀ b ∈ fp,H' b=none) E s1) E s
 done:∀ (X:Cx),X.prog=P->X.w=w->X.K=K->X.calm=true->∀ (i:Nat) (pins:List (Addr × Obj)) (s:Shared) (σ:St) (H:Hp) (E:Value->Shared->Prop),Inv X pins σ H s->(∀ b ∈ fp,rY X pins H b)->tn i s.heap->J.stop i H ->
  wpAny (model P w) X.A (pyNext (.ref it)) (λr s1=>r=none/\Inv X pins σ H s1) E s
 self:∀ (A:Around) (i:Nat) (s:Shared) (Q:Value->Shared->Prop) (E:Value->Shared->Prop),tn i s.heap->Q (.ref it) s->wpAny (model P w) A (pyIter (.ref it)) Q E s
noncomputable abbrev TI:=St->Hp->(It->Hp->Prop)->Prop
noncomputable def PIE (X:Cx) (c:List (Addr × Obj)) (σ:St) (k:Expr) (R:It->Hp->Prop) (d:Value) (f:Shared):Prop :=
 ∃ (g:Addr) (i:List Addr) (j:Nat->Heap->Prop) (J:It) (e:Hp),d=.ref g/\Inv X c σ e f/\pq X.prog X.w X.K k J i g j/\j 0 f.heap/\(∀ b ∈ i,rY X c e b)/\R J e
noncomputable def PI (X:Cx) (d iter:Expr) (e:TI):Prop :=
 ∀ (c:List (Addr × Obj)) (s:Shared) (σ:St) (H:Hp) (R:It->Hp->Prop),Inv X c σ H s->e σ H R ->
  wpAny (model X.prog X.w) X.A (eval iter X.env) (λv s1=>wpAny (model X.prog X.w) X.A (pyIter v) (PIE X c σ d R) X.xe s1) X.xe s
variable {tg:Expr}
theorem tq {E:Value->Shared->Prop} {d:Addr} {n:String} {vs:Array Value} {Q:Unit->Shared->Prop} (e:s.heap.get? d=some o) (f:o.cls=.type n) (g:o.data=.fields vs)
  (i:["enumerate","zip","dict_itemiterator","dict_reverseitemiterator","odict_iterator","itertools.zip_longest","itertools.pairwise"].contains n=false) (c:Q () s):wpAny M A (letOwnedTupleGo tg (.ref d) u) Q E s:=by
 unfold letOwnedTupleGo
 cases tg <;> first
  | exact PF c
  | (cases u <;> first
    | exact PF c
    | (refine Pj (wpAny_load e ?_)
       rw [f,g];show wpAny M A (if (["enumerate","zip","dict_itemiterator","dict_reverseitemiterator","odict_iterator","itertools.zip_longest","itertools.pairwise"].contains n && vs[0]? == some (rawInt _))=true then _ else _) Q E s;rw [M1 (by intro h;rw [i,Rn] at h;cases h)];exact PF c))
noncomputable def Z4 (K:W.Frag) (a:Addr):It :=
 ⟨λi H=>∃ xs x,SR K H a xs/\xs[i]?=some x,λi H x c=>c=H/\∀ xs,SR K H a xs->xs[i]?=some x,λi H=>∃ xs,SR K H a xs/\xs.length<=i⟩
noncomputable def Itt (K:W.Frag) (a:Addr):It :=
 ⟨λi H=>∃ xs x,Ti K H a xs/\xs[i]?=some x,λi H x c=>c=H/\∀ xs,Ti K H a xs->xs[i]?=some x,λi H=>∃ xs,Ti K H a xs/\xs.length<=i⟩
noncomputable def Itr (lo:Int) (n:Nat):It:=⟨λi _=>i < n,λi H x c=>c=H/\x=.int (lo+i),λi _=>n<=i⟩
variable {K:W.Frag}
theorem BS (a g:Addr):pq P w K tg (Z4 K a) [g] g (λi h=>h.IsListIter g a i) where
 mem:=by simp
 obj:=λi h st b j=>by
  have e:b=g:=by simpa using j
  subst e;obtain ⟨o,e,c,d⟩:=st;exact ⟨o,e,λv z=>by rw [d] at z;cases z⟩
 keep:=λi h h' st k=>st.at λo e=>k g (by simp) o e
 item:=by intro X q r t N i f s σ H E I m st y;subst q r t;obtain ⟨xs,x,n,B⟩:=y;obtain ⟨its,C,p,O⟩:=I.list n;obtain ⟨u,Q,R⟩:=C.get B;obtain ⟨D,F,S,G,J,L⟩:=m g (by simp);refine wpAny_pyNext_list_item st p.isList (x:=u) (by simpa using Q) λh' l T=>?_;have U:Inv X f σ H { s with heap:=h' }:=I.turned (t':=s.toks) (λb o j e=>(T.2 b j).trans e) D F G J L;obtain ⟨o,e,c,d⟩:=id l;exact ⟨u,rfl,tq (s:={ s with heap:=h' }) e c d (by decide) ⟨x,H,U,R,⟨rfl,λys Y=>by rw [I.Zs Y n];exact B⟩,l,λb j=>(m b j).1⟩⟩
 done:=by intro X q r t N i f s σ H E I m st y;subst q r t;obtain ⟨xs,n,B⟩:=y;obtain ⟨its,C,p,O⟩:=I.list n;obtain ⟨D,F,S,G,J,L⟩:=m g (by simp);have hl:=C.length;exact wpAny_pyNext_list_end (I.ok.hd N) st p.isList (by simp;lia) λh' Z=>⟨rfl,I.turned (t':=s.toks) (λb o j e=>Z b o j e) D F G J L⟩
 self:=λ_ _ _ _ _ st h=>wpAny_pyIter_listiter st h
theorem zG (a g:Addr):pq P w K tg (Itt K a) [g] g (λi h=>h.IsTupleIter g a i) where
 mem:=by simp
 obj:=λi h st b j=>by
  have e:b=g:=by simpa using j
  subst e;obtain ⟨o,e,c,d⟩:=st;exact ⟨o,e,λv z=>by rw [d] at z;cases z⟩
 keep:=λi h h' st k=>st.at λo e=>k g (by simp) o e
 item:=by intro X q r t N i f s σ H E I m st y;subst q r t;obtain ⟨xs,x,n,B⟩:=y;obtain ⟨its,C,p,O⟩:=I.tuple n;obtain ⟨u,Q,R⟩:=C.get B;obtain ⟨D,F,S,G,J,L⟩:=m g (by simp);refine wpAny_pyNext_tuple_item st (show s.heap.IsTuple a its.toArray from p) (x:=u) (by simpa using Q) λh' l T=>?_;have U:Inv X f σ H { s with heap:=h' }:=I.turned (t':=s.toks) (λb o j e=>(T.2 b j).trans e) D F G J L;obtain ⟨o,e,c,d⟩:=id l;exact ⟨u,rfl,tq (s:={ s with heap:=h' }) e c d (by decide) ⟨x,H,U,R,⟨rfl,λys Y=>by rw [I.Ye Y n];exact B⟩,l,λb j=>(m b j).1⟩⟩
 done:=by intro X q r t N i f s σ H E I m st y;subst q r t;obtain ⟨xs,n,B⟩:=y;obtain ⟨its,C,p,O⟩:=I.tuple n;obtain ⟨D,F,S,G,J,L⟩:=m g (by simp);have hl:=C.length;exact wpAny_pyNext_tuple_end (I.ok.hd N) st (show s.heap.IsTuple a its.toArray from p) (by simp;lia) λh' Z=>⟨rfl,I.turned (t':=s.toks) (λb o j e=>Z b o j e) D F G J L⟩
 self:=λ_ _ _ _ _ st h=>wpAny_pyIter_tupleiter st h
theorem zF {K:PySem.W.Frag} (c:Addr) (lo:Int) (n:Nat):pq P w K tg (Itr lo n) [c] c (λi h=>IsRangeIter h c (lo+(i:Nat) * 1) ((n:Int) - (i:Nat)) 1) where
 mem:=by simp
 obj:=λi h st b f=>by
  have e:b=c:=by simpa using f
  subst e
  exact ⟨_,st,λv z=>by
   have F:Data.fields _=Data.cell v:=z;cases F⟩
 keep:=λi h h' st k=>k c (by simp) _ st
 item:=by intro X l m p q i d s σ H E I j st r;subst l m p;obtain ⟨x,y,G,B,C,D⟩:=j c (by simp);have W:=Walks.range (prog:=X.prog) (w:=X.w) (I.ok.hd q) c lo 1 n;refine W.item i s _ _ r st λv h' tk J g L=>?_;obtain ⟨t,rfl⟩:=J;have N:Inv X d σ H { s with heap:=h',toks:=tk }:=I.turned (λb o f e=>L b o (by simpa using f) e) x y B C D;refine ⟨_,rfl,tq (s:={ s with heap:=h',toks:=tk }) (n:="range_iterator") g rfl rfl (by decide) ⟨.int (lo+i),H,N,⟨t,?_⟩,⟨rfl,rfl⟩,g,λb f=>(j b f).1⟩⟩;rw [Int.mul_one]
 done:=by intro X l m p q i d s σ H E I j st r;subst l m p;obtain ⟨x,y,G,B,C,D⟩:=j c (by simp);exact wpAny_pyNext_range_end (I.ok.hd q) st (by have:n<=i:=r;lia) λh' O=>⟨rfl,I.turned (t':=s.toks) (λb o f e=>O b o f e) x y B C D⟩
 self:=λ_ _ _ _ _ st h=>wpAny_pyIter_rangeiter st h
section
variable {X:Cx} {tg:Expr}
noncomputable def tu (K:W.Frag) (d:TE):TI:=λσ H R=>d σ H λx c=>∃ a,x=.ref a/\(∃ xs,SR K c a xs)/\R (Z4 K a) c
noncomputable def E4 (K:W.Frag) (d:TE):TI:=λσ H R=>d σ H λx c=>∃ a,x=.ref a/\(∃ xs,Ti K c a xs)/\R (Itt K a) c
variable {l:Expr} {tl:TE}
theorem gJ (f:PE X l tl):PI X tg l (tu X.K tl):=by
 intro c s σ H R I h;refine S1 (f c s σ H _ I h) λv s1 ⟨x,g,d,i,j⟩=>?_;obtain ⟨a,e,⟨xs,k⟩,q⟩:=j;subst e;cases i;obtain ⟨its,n,p,r⟩:=d.list k;refine Rl p.isList ?_;refine ⟨s1.heap.objs.size,[s1.heap.objs.size],_,_,g,rfl,d.kept (t':=s1.toks) λb o e=>Ph _ e,BS a _,⟨_,P6 _ rfl,rfl,rfl⟩,λb m=>?_,q⟩;have e:b=s1.heap.objs.size:=by simpa using m
 subst e;exact d.X4 (Pu _) (d.hok.fresh (Pu _))
theorem kE (f:PE X l tl):PI X tg l (E4 X.K tl):=by
 intro c s σ H R I h;refine S1 (f c s σ H _ I h) λv s1 ⟨x,g,d,i,j⟩=>?_;obtain ⟨a,e,⟨xs,k⟩,q⟩:=j;subst e;cases i;obtain ⟨its,n,p,r⟩:=d.tuple k;refine So (show s1.heap.IsTuple a its.toArray from p) ?_;refine ⟨s1.heap.objs.size,[s1.heap.objs.size],_,_,g,rfl,d.kept (t':=s1.toks) λb o e=>Ph _ e,zG a _,⟨_,P6 _ rfl,rfl,rfl⟩,λb m=>?_,q⟩;have e:b=s1.heap.objs.size:=by simpa using m
 subst e;exact d.X4 (Pu _) (d.hok.fresh (Pu _))
variable {pins:List (Addr × Obj)} {σ:St} {H:Hp} {s:Shared}
theorem DN {R:It->Hp->Prop} {E:Value->Shared->Prop} {lo hi:Int} {t u v:Tok} {tk:Nat} (I:Inv X pins σ H s) (d:-(2 ^ 62)<=lo) (f:lo < 2 ^ 62) (g:-(2 ^ 62)<=hi) (i:hi < 2 ^ 62)
  (q:R (Itr lo (hi - lo).toNat) H):wpAny (model X.prog X.w) X.A (pyIter (.ref s.heap.objs.size)) (PIE X pins σ tg R) E { s with heap:=s.heap.push { cls:=.type "range",data:=.fields #[.int lo t,.int hi u,.int 1 v] },toks:=tk }:=by
 refine wpAny_pyIter_range (IsRange.new ..) (small_one d f g i) ?_;have c:Inv X pins σ H { s with heap:=s.heap.push { cls:=.type "range",data:=.fields #[.int lo t,.int hi u,.int 1 v] },toks:=tk }:=I.kept λb o e=>Ph _ e
 refine ⟨(s.heap.push { cls:=.type "range",data:=.fields #[.int lo t,.int hi u,.int 1 v] }).objs.size,[(s.heap.push { cls:=.type "range",data:=.fields #[.int lo t,.int hi u,.int 1 v] }).objs.size],_,_,H,rfl,
  c.kept (t':=tk) λb o e=>Ph _ e,zF _ lo (hi - lo).toNat,?_,λb j=>?_,q⟩
 ·have k:lo+((0:Nat):Int) * 1=lo:=by simp
  have m:(((hi - lo).toNat:Nat):Int) - ((0:Nat):Int)=Builtin.Range.rangeSize lo hi 1:=by rw [rangeSize_one];split <;> lia
  show IsRangeIter _ _ (lo+((0:Nat):Int) * 1) ((((hi - lo).toNat:Nat):Int) - ((0:Nat):Int)) 1;rw [k,m];exact P6 _ rfl
 ·have e:b=(s.heap.push { cls:=.type "range",data:=.fields #[.int lo t,.int hi u,.int 1 v] }).objs.size:=by simpa using j
  subst e;exact c.X4 (Pu _) (c.hok.fresh (Pu _))
noncomputable def Gk (c:TA):TI:=λσ H R=>c σ H λvs d=>∃ j:Int,vs=[.int j]/\-(2 ^ 62)<=j/\j < 2 ^ 62/\R (Itr 0 j.toNat) d
variable {pos:Pos}
theorem ko {a:Expr} {d:TA} {p:Pos} (f:Gl X "range") (g:X.mg "range"=none) (i:PA X [a] d) (k:starEach [a] X.env=[(false,eval a X.env)]:=by rfl):PI X tg (.Call (.Name "range" p) [a] [] pos) (Gk d):=by
 intro pins s σ H R I h;refine Call_ (lj I f g boot_range (QF (S1 (i pos pins s σ H _ I h) λus s1 ⟨vs,y,m,n,c⟩=>?_) k rfl));obtain ⟨j,e,c,v,q⟩:=c;subst e
 cases n with
 | cons r x =>cases x;obtain ⟨t,rfl⟩:=r;exact call_range_1 (DN m (by lia) (by lia) c v (by simpa using q))
noncomputable def Jv (e:TI) (g:TG) (f:TS):TS:=λD σ H=>e σ H λJ j=>∃ W:Nat->Nat->St->Hp->Prop,(∃ m,W 0 m σ j)/\∀ i m σ H,W i m σ H ->
 (J.stop i H/\D.nx σ H)\/(J.go i H/\∃ N:St->Hp->Prop,(∀ σ' c,N σ' c->∃ d,d < m/\W (i+1) d σ' c)/\∀ x c,J.Yg i H x c->g x σ c λσ2 k=>f { D with nx:=N,ct:=N,bk:=D.nx } σ2 k)
noncomputable def rd (c:List Addr) (h:Heap):List (Addr × Obj):=c.filterMap λb=>(h.get? b).map λo=>(b,o)
variable {fp:List Addr} {h:Heap}
theorem kD {b:Addr} {o:Obj} (c:b ∈ fp) (e:h.get? b=some o):(b,o) ∈ rd fp h:=Q8.mpr ⟨b,c,by rw [e];rfl⟩
theorem Br {p:Addr × Obj} (c:p ∈ rd fp h):p.1 ∈ fp/\h.get? p.1=some p.2:=by
 obtain ⟨b,d,e⟩:=Q8.mp c
 cases q:h.get? b with
 | none=>rw [q] at e;cases e
 | some o =>rw [q] at e;have f:(b,o)=p:=Qg e;subst f;exact ⟨d,q⟩
theorem Inv.pinned (I:Inv X pins σ H s) (g:∀ b ∈ fp,rY X pins H b) (i:∀ b ∈ fp,∃ o,s.heap.get? b=some o/\∀ v,o.data≠.cell v):Inv X (pins++rd fp s.heap) σ H s :=
 I.YW λp j=>(Qc.mp j).elim (λz=>I.pin p (Qt _ z)) λz=>by obtain ⟨c,e⟩:=Br z;obtain ⟨k,m,n,_⟩:=g p.1 c;obtain ⟨o,f,d⟩:=i p.1 c;rw [e] at f;cases f;exact ⟨e,k,m,n,d⟩
theorem Inv.WG {pl:List (Addr × Obj)} (I:Inv X (pins++pl) σ H s):Inv X pins σ H s:=I.YW λp c=>I.pin p (Qt _ (Rm _ c))
theorem jK {iter:Expr} {body:List Stmt} {S:TI} {g:TG} {U:TS} (y:PassesOwn (model X.prog X.w) X.A X.env X.xe) (Y:X.calm=true) (hi:PI X tg iter S) (hg:PG X tg g) (c:YJ X body U)
  (hs:∀ x,foldedSetIterable iter X.env x=pure x:=by intro _;rfl):PS X (.For tg iter body [] pos) (Jv S g U):=by
 intro pins s σ H D I h;refine wpAny_For (S1 (hi pins s σ H _ I h) λv s1 h1=>S1 h1 λitv s2 h2=>?_) hs;obtain ⟨it,fp,Z,J,H2,e,I2,T,G,f2,W,⟨m0,w0⟩,z⟩:=h2;subst e;have wg:∀ {p:Hp},(∀ b ∈ fp,p b=none)->∀ b ∈ fp,rY X pins p b:=λhn b c=>⟨hn b c,(f2 b c).2⟩
 refine codeAny_forLoop_any (λn s'=>∃ i σ' p,Inv X pins σ' p s'/\Z i s'.heap/\(∀ b ∈ fp,p b=none)/\W i n σ' p) ?_ m0 ⟨0,σ,H2,I2,G,λb c=>(f2 b c).1,w0⟩;rintro n s3 ⟨i,σ3,F,I3,B,C,w3⟩;rcases z i n σ3 F w3 with ⟨stop,qn⟩ | ⟨go,N,hN,step⟩
 ·refine Rf y (S1 (T.done X rfl rfl rfl Y i pins s3 σ3 F X.xe I3 (wg C) B stop) λr s4 ⟨L,I4⟩=>?_);subst L;exact R8 ⟨σ3,F,I4,qn⟩
 ·refine Rf y (S1 (T.item X rfl rfl rfl Y i pins s3 σ3 F X.xe I3 (wg C) B go) λr s4 ⟨u,L,h4⟩=>?_);subst L;refine Rf y (S1 h4 λ_ s5 ⟨x,H5,I5,r5,y5,t,O⟩=>?_);have Q:=I5.pinned (wg O) (T.obj _ _ t);refine Rf y (S1 (hg _ s5 σ3 H5 x u _ Q r5 (step x H5 y5)) λ_ s6 ⟨σ6,H6,I6,q6⟩=>?_);refine Rf y (S1 (c _ s6 σ6 H6 _ I6 q6) λf R q=>?_)
  have again:∀ {σ7:St} {j:Hp},Inv X (pins++rd fp s5.heap) σ7 j R->N σ7 j->∃ m,m < n/\∃ i σ' p,Inv X pins σ' p R/\Z i R.heap/\(∀ b ∈ fp,p b=none)/\W i m σ' p:=λ{σ7 j} k E=>by obtain ⟨m',hm,w7⟩:=hN σ7 j E;refine ⟨m',hm,i+1,σ7,j,k.WG,T.keep _ _ _ t λb c o e=>(k.pin (b,o) (Qt _ (Qt _ (kD c e)))).1,λb c=>?_,w7⟩;obtain ⟨o,e,d⟩:=T.obj _ _ t b c;exact (k.pin (b,o) (Qt _ (Qt _ (kD c e)))).2.1
  cases f with
  | next=>obtain ⟨σ7,j,k,E⟩:=q;exact again k E
  | cont=>obtain ⟨σ7,j,k,E⟩:=q;exact again k E
  | brk=>obtain ⟨σ7,j,k,q⟩:=q;exact ⟨σ7,j,k.WG,q⟩
  | ret v=>obtain ⟨x7,σ7,j,k,r7,q⟩:=q;exact ⟨x7,σ7,j,k.WG,r7,q⟩
end
variable {g:TG} {tb:TS}
theorem qA {K:PySem.W.Frag} {D:kx} (Pv:Nat->St->Hp->Prop) (k:Pv 0 σ H) (l:∀ i σ H,i<=xs.length->Pv i σ H->SR K H a xs)
  (n:∀ i x σ H,xs[i]?=some x->Pv i σ H->g x σ H λσ2 f=>tb { D with nx:=Pv (i+1),ct:=Pv (i+1),bk:=D.nx } σ2 f) (r:∀ σ H,Pv xs.length σ H->D.nx σ H) :
  ∃ W:Nat->Nat->St->Hp->Prop,(∃ m,W 0 m σ H)/\∀ i m σ H,W i m σ H ->
   ((Z4 K a).stop i H/\D.nx σ H)\/((Z4 K a).go i H/\∃ N:St->Hp->Prop,(∀ σ' c,N σ' c->∃ j,j < m/\W (i+1) j σ' c)/\∀ x c,(Z4 K a).Yg i H x c->g x σ c λσ2 f=>tb { D with nx:=N,ct:=N,bk:=D.nx } σ2 f):=by
 refine ⟨λi m σ H=>m=xs.length - i/\i<=xs.length/\Pv i σ H,⟨xs.length,by simp,QA _,k⟩,?_⟩;rintro i m σ H ⟨rfl,hi,p⟩;have q:=l i σ H hi p;by_cases d:i < xs.length
 ·refine .inr ⟨⟨xs,xs[i],q,by simp [d]⟩,Pv (i+1),λσ' c t=>⟨xs.length - (i+1),by lia,rfl,d,t⟩,λx c y=>?_⟩;obtain ⟨e,y⟩:=y;subst e;exact n i x σ _ (y xs q) p
 ·have e:i=xs.length:=by lia
  subst e;exact .inl ⟨⟨xs,q,Pu _⟩,r σ H p⟩
theorem Ab {K:PySem.W.Frag} {D:kx} (Pv:Nat->St->Hp->Prop) (k:Pv 0 σ H) (l:∀ i σ H,i<=xs.length->Pv i σ H->Ti K H a xs)
  (n:∀ i x σ H,xs[i]?=some x->Pv i σ H->g x σ H λσ2 f=>tb { D with nx:=Pv (i+1),ct:=Pv (i+1),bk:=D.nx } σ2 f) (r:∀ σ H,Pv xs.length σ H->D.nx σ H) :
  ∃ W:Nat->Nat->St->Hp->Prop,(∃ m,W 0 m σ H)/\∀ i m σ H,W i m σ H ->
   ((Itt K a).stop i H/\D.nx σ H)\/((Itt K a).go i H/\∃ N:St->Hp->Prop,(∀ σ' c,N σ' c->∃ j,j < m/\W (i+1) j σ' c)/\∀ x c,(Itt K a).Yg i H x c->g x σ c λσ2 f=>tb { D with nx:=N,ct:=N,bk:=D.nx } σ2 f):=by
 refine ⟨λi m σ H=>m=xs.length - i/\i<=xs.length/\Pv i σ H,⟨xs.length,by simp,QA _,k⟩,?_⟩;rintro i m σ H ⟨rfl,hi,p⟩;have q:=l i σ H hi p;by_cases d:i < xs.length
 ·refine .inr ⟨⟨xs,xs[i],q,by simp [d]⟩,Pv (i+1),λσ' c t=>⟨xs.length - (i+1),by lia,rfl,d,t⟩,λx c y=>?_⟩;obtain ⟨e,y⟩:=y;subst e;exact n i x σ _ (y xs q) p
 ·have e:i=xs.length:=by lia
  subst e;exact .inl ⟨⟨xs,q,Pu _⟩,r σ H p⟩
variable {n:Nat}
theorem nY {lo:Int} {D:kx} (Pv:Nat->St->Hp->Prop) (k:Pv 0 σ H)
  (l:∀ i σ H,i < n->Pv i σ H->g (.int (lo+i)) σ H λσ2 f=>tb { D with nx:=Pv (i+1),ct:=Pv (i+1),bk:=D.nx } σ2 f) (q:∀ σ H,Pv n σ H->D.nx σ H) :
  ∃ W:Nat->Nat->St->Hp->Prop,(∃ m,W 0 m σ H)/\∀ i m σ H,W i m σ H ->
   ((Itr lo n).stop i H/\D.nx σ H)\/((Itr lo n).go i H/\∃ N:St->Hp->Prop,(∀ σ' c,N σ' c->∃ j,j < m/\W (i+1) j σ' c)/\∀ x c,(Itr lo n).Yg i H x c->g x σ c λσ2 f=>tb { D with nx:=N,ct:=N,bk:=D.nx } σ2 f):=by
 refine ⟨λi m σ H=>m=n - i/\i<=n/\Pv i σ H,⟨n,by simp,QA _,k⟩,?_⟩;rintro i m σ H ⟨rfl,hi,p⟩;by_cases d:i < n
 ·refine .inr ⟨d,Pv (i+1),λσ' c r=>⟨n - (i+1),by lia,rfl,d,r⟩,λx c y=>?_⟩;obtain ⟨e,y⟩:=y;subst e y;exact l i σ _ d p
 ·have e:i=n:=by lia
  subst e;exact .inl ⟨Pu _,q σ H p⟩
theorem rX {c:TT} {D:kx} (Pv:St->Hp->Prop) (μ:St->Hp->Nat) (i:Pv σ H)
  (j:∀ σ H,Pv σ H->c σ H λb d=>if b=true then tb { D with nx:=λσ' e=>Pv σ' e/\μ σ' e < μ σ H,ct:=λσ' e=>Pv σ' e/\μ σ' e < μ σ H,bk:=D.nx } σ d else D.nx σ d)
  (mono:∀ σ H Q f,(∀ b d,Q b d->f b d)->c σ H Q->c σ H f):Eg c tb D σ H:=by
 refine ⟨λm σ H=>m=μ σ H/\Pv σ H,⟨_,rfl,i⟩,?_⟩;rintro m σ H ⟨rfl,p⟩;refine mono σ H _ _ (λb d q=>?_) (j σ H p)
 cases b with
 | true=>exact ⟨_,λσ' e ⟨k,l⟩=>⟨_,l,rfl,k⟩,q⟩
 | false=>exact q
noncomputable abbrev R2:=V->V->Hp->VK->Prop
noncomputable def VX (X:Cx) (f:Value->Value->Sem Value) (r:R2):Prop :=
 ∀ (c:List (Addr × Obj)) (s:Shared) (σ:St) (H:Hp) (x y:V) (v u:Value) (Q:VK),Inv X c σ H s->RelV x v->RelV y u->r x y H Q ->
  wpAny (model X.prog X.w) X.A (f v u) (EP X c σ Q) X.xe s
noncomputable def UnR (X:Cx) (f:Value->Sem Value) (r:V->Hp->VK->Prop):Prop :=
 ∀ (c:List (Addr × Obj)) (s:Shared) (σ:St) (H:Hp) (x:V) (v:Value) (Q:VK),Inv X c σ H s->RelV x v->r x H Q ->
  wpAny (model X.prog X.w) X.A (f v) (EP X c σ Q) X.xe s
noncomputable def jz (X:Cx) (f:Value) (r:List V->Hp->VK->Prop):Prop :=
 ∀ (c:List (Addr × Obj)) (s:Shared) (σ:St) (H:Hp) (xs:List V) (us:List Value) (Q:VK),Inv X c σ H s->Vals xs us->r xs H Q ->
  wpAny (model X.prog X.w) X.A (call f us) (EP X c σ Q) X.xe s
noncomputable def JF (X:Cx) (r:V->Hp->(Bool->Hp->Prop)->Prop):Prop :=
 ∀ (c:List (Addr × Obj)) (s:Shared) (σ:St) (H:Hp) (x:V) (v:Value) (Q:Bool->Hp->Prop),Inv X c σ H s->RelV x v->r x H Q ->
  wpAny (model X.prog X.w) X.A (truthy v) (TP X c σ Q) X.xe s
noncomputable def VG (r:R2) (c tb:TE):TE:=λσ H Q=>c σ H λx d=>tb σ d λy e=>r x y e Q
noncomputable def tUn (r:V->Hp->VK->Prop) (c:TE):TE:=λσ H Q=>c σ H λx d=>r x d Q
noncomputable def rI (C:Int->Int->Prop) (g:Int->Int->V):R2:=λx y H Q=>∃ i j,x=.int i/\y=.int j/\C i j/\Q (g i j) H
noncomputable def YX (g:Int->Int->V):R2:=λx y H Q=>∃ i j,x=.int i/\y=.int j/\Q (g i j) H
noncomputable def rU (g:Int->V):V->Hp->VK->Prop:=λx H Q=>∃ i,x=.int i/\Q (g i) H
section
variable {X:Cx} {a b c:Expr} {ta tb tc:TE} {pos:Pos}
variable {f:Value->Value->Sem Value}
theorem Ha (k:PE X a ta) (l:PE X b tb) {d:List (Addr × Obj)} {s:Shared} {σ:St} {H:Hp} {R:V->V->Hp->Prop} (I:Inv X d σ H s)
  (h:ta σ H λx j=>tb σ j λy e=>R x y e) {Q:Value->Shared->Prop}
  (m:∀ v u i x y e,Inv X d σ e i->RelV x v->RelV y u->R x y e->wpAny (model X.prog X.w) X.A (f v u) Q X.xe i) :
  wpAny (model X.prog X.w) X.A (eval a X.env) (λv s₁=>wpAny (model X.prog X.w) X.A (eval b X.env) (λu s₂=>wpAny (model X.prog X.w) X.A (f v u) Q X.xe s₂) X.xe s₁) X.xe s:=by
 refine S1 (k d s σ H _ I h) λv s1 ⟨x,j,p,q,r⟩=>?_;refine S1 (l d s1 σ j _ p r) λu i ⟨y,e,t,z,B⟩=>?_;exact m v u i x y e t q z B
theorem bL {e:Operator} {r:R2} (i:VX X (binaryOp e) r) (j:PE X a ta) (k:PE X b tb):PE X (.BinOp a e b pos) (VG r ta tb):=by intro d s σ H Q I h;exact wpAny_BinOp (Ha j k I h λv u l x y m p t z q=>i d l σ m x y v u Q p t z q)
theorem Av {e:UnaryOp} {r:V->Hp->VK->Prop} (i:UnR X (unaryOp e) r) (j:PE X a ta):PE X (.UnaryOp e a pos) (tUn r ta):=by intro d s σ H Q I h;exact UnaryOp_ (S1 (j d s σ H _ I h) λv s1 ⟨x,k,l,m,p⟩=>i d s1 σ k x v Q l m p)
variable {g:Int->Int->Int}
theorem opI {C:Int->Int->Prop}
  (rule:∀ (i j:Int) (t u:Tok) (s:Shared) (Q:Value->Shared->Prop) (E:Value->Shared->Prop),C i j->Q (.int (g i j) s.toks) { s with toks:=s.toks+1 }->wpAny (model X.prog X.w) X.A (f (.int i t) (.int j u)) Q E s) :
  VX X f (rI C λi j=>.int (g i j)):=by
 intro d s σ H x y v u Q I e k h;obtain ⟨i,j,rfl,rfl,l,q⟩:=h;obtain ⟨t,rfl⟩:=e;obtain ⟨t',rfl⟩:=k;exact rule i j t t' s _ _ l ⟨.int (g i j),H,I.tok _,⟨_,rfl⟩,q⟩
theorem Jb
  (rule:∀ (i j:Int) (t u:Tok) (s:Shared) (Q:Value->Shared->Prop) (E:Value->Shared->Prop),Q (.int (g i j) s.toks) { s with toks:=s.toks+1 }->wpAny (model X.prog X.w) X.A (f (.int i t) (.int j u)) Q E s) :
  VX X f (YX λi j=>.int (g i j)):=by
 intro d s σ H x y v u Q I e k h;obtain ⟨i,j,rfl,rfl,q⟩:=h;obtain ⟨t,rfl⟩:=e;obtain ⟨t',rfl⟩:=k;exact rule i j t t' s _ _ ⟨.int (g i j),H,I.tok _,⟨_,rfl⟩,q⟩
theorem Fk {g:Int->Int->Bool}
  (rule:∀ (i j:Int) (t u:Tok) (s:Shared) (Q:Value->Shared->Prop) (E:Value->Shared->Prop),Q (.bool (g i j)) s->wpAny (model X.prog X.w) X.A (f (.int i t) (.int j u)) Q E s) :
  VX X f (YX λi j=>.bl (g i j)):=by
 intro d s σ H x y v u Q I e k h;obtain ⟨i,j,rfl,rfl,q⟩:=h;obtain ⟨t,rfl⟩:=e;obtain ⟨t',rfl⟩:=k;exact rule i j t t' s _ _ ⟨.bl (g i j),H,I,rfl,q⟩
noncomputable def GH (i j:Int):Prop:=0 < j/\j < 1073741824
noncomputable def JD (i j:Int):Prop:=0<=j/\j<=1000000/\i.natAbs < 2 ^ 64
noncomputable def Zt (i j:Int):Prop:=(-(2 ^ 64) < i/\i < 2 ^ 64)\/(-(2 ^ 64) < j/\j < 2 ^ 64)
theorem Zt.ok {i j:Int} (h:Zt i j):IntMulOk i j:=by
 rcases h with ⟨d,e⟩ | ⟨d,e⟩
 ·exact .of_left (intBits_le_64 d e)
 ·exact .of_right (intBits_le_64 d e)
theorem cJ:VX X (binaryOp .Add) (YX λi j=>.int (i+j)):=Jb λ_ _ _ _ _ _ _ q=>add_int q
theorem oy:VX X (binaryOp .Sub) (YX λi j=>.int (i - j)):=Jb λ_ _ _ _ _ _ _ q=>sub_int q
theorem ow:VX X (binaryOp .Mult) (rI Zt λi j=>.int (i * j)):=opI λ_ _ _ _ _ _ _ d q=>mul_int q d.ok
theorem nB:VX X (binaryOp .FloorDiv) (rI GH λi j=>.int (i / j)):=opI λi j _ _ _ _ _ d q=>by have e:(0:Int) < j:=d.1;have k:j < 1073741824:=d.2;exact floordiv_int (by lia) (by rw [Int.fdiv_eq_ediv_of_nonneg i (by lia)];exact q) (.inl (PyProof.noPylong_small (by lia)))
theorem eZ:VX X (binaryOp .Mod) (rI (λ_ j=>0 < j) λi j=>.int (i % j)):=opI λi j _ _ _ _ _ d q=>by have e:(0:Int) < j:=d;exact mod_int' (by lia) (by rw [Int.fmod_eq_emod_of_nonneg i (by lia)];exact q)
theorem vC:VX X (binaryOp .Pow) (rI JD λi j=>.int (i ^ j.toNat)):=opI λ_ _ _ _ _ _ _ d q=>pow_int_small d.1 d.2.1 d.2.2 q
theorem unI {f:Value->Sem Value} {g:Int->Int}
  (rule:∀ (i:Int) (t:Tok) (s:Shared) (Q:Value->Shared->Prop) (E:Value->Shared->Prop),Q (.int (g i) s.toks) { s with toks:=s.toks+1 }->wpAny (model X.prog X.w) X.A (f (.int i t)) Q E s) :
  UnR X f (rU λi=>.int (g i)):=by
 intro d s σ H x v Q I e h;obtain ⟨i,rfl,q⟩:=h;obtain ⟨t,rfl⟩:=e;exact rule i t s _ _ ⟨.int (g i),H,I.tok _,⟨_,rfl⟩,q⟩
theorem wt:UnR X (unaryOp .USub) (rU λi=>.int (-i)):=unI λ_ _ _ _ _ q=>neg_int q
end
noncomputable def Jq:V->V->Bool
 | .SO,.SO=>true | .SO,.int _=>true | .int _,.SO=>true | .SO,.bl _=>true | .bl _,.SO=>true | .SO,.str _=>true | .str _,.SO=>true
 | .int _,.int _=>true | .bl _,.bl _=>true | .str _,.str _=>true | .YU _,.YU _=>true
 | .int _,.str _=>true | .str _,.int _=>true | .bl _,.str _=>true | .str _,.bl _=>true
 | _,_=>false
noncomputable def rEq:R2:=λx y H Q=>Jq x y=true/\Q (.bl (decide (x=y))) H
noncomputable def rNe:R2:=λx y H Q=>Jq x y=true/\Q (.bl (!decide (x=y))) H
theorem zV {i j:Int}:decide (V.int i=V.int j)=(i == j):=by rw [R9];simp
theorem Cu {i j:Bool}:decide (V.bl i=V.bl j)=(i == j):=by rw [R9];simp
theorem zW {i j:Str}:decide (V.str i=V.str j)=(i == j):=by rw [R9];simp
theorem zU {i j:Array UInt8}:decide (V.YU i=V.YU j)=(i.toList == j.toList):=by rw [R9];cases i;cases j;simp
section
variable {X:Cx} {a b c:Expr} {ta tb tc:TE} {pos:Pos}
theorem cZ {d:List (Addr × Obj)} {σ:St} {H:Hp} {s:Shared} {Q:VK} {k f:Bool} (I:Inv X d σ H s) (q:Q (.bl k) H) (e:k=f):EP X d σ Q (.bool f) s:=by subst e;exact ⟨.bl k,H,I,rfl,q⟩
theorem bV:VX X (compareOp .Eq) rEq:=by
 intro k s σ H x y v u Q I f d h;obtain ⟨e,q⟩:=h
 cases x with
 | SO =>
  cases f
  cases y with
  | SO=>cases d;exact PySem.EqNone.eq_none_none (cZ I q (by simp))
  | bl j=>cases d;exact PySem.EqNone.eq_none_bool (cZ I q (by simp))
  | int j=>obtain ⟨t',rfl⟩:=d;exact PySem.EqNone.eq_none_int (cZ I q (by simp))
  | str j=>obtain ⟨t',rfl⟩:=d;exact PySem.EqNone.eq_none_str (cZ I q (by simp))
  | _=>exact absurd (show false=true from e) Pp
 | bl i =>
  cases f
  cases y with
  | SO=>cases d;exact PySem.EqNone.eq_bool_none (cZ I q (by simp))
  | bl j=>cases d;exact eq_bool (cZ I q Cu)
  | str j=>obtain ⟨t',rfl⟩:=d;exact PySem.EqMixed.eq_bool_str (cZ I q (by simp))
  | _=>exact absurd (show false=true from e) Pp
 | int i =>
  obtain ⟨t,rfl⟩:=f
  cases y with
  | SO=>cases d;exact PySem.EqNone.eq_int_none (cZ I q (by simp))
  | int j=>obtain ⟨t',rfl⟩:=d;exact eq_int (cZ I q zV)
  | str j=>obtain ⟨t',rfl⟩:=d;exact PySem.EqMixed.eq_int_str (cZ I q (by simp))
  | _=>exact absurd (show false=true from e) Pp
 | str i =>
  obtain ⟨t,rfl⟩:=f
  cases y with
  | SO=>cases d;exact PySem.EqNone.eq_str_none (cZ I q (by simp))
  | bl j=>cases d;exact PySem.EqMixed.eq_str_bool (cZ I q (by simp))
  | int j=>obtain ⟨t',rfl⟩:=d;exact PySem.EqMixed.eq_str_int (cZ I q (by simp))
  | str j=>obtain ⟨t',rfl⟩:=d;exact eq_str (cZ I q zW)
  | _=>exact absurd (show false=true from e) Pp
 | YU i =>
  obtain ⟨t,rfl⟩:=f
  cases y with
  | YU j=>obtain ⟨t',rfl⟩:=d;exact W.eq_bytes (cZ I q zU)
  | _=>exact absurd (show false=true from e) Pp
 | _=>cases y <;> exact absurd (show false=true from e) Pp
theorem lI:VX X (compareOp .NotEq) rNe:=by
 intro k s σ H x y v u Q I f d h;obtain ⟨e,q⟩:=h
 cases x with
 | SO =>
  cases f
  cases y with
  | SO=>cases d;exact PySem.EqNone.ne_none_none (cZ I q (by simp))
  | bl j=>cases d;exact PySem.EqNone.ne_none_bool (cZ I q (by simp))
  | int j=>obtain ⟨t',rfl⟩:=d;exact PySem.EqNone.ne_none_int (cZ I q (by simp))
  | str j=>obtain ⟨t',rfl⟩:=d;exact PySem.EqNone.ne_none_str (cZ I q (by simp))
  | _=>exact absurd (show false=true from e) Pp
 | bl i =>
  cases f
  cases y with
  | SO=>cases d;exact PySem.EqNone.ne_bool_none (cZ I q (by simp))
  | bl j=>cases d;exact ne_bool (cZ I q (P1 not Cu))
  | str j=>obtain ⟨t',rfl⟩:=d;exact PySem.EqMixed.ne_bool_str (cZ I q (by simp))
  | _=>exact absurd (show false=true from e) Pp
 | int i =>
  obtain ⟨t,rfl⟩:=f
  cases y with
  | SO=>cases d;exact PySem.EqNone.ne_int_none (cZ I q (by simp))
  | int j=>obtain ⟨t',rfl⟩:=d;exact ne_int (cZ I q (P1 not zV))
  | str j=>obtain ⟨t',rfl⟩:=d;exact PySem.EqMixed.ne_int_str (cZ I q (by simp))
  | _=>exact absurd (show false=true from e) Pp
 | str i =>
  obtain ⟨t,rfl⟩:=f
  cases y with
  | SO=>cases d;exact PySem.EqNone.ne_str_none (cZ I q (by simp))
  | bl j=>cases d;exact PySem.EqMixed.ne_str_bool (cZ I q (by simp))
  | int j=>obtain ⟨t',rfl⟩:=d;exact PySem.EqMixed.ne_str_int (cZ I q (by simp))
  | str j=>obtain ⟨t',rfl⟩:=d;exact ne_str (cZ I q (P1 not zW))
  | _=>exact absurd (show false=true from e) Pp
 | YU i =>
  obtain ⟨t,rfl⟩:=f
  cases y with
  | YU j=>obtain ⟨t',rfl⟩:=d;exact W.ne_bytes (cZ I q (P1 not zU))
  | _=>exact absurd (show false=true from e) Pp
 | _=>cases y <;> exact absurd (show false=true from e) Pp
theorem km:VX X (compareOp .Lt) (YX λi j=>.bl (decide (i < j))):=Fk λ_ _ _ _ _ _ _ q=>lt_int q
theorem jV:VX X (compareOp .LtE) (YX λi j=>.bl (decide (i<=j))):=Fk λ_ _ _ _ _ _ _ q=>le_int q
theorem kl:VX X (compareOp .Gt) (YX λi j=>.bl (decide (j < i))):=Fk λ_ _ _ _ _ _ _ q=>gt_int q
theorem tH:VX X (compareOp .GtE) (YX λi j=>.bl (decide (j<=i))):=Fk λ_ _ _ _ _ _ _ q=>ge_int q
theorem vB:VX X (compareOp .Is) (λx y H Q=>y=.SO/\Q (.bl (decide (x=.SO))) H):=by
 intro d s σ H x y v u Q I e f h;obtain ⟨rfl,q⟩:=h;cases f;refine is_none_gen (cZ I q ?_)
 cases x <;> first
  | (cases e;rfl)
  | (obtain ⟨t,rfl⟩:=e;rfl)
theorem Fn:VX X (compareOp .IsNot) (λx y H Q=>y=.SO/\Q (.bl (!decide (x=.SO))) H):=by
 intro d s σ H x y v u Q I e f h;obtain ⟨rfl,q⟩:=h;cases f;refine isnot_none_gen (cZ I q ?_)
 cases x <;> first
  | (cases e;rfl)
  | (obtain ⟨t,rfl⟩:=e;rfl)
variable {op:CmpOp}
theorem aT (b:Expr) (h:op≠.In:=by decide) (d:op≠.NotIn:=by decide):behindInMarks op b=false:=by
 have e:(op == CmpOp.In)=false:=by cases op <;> first | rfl | exact absurd rfl h
 have f:(op == CmpOp.NotIn)=false:=by cases op <;> first | rfl | exact absurd rfl d
 cases b <;> simp [behindInMarks,e,f]
variable {r:R2}
theorem eU (e:VX X (compareOp op) r) (f:PE X a ta) (i:PE X b tb) (j:behindInMarks op b=false):PE X (.Compare a [op] [b] pos) (VG r ta tb):=by intro d s σ H Q I h;exact wpAny_Compare1 (Ha f i I h λv u k x y l m p t q=>e d k σ l x y v u Q m p t q) j
noncomputable def Ef (t:TE):TT:=λσ H Q=>t σ H λx d=>∃ k,x=.bl k/\Q k d
theorem aN (f:VX X (compareOp op) r) (i:PE X a ta) (j:PE X b tb) (l:behindInMarks op b=false):PT X (.Compare a [op] [b] pos) (Ef (VG r ta tb)):=by
 intro d s σ H Q I h
 refine wpAny_isTrue_Compare1 (S1 (i d s σ H _ I h) λv s1 ⟨x,m,p,q,t⟩=>S1 (j d s1 σ m _ p t) λu B ⟨y,C,D,E,F⟩ =>
  S1 (f d B σ C x y v u _ D q E F) λc O ⟨z,G,J,L,k,e,N⟩=>?_) l
 subst e;cases L;exact QD ⟨G,J,N⟩
noncomputable def wj (r e:R2) (ta tb tc:TE):TE:=λσ H Q=>ta σ H λx f=>tb σ f λy i=>r x y i λz d=>∃ k,z=.bl k /\
 (if k=true then tc σ d λj l=>e y j l Q else Q (.bl false) d)
variable {op':CmpOp} {r':R2}
theorem xI (q:VX X (compareOp op) r) (i:VX X (compareOp op') r') (t:PE X a ta) (B:PE X b tb) (C:PE X c tc)
  (D:lastMarks [op,op'] [b,c]=false:=by with_unfolding_all rfl):PE X (.Compare a [op,op'] [b,c] pos) (wj r r' ta tb tc):=by
 intro f s σ H Q I h
 refine Compare_chain (S1 (t f s σ H _ I h) λv s1 ⟨x,E,F,G,J⟩=>chain_link (S1 (B f s1 σ E _ F J) λu L ⟨y,N,O,j,R⟩ =>
  S1 (q f L σ N x y v u _ O G j R) λd S ⟨z,l,m,T,k,e,p⟩=>?_)) D
 subst e;cases T;refine QD ?_
 cases k with
 | false=>exact ite_ff ⟨.bl false,l,m,rfl,p⟩
 | true=>exact ite_tt (chain_last (S1 (C f S σ l _ m p) λU Y ⟨Z,H4,I4,r4,q4⟩=>i f Y σ H4 y Z u U Q I4 j r4 q4))
theorem nE (q:VX X (compareOp op) r) (i:VX X (compareOp op') r') (t:PE X a ta) (B:PE X b tb) (C:PE X c tc)
  (D:lastMarks [op,op'] [b,c]=false:=by with_unfolding_all rfl):PT X (.Compare a [op,op'] [b,c] pos) (Ef (wj r r' ta tb tc)):=by
 intro f s σ H Q I h
 refine isTrue_chain (S1 (t f s σ H _ I h) λv s1 ⟨x,E,F,G,J⟩=>test_link (S1 (B f s1 σ E _ F J) λu L ⟨y,N,O,j,R⟩ =>
  S1 (q f L σ N x y v u _ O G j R) λd S ⟨z,l,m,T,k,e,p⟩=>?_)) D
 subst e;cases T;refine QD ?_
 cases k with
 | false =>obtain ⟨k',U,q'⟩:=p;cases U;exact ite_ff ⟨l,m,q'⟩
 | true =>refine ite_tt (test_last (S1 (C f S σ l _ m p) λY Z ⟨z',H4,I4,r4,q4⟩=>S1 (i f Z σ H4 y z' u Y _ I4 j r4 q4) λd' s5 ⟨z2,H5,I5,r5,k2,e2,q5⟩=>?_));subst e2;cases r5;exact QD ⟨H5,I5,q5⟩
noncomputable def yn (K:W.Frag) (x:V) (H:Hp) (k:Bool):Prop :=
 match x with
 | .SO=>k=false
 | .bl b=>k=b
 | .int i=>k=(i != 0)
 | .str y=>y.length<=sizeLine/\k=((y.length:Int) != 0)
 | .YU y=>y.size<=sizeLine/\k=((y.size:Int) != 0)
 | .ref p=>(∃ xs,SR K H p xs/\k=!xs.isEmpty)\/(∃ xs,Ti K H p xs/\k=!xs.isEmpty)\/∃ d,H p=some (.dK d)/\k=!d.isEmpty
 | _=>False
theorem yE {κ:Type} {d:List (κ × V)} {vs:List (κ × Value)} (r:KV d vs):(!vs.isEmpty)=!d.isEmpty:=by cases r <;> rfl
theorem qF {xs:List V} {its:List Value} (r:Vals xs its):(!its.toArray.isEmpty)=!xs.isEmpty:=by cases r <;> simp
theorem mR:(sizeLine:Nat) < 2 ^ 63:=by rw [Rx];decide
theorem Iz:JF X (λx H Q=>∃ k,yn X.K x H k/\Q k H):=by
 intro B s σ H x v Q I l h;obtain ⟨k,e,q⟩:=h;have F:=mR;have G:sizeLine=16777216:=Rx
 cases x with
 | SO =>cases l;have d:k=false:=e;subst d;exact truthy_none ⟨H,I,q⟩
 | bl b =>cases l;have d:k=b:=e;subst d;exact QD ⟨H,I,q⟩
 | int i =>obtain ⟨t,rfl⟩:=l;have d:k=(i != 0):=e;subst d;exact PySem.P.truthy_int ⟨H,I,q⟩
 | str y =>obtain ⟨t,rfl⟩:=l;obtain ⟨D,d⟩:y.length<=sizeLine/\k=((y.length:Int) != 0):=e;subst d;exact PySem.P.truthy_str (by lia) ⟨H,I.tok _,q⟩
 | YU y =>obtain ⟨t,rfl⟩:=l;obtain ⟨D,d⟩:y.size<=sizeLine/\k=((y.size:Int) != 0):=e;subst d;exact W.truthy_bytes (by lia) ⟨H,I.tok _,q⟩
 | ref p =>
  cases l;have d:(∃ xs,SR X.K H p xs/\k=!xs.isEmpty)\/(∃ xs,Ti X.K H p xs/\k=!xs.isEmpty)\/∃ f,H p=some (.dK f)/\k=!f.isEmpty:=e;rcases d with ⟨xs,z,d⟩ | ⟨xs,z,d⟩ | ⟨f,z,d⟩
  ·subst d;obtain ⟨its,r,pl,C⟩:=I.list z;have j:=r.length;exact wpAny_truthy_list pl.isList (by simp only [PC];lia) ⟨H,I.tok _,by rw [qF r];exact q⟩
  ·subst d;obtain ⟨its,r,pl,C⟩:=I.tuple z;have j:=r.length;exact truthy_tuple pl (by simp only [PC];lia) ⟨H,I.tok _,by rw [qF r];exact q⟩
  ·subst d;obtain ⟨C,E,vs,r,m⟩:f.length<=sizeLine/\(p == sysModules)=false/\∃ vs,KV f vs/\s.heap.DictOf (fX X.prog X.w) p vs:=I.hok p _ z;have j:f.length=vs.length:=Paired.length r;exact wpAny_truthy_dict E m (by lia) ⟨H,I.tok _,by rw [yE r];exact q⟩
 | _=>exact (show False from e).elim
theorem bR (i:PE X a ta) (j:∀ d,isTrue a X.env d=(do let v <- d;standAt a.pos;holding [v] (truthy v))) :
  PT X a (λσ H Q=>ta σ H λx f=>∃ k,yn X.K x f k/\Q k f):=by
 intro e s σ H Q I h;exact isTrue_plain (S1 (i e s σ H _ I h) λv s1 ⟨x,l,m,p,q⟩=>Iz e s1 σ l x v Q m p q) (j _)
variable {x:V} {us:List Value}
theorem jd (r:Vals [x] us):∃ u,us=[u]/\RelV x u:=by
 cases r with
 | cons d e=>cases e;exact ⟨_,rfl,d⟩
theorem JB {y:V} (r:Vals [x,y] us):∃ u d,us=[u,d]/\RelV x u/\RelV y d:=by
 cases r with
 | cons e f =>
  cases f with
  | cons i j=>cases j;exact ⟨_,_,rfl,e,i⟩
end
structure YK (h:Heap) (x dx C:Addr) (mA:Str->Option Value):Prop where
 obj:h.get? x=some (W.instObj C dx)
 ns:h.Ns1 dx mA
 ne:dx≠x
variable {dx:Addr} {mA:Str->Option Value}
theorem Bi (n:h.Ns1 dx mA):∃ d,h.get? dx=some d/\∀ name,W.lookIn name d=some (mA name):=by
 obtain ⟨o,es,m,f,i,hk,_,j⟩:=n;refine ⟨o,f,λname=>?_⟩;have e:=j name;unfold nsFind findBy at e;rw [<- Array.find?_toList] at e;unfold W.lookIn;rw [i];dsimp only;split
 ·rename_i y q;rw [q] at e;exact P1 some e
 ·rename_i q;rw [q] at e
  have a:es.toList.any (·.refKey)=false:=by rw [List.any_eq_false];intro y k;obtain ⟨z,t,c⟩:=hk y (Array.mem_toList_iff.mp k);simp [DictEntry.refKey,c]
  have l:¬ es.toList.any (·.refKey)=true:=by rw [a];exact Pp
  rw [M1 l];exact P1 some e
variable {C:Addr}
theorem YK.look {x:Addr} (I:YK h x dx C mA):∃ c,W.InstAt h x (W.instObj C dx) C (some c)/\∀ name,W.lookIn name c=some (mA name) :=
 let ⟨c,d,e⟩:=Bi I.ns
 ⟨c,⟨I.obj,rfl,rfl,d⟩,e⟩
section
variable {prog:Program} {w:World} {A:Around} {E:Value->Shared->Prop} {s:Shared} {K:W.Frag} {x dx C f:Addr} {mA:Str->Option Value} {name:Str} {v:Value}
theorem EZ {c:Bool} {Q:Value->Shared->Prop} (X:K.In s.heap) (I:YK s.heap x dx C mA) (e:W.plainGet K C name=true) (i:W.hasDictIn K C=true)
  (j:W.findIn K (.ref C) name=some none) (k:mA name=some v) (d:W.handedIn v=true) (h:Q v { s with toks:=s.toks+1 }) :
  wpAny (model prog w) A (getAttr (.ref x) name c) Q E s:=by
 obtain ⟨m,J,l⟩:=I.look;exact W.get_value X J (W.plainGet_of e).1 (W.findObj_own i j rfl (by rw [l,k])) d h
theorem CH {pl:Sem Bool} {Q:Value × List Value->Shared->Prop} (X:K.In s.heap) (I:YK s.heap x dx C mA) (c:W.plainGet K C name=true)
  (d:W.findIn K (.ref C) name=some (some (.ref f))) (e:W.isFn K (.ref f)=true) (i:mA name=none) (h:Q (.ref f,[.ref x]) s) :
  wpAny (model prog w) A (getMethod (.ref x) name pl) Q E s:=by
 obtain ⟨j,J,k⟩:=I.look;exact W.method_fn X J (W.plainGet_of c).1 (W.plainGet_of c).2 d (SA.mp e) (by show (W.lookIn name j).map (·.isSome)=some false;rw [k,i];rfl) h
theorem F0 {ns:List Str} {Q:Unit->Shared->Prop} (X:K.In s.heap) (I:YK s.heap x dx C mA)
  (l:W.findIn K (.ref C) "__setattr__"=some (some (.builtin "object.__setattr__"))) (m:W.plainOver K C=true) (p:W.takerIn K C name=some none) (q:W.hasDictIn K C=true)
  (t:PySem.Within mA ns) (z:ns.length<=sizeLine)
  (h:∀ h',YK h' x dx C (λy=>if y=name then some v else mA y)->Heap.SameBut dx s.heap h'->Q () { s with heap:=h',toks:=s.toks+2 }) :
  wpAny (model prog w) A (setAttr (.ref x) name v) Q E s:=by
 obtain ⟨L,J,N⟩:=I.look;refine W.set_plain X J l (W.osa_open (s:={ s with toks:=s.toks+1 }) (r:=none) X J m p λb=>?_);obtain ⟨O,B,e⟩:=W.any_some q;have D:s.heap.get? x=some ⟨.ref C,some dx,.plain,#[]⟩:=I.obj;refine Pj (PF (Pj (Pj (wpAny_loadPart D (Pj (W.Looks.here (s:={ s with toks:=s.toks+1 }) (W.looks_clsIn X B) ?_))))));rw [e];refine PF (a:=some dx) (Pj (PF (Pj ?_)));refine wpAny_nsSet1 (s:={ s with toks:=s.toks+1 }) I.ns λh' c d=>?_;obtain ⟨oD,F,G,i,j,k⟩:=c.count (PySem.Within.cons name v t);refine Pj (wpAny_lookBehind i (by rw [j];exact pastItsLine_dict (Qf k (by rw [Pr];lia))) ?_);exact PF (h _ ⟨(d.2 _ (PN I.ne)).trans I.obj,c,I.ne⟩ d)
theorem C2 {R:Result->Shared->Prop} {vs:List Value} {c:List (Str × Value)} (X:K.In s.heap) (e:W.makesIn K C=true)
  (hi:W.findIn K (.ref C) "__init__"=some (some (.ref f))) (i:W.typeIn K (.ref f)=some (.type "function"))
  (h:codeAny (model prog w) (A.under (.builtin "type.__call__" ⟨.ref C::vs,c⟩)) (.call (.ref f) ⟨.ref (s.heap.objs.size+1)::vs,c⟩) (W.InitBack (s.heap.objs.size+1) R)
   {s with heap:=(s.heap.push W.emptyDict).push (W.instObj C s.heap.objs.size) }) :
  codeAny (model prog w) A (.call (.ref C) ⟨vs,c⟩) R s:=by
 obtain ⟨j,g,d,t,os⟩:=s;exact W.make_core (W.makes_of X e) (W.looks_findIn X hi) (λself=>W.bind_fn X self i) (.inl rfl) h
end
noncomputable def kG (f:Str) (v:V):List (Str × V)->List (Str × V)
 | []=>[(f,v)]
 | (g,x)::r=>if g=f then (g,v)::r else (g,x)::kG f v r
theorem oY (f g:Str) (v:V):∀ fs:List (Str × V),(kG f v fs).lookup g=if g=f then some v else fs.lookup g
 | []=>by
  show List.lookup g [(f,v)]=_;by_cases h:g=f
  ·have c:(g == f)=true:=SA.mpr h;simp only [List.lookup,c,Pk h]
  ·have c:(g == f)=false:=Rp.mpr h;simp only [List.lookup,c,M1 h]
 | (k,x)::r=>by
  have d:=oY f g v r;rw [show kG f v ((k,x)::r)=(if k=f then (k,v)::r else (k,x)::kG f v r) from rfl];by_cases hk:k=f
  ·rw [Pk hk];by_cases h:g=k
   ·have c:(g == k)=true:=SA.mpr h;simp only [List.lookup,c,Pk (h.trans hk)]
   ·have c:(g == k)=false:=Rp.mpr h;simp only [List.lookup,c,M1 (λe:g=f=>h (e.trans hk.symm))]
  ·rw [M1 hk];by_cases h:g=k
   ·have c:(g == k)=true:=SA.mpr h;simp only [List.lookup,c,M1 (λe:g=f=>hk (h.symm.trans e))]
   ·have c:(g == k)=false:=Rp.mpr h;simp only [List.lookup,c];exact d
theorem og (f:Str) (v:V):∀ fs:List (Str × V),f ∈ (kG f v fs).map (·.1)/\∀ g,g ∈ fs.map (·.1)->g ∈ (kG f v fs).map (·.1)
 | []=>⟨by simp [kG],λg h=>by simp at h⟩
 | (k,x)::r=>by
  obtain ⟨c,d⟩:=og f v r;rw [show kG f v ((k,x)::r)=(if k=f then (k,v)::r else (k,x)::kG f v r) from rfl];by_cases hk:k=f
  ·rw [Pk hk];subst hk;exact ⟨by simp,λg h=>by simpa using h⟩
  ·rw [M1 hk];refine ⟨?_,λg h=>?_⟩
   ·rw [PD];exact PV _ c
   ·rw [PD] at h ⊢;rcases PB.mp h with e | e
    ·exact PB.mpr (.inl e)
    ·exact PV _ (d g e)
theorem oX (f:Str) (v:V):∀ fs:List (Str × V),(kG f v fs).length<=fs.length+1
 | []=>by simp [kG]
 | (k,x)::r=>by
  have c:=oX f v r;rw [show kG f v ((k,x)::r)=(if k=f then (k,v)::r else (k,x)::kG f v r) from rfl];by_cases hk:k=f
  ·rw [Pk hk,Pr,Pr];lia
  ·rw [M1 hk,Pr,Pr];lia
theorem WD.some_of {v:V} {o:Option Value} (r:WD (some v) o):∃ u,o=some u/\RelV v u:=by
 cases o with
 | none=>exact (show False from r).elim
 | some u=>exact ⟨u,rfl,r⟩
theorem WD.none_of {o:Option Value} (r:WD none o):o=none:=by
 cases o with
 | none=>rfl
 | some u=>exact (show False from r).elim
theorem A8 {v:V} (r:RelV v u):W.handedIn u=true:=by
 cases v with
 | SO=>cases (show u=Value.none from r);rfl
 | bl b=>cases (show u=Value.bool b from r);rfl
 | int i=>obtain ⟨t,e⟩:=(show ∃ t,u=Value.int i t from r);cases e;rfl
 | str x=>obtain ⟨t,e⟩:=(show ∃ t,u=Value.str x t from r);cases e;rfl
 | YU b=>obtain ⟨t,e⟩:=(show ∃ t,u=Value.bytes b t from r);cases e;rfl
 | flt b=>obtain ⟨t,e⟩:=(show ∃ t,u=Value.float b t from r);cases e;rfl
 | ref a=>cases (show u=Value.ref a from r);rfl
 | ty n=>cases (show u=Value.type n from r);rfl
section
variable {P:Program} {w:World} {H H':Hp} {h h':Heap} {a C dx:Addr} {fs fs':List (Str × V)}
theorem uL (c:WE P w H h) (e:H a=some (.ins C dx fs)):∃ mA,YK h a dx C mA/\(∀ f,WD (fs.lookup f) (mA f))/\PySem.Within mA (fs.map (·.1))/\fs.length<=1000/\H dx=some (.own a):=by
 obtain ⟨d,z,i,j,mA,n,r,q⟩:=(show Td P w H h a (.ins C dx fs) from c a _ e)
 exact ⟨mA,⟨j,n,i⟩,r,q,z,d⟩
end
structure X5 (K:W.Frag) (C:Addr):Prop where
 pg:W.plainGet K C Str.empty=true
 hd:W.hasDictIn K C=true
 po:W.plainOver K C=true
 sa:W.findIn K (.ref C) "__setattr__"=some (some (.builtin "object.__setattr__"))
theorem X5.get (c:X5 K C) (f:Str):W.plainGet K C f=true:=c.pg
noncomputable def S4 (K:W.Frag) (C:Addr) (f:Str):Prop:=W.findIn K (.ref C) f=some none
theorem S4.taker {f:Str} (n:S4 K C f):W.takerIn K C f=some none:=by unfold W.takerIn;rw [show W.findIn K (.ref C) f=some none from n];rfl
structure uh (K:W.Frag) (C:Addr) (m:Str) (f:Addr):Prop where
 at_:W.findIn K (.ref C) m=some (some (.ref f))
 fn:W.isFn K (.ref f)=true
 kp:W.keepIn K (.ref f)=true
section
variable {X:Cx} {pins:List (Addr × Obj)} {σ:St} {H:Hp} {s:Shared} {a C dx:Addr} {fs:List (Str × V)} {f:Str} {v:V} {A:Around} {E:Value->Shared->Prop}
theorem yB {b:Bool} {Q:Value->Shared->Prop} (I:Inv X pins σ H s) (e:H a=some (.ins C dx fs)) (c:X5 X.K C) (n:S4 X.K C f) (l:fs.lookup f=some v)
  (h:∀ u s',Inv X pins σ H s'->RelV v u->Q u s'):wpAny (model X.prog X.w) A (getAttr (.ref a) f b) Q E s:=by
 obtain ⟨mA,O,r,_,_,_⟩:=uL I.hok e;obtain ⟨u,i,d⟩:=WD.some_of (v:=v) (o:=mA f) (by rw [<- l];exact r f);exact EZ I.Wc O (c.get f) c.hd n i (A8 d) (h u _ (I.tok _) d)
theorem qB {m:Str} {g:Addr} {pl:Sem Bool} {Q:Value × List Value->Shared->Prop} (I:Inv X pins σ H s) (e:H a=some (.ins C dx fs)) (c:X5 X.K C) (k:uh X.K C m g) (l:fs.lookup m=none)
  (h:Q (.ref g,[.ref a]) s):wpAny (model X.prog X.w) A (getMethod (.ref a) m pl) Q E s:=by
 obtain ⟨mA,O,r,_,_,_⟩:=uL I.hok e;have d:mA m=none:=WD.none_of (by rw [<- l];exact r m);exact CH I.Wc O (c.get m) k.at_ k.fn d h
theorem zu {y:V} {u:Value} {Q:Unit->Shared->Prop} (I:Inv X pins σ H s) (e:H a=some (.ins C dx fs)) (c:X5 X.K C) (n:S4 X.K C f) (F:fs.length < 1000) (k:RelV y u)
  (h:∀ s',Inv X pins σ (upd H a (.ins C dx (kG f y fs))) s'->Q () s'):wpAny (model X.prog X.w) A (setAttr (.ref a) f u) Q E s:=by
 obtain ⟨mA,O,r,i,_,j⟩:=uL I.hok e;have l:(fs.map (·.1)).length<=sizeLine:=by rw [Pf,Rx];lia
 refine F0 I.Wc O c.sa c.po n.taker c.hd i l λh' d m=>h _ ?_;have p:∃ o,h'.get? dx=some o:=let ⟨o,_,_,t,_⟩:=d.ns;⟨o,t⟩;refine I.write (x:=a) (e:=dx) (by rw [e];exact True.intro) (.inr j) (λb q B z=>(m.2 b B).trans z) p ?_;refine ⟨by rw [aS O.ne];exact j,?_,O.ne,d.obj,_,d.ns,λg=>?_,λg D=>?_⟩
 ·have:=oX f y fs;lia
 ·show WD ((kG f y fs).lookup g) (if g=f then some u else mA g);rw [oY];by_cases q:g=f
  ·rw [Pk q,Pk q];exact k
  ·rw [M1 q,M1 q];exact r g
 ·by_cases q:g=f
  ·rw [q];exact (og f y fs).1
  ·refine (og f y fs).2 g (i g λz=>D ?_);show (if g=f then some u else mA g)=none;rw [M1 q];exact z
theorem Inv.made (I:Inv X pins σ H s):Inv X pins σ (upd (upd H s.heap.objs.size (.own (s.heap.objs.size+1))) (s.heap.objs.size+1) (.ins C s.heap.objs.size []))
  {s with heap:=(s.heap.push W.emptyDict).push (W.instObj C s.heap.objs.size) }:=by
 have c:(s.heap.push W.emptyDict).get? s.heap.objs.size=some W.emptyDict:=P6 s.heap rfl
 have i:((s.heap.push W.emptyDict).push (W.instObj C s.heap.objs.size)).get? (s.heap.objs.size+1)=some (W.instObj C s.heap.objs.size):=by
  have:=P6 (s.heap.push W.emptyDict) (o:=W.instObj C s.heap.objs.size) rfl
  rwa [Qu] at this
 have j:(s.heap.push W.emptyDict).Ns s.heap.objs.size (λ_=>none):=⟨W.emptyDict,#[],_,c,rfl,(λe k=>absurd k (by simp)),λ_=>rfl⟩
 have l:=I.laid (a:=s.heap.objs.size) (o:=.own (s.heap.objs.size+1)) (h':=s.heap.push W.emptyDict) (t':=s.toks) (λb u q=>Ph _ q) (Pu _) ⟨_,c⟩;refine l.laid (a:=s.heap.objs.size+1) (o:=.ins C s.heap.objs.size []) (t':=s.toks) (λb u q=>Ph _ q) (Sa (Qu _ _)) ?_;have d:s.heap.objs.size≠s.heap.objs.size+1:=Qe (RK _);refine ⟨by rw [aS d,aI],QA _,d,i,λ_=>none,(Heap.Ns1.of_empty j).at λo q=>Ph _ q,λ_=>True.intro,λy m=>absurd rfl m⟩
theorem EE {prog:Program} {w:World} {env:Env} {e:Expr} {f:Str} {c:Pos} {s:Shared} {Q:Value->Shared->Prop} (d:attributeBase e f env (eval e env)=eval e env)
  (h:wpAny (model prog w) A (eval e env) (λo s₁=>wpAny (model prog w) A (getAttr o f true) Q E s₁) E s):wpAny (model prog w) A (eval (.Attribute e f c) env) Q E s :=
 Attribute_any_ h (by rw [arm_eval_Attribute,d])
end
noncomputable def pI (K:W.Frag) (d:TE) (f:Str):TE:=λσ H Q=>d σ H λx c=>∃ a C dx fs v,x=.ref a/\c a=some (.ins C dx fs)/\X5 K C/\S4 K C f/\fs.lookup f=some v/\Q v c
noncomputable def Jo (K:W.Frag) (d e:TE) (f:Str):TS:=λD σ H=>e σ H λy i=>d σ i λx c=>∃ a C dx fs,x=.ref a/\c a=some (.ins C dx fs)/\X5 K C/\S4 K C f/\fs.length < 1000 /\
 D.nx σ (upd c a (.ins C dx (kG f y fs)))
section
variable {X:Cx} {o e value:Expr} {f:Str} {pos pos' tpos:Pos} {ta tv:TE}
theorem gE (i:PE X e ta) (j:attributeBase e f X.env (eval e X.env)=eval e X.env):PE X (.Attribute e f pos) (pI X.K ta f):=by intro d s σ H Q I h;refine EE j (S1 (i d s σ H _ I h) λu s1 ⟨x,k,m,p,a,C,dx,fs,v,ex,r,c,n,l,q⟩=>?_);subst ex;obtain rfl:u=Value.ref a:=p;exact yB m r c n l λz B t y=>⟨v,k,t,y,q⟩
theorem kF (i:PE X o ta) (j:PE X value tv) (k:swapsWith value (some (.Attribute o f pos')) pos.line X.env=pure false):PS X (.Assign [.Attribute o f pos'] value pos) (Jo X.K ta tv f):=by intro d s σ H D I h;refine plainObj_wpAny_Assign_Attribute (S1 (j d s σ H _ I h) λu s1 ⟨y,m,p,r,q⟩=>S1 (i d s1 σ m _ p q) λt G ⟨x,J,v,z,a,C,dx,fs,ex,B,c,n,l,E⟩=>?_) k;subst ex;obtain rfl:t=Value.ref a:=z;exact zu v B c n l r λL F=>⟨σ,_,F,E⟩
end
section
variable {X:Cx} {pins:List (Addr × Obj)} {σ:St} {H:Hp} {s:Shared} {A:Around} {E:Value->Shared->Prop} {Q:Value->Shared->Prop} {c:Value} {b:Bool}
end
structure TH (k:Nat) (A:Around):Prop where
 hd:A.handled=none
 dp:A.depth+3 * k+5 < recursionLimit
 un:A.units+16 * k+200 < cLine
variable {j:Nat}
theorem TH.mono {k:Nat} (r:TH k A) (h:j<=k):TH j A:=⟨r.hd,by have:=r.dp;lia,by have:=r.un;lia⟩
theorem TH.deeper {k:Nat} (r:TH (k+1) A) (env:Env):TH k (A.deeper env) :=
 ⟨r.hd,by have:=r.dp;show A.depth+1+3 * k+5 < _;lia,by have:=r.un;show A.units+3+16 * k+200 < _;lia⟩
variable {kw:List (Str × Value)}
theorem yH:(A.under (.builtin "type.__call__" ⟨.ref C::us,kw⟩)).depth=A.depth+1:=by
 first | rfl | simp [Around.under,Code.weight,Code.isCreation,Code.isGuard,Code.isCaller,Code.frames,Code.isFrame,guardIds]
theorem yI:(A.under (.builtin "type.__call__" ⟨.ref C::us,kw⟩)).units=A.units+1:=by
 first | rfl | simp [Around.under,Code.cUnits,Code.frames,Code.isFrame]
theorem TH.make {k:Nat} (r:TH (k+1) A) (C:Addr) (us:List Value) (kw:List (Str × Value)):TH k (A.under (.builtin "type.__call__" ⟨.ref C::us,kw⟩)) :=
 ⟨r.hd,by have:=r.dp;rw [yH];lia,by have:=r.un;rw [yI];lia⟩
theorem TH.depth {k:Nat} (r:TH k A):A.depth < recursionLimit:=by have:=r.dp;lia
theorem TH.units {k:Nat} (r:TH k A):A.units+64 < cLine:=by have:=r.un;lia
noncomputable def dW:TA:=λ_ H Q=>Q [] H
noncomputable def bW (c:TE) (d:TA):TA:=λσ H Q=>c σ H λx e=>d σ e λxs f=>Q (x::xs) f
section
variable {X:Cx} {e:Expr} {es:List Expr} {te:TE} {t:TA} {pos:Pos}
theorem aC:PA X [] dW:=λ_ _ _ _ H Q I h=>Calls.spliced_nil ⟨[],H,I,.nil,h⟩
theorem dE (d:PE X e te) (f:PA X es t) (i:starEach (e::es) X.env=(false,eval e X.env)::starEach es X.env:=by rfl):PA X (e::es) (bW te t):=by intro pos c s σ H Q I h;rw [i];show wpAny _ _ (spliced ((false,eval e X.env)::backTo pos (starEach es X.env))) _ _ s;refine Sq (S1 (d c s σ H _ I h) λu s1 ⟨x,k,l,m,p⟩=>?_);exact S1 (f pos c s1 σ k _ l p) λus z ⟨xs,q,r,v,y⟩=>⟨x::xs,q,r,.cons m v,y⟩
noncomputable def zB (t:TA):TE:=λσ H Q=>t σ H λxs c=>xs.length<=sizeLine/\∀ p,c p=none->Q (.ref p) (upd c p (.tup xs))
noncomputable def wm (t:TA):TE:=λσ H Q=>t σ H λxs c=>xs.length<=sizeLine/\∀ p,c p=none->Q (.ref p) (upd c p (.lst xs))
theorem bA {i} (h:PA X es t):PE X (.Tuple es i pos) (zB t):=by intro c s σ H Q I k;refine wpAny_Tuple_spliced (S1 (h pos c s σ H _ I k) λus s1 ⟨xs,d,f,r,z,q⟩=>⟨by rw [<- r.length];exact z,?_⟩);have l:d s1.heap.objs.size=none:=f.hok.fresh (Pu _);refine ⟨.ref s1.heap.objs.size,upd d s1.heap.objs.size (.tup xs),f.laid (t':=s1.toks) (λb u e=>Ph _ e) (Pu _) ?_,rfl,q _ l⟩;exact ⟨z,us,r,⟨_,P6 _ rfl,rfl,_,rfl⟩⟩
theorem bY (h:PA X es t):PE X (.List es pos) (wm t):=by intro c s σ H Q I i;refine wpAny_List_spliced (S1 (h pos c s σ H _ I i) λus s1 ⟨xs,d,f,r,z,q⟩=>⟨by rw [<- r.length];exact z,?_⟩);have k:d s1.heap.objs.size=none:=f.hok.fresh (Pu _);refine ⟨.ref s1.heap.objs.size,upd d s1.heap.objs.size (.lst xs),f.laid (t':=s1.toks) (λb u e=>Ph _ e) (Pu _) ?_,rfl,q _ k⟩;exact ⟨z,us,0,r,P6 _ rfl⟩
end
noncomputable abbrev Sp:=List V->Hp->VK->XK->Prop
noncomputable abbrev Zk:=List Env->Hp->Shared->XK->Value->Shared->Prop
structure YL (P:Program) (w:World) (K:W.Frag) (mg:Str->Option Value) (base:Heap) (A:Around) (outer:List Env) (s:Shared) (H:Hp):Prop where
 frames:A.frames=some outer
 mod:Mod K mg base
 bs:∀ b o,base.get? b=some o->s.heap.get? b=some o/\H b=none
 ZZ:base.objs.size<=s.heap.objs.size
 Xr:s.heap.FunFrames base outer
 frf:∀ b ∈ frs outer,H b=none
 hok:WE P w H s.heap
 bare:AllBare s.gens
noncomputable def CE (outer:List Env) (P:Program) (w:World) (H:Hp) (s:Shared) (Q:VK) (u:Value) (s':Shared):Prop :=
 ∃ v c,s'.os=s.os/\AllBare s'.gens/\Un (frs outer) [] H c s.heap s'.heap/\WE P w c s'.heap/\RelV v u/\Q v c
noncomputable def CR (CX:Zk) (outer:List Env) (P:Program) (w:World) (H:Hp) (s:Shared) (Q:VK) (E:XK) (r:Result) (s':Shared):Prop :=
 match r with
 | .ok (.ret u)=>CE outer P w H s Q u s'
 | .ok _=>False
 | .error e=>CX outer H s E e s'
structure Te (P:Program) (w:World) (K:W.Frag) (mg:Str->Option Value) (base:Heap) (CX:Zk) (k:Nat) (f:Addr) (fd:FuncData) (ps:List Str) (sp:Sp):Prop where
 len:∀ vs H Q E,sp vs H Q E->vs.length=ps.length
 run:∀ (A:Around) (outer:List Env) (s:Shared) (H:Hp) (args:Args) (us:List Value) (vs:List V) (Q:VK) (E:XK),TH k A->YL P w K mg base A outer s H->BindsTo s fd args (ps.zip us)->Vals vs us->sp vs H Q E ->
  codeAny (model P w) A (.call (.ref f) args) (CR CX outer P w H s Q E) s
variable {mg:Str->Option Value} {base:Heap} {CX:Zk} {f:Addr} {fd:FuncData} {ps:List Str} {sp:Sp}
theorem Te.mono {k:Nat} (F:Te P w K mg base CX j f fd ps sp) (h:j<=k) :
  Te P w K mg base CX k f fd ps sp:=⟨F.len,λA outer s H args us vs Q E c=>F.run A outer s H args us vs Q E (c.mono h)⟩
variable {outer:List Env}
theorem YL.make (e:YL P w K mg base A outer s H) (C:Addr) (us:List Value) (kw:List (Str × Value)) :
  YL P w K mg base (A.under (.builtin "type.__call__" ⟨.ref C::us,kw⟩)) outer s H:=⟨by first | exact e.frames | (simpa [Around.under,Code.envs,Code.isFrame,pushEnvs] using e.frames),e.mod,e.bs,e.ZZ,e.Xr,e.frf,e.hok,e.bare⟩
section
variable {X:Cx} {pins:List (Addr × Obj)} {σ:St} {H:Hp} {s s':Shared}
theorem Inv.env0 (I:Inv X pins σ H s):YL X.prog X.w X.K X.mg X.base X.A X.stack s H :=
 ⟨I.ok.frames,I.ok.mod,I.bs,Qf I.ok.ZZ I.sz,I.stack,I.YV,I.hok,I.bare⟩
theorem Inv.after {Q:VK} {u:Value} (I:Inv X pins σ H s) (h:CE X.stack X.prog X.w H s Q u s'):EP X pins σ Q u s':=by obtain ⟨v,k,os,c,un,e,r,q⟩:=h;obtain ⟨l,g,d,t,i⟩:=s';obtain rfl:i=s.os:=os;exact ⟨v,k,I.call (h':=l) (g':=g) (d':=d) (t':=t) (ch:=[]) un e c (λb z=>absurd z (by simp)),r,q⟩
end
noncomputable def kr (sp:Sp) (c:List V) (E:XK) (t:TA):TE:=λσ H Q=>t σ H λvs d=>sp (vs++c) d Q E
noncomputable def AN (C:Addr) (m:Str) (sp:Sp) (d:List V) (E:XK) (e:TE) (t:TA):TE:=λσ H Q=>e σ H λx c=>∃ a dx fs,x=.ref a/\c a=some (.ins C dx fs)/\fs.lookup m=none /\
 t σ c λvs i=>sp (x::(vs++d)) i Q E
noncomputable def Jw (C:Addr) (sp:Sp) (d:List V) (E:XK) (t:TA):TE:=λσ H Q=>t σ H λvs c=>∀ x dx,c x=none->c dx=none->dx≠x ->
 sp (.ref x::(vs++d)) (upd (upd c dx (.own x)) x (.ins C dx [])) (λv e=>v=.SO/\Q (.ref x) e) E
noncomputable def Binds (K:W.Frag) (fd:FuncData) (ps:List Str) (ds:List Value):Prop :=
 ∀ (s:Shared) (us:List Value),K.In s.heap->(us++ds).length=ps.length->BindsTo s fd ⟨us,[]⟩ (ps.zip (us++ds))
theorem Binds.all (h:∀ us:List Value,us.length=ps.length->bindArgs fd ⟨us,[]⟩=pure (ps.zip us)):Binds K fd ps []:=λs us _ c=>by rw [PR] at c ⊢;exact .of_eq (h us c)
noncomputable def jY (CX:Zk) (X:Cx) (E:XK):Prop:=∀ (c:List (Addr × Obj)) (σ:St) (H:Hp) (s:Shared) (e:Value) (s':Shared),Inv X c σ H s->CX X.stack H s E e s'->X.xe e s'
section
variable {X:Cx} {CX:Zk} {k:Nat} {f C:Addr} {fd:FuncData} {ps:List Str} {sp:Sp} {Wo:List V} {ds:List Value} {E:XK} {x m:Str} {p pos apos:Pos} {e o:Expr} {es:List Expr} {ta:TE} {t:TA}
variable {pins:List (Addr × Obj)} {σ:St} {H:Hp} {s:Shared} {Q:VK} {us:List Value} {vs:List V}
theorem vW (F:Te X.prog X.w X.K X.mg X.base CX k f fd ps sp) (i:TH k X.A) (l:Binds X.K fd ps ds) (q:Vals Wo ds) (v:jY CX X E)
  (I:Inv X pins σ H s) (r:Vals vs us) (h:sp (vs++Wo) H Q E):wpAny (model X.prog X.w) X.A (call (.ref f) us) (EP X pins σ Q) X.xe s:=by
 have d:Vals (vs++Wo) (us++ds):=r.append q;have y:(us++ds).length=ps.length:=by rw [<- d.length];exact F.len _ _ _ _ h
 refine wpAny_call (RG (F.run X.A X.stack s H ⟨us,[]⟩ (us++ds) (vs++Wo) Q E i I.env0 (l s us I.Wc y) d h) λr s' c=>?_)
 cases r with
 | error e=>exact v pins σ H s e s' I c
 | ok z =>
  cases z with
  | ret u=>exact I.after c
  | next=>exact False.elim c
  | brk=>exact False.elim c
  | cont=>exact False.elim c
theorem Au (F:Te X.prog X.w X.K X.mg X.base CX k f fd ps sp) (l:TH k X.A) (v:Gl X x) (y:X.mg x=some (.ref f)) (hk:W.keepIn X.K (.ref f)=true) (z:Binds X.K fd ps ds) (B:Vals Wo ds) (D:jY CX X E)
  (G:PA X (e::es) t) (c:(x == ("__debug__":Str))=false:=by decide) (J:starEach (e::es) X.env=(false,eval e X.env)::starEach es X.env:=by rfl) (d:(backTo pos (starEach es X.env)).any (·.1)=false:=by rfl) :
  PE X (.Call (.Name x p) (e::es) [] pos) (kr sp Wo E t):=by
 intro pins s σ H Q I h;refine Q9 (nq I v y ?_ c);refine W.callWith_K (h₀:=X.base) I.ok.mod.kin hk (S1 (G pos pins s σ H _ I h) λus s1 ⟨vs,L,i,r,q⟩=>⟨i.Wc,?_⟩) J d;exact vW F l z B D i r q
theorem xH (F:Te X.prog X.w X.K X.mg X.base CX k f fd ps sp) (d:TH k X.A) (i:Gl X x) (l:X.mg x=some (.ref f)) (hk:W.keepIn X.K (.ref f)=true) (q:Binds X.K fd ps ds) (r:Vals Wo ds) (v:jY CX X E)
  (c:(x == ("__debug__":Str))=false:=by decide):PE X (.Call (.Name x p) [] [] pos) (kr sp Wo E dW):=by
 intro pins s σ H Q I h;refine Q9 (nq I i l ?_ c);exact W.callWith_K0 I.Wc hk (vW (us:=[]) F d q r v I .nil h)
variable {pl:Sem Bool}
theorem iX (D:PE X o ta) (c:X5 X.K C) (v:uh X.K C m f) (F:Te X.prog X.w X.K X.mg X.base CX k f fd ps sp) (G:TH k X.A) (J:Binds X.K fd ps ds) (L:Vals Wo ds) (N:jY CX X E) (O:PA X (e::es) t)
  (d:starEach (e::es) X.env=(false,eval e X.env)::starEach es X.env:=by rfl) (i:(backTo pos (starEach es X.env)).any (·.1)=false:=by rfl)
  (R:eval (.Call (.Attribute o m apos) (e::es) [] pos) X.env=(do
   let y <- eval o X.env
   standAt apos.atName
   let (f,first) <- holding [y] (getMethod y m pl)
   callWith pos f first (backTo pos (starEach (e::es) X.env)) (backToKw pos (keywordEach [] X.env))):=by rfl) :
  PE X (.Call (.Attribute o m apos) (e::es) [] pos) (AN C m sp Wo E ta t):=by
 intro pins s σ H Q I h;refine W.methodCall_KW (pl:=pl) (S1 (D pins s σ H _ I h) λu s1 ⟨x,S,z,T,a,dx,fs,ex,U,l,q⟩=>?_) R;subst ex;obtain rfl:u=Value.ref a:=T;refine qB z U c v l ?_;refine W.callWith_K (first:=[.ref a]) (h₀:=X.base) I.ok.mod.kin v.kp (S1 (O pos pins s1 σ S _ z q) λus Z ⟨vs,H2,B,r,Y⟩=>⟨B.Wc,?_⟩) d i;exact vW (us:=.ref a::us) (vs:=.ref a::vs) F G J L N B (.cons rfl r) Y
theorem kn (v:PE X o ta) (c:X5 X.K C) (i:uh X.K C m f) (F:Te X.prog X.w X.K X.mg X.base CX k f fd ps sp) (y:TH k X.A) (z:Binds X.K fd ps ds) (B:Vals Wo ds) (D:jY CX X E)
  (G:eval (.Call (.Attribute o m apos) [] [] pos) X.env=(do
   let r <- eval o X.env
   standAt apos.atName
   let (f,first) <- holding [r] (getMethod r m pl)
   callWith pos f first (backTo pos (starEach [] X.env)) (backToKw pos (keywordEach [] X.env))):=by rfl) :
  PE X (.Call (.Attribute o m apos) [] [] pos) (AN C m sp Wo E ta dW):=by
 intro pins s σ H Q I h;refine W.methodCall_KW (pl:=pl) (S1 (v pins s σ H _ I h) λu s1 ⟨x,N,d,J,a,dx,fs,ex,L,l,q⟩=>?_) G;subst ex;obtain rfl:u=Value.ref a:=J;refine qB d L c i l ?_;exact W.callWith_K0 (first:=[.ref a]) d.Wc i.kp (vW (us:=[.ref a]) (vs:=[.ref a]) F y z B D d (.cons rfl .nil) q)
structure Mk (K:W.Frag) (C f:Addr):Prop where
 makes:W.makesIn K C=true
 init:W.findIn K (.ref C) "__init__"=some (some (.ref f))
 fn:W.isFn K (.ref f)=true
 kp:W.keepIn K (.ref C)=true
theorem D0 (M:Mk X.K C f) (F:Te X.prog X.w X.K X.mg X.base CX k f fd ps sp) (q:TH (k+1) X.A) (y:Binds X.K fd ps ds) (z:Vals Wo ds)
  (B:jY CX X E) (I:Inv X pins σ H s) (r:Vals vs us)
  (h:∀ x dx,H x=none->H dx=none->dx≠x->sp (.ref x::(vs++Wo)) (upd (upd H dx (.own x)) x (.ins C dx [])) (λv D=>v=.SO/\Q (.ref x) D) E) :
  wpAny (model X.prog X.w) X.A (call (.ref C) us) (EP X pins σ Q) X.xe s:=by
 have i:=h (s.heap.objs.size+1) s.heap.objs.size (I.hok.fresh (RZ _)) (I.hok.fresh (Pu _)) (Qe (RK _));have d:=Inv.made (C:=C) I;have l:Vals (V.ref (s.heap.objs.size+1)::(vs++Wo)) (Value.ref (s.heap.objs.size+1)::(us++ds)):=.cons rfl (r.append z)
 have G:(Value.ref (s.heap.objs.size+1)::us++ds).length=ps.length:=by have e:=l.length;rw [F.len _ _ _ _ i] at e;exact e.symm
 refine wpAny_call (C2 (f:=f) I.Wc M.makes M.init (SA.mp M.fn) (RG (F.run _ X.stack _ _ ⟨Value.ref (s.heap.objs.size+1)::us,[]⟩ (Value.ref (s.heap.objs.size+1)::(us++ds)) _ _ E (q.make C us [])
  (d.env0.make C us []) (y _ (Value.ref (s.heap.objs.size+1)::us) d.Wc G) l i) λr s' c=>?_))
 cases r with
 | error e=>exact B pins σ _ _ e s' d c
 | ok J =>
  cases J with
  | ret u =>obtain ⟨v,L,N,O,R,S⟩:=d.after c;subst R;exact ⟨O,⟨V.ref (s.heap.objs.size+1),L,N,rfl,S⟩⟩
  | next=>exact False.elim c
  | brk=>exact False.elim c
  | cont=>exact False.elim c
theorem Fp (M:Mk X.K C f) (F:Te X.prog X.w X.K X.mg X.base CX k f fd ps sp) (l:TH (k+1) X.A) (v:Gl X x) (y:X.mg x=some (.ref C)) (z:Binds X.K fd ps ds) (B:Vals Wo ds) (D:jY CX X E)
  (G:PA X (e::es) t) (c:(x == ("__debug__":Str))=false:=by decide) (J:starEach (e::es) X.env=(false,eval e X.env)::starEach es X.env:=by rfl) (d:(backTo pos (starEach es X.env)).any (·.1)=false:=by rfl) :
  PE X (.Call (.Name x p) (e::es) [] pos) (Jw C sp Wo E t):=by
 intro pins s σ H Q I h;refine Q9 (nq I v y ?_ c);refine W.callWith_K (h₀:=X.base) I.ok.mod.kin M.kp (S1 (G pos pins s σ H _ I h) λus s1 ⟨vs,L,i,r,q⟩=>⟨i.Wc,?_⟩) J d;exact D0 M F l z B D i r q
end
noncomputable def PK (X:Cx) (d:List Keyword) (t:TA):Prop :=
 ∀ (e:Pos) (c:List (Addr × Obj)) (s:Shared) (σ:St) (H:Hp) (Q:List V->Hp->Prop),Inv X c σ H s->t σ H Q->wpAny (model X.prog X.w) X.A (evalAll ((backToKw e (keywordEach d X.env)).map (·.2))) (AP X c σ Q) X.xe s
section
variable {X:Cx} {CX:Zk} {k:Nat} {f C:Addr} {fd:FuncData} {ps ks:List Str} {sp:Sp} {E:XK} {x m:Str} {p pos apos kpos:Pos} {e o:Expr} {es:List Expr} {kws:List Keyword} {te ta:TE} {t tk:TA} {nm:Option Str}
theorem HX:PK X [] dW:=λ_ _ _ _ H Q I h=>wpAny_evalAll_nil ⟨[],H,I,.nil,h⟩
theorem Fy (d:PE X e te) (i:PK X kws t):PK X (⟨nm,e,kpos⟩::kws) (bW te t):=by intro pos c s σ H Q I h;show wpAny _ _ (evalAll ((do let v <- eval e X.env;standAt pos;pure v)::(backToKw pos (keywordEach kws X.env)).map (·.2))) _ _ s;refine wpAny_evalAll_cons (Pj (S1 (d c s σ H _ I h) λu s1 ⟨x,l,q,r,y⟩=>Pj (RN (PF ?_))));exact S1 (i pos c s1 σ l _ q y) λus G ⟨xs,z,B,D,F⟩=>⟨x::xs,z,B,.cons r D,F⟩
structure yi (K:W.Frag) (fd:FuncData) (ps ks:List Str) (g:List Value->List Value->List Value) (gV:List V->List V->List V):Prop where
 to:∀ (s:Shared) (us ws:List Value),K.In s.heap->(g us ws).length=ps.length->BindsTo s fd ⟨us,ks.zip ws⟩ (ps.zip (g us ws))
 rel:∀ {vs:List V} {us:List Value} {zs:List V} {ws:List Value},Vals vs us->Vals zs ws->Vals (gV vs zs) (g us ws)
noncomputable def Ec (sp:Sp) (c:List V->List V->List V) (E:XK) (t tk:TA):TE:=λσ H Q=>t σ H λvs d=>tk σ d λzs i=>sp (c vs zs) i Q E
variable {g:List Value->List Value->List Value} {gV:List V->List V->List V}
theorem FY {c:List (Addr × Obj)} {σ:St} {H:Hp} {s:Shared} {Q:VK} {us d:List Value} {vs zs:List V} (F:Te X.prog X.w X.K X.mg X.base CX k f fd ps sp) (v:TH k X.A) (l:yi X.K fd ps ks g gV) (y:jY CX X E)
  (I:Inv X c σ H s) (r:Vals vs us) (z:Vals zs d) (h:sp (gV vs zs) H Q E):wpAny (model X.prog X.w) X.A (call (.ref f) us (ks.zip d)) (EP X c σ Q) X.xe s:=by
 have q:=l.rel r z;have B:(g us d).length=ps.length:=by rw [<- q.length];exact F.len _ _ _ _ h
 refine wpAny_call (RG (F.run X.A X.stack s H ⟨us,ks.zip d⟩ (g us d) (gV vs zs) Q E v I.env0 (l.to s us d I.Wc B) q h) λr s' i=>?_)
 cases r with
 | error e=>exact y c σ H s e s' I i
 | ok D =>
  cases D with
  | ret u=>exact I.after i
  | next=>exact False.elim i
  | brk=>exact False.elim i
  | cont=>exact False.elim i
theorem Ds (F:Te X.prog X.w X.K X.mg X.base CX k f fd ps sp) (B:TH k X.A) (D:Gl X x) (G:X.mg x=some (.ref f)) (hk:W.keepIn X.K (.ref f)=true) (J:yi X.K fd ps ks g gV) (L:jY CX X E)
  (N:PA X (e::es) t) (i:PK X kws tk) (d:(backToKw pos (keywordEach kws X.env)).all (·.1.isSome)=true:=by rfl) (l:(backToKw pos (keywordEach kws X.env)).filterMap (·.1)=ks:=by rfl)
  (v:(x == ("__debug__":Str))=false:=by decide) (O:starEach (e::es) X.env=(false,eval e X.env)::starEach es X.env:=by rfl)
  (y:((backTo pos (starEach (e::es) X.env)).any (·.1) || (backToKw pos (keywordEach kws X.env)).any (·.1.isNone))=false:=by rfl) :
  PE X (.Call (.Name x p) (e::es) kws pos) (Ec sp gV E t tk):=by
 intro c s σ H Q I h;refine Q9 (nq I D G ?_ v);refine W.callWith_KW (h₀:=X.base) I.ok.mod.kin hk d (S1 (N pos c s σ H _ I h) λus s1 ⟨vs,R,S,r,q⟩=>?_) y O;refine S1 (i pos c s1 σ R _ S q) λY Z ⟨zs,H2,z,T,U⟩=>⟨z.Wc,?_⟩
 rw [l];exact FY F B J L z r T U
end
structure SM (N P:List Str) (sc:Scope):Prop where
 kind:sc.kind=.function
 co:sc.isCoroutine=false
 gen:sc.isGenerator=false
 nd:N.Nodup
 pre:N.take P.length=P
 par:∀ x ∈ P,sc.names.lookup x=some .local\/sc.names.lookup x=some .cell
 nofree:∀ y ∈ sc.names,y.2≠.free
theorem SM.TR {N P:List Str} {i:Scope} (a:i.kind=.function:=by rfl) (b:i.isCoroutine=false:=by rfl) (c:i.isGenerator=false:=by rfl) (d:N.Nodup:=by decide +kernel) (e:N.take P.length=P:=by rfl) (f:∀ x ∈ P,i.names.lookup x=some .local\/i.names.lookup x=some .cell:=by decide +kernel) (g:∀ y ∈ i.names,y.2≠.free:=by decide +kernel):SM N P i:=⟨a,b,c,d,e,f,g⟩
variable {kindOf:Str->Option NameKind} {x:Str}
theorem sS:∀ {binds:List (Str × Value)} {m:Str->Option Value},(∀ v,(x,v) ∉ binds)->bindL kindOf binds m x=m x
 | [],_,_=>rfl
 | (n,v)::r,m,h=>by
  unfold bindL;rw [sS λw c=>h w (PV _ c)];split
  ·have:x≠n:=by rintro rfl;exact h v P4
   simp [this]
  ·rfl
theorem sQ:∀ {binds:List (Str × Value)} {m:Str->Option Value},(∀ v,(x,v) ∉ binds)->bindC kindOf binds m x=m x
 | [],_,_=>rfl
 | (n,v)::r,m,h=>by
  unfold bindC;rw [sQ λw c=>h w (PV _ c)];split
  ·rfl
  ·have:x≠n:=by rintro rfl;exact h v P4
   simp [this]
variable {v:Value}
theorem sR:∀ {P:List Str} {vs:List Value} {i:Nat} {m:Str->Option Value},P.Nodup->P[i]?=some x->vs[i]?=some v->kindOf x=some .local ->
  bindL kindOf (P.zip vs) m x=some v
 | [],_,_,_,_,h,_,_=>by simp at h
 | _::_,[],_,_,_,_,h,_=>by simp at h
 | p::P,w::vs,0,m,e,c,d,hk=>by simp at c d;subst c;subst d;show bindL kindOf ((p,w)::P.zip vs) m p=_;unfold bindL;rw [sS λv k=>(Rt.mp e).1 (List.of_mem_zip k).1,Pk hk];simp
 | p::P,w::vs,i+1,m,e,c,d,hk=>by show bindL kindOf ((p,w)::P.zip vs) m x=_;unfold bindL;exact sR (i:=i) (Rt.mp e).2 (by simpa using c) (by simpa using d) hk
theorem sP:∀ {P:List Str} {vs:List Value} {i:Nat} {m:Str->Option Value},P.Nodup->P[i]?=some x->vs[i]?=some v->kindOf x≠some .local ->
  bindC kindOf (P.zip vs) m x=some v
 | [],_,_,_,_,h,_,_=>by simp at h
 | _::_,[],_,_,_,_,h,_=>by simp at h
 | p::P,w::vs,0,m,e,c,d,hk=>by simp at c d;subst c;subst d;show bindC kindOf ((p,w)::P.zip vs) m p=_;unfold bindC;rw [sQ λv k=>(Rt.mp e).1 (List.of_mem_zip k).1,M1 hk];simp
 | p::P,w::vs,i+1,m,e,c,d,hk=>by show bindC kindOf ((p,w)::P.zip vs) m x=_;unfold bindC;exact sP (i:=i) (Rt.mp e).2 (by simpa using c) (by simpa using d) hk
noncomputable def start (N:List Str) (vs:List V):St:=vs.map some++List.replicate (N.length - vs.length) none
noncomputable def yv (CX:Zk) (P:Program) (w:World) (K:W.Frag) (mg:Str->Option Value) (base:Heap) (N:List Str) (c:Str) (scope:Scope) (f:Addr) (i:Value) (A:Around) (outer:List Env) (s:Shared) (H:Hp) (E:XK):Cx where
 prog:=P
 w:=w
 K:=K
 mg:=mg
 base:=base
 A:=A.deeper (envOfC c scope s.heap.objs.size f i)
 N:=N
 s₀:=s
 H₀:=H
 env:=envOfC c scope s.heap.objs.size f i
 outer:=outer
 stack:=envOfC c scope s.heap.objs.size f i::outer
 ex:=[]
 calm:=true
 fn:=λ_=>true
 pn:=[]
 xe:=λe s'=>wpAny (model P w) (A.deeper (envOfC c scope s.heap.objs.size f i)) (leaving (envOfC c scope s.heap.objs.size f i) e) (λ_ d=>CX outer H s E e d) (λk d=>CX outer H s E k d) s'
theorem wN {d:Scope} (h:d.names.lookup x=some .cell):∃ c,(cellsFrom n d.names []).lookup x=some c:=by have q:=W.cellsFrom_some d.names n [] (.inl h);exact Option.isSome_iff_exists.mp q
variable {N:List Str} {qual:Str} {scope:Scope}
theorem Ba {D:Value} {s1:Shared} {E:XK} {vs:List V}
  (S:SM N ps scope) (I:A.handled=none) (l:YL P w K mg base A outer s H) (Q:vs.length=ps.length) (r:Vals vs us)
  (x:InCallC s s.heap.objs.size (bindL (envOfC qual scope s.heap.objs.size f D).kindOf (ps.zip us) λ_=>none) (cellsFrom (s.heap.objs.size+1) scope.names []) (bindC (envOfC qual scope s.heap.objs.size f D).kindOf (ps.zip us) λ_=>none) s1) :
  Inv (yv CX P w K mg base N qual scope f D A outer s H E) [] (start N vs) H s1:=by
 have J:ps.length<=N.length:=by have:=P1 List.length S.pre;rw [Qh] at this;lia
 obtain ⟨F,tk,rfl,hk⟩:=x.done;have m:∀ b:Addr,b ∉ (yv CX P w K mg base N qual scope f D A outer s H E).ex:=λb z=>absurd (show b ∈ ([]:List Addr) from z) (by simp)
 refine ⟨⟨l.mod,S.kind,rfl,rfl,Pu _,λy z c F d=>?_,λy hy=>?_,λy c _ h=>?_,λ_=>I,Around.frames_deeper l.frames,.inr ⟨rfl,rfl⟩,λb z=>absurd z (m b),l.bs,l.ZZ,λb _ _=>m b,λb z=>absurd z (m b),l.Xr,l.frf⟩,
  rfl,l.bare,Un.kept hk,⟨_,x.toInCall.ns,λi y v F d R=>?_⟩,λy c h=>⟨_,x.cell y c h⟩,l.hok.fresh (Pu _),λy c h=>?_,λp t=>absurd (show p ∈ ([]:List (Addr × Obj)) from t) (by simp),l.hok.kept hk,?_⟩
 ·exact name_of_addr x.apart (QN F) (QN d)
 ·have hy:scope.names.lookup y=some .cell\/scope.names.lookup y=some .free:=hy;rcases hy with hy | hy
  ·exact wN hy
  ·exact absurd rfl (S.nofree _ (QN hy))
 ·exact QO (x.above y c (QN h))
 ·have hi:i < vs.length:=by
   unfold start at d;by_cases hi:i < vs.length
   ·exact hi
   ·rw [Qs (by simpa using hi)] at d;rw [List.getElem?_replicate] at d;split at d <;> cases d
  have L:vs[i]?=some v:=by
   unfold start at d;rw [QZ (by simpa using hi),Pw] at d
   cases e:vs[i]? with
   | none=>rw [e] at d;cases d
   | some a=>rw [e] at d;cases d;rfl
  obtain ⟨u,G,O⟩:=r.get L
  have t:ps[i]?=some y:=by rw [<- S.pre,List.getElem?_take_of_lt (by lia)];exact F
  have B:ps.Nodup:=by rw [<- S.pre];exact S.nd.sublist (List.take_sublist _ _)
  refine ⟨u,O,?_⟩;rcases S.par y (PM t) with k | k
  ·exact .inl ⟨k,sR B t G k⟩
  ·obtain ⟨c,e⟩:=wN (n:=s.heap.objs.size+1) k;refine .inr ⟨.inl k,c,e,?_⟩;have q:=x.cell y c e;rw [sP B t G (by show scope.names.lookup y≠_;rw [k];decide)] at q;exact q
 ·exact l.hok.fresh (QO (x.above y c (QN h)))
 ·unfold start;show _=N.length;rw [tB,Pf,List.length_replicate];lia
theorem Gj {k:Nat} {name:Str} {d:Arguments} {body:List Stmt} {R kV doc T c ct oc:Value} {U od:Option Addr} {D:Array (Option Value)} (lk:K.lookup f=some ⟨oc,od,.func (W.fnOf name qual d body scope R kV doc T U c ct),D⟩) (F:W.codeIn K c qual=true) (S:SM N ps scope)
  (len:∀ vs H Q E,sp vs H Q E->vs.length=ps.length)
  (l:∀ (A:Around) (outer:List Env) (s:Shared) (H:Hp) (vs:List V) (Q:VK) (E:XK),TH k (A.deeper (envOfC qual scope s.heap.objs.size f c))->sp vs H Q E ->
   ∃ t,YJ (yv CX P w K mg base N qual scope f c A outer s H E) body t/\t { nx:=λ_ i=>Q .SO i,rt:=Q } (start N vs) H) :
  Te P w K mg base CX (k+1) f (W.fnOf name qual d body scope R kV doc T U c ct) ps sp:=by
 refine ⟨len,λA outer s H args us vs Q E G z hb r Y=>?_⟩;have hl:=len _ _ _ _ Y;have Z:K.In s.heap:=z.mod.kin.keeps λb o e=>(z.bs b o e).1;have L:s.heap.NoLimit:=z.mod.nolimit.keeps λb o e=>(z.bs b o e).1
 have m:∀ y ∈ ps.zip us,scope.names.lookup y.1=some .local\/(scope.names.lookup y.1=some .cell/\((cellsFrom (s.heap.objs.size+1) scope.names []).lookup y.1).isSome=true):=λ⟨n,v⟩ hy=>by
  rcases S.par n (List.of_mem_zip hy).1 with q | q
  ·exact .inl q
  ·exact .inr ⟨q,W.cellsFrom_some _ _ _ (.inl q)⟩
 refine codeAny_call_function G.depth (Z _ _ lk) rfl S.co S.gen rfl (W.codeRec_of Z F) (hb _ _ _ _ ?_);refine wpAny_newFunctionEnv_cells S.kind m λenv he s1 x=>?_;subst he;refine ⟨L.keeps x.toInCall.keep,codeAny_func ?_⟩;obtain ⟨t,ht,hq⟩:=l A outer s H vs Q E (G.deeper _) Y;have I:Inv (yv CX P w K mg base N qual scope f c A outer s H E) [] (start N vs) H s1:=Ba S G.hd z hl r x;refine RJ (ht [] s1 (start N vs) H _ I hq) (λfl s' p=>?_) λe s' p=>p
 have B:∀ {σ':St} {i:Hp} {v:V} {u:Value},Inv (yv CX P w K mg base N qual scope f c A outer s H E) [] σ' i s'->RelV v u->Q v i->CE outer P w H s Q u s' :=
  λ{σ' i v u} J O q=>⟨v,i,J.os,J.bare,J.base,J.hok,O,q⟩
 cases fl with
 | ret u =>obtain ⟨v,σ',i,J,O,q⟩:=p;exact B J O q
 | next =>obtain ⟨σ',i,J,q⟩:=p;exact B (v:=V.SO) (u:=Value.none) J rfl q
 | brk =>obtain ⟨_,_,_,q⟩:=p;exact False.elim q
 | cont =>obtain ⟨_,_,_,q⟩:=p;exact False.elim q
section
variable {X:Cx} {x:Str} {p pos:Pos} {e:Expr} {es:List Expr} {t:TA} {id T:String} {r:List V->Hp->VK->Prop}
noncomputable def XA (r:List V->Hp->VK->Prop) (t:TA):TE:=λσ H Q=>t σ H λvs c=>r vs c Q
theorem aX (k:jz X (.builtin id) r) (l:Gl X x) (m:X.mg x=none) (q:bootBuiltins x=some (.builtin id)) (y:PA X (e::es) t) (z:x≠"__name__":=by decide) (d:(x == ("__debug__":Str))=false:=by decide)
  (B:starEach (e::es) X.env=(false,eval e X.env)::starEach es X.env:=by rfl) (i:(backTo pos (starEach es X.env)).any (·.1)=false:=by rfl):PE X (.Call (.Name x p) (e::es) [] pos) (XA r t):=by
 intro c s σ H Q I h;refine Q9 (lj I l m q ?_ z d);exact PyProof.Rows.callWith_builtin1 (S1 (y pos c s σ H _ I h) λus s1 ⟨vs,D,E,F,G⟩=>k c s1 σ D vs us Q E F G) B i
theorem eP (k:jz X (.type T) r) (l:Gl X x) (m:X.mg x=none) (q:bootBuiltins x=some (.type T)) (y:PA X (e::es) t) (z:x≠"__name__":=by decide) (d:(x == ("__debug__":Str))=false:=by decide)
  (B:starEach (e::es) X.env=(false,eval e X.env)::starEach es X.env:=by rfl) (i:(backTo pos (starEach es X.env)).any (·.1)=false:=by rfl):PE X (.Call (.Name x p) (e::es) [] pos) (XA r t):=by
 intro c s σ H Q I h;refine Q9 (lj I l m q ?_ z d);exact QF (S1 (y pos c s σ H _ I h) λus s1 ⟨vs,D,E,F,G⟩=>k c s1 σ D vs us Q E F G) B i
end
end L2
namespace HT
open PySem PyProof.Rows
section
open PySem.SeqAt
open PySem.AutoSeq1 (wpAny_loadPart')
open PySem.MeetsSeq PySem.MeetsSeq2 PySem.MeetsSeq3
end
section
variable {prog:Program} {w:World} {A:Around} {E:Value->Shared->Prop} {s:Shared}
variable {t:Addr}
theorem Z5 {b:Addr} {vs a:List Value} {Q:Value->Shared->Prop} (v:IsTup s.heap t vs.toArray) (x:IsTup s.heap b a.toArray) (l:vs≠[])
  (y:a=[]->Q (.ref t) s) (z:a≠[]->Q (.ref s.heap.objs.size) { s with heap:=s.heap.push { cls:=.type "tuple",data:=.seq (vs++a).toArray } })
  (k:vs.length+a.length<=sizeLine):wpAny (model prog w) A (binaryOp .Add (.ref t) (.ref b)) Q E s:=by
 obtain ⟨⟨cls,m,data,o⟩,i,p,n,q⟩:=id v;obtain ⟨⟨r,d,data2,f⟩,c,g,u,h⟩:=id x;simp only at p q g h;subst p q g h;have e:vs.toArray++a.toArray=(vs++a).toArray:=by simp
 by_cases j:a=[]
 ·exact concat_meets ⟨_,i,rfl⟩ ⟨_,c,rfl⟩ noFill_tuple_add seq_tuple_add F.slot_tuple_add F.entry_tuple_add (F.args_tuple_add_2 _ _)
   (tuple_addW1 t b vs.toArray a.toArray n u m d o f (by simpa using l) (by simp [j])) ⟨i,c,y j⟩
 ·refine concat_meets ⟨_,i,rfl⟩ ⟨_,c,rfl⟩ noFill_tuple_add seq_tuple_add F.slot_tuple_add F.entry_tuple_add (F.args_tuple_add_2 _ _)
   (tuple_addW2 t b vs.toArray a.toArray n u m d o f (by simpa using l) (by simpa using j) (by rw [PC,PC];exact k)) ⟨i,c,?_⟩
  rw [e];exact z j
noncomputable def Uq (n d:Nat):Option Int->Nat
 | none=>d
 | some v=>if v < 0 then (v+(n:Int)).toNat else min v.toNat n
theorem Zu (n d:Nat):Uq n d none=d:=rfl
theorem XC (n d k:Nat):Uq n d (some (k:Int))=min k n:=by show (if (k:Int) < 0 then ((k:Int)+(n:Int)).toNat else min (k:Int).toNat n)=min k n;rw [M1 (by lia),RX]
theorem Il (n d:Nat) (b:d<=n) (o:Option Int):Uq n d o<=n:=by
 cases o with
 | none=>exact b
 | some v =>
  show (if v < 0 then (v+(n:Int)).toNat else min v.toNat n)<=n;by_cases a:v < 0
  ·rw [Pk a];lia
  ·rw [M1 a];exact Nat.min_le_right _ _
theorem zP (v:Int) (n d:Nat):(if v < 0 then max (v+(n:Int)) 0 else min v (n:Int))=((Uq n d (some v):Nat):Int):=by
 show (if v < 0 then max (v+(n:Int)) 0 else min v (n:Int))=(((if v < 0 then (v+(n:Int)).toNat else min v.toNat n):Nat):Int)
 by_cases a:v < 0
 ·simp only [Pk a];lia
 ·simp only [M1 a];lia
theorem yo (lo hi:Option Int) (n:Nat):Builtin.Slice.sliceAdjust lo hi 1 (n:Int)=(((Uq n 0 lo:Nat):Int),((Uq n n hi:Nat):Int)):=by
 have a:¬ ((1:Int) < 0):=by lia
 unfold Builtin.Slice.sliceAdjust;simp only [a,SD];refine R4 ?_ ?_
 ·cases lo with
  | none=>rfl
  | some v=>exact zP v n 0
 ·cases hi with
  | none=>rfl
  | some v=>exact zP v n n
theorem yX (i j:Nat):Builtin.Slice.slicePlaces (i:Int) (j:Int) 1=j - i:=by
 unfold Builtin.Slice.slicePlaces;have a:(1:Int) > 0:=by lia
 simp only [a,RO,Int.ediv_one];split <;> lia
theorem rM {v:Value} {o:Option Int} {Q:Option Int->Shared->Prop} (p:IsPart v o) (h:Q o s):wpAny (model prog w) A (Builtin.Slice.slicePartIndex v) Q E s:=by
 cases p with
 | none=>exact slicePart_none h
 | int i t=>exact slicePart_int h
variable {sl:Addr} {vl vu:Value} {lo hi:Option Int}
theorem oI {n:Nat} {Q:Int × Int × Nat->Shared->Prop} (c:s.heap.IsSliceOf sl vl vu .none) (pl:IsPart vl lo) (d:IsPart vu hi)
  (h:Q (((Uq n 0 lo:Nat):Int),1,Uq n n hi - Uq n 0 lo) s):wpAny (model prog w) A (Builtin.Slice.sliceApplied (.ref sl) (pure (n:Int))) Q E s:=by
 obtain ⟨os,a,e,b⟩:=id c;unfold Builtin.Slice.sliceApplied Builtin.Slice.sliceFields;refine Pj (Pj (Q0 a b (x:=vl) rfl (Pj (Q0 a b (x:=vu) rfl (Pj (Q0 a b (x:=.none) rfl (PF ?_)))))));refine Pj (slicePart_none ?_);show wpAny _ _ (if ((1:Int) == 0)=true then _ else _) _ _ s;rw [M1 (by decide)];refine Pj (rM pl (Pj (rM d (Pj (PF ?_)))));show wpAny _ _ (match Builtin.Slice.sliceAdjust lo hi 1 (n:Int) with | (lo,hi)=>pure (lo,(1:Int),Builtin.Slice.slicePlaces lo hi 1)) _ _ s;rw [yo lo hi n];show wpAny _ _ (pure (((Uq n 0 lo:Nat):Int),(1:Int),Builtin.Slice.slicePlaces ((Uq n 0 lo:Nat):Int) ((Uq n n hi:Nat):Int) 1)) _ _ s;rw [yX];exact PF h
theorem Dz (xs:Array Value) (i k:Nat):((List.range k).filterMap λ(m:Nat)=>xs[((i:Int)+(m:Int) * 1).toNat]?).toArray=((xs.toList.drop i).take k).toArray:=by
 have e:(λ(m:Nat)=>xs[((i:Int)+(m:Int) * 1).toNat]?)=λm=>xs[i+m]?:=by
  funext m
  have:((i:Int)+(m:Int) * 1).toNat=i+m:=by lia
  rw [this]
 rw [e];have:=pick_run xs i k;rw [List.filterMap_map] at this;have a:((λx=>xs[x]?) ∘ λx=>i+x)=λm=>xs[i+m]?:=rfl;rw [a] at this;rw [this]
theorem WH {items:Array Value} {Q:Value->Shared->Prop} (a:IsTup s.heap t items) (g:s.heap.IsSliceOf sl vl vu .none) (pl:IsPart vl lo) (i:IsPart vu hi)
  (j:¬ (Uq items.size 0 lo=0/\Uq items.size items.size hi=items.size))
  (h:Q (.ref s.heap.objs.size) { s with heap:=s.heap.push { cls:=.type "tuple",data:=.seq ((items.toList.drop (Uq items.size 0 lo)).take (Uq items.size items.size hi - Uq items.size 0 lo)).toArray } })
  (k:items.size<=sizeLine):wpAny (model prog w) A (getItem (.ref t) (.ref sl)) Q E s:=by
 have b:sizeOk (.seq ((items.toList.drop (Uq items.size 0 lo)).take (Uq items.size items.size hi - Uq items.size 0 lo)).toArray):=by show ((items.toList.drop (Uq items.size 0 lo)).take (Uq items.size items.size hi - Uq items.size 0 lo)).toArray.size<=sizeLine;rw [PC,Qh,Q7,Q6];lia
 have n:Uq items.size items.size hi<=items.size:=Il _ _ (Pu _) hi;obtain ⟨os,c,d,l⟩:=id g;have e:s.TypeIs (.ref sl) "slice":=⟨os,c,d⟩
 unfold getItem
 try with_reducible refine Rr ?_
 first | refine Pj (PF ?_) | skip
 refine Pj (wpAny_sequenceKey a.typeIs (by decide) ?_)
 refine Pj (QG (name:=Str.ofString "__getitem__") a.typeIs Rq
  (QU Rq a.typeIs entry_tuple_getitem ?_ (args_tuple_getitem _ _)))
 show wpAny _ _ (Builtin.Tuple.tupleItemsOf (.ref t) >>= _) _ _ s;refine Pj (tupleItemsOf_ a ?_);refine Pj (wpAny_typeOf e ?_);rw [Pk (by decide)];refine Pj (oI g pl i ?_)
 have f:¬ ((((Uq items.size 0 lo:Nat):Int) == 0 && (1:Int) == 1 && (Uq items.size items.size hi - Uq items.size 0 lo) == items.size)=true):=by intro q;rw [Pz,Pz] at q;have o:((Uq items.size 0 lo:Nat):Int)=0:=eq_of_beq q.1.1;have p:Uq items.size items.size hi - Uq items.size 0 lo=items.size:=eq_of_beq q.2;exact j ⟨by lia,by lia⟩
 show wpAny _ _ (if (((Uq items.size 0 lo:Nat):Int) == 0 && (1:Int) == 1 && (Uq items.size items.size hi - Uq items.size 0 lo) == items.size)=true then _ else _) _ _ s;rw [M1 f,Dz]
 first
  | exact Pj (m:=Builtin.Tuple.tupleExact _) (Rk (PF ⟨_,rfl,PF h⟩) b)
  | exact Pj (m:=Builtin.Tuple.tupleExact _) (Rk (Pj (PF (PF ⟨_,rfl,PF h⟩))) b)
  | exact Pj (Pj (m:=Builtin.Tuple.tupleExact _) (Rk (PF (PF ⟨_,rfl,PF h⟩)) b))
  | exact Pj (Pj (m:=Builtin.Tuple.tupleExact _) (Rk (PF ⟨_,rfl,PF h⟩) b))
end
end HT
namespace L2
open PySem PySem.Spec PyProof.Rows
noncomputable abbrev TO:=St->Hp->(Option Int->Hp->Prop)->Prop
noncomputable def PO (X:Cx) (e:Option Expr) (t:TO):Prop :=
 ∀ (a:List (Addr × Obj)) (s:Shared) (σ:St) (H:Hp) (Q:Option Int->Hp->Prop),Inv X a σ H s->t σ H Q ->
  wpAny (model X.prog X.w) X.A (evalPart e X.env) (λu s'=>∃ o b,Inv X a σ b s'/\IsPart u o/\Q o b) X.xe s
noncomputable def AQ:TO:=λ_ H Q=>Q none H
noncomputable def uc (t:TE):TO:=λσ H Q=>t σ H λx a=>∃ i,x=.int i/\Q (some i) a
section
variable {X:Cx} {e:Expr} {te:TE} {lo hi:Option Expr} {tl th:TO} {pos p2:Pos}
theorem pO:PO X none AQ:=by intro a s σ H Q I h;rw [evalPart_none];exact PF ⟨none,H,I,.none,h⟩
theorem iY (h:PE X e te):PO X (some e) (uc te):=by intro a s σ H Q I b;rw [evalPart_some];refine S1 (h a s σ H _ I b) λu s1 ⟨x,c,d,f,g⟩=>?_;obtain ⟨i,rfl,q⟩:=g;obtain ⟨t,rfl⟩:=f;exact ⟨some i,c,d,.int i t,q⟩
noncomputable def SlR (X:Cx) (r:V->Option Int->Option Int->Hp->VK->Prop):Prop :=
 ∀ (a:List (Addr × Obj)) (s:Shared) (σ:St) (H:Hp) (x:V) (v b c:Value) (lo hi:Option Int) (d:Addr) (Q:VK),Inv X a σ H s->RelV x v->s.heap.IsSliceOf d b c .none->IsPart b lo->IsPart c hi->r x lo hi H Q ->
  ∃ T id,typeLookup (.type T) "__getitem__"=pure (some (.builtin id))/\s.TypeIs v T/\wpAny (model X.prog X.w) X.A (getItem v (.ref d)) (EP X a σ Q) X.xe s
noncomputable def tSl (r:V->Option Int->Option Int->Hp->VK->Prop) (te:TE) (tl th:TO):TE:=λσ H Q=>te σ H λx a=>tl σ a λl b=>th σ b λu c=>r x l u c Q
theorem jJ {r:V->Option Int->Option Int->Hp->VK->Prop} (i:SlR X r) (j:PE X e te) (k:PO X lo tl) (m:PO X hi th):PE X (.Subscript e (.Slice lo hi none p2) pos) (tSl r te tl th):=by intro a s σ H Q I h;refine Subscript_ (S1 (j a s σ H _ I h) λv s1 ⟨x,n,o,p,t⟩=>?_);refine wpAny_Slice (S1 (k a s1 σ n _ o t) λd y ⟨l,z,B,pl,C⟩=>S1 (m a y σ z _ B C) λf c ⟨u,g,D,E,F⟩=>?_);rw [evalPart_none];refine PF ?_;have G:Inv X a σ g { c with heap:=c.heap.push { cls:=.type "slice",data:=.fields #[d,f,.none] } }:=D.kept (t':=c.toks) λb M q=>Ph _ q;obtain ⟨T,id,J,K,L⟩:=i a { c with heap:=c.heap.push { cls:=.type "slice",data:=.fields #[d,f,.none] } } σ g x v d f l u c.heap.objs.size Q G p (Heap.IsSliceOf.new ..) pl E F;show wpAny (model X.prog X.w) X.A (subscriptTail e (.Slice lo hi none p2) v (.ref c.heap.objs.size)) (EP X a σ Q) X.xe { c with heap:=c.heap.push { cls:=.type "slice",data:=.fields #[d,f,.none] } };exact tail_any (ops:=[.ref c.heap.objs.size,v]) K J L (by with_unfolding_all rfl)
noncomputable def sf (xs:List V) (lo hi:Option Int):List V:=(xs.drop (HT.Uq xs.length 0 lo)).take (HT.Uq xs.length xs.length hi - HT.Uq xs.length 0 lo)
theorem oU (xs:List V) (lo hi:Option Int):(sf xs lo hi).length<=xs.length:=by unfold sf;rw [Qh,Q7];lia
noncomputable def HZ (K:W.Frag):V->Option Int->Option Int->Hp->VK->Prop:=λx lo hi H Q=>∃ a xs,x=.ref a/\Ti K H a xs /\
 ¬ (HT.Uq xs.length 0 lo=0/\HT.Uq xs.length xs.length hi=xs.length)/\∀ p,H p=none->Q (.ref p) (upd H p (.tup (sf xs lo hi)))
theorem rL:SlR X (HZ X.K):=by
 intro d s σ H x v n p lo hi t Q I i j pl k h;obtain ⟨a,xs,rfl,l,m,q⟩:=h;cases i;obtain ⟨its,r,f,g⟩:=I.tuple l;have c:its.toArray.size=xs.length:=by rw [PC];exact r.length.symm
 refine ⟨"tuple",_,Rq.lookup,f.typeIs,?_⟩;refine HT.WH f j pl k (by rw [c];exact m) ?_ (by rw [c];exact g);rw [c];refine ⟨.ref s.heap.objs.size,_,I.laid (t':=s.toks) (o:=.tup (sf xs lo hi)) (λb u q=>Ph _ q) (Pu _) ?_,rfl,q _ (I.hok.fresh (Pu _))⟩;exact ⟨Qf (oU xs lo hi) g,_,(r.drop (HT.Uq xs.length 0 lo)).take (HT.Uq xs.length xs.length hi - HT.Uq xs.length 0 lo),Sn _ _⟩
noncomputable def Jc (K:W.Frag):R2:=λx y H Q=>∃ a b xs ys,x=.ref a/\y=.ref b/\Ti K H a xs/\Ti K H b ys/\xs≠[]/\xs.length+ys.length<=sizeLine /\
 (ys=[]->Q (.ref a) H)/\(ys≠[]->∀ p,H p=none->Q (.ref p) (upd H p (.tup (xs++ys))))
theorem Vals.Yp {xs:List V} {us:List Value} (r:Vals xs us):us=[]↔xs=[]:=by
 cases r with
 | nil=>simp
 | cons _ _=>simp
theorem Fl:VX X (binaryOp .Add) (Jc X.K):=by intro f s σ H x y v u Q I j k h;obtain ⟨a,b,xs,ys,rfl,rfl,l,m,n,g,p,r⟩:=h;cases j;cases k;obtain ⟨its,d,p1,_⟩:=I.tuple l;obtain ⟨i,c,p2,_⟩:=I.tuple m;refine HT.Z5 p1 p2 (λz=>n (d.Yp.mp z)) (λz=>⟨.ref a,H,I,rfl,p (c.Yp.mp z)⟩) (λz=>?_) (by rw [<- d.length,<- c.length];exact g);refine ⟨.ref s.heap.objs.size,_,I.laid (t':=s.toks) (o:=.tup (xs++ys)) (λb t q=>Ph _ q) (Pu _) ?_,rfl,r (λw=>z (c.Yp.mpr w)) _ (I.hok.fresh (Pu _))⟩;exact ⟨by rw [tB];exact g,_,d.append c,Sn _ _⟩
end
noncomputable def YM (n:Nat) (i:Int):Option Nat:=if 0<=i then (if i < n then some i.toNat else none) else if -(n:Int)<=i then some (i+n).toNat else none
noncomputable def YZ {α:Type} (xs:List α) (i:Int):Option α:=(YM xs.length i).bind λj=>xs[j]?
variable {i:Int} {j:Nat}
theorem uP {n:Nat} (h:YM n i=some j):seqIndex? i n=some j/\j < n/\-(n:Int)<=i/\i < n:=by
 unfold YM at h;by_cases b:0<=i
 ·rw [Pk b] at h;by_cases a:i < n
  ·rw [Pk a] at h;have e:i.toNat=j:=Qg h;exact ⟨by rw [seqIndex_of b a,e],by lia,by lia,a⟩
  ·rw [M1 a] at h;cases h
 ·rw [M1 b] at h;by_cases a:-(n:Int)<=i
  ·rw [Pk a] at h;have e:(i+n).toNat=j:=Qg h;exact ⟨by rw [seqIndex_neg (by lia) a,e],by lia,a,by lia⟩
  ·rw [M1 a] at h;cases h
theorem zL {α:Type} {xs:List α} {v:α} (h:YZ xs i=some v):∃ j,seqIndex? i xs.length=some j/\xs[j]?=some v/\j < xs.length/\-(xs.length:Int)<=i/\i < xs.length:=by
 unfold YZ at h
 cases e:YM xs.length i with
 | none=>rw [e] at h;cases h
 | some j =>rw [e] at h;obtain ⟨a,b,c,d⟩:=uP e;exact ⟨j,a,h,b,c,d⟩
theorem jT {α:Type} {xs:List α} {v:α} (h:xs[j]?=some v):YZ xs (j:Int)=some v:=by
 have a:j < xs.length:=(P5.mp h).1
 have e:YM xs.length (j:Int)=some j:=by unfold YM;rw [Pk (by lia),Pk (by lia)];simp
 unfold YZ;rw [e];exact h
theorem Ce {α:Type} (xs:List α) (v:α):YZ (xs++[v]) (-1)=some v:=by
 have a:(xs++[v]).length=xs.length+1:=by simp
 have e:YM (xs++[v]).length (-1)=some xs.length:=by unfold YM;rw [a,M1 (by decide),Pk (by lia)];congr 1;lia
 unfold YZ;rw [e];show (xs++[v])[xs.length]?=some v;simp
noncomputable def EB (b:Expr):Prop:=∀ o i,subscripted b false o i=operate [o,i] (getItem o i)
noncomputable def IxR (X:Cx) (r:R2):Prop :=
 ∀ (c a:Expr) (b:List (Addr × Obj)) (s:Shared) (σ:St) (H:Hp) (x y:V) (v u:Value) (Q:VK),Inv X b σ H s->RelV x v->RelV y u->r x y H Q ->
  subscripted a false v u=operate [v,u] (getItem v u)->wpAny (model X.prog X.w) X.A (subscriptTail c a v u) (EP X b σ Q) X.xe s
noncomputable def MtR (X:Cx) (id:String) (r:V->List V->Hp->VK->Prop):Prop :=
 ∀ (a:List (Addr × Obj)) (s:Shared) (σ:St) (H:Hp) (x:V) (xs:List V) (v:Value) (us:List Value) (Q:VK),Inv X a σ H s->RelV x v->Vals xs us->r x xs H Q ->
  wpAny (model X.prog X.w) X.A (call (.builtin id) (v::us)) (EP X a σ Q) X.xe s
section
variable {X:Cx} {a b:Expr} {ta tb:TE} {pos:Pos}
theorem aY {r:R2} (d:IxR X r) (e:PE X a ta) (f:PE X b tb) (g:EB b:=by exact λ_ _=>rfl):PE X (.Subscript a b pos) (VG r ta tb):=by intro c s σ H Q I h;exact Subscript_ (Ha e f I h λv u k x y l m n o q=>d a b c k σ l x y v u Q m n o q (g _ _))
noncomputable def BC (K:W.Frag):R2:=λx y H Q=>∃ p xs i v,x=.ref p/\y=.int i/\SR K H p xs/\YZ xs i=some v/\Q v H
noncomputable def sD (K:W.Frag):R2:=λx y H Q=>∃ p xs i v,x=.ref p/\y=.int i/\Ti K H p xs/\YZ xs i=some v/\Q v H
theorem bX:IxR X (BC X.K):=by
 intro f g c s σ H x y v u Q I A B h m;obtain ⟨p,xs,i,z,rfl,rfl,C,D,q⟩:=h;cases A;obtain ⟨t,rfl⟩:=B;obtain ⟨its,r,pl,L⟩:=I.list C;obtain ⟨j,e,E,M,F,G⟩:=zL D;obtain ⟨w,n,k⟩:=r.get E;have J:=r.length;have N:=mR;have d:EP X c σ Q w s:=⟨z,H,I,k,q⟩
 by_cases o:0<=i
 ·have l:i.toNat=j:=by
   rw [seqIndex_of o G] at e;exact Qg e
  exact item_listR pl.isList o (by lia) (by rw [l];simpa using n) d m
 ·have l:(i+(its.toArray.size:Int)).toNat=j:=by
   rw [seqIndex_neg (by lia) F] at e;rw [PC,<- J];exact Qg e
  exact subscriptTail_builtinR (x:=w) pl.isList.typeIs slot_list_getitem.lookup
   (wpAny_getItem_list_neg (Q:=λr s'=>r=w/\EP X c σ Q r s') pl.isList (by lia) (by rw [PC] <;> lia) (by lia) (by rw [l];simpa using n) ⟨rfl,d⟩) m
theorem aZ:IxR X (sD X.K):=by
 intro d e c s σ H x y v u Q I k l h m;obtain ⟨p,xs,i,z,rfl,rfl,n,o,q⟩:=h;cases k;obtain ⟨t,rfl⟩:=l;obtain ⟨its,r,pl,E⟩:=I.tuple n;obtain ⟨j,A,B,F,G,J⟩:=zL o;obtain ⟨w,C,f⟩:=r.get B;have D:=r.length;have L:=mR;have g:EP X c σ Q w s:=⟨z,H,I,f,q⟩
 exact subscriptTail_builtinR (x:=w) pl.typeIs slot_tuple_getitem.lookup
  (getItem_tuple (j:=j) (Q:=λr s'=>r=w/\EP X c σ Q r s') pl (by lia) (by lia) (by rw [PC,<- D];exact A) (by simpa using C) ⟨rfl,g⟩) m
theorem yJ (its:List Value) (n j:Nat) (u:Value):Obj.mapSeq (·.setIfInBounds j u) { cls:=.type "list",data:=.seq its.toArray n }={ cls:=.type "list",data:=.seq (its.set j u).toArray n }:=by simp [Obj.mapSeq]
variable {pins:List (Addr × Obj)} {σ:St} {H:Hp} {s:Shared} {p:Addr} {xs:List V}
theorem Inv.lst (I:Inv X pins σ H s) (h:H p=some (.lst xs)) :
  ∃ (its:List Value) (n:Nat),Vals xs its/\s.heap.get? p=some { cls:=.type "list",data:=.seq its.toArray n }/\xs.length<=sizeLine:=by
 obtain ⟨z,its,n,r,e⟩:=I.hok p _ h;exact ⟨its,n,r,e,z⟩
theorem Inv.lstUpd {ys:List V} {its its':List Value} {n c:Nat} {f:Obj->Obj} (I:Inv X pins σ H s) (h:H p=some (.lst xs))
  (g:s.heap.get? p=some { cls:=.type "list",data:=.seq its.toArray n }) (d:f { cls:=.type "list",data:=.seq its.toArray n }={ cls:=.type "list",data:=.seq its'.toArray c }) (r:Vals ys its') (k:ys.length<=sizeLine) (t:Nat) :
  Inv X pins σ (upd H p (.lst ys)) { s with heap:=s.heap.update p f,toks:=t }:=by
 have e:(s.heap.update p f).get? p=some { cls:=.type "list",data:=.seq its'.toArray c }:=by rw [Heap.get?_update_self f g (by rw [d] <;> rfl),d]
 refine I.write (x:=p) (e:=p) (by rw [h];trivial) (.inl rfl) (λb u l q=>(Heap.get?_update_other _ _ (PN l)).trans q) ⟨_,e⟩ ?_;exact ⟨k,its',c,r,e⟩
noncomputable def Jf:V->V->V->Hp->(Hp->Prop)->Prop:=λo i v H Q=>∃ p xs k j,o=.ref p/\i=.int k/\H p=some (.lst xs)/\YM xs.length k=some j/\Q (upd H p (.lst (xs.set j v)))
theorem nN:GI X Jf:=by
 intro pins s σ H o i v C D u Q I x y z h;obtain ⟨p,xs,k,j,rfl,rfl,f,A,q⟩:=h;cases x;obtain ⟨t,rfl⟩:=y;obtain ⟨its,n,r,d,B⟩:=I.lst f;obtain ⟨c,E,g,l⟩:=uP A;have e:=r.length;have F:=mR
 have m:Inv X pins σ (upd H p (.lst (xs.set j v))) { s with heap:=s.heap.update p (Obj.mapSeq (·.setIfInBounds j u)) } :=
  I.lstUpd f d (yJ its n j u) (r.set z j) (by rw [List.length_set];exact B) s.toks
 by_cases w:0<=k
 ·have hk:k.toNat=j:=by
   rw [seqIndex_of w l] at c;exact Qg c
  exact W.ki_setAt d w (by lia) (by rw [PC,<- e];exact l) (by rw [hk];exact ⟨_,m,q⟩)
 ·have hk:(k+(its.toArray.size:Int)).toNat=j:=by
   rw [seqIndex_neg (by lia) g] at c;rw [PC,<- e];exact Qg c
  exact W.ki_setBack d (by lia) (by rw [PC,<- e];exact g) (by lia) (by rw [hk];exact ⟨_,m,q⟩)
theorem vY (lo hi:Option Int) (n:Nat):(sliceBounds lo hi none n).1=((HT.Uq n 0 lo:Nat):Int)/\(sliceBounds lo hi none n).2.1=((HT.Uq n n hi:Nat):Int)/\(sliceBounds lo hi none n).2.2=1:=by
 refine ⟨?_,?_,rfl⟩
 ·cases lo with
  | none=>simp [sliceBounds,HT.Uq]
  | some i =>
   simp only [sliceBounds,HT.Uq,Option.getD_none,show (1:Int) > 0 by decide,RO];by_cases h:i < 0
   ·simp only [h,RO] <;> lia
   ·simp only [h,SD] <;> lia
 ·cases hi with
  | none=>simp [sliceBounds,HT.Uq]
  | some i =>
   simp only [sliceBounds,HT.Uq,Option.getD_none,show (1:Int) > 0 by decide,RO];by_cases h:i < 0
   ·simp only [h,RO] <;> lia
   ·simp only [h,SD] <;> lia
theorem sE (its:List Value) (lo hi:Option Int):slicePick its.toArray lo hi none=((its.drop (HT.Uq its.length 0 lo)).take (HT.Uq its.length its.length hi - HT.Uq its.length 0 lo)).toArray:=by obtain ⟨c,d,e⟩:=vY lo hi its.toArray.size;unfold slicePick;rw [c,d,e];simp only [sliceRange_one,pick_run,PC] <;> rfl
noncomputable def Jg (K:W.Frag):V->Option Int->Option Int->Hp->VK->Prop:=λx lo hi H Q=>∃ a xs,x=.ref a/\SR K H a xs/\∀ p,H p=none->Q (.ref p) (upd H p (.lst (sf xs lo hi)))
theorem AJ:SlR X (Jg X.K):=by intro pins s σ H x v m n lo hi t Q I e f pl g h;obtain ⟨a,xs,rfl,k,q⟩:=h;cases e;obtain ⟨its,r,d,l⟩:=I.list k;have c:=r.length;refine ⟨"list",_,slot_list_getitem.lookup,d.isList.typeIs,?_⟩;refine wpAny_getItem_list_slice d.isList f pl g .none (by simp) ?_ (by rw [PC] <;> lia);rw [sE,<- c];refine ⟨.ref s.heap.objs.size,_,I.laid (t':=s.toks) (o:=.lst (sf xs lo hi)) (λb u q=>Ph _ q) (Pu _) ?_,rfl,q _ (I.hok.fresh (Pu _))⟩;exact ⟨Qf (oU xs lo hi) l,_,0,(r.drop (HT.Uq xs.length 0 lo)).take (HT.Uq xs.length xs.length hi - HT.Uq xs.length 0 lo),P6 _ rfl⟩
noncomputable def lg:V->Bool
 | .SO=>true
 | .bl _=>true
 | .int _=>true
 | .str _=>true
 | _=>false
noncomputable def Zl:V->V->Bool
 | .SO,.SO=>true
 | .bl a,.bl b=>a == b
 | .bl a,.int b=>(if a then 1 else 0) == b
 | .int a,.bl b=>a == (if b then 1 else 0)
 | .int a,.int b=>a == b
 | .str a,.str b=>a == b
 | _,_=>false
variable {A:Around} {y x:V} {u v:Value}
theorem Hj (d:RelV y u) (c:RelV x v) (f:lg y=true) (e:lg x=true):SeqAt.EqAt A s u v (Zl y x):=by
 cases y with
 | SO =>
  cases d
  cases x with
  | SO=>cases c;exact SeqAt.EqAt.same _
  | bl b=>cases c;exact SeqAt.EqAt.none_bool b
  | int b=>obtain ⟨t,rfl⟩:=c;exact SeqAt.EqAt.none_int b t
  | str b=>obtain ⟨t,rfl⟩:=c;exact SeqAt.EqAt.none_str b t
  | _=>exact absurd (show false=true from e) Pp
 | bl a =>
  cases d
  cases x with
  | SO=>cases c;exact SeqAt.EqAt.bool_none a
  | bl b=>cases c;exact SeqAt.EqAt.bool_bool a b
  | int b=>obtain ⟨t,rfl⟩:=c;exact SeqAt.EqAt.bool_int a b t
  | str b=>obtain ⟨t,rfl⟩:=c;exact SeqAt.EqAt.bool_str a b t
  | _=>exact absurd (show false=true from e) Pp
 | int a =>
  obtain ⟨t',rfl⟩:=d
  cases x with
  | SO=>cases c;exact SeqAt.EqAt.int_none a t'
  | bl b=>cases c;exact SeqAt.EqAt.int_bool a t' b
  | int b=>obtain ⟨t,rfl⟩:=c;exact SeqAt.EqAt.int_int a t' b t
  | str b=>obtain ⟨t,rfl⟩:=c;exact Sk a t' b t
  | _=>exact absurd (show false=true from e) Pp
 | str a =>
  obtain ⟨t',rfl⟩:=d
  cases x with
  | SO=>cases c;exact SeqAt.EqAt.str_none a t'
  | bl b=>cases c;exact SeqAt.EqAt.str_bool a t' b
  | int b=>obtain ⟨t,rfl⟩:=c;exact Sl a t' b t
  | str b=>obtain ⟨t,rfl⟩:=c;exact SeqAt.EqAt.str_str a t' b t
  | _=>exact absurd (show false=true from e) Pp
 | _=>exact absurd (show false=true from f) Pp
noncomputable def YN (x:V) (u:Value):Bool:=match u with
 | .none=>Zl .SO x
 | .bool b=>Zl (.bl b) x
 | .int i _=>Zl (.int i) x
 | .str z _=>Zl (.str z) x
 | _=>false
theorem Cy (r:RelV y u) (f:lg y=true):YN x u=Zl y x:=by
 cases y with
 | SO=>cases r;rfl
 | bl b=>cases r;rfl
 | int i=>obtain ⟨t,rfl⟩:=r;rfl
 | str z=>obtain ⟨t,rfl⟩:=r;rfl
 | _=>exact absurd (show false=true from f) Pp
theorem m4:∀ {xs:List V} {us:List Value},Vals xs us->xs.all lg=true->us.any (YN x)=xs.any λy=>Zl y x
 | _,_,.nil,_=>rfl
 | y::xs,u::us,.cons r t,f=>by rw [List.all_cons,Pz] at f;rw [QL,QL,Cy r f.1,m4 t f.2]
theorem lB (c:RelV x v) (d:lg x=true):∀ {xs:List V} {us:List Value},Vals xs us->xs.all lg=true->∀ u ∈ us,SeqAt.EqAt A s u v (YN x u)
 | _,_,.nil,_=>λu hu=>by cases hu
 | y::xs,u::us,.cons r t,f=>λe hu=>by
  rw [List.all_cons,Pz] at f;rcases PB.mp hu with rfl | hu
  ·rw [Cy r f.1];exact Hj r c f.1 d
  ·exact lB c d t f.2 e hu
noncomputable def Zv (x:V) (xs:List V):Bool:=xs.any λy=>Zl y x
noncomputable def rIn (K:W.Frag) (c:Bool):R2:=λx y H Q=>∃ p xs,y=.ref p/\(SR K H p xs\/Ti K H p xs)/\lg x=true/\xs.all lg=true/\Q (.bl (if c then !Zv x xs else Zv x xs)) H
theorem eO:VX X (compareOp .In) (rIn X.K false):=by
 intro pins s σ H x y v u Q I d f h;obtain ⟨p,xs,rfl,hq,e,fs,q⟩:=h;cases f;rcases hq with hq | hq
 ·obtain ⟨its,r,pl,g⟩:=I.list hq;refine SeqAt.in_listAt (YN x) pl.isList (λw c=>lB d e r fs w (by simpa using c)) ⟨.bl _,H,I,rfl,?_⟩;rw [show its.toArray.any (YN x)=its.any (YN x) by simp,m4 r fs];exact q
 ·obtain ⟨its,r,pl,g⟩:=I.tuple hq;refine SeqAt.in_tupleAt (YN x) pl (λw c=>lB d e r fs w (by simpa using c)) ⟨.bl _,H,I,rfl,?_⟩;rw [show its.toArray.any (YN x)=its.any (YN x) by simp,m4 r fs];exact q
theorem nD:VX X (compareOp .NotIn) (rIn X.K true):=by
 intro pins s σ H x y v u Q I d f h;obtain ⟨p,xs,rfl,hq,e,fs,q⟩:=h;cases f;rcases hq with hq | hq
 ·obtain ⟨its,r,pl,g⟩:=I.list hq;refine SeqAt.notIn_listAt (YN x) pl.isList (λw c=>lB d e r fs w (by simpa using c)) ⟨.bl _,H,I,rfl,?_⟩;rw [show its.toArray.any (YN x)=its.any (YN x) by simp,m4 r fs];exact q
 ·obtain ⟨its,r,pl,g⟩:=I.tuple hq;refine SeqAt.notIn_tupleAt (YN x) pl (λw c=>lB d e r fs w (by simpa using c)) ⟨.bl _,H,I,rfl,?_⟩;rw [show its.toArray.any (YN x)=its.any (YN x) by simp,m4 r fs];exact q
theorem aW:jz X (.builtin "len") (λxs H Q=>∃ p ys,xs=[.ref p]/\(SR X.K H p ys\/Ti X.K H p ys)/\Q (.int ys.length) H):=by
 intro pins s σ H xs us Q I r h;obtain ⟨p,ys,rfl,hq,q⟩:=h;obtain ⟨u,rfl,e⟩:=jd r;cases e;have g:=mR;rcases hq with hq | hq
 ·obtain ⟨its,d,pl,f⟩:=I.list hq;have c:=d.length;exact Calls.call_len_list pl.isList (by simp only [PC] <;> lia) ⟨.int ys.length,H,I.tok _,⟨s.toks+1,by rw [PC,c]⟩,q⟩
 ·obtain ⟨its,d,pl,f⟩:=I.tuple hq;have c:=d.length;exact len_tuple pl (by simp only [PC] <;> lia) ⟨.int ys.length,H,I.tok _,⟨s.toks+1,by rw [PC,c]⟩,q⟩
theorem um:jz X (.builtin "len") (λxs H Q=>∃ z,xs=[.str z]/\z.length<=sizeLine/\Q (.int z.length) H):=by intro pins s σ H xs us Q I r h;obtain ⟨z,rfl,c,q⟩:=h;obtain ⟨u,rfl,t,rfl⟩:=jd r;have d:=mR;exact len_str (by lia) ⟨.int z.length,H,I.tok _,⟨_,rfl⟩,q⟩
theorem uo:jz X (.type "list") (λxs H Q=>∃ p ys,xs=[.ref p]/\(SR X.K H p ys\/Ti X.K H p ys)/\∀ l,H l=none->Q (.ref l) (upd H l (.lst ys))):=by
 intro pins s σ H xs us Q I r h;obtain ⟨p,ys,rfl,hq,q⟩:=h;obtain ⟨u,rfl,D⟩:=jd r;cases D
 have f:∀ (its:List Value),Vals ys its->ys.length<=sizeLine->∀ (h':Heap) (c:Nat),(∀ b C,s.heap.get? b=some C->h'.get? b=some C) ->
   h'.get? s.heap.objs.size=some { cls:=.type "list",dict:=none,data:=.seq its.toArray c,slots:=#[] }->EP X pins σ Q (.ref s.heap.objs.size) { s with heap:=h' }:=λits d g h' c k e =>
  ⟨.ref s.heap.objs.size,_,I.laid (t':=s.toks) k (Pu _) (show Td X.prog X.w _ h' _ (.lst ys) from ⟨g,its,c,d,e⟩),rfl,q _ (I.hok.fresh (Pu _))⟩
 rcases hq with hq | hq
 ·obtain ⟨its,d,pl,g⟩:=I.list hq;have m:=d.length;obtain ⟨o,t,z,n,B⟩:=pl.isList;exact call_list_seq p (.inl rfl) t z B (λh' c k e=>f its d g h' c k e) (by simp only [PC] <;> lia)
 ·obtain ⟨its,d,pl,g⟩:=I.tuple hq;have m:=d.length;obtain ⟨o,t,z,n,B⟩:=pl;exact call_list_seq p (.inr rfl) t z B (λh' c k e=>f its d g h' c k e) (by simp only [PC] <;> lia)
theorem dY:jz X (.type "tuple") (λxs H Q=>∃ p ys,xs=[.ref p]/\((SR X.K H p ys/\∀ l,H l=none->Q (.ref l) (upd H l (.tup ys)))\/(Ti X.K H p ys/\Q (.ref p) H))):=by
 intro pins s σ H xs us Q I r h;obtain ⟨p,ys,rfl,h⟩:=h;obtain ⟨u,rfl,m⟩:=jd r;cases m;rcases h with ⟨c,q⟩ | ⟨c,q⟩
 ·obtain ⟨its,d,pl,f⟩:=I.list c;have g:=d.length;refine call_tuple_list pl.isList (λh' n=>?_) (by simp only [PC] <;> lia);have k:Inv X pins σ H { s with heap:=h' }:=I.kept (t':=s.toks) n
  have t:Inv X pins σ (upd H h'.objs.size (.tup ys)) { s with heap:=h'.push { cls:=.type "tuple",data:=.seq its.toArray } } :=
   k.laid (t':=s.toks) (λb o e=>Ph _ e) (Pu _) (show Td X.prog X.w _ _ _ (.tup ys) from ⟨f,its,d,Sn _ _⟩)
  exact ⟨.ref h'.objs.size,_,t,rfl,q _ (k.hok.fresh (Pu _))⟩
 ·obtain ⟨its,d,pl,f⟩:=I.tuple c;exact call_tuple_same pl ⟨.ref p,H,I,rfl,q⟩
noncomputable def tyV (K:W.Frag) (T:String) (x:V) (H:Hp):Prop:=match x with
 | .str _=>T="str"
 | .int _=>T="int"
 | .ref p=>(T="list"/\∃ xs,SR K H p xs)\/(T="tuple"/\∃ o,K.lookup p=some o/\o.cls=.type "tuple"/\o.dict=none) \/
   (T="dict"/\((∃ c,H p=some (.dK c))\/∃ c,H p=some (.dT c)))\/(T="set"/\∃ S n,H p=some (.set S n))
 | _=>False
theorem Er {T:String} (I:Inv X pins σ H s) (r:RelV x v) (d:tyV X.K T x H) :
  s.TypeIs v T/\∀ a,v=.ref a->∃ k,s.heap.get? a=some k/\k.dict=none:=by
 cases x with
 | str z =>obtain ⟨t,rfl⟩:=r;cases (show T="str" from d);exact ⟨typeIs_str s z t,λ_ e=>nomatch e⟩
 | int i =>obtain ⟨t,rfl⟩:=r;cases (show T="int" from d);exact ⟨typeIs_int s i t,λ_ e=>nomatch e⟩
 | ref p =>
  cases r;rcases d with ⟨rfl,xs,l⟩ | ⟨rfl,o,hk,m,f⟩ | ⟨rfl,hk⟩ | ⟨rfl,S,n,hk⟩
  ·obtain ⟨its,_,pl,_⟩:=I.list l;refine ⟨pl.isList.typeIs,λa e=>?_⟩;cases e;obtain ⟨o,n,e,c,f,_⟩:=pl;exact ⟨o,e,f⟩
  ·refine ⟨⟨o,I.Wc p o hk,m⟩,λa e=>?_⟩;cases e;exact ⟨o,I.Wc _ o hk,f⟩
  ·have z:∃ o,s.heap.get? p=some o/\o.ExactDict:=by
    rcases hk with ⟨g,hk⟩ | ⟨g,hk⟩
    ·obtain ⟨_,_,_,_,o,_,_,e,ex,_⟩:=I.hok p _ hk;exact ⟨o,e,ex⟩
    ·obtain ⟨_,_,_,_,o,_,_,e,ex,_⟩:=I.hok p _ hk;exact ⟨o,e,ex⟩
   obtain ⟨o,e,ex⟩:=z;refine ⟨⟨o,e,ex.1⟩,λa h=>?_⟩;cases h;exact ⟨o,e,ex.2.1⟩
  ·obtain ⟨o,_,_,_,e,ex,_⟩:=I.hok p _ hk;refine ⟨⟨o,e,ex.1⟩,λa h=>?_⟩;cases h;exact ⟨o,e,ex.2.1⟩
 | _=>exact False.elim d
noncomputable def Iq (K:W.Frag) (T:String) (r:V->List V->Hp->VK->Prop) (to:TE):TE:=λσ H Q=>to σ H λx c=>tyV K T x c/\r x [] c Q
noncomputable def Z6 (K:W.Frag) (T:String) (r:V->List V->Hp->VK->Prop) (to:TE) (t:TA):TE:=λσ H Q=>to σ H λx c=>tyV K T x c/\t σ c λxs d=>r x xs d Q
variable {o e:Expr} {es:List Expr} {to:TE} {t:TA} {name:Str} {apos cpos:Pos} {T id:String} {r:V->List V->Hp->VK->Prop}
theorem lJ (l:PlainAttrs T) (slot:Slot T name id) (f:typeOf (.builtin id)=pure (.type "method_descriptor")) (m:MtR X id r) (n:PE X o to)
  (c:attributeBase o name X.env (eval o X.env)=eval o X.env:=by rfl) (d:(apos.endLine == cpos.line)=true:=by rfl):PE X (.Call (.Attribute o name apos) [] [] cpos) (Iq X.K T r to):=by
 intro pins s σ H Q I h;refine wpAny_Call_method0_late c d (S1 (n pins s σ H _ I h) λv s1 ⟨x,q,g,k,w,z⟩=>?_);obtain ⟨B,C⟩:=Er g k w;exact ⟨T,id,l,slot,f,B,C,R0 rfl (PySem.evalArgs_none (m pins s1 σ q x [] v [] Q g k .nil z))⟩
theorem fF (q:PlainAttrs T) (slot:Slot T name id) (k:typeOf (.builtin id)=pure (.type "method_descriptor")) (w:MtR X id r) (z:PE X o to) (B:PA X (e::es) t)
  (d:attributeBase o name X.env (eval o X.env)=eval o X.env:=by rfl)
  (g:((backTo cpos (starEach (e::es) X.env)).all (λx=>!x.1) && (backToKw cpos (keywordEach [] X.env)).all (λx=>x.1.isSome)
   && decide ((e::es).length+([]:List Keyword).length+(if ([]:List Keyword).isEmpty then 0 else 1) < 30))=true:=by rfl)
  (f:(apos.endLine == cpos.line)=true:=by rfl) (C:starEach (e::es) X.env=(false,eval e X.env)::starEach es X.env:=by rfl) (c:(backTo cpos (starEach es X.env)).any (·.1)=false:=by rfl) :
  PE X (.Call (.Attribute o name apos) (e::es) [] cpos) (Z6 X.K T r to t):=by
 intro pins s σ H Q I h;refine wpAny_Call_method_late d g f rfl (S1 (z pins s σ H _ I h) λv s1 ⟨x,D,l,m,E,F⟩=>?_);obtain ⟨G,J⟩:=Er l m E;refine ⟨T,id,q,slot,k,G,J,?_⟩;have n:=B cpos pins s1 σ D _ l F;rw [C] at n ⊢;refine R0 (by show (false || (backTo cpos (starEach es X.env)).any (·.1))=false;rw [c] <;> rfl) (Calls.evalArgs_plain ?_);exact S1 n λus L ⟨vs,M,N,O,P⟩=>w pins L σ M x vs v us Q N m O P
end
noncomputable def MtM (X:Cx) (id:String) (r:V->List V->Hp->VK->Prop):Prop :=
 ∀ (a:List (Addr × Obj)) (s:Shared) (σ:St) (H:Hp) (x:V) (xs:List V) (v:Value) (us:List Value) (Q:VK),Inv X a σ H s->RelV x v->Vals xs us->r x xs H Q ->
  wpAny (model X.prog X.w) X.A (call (.builtin id) (v::us)) (EP X a σ Q) X.xe s
theorem Vals.one:∀ {x:V} {us:List Value},Vals [x] us->∃ u,us=[u]/\RelV x u
 | _,_,.cons r .nil=>⟨_,rfl,r⟩
theorem Vals.zero:∀ {us:List Value},Vals [] us->us=[]
 | _,.nil=>rfl
theorem Vals.dropLast {xs:List V} {us:List Value} (h:Vals xs us):Vals xs.dropLast us.dropLast:=by
 induction h with
 | nil=>exact .nil
 | cons r t a =>
  cases t with
  | nil=>exact .nil
  | cons q t'=>exact .cons r a
theorem yy {α:Type} (l:List α):l.eraseIdx (l.length - 1)=l.dropLast:=by
 induction l with
 | nil=>rfl
 | cons a r c =>
  cases r with
  | nil=>rfl
  | cons b r =>
   have e:(a::b::r).length - 1=((b::r).length - 1)+1:=by have d:(a::b::r).length=r.length+2:=rfl;have f:(b::r).length=r.length+1:=rfl;lia
   rw [e,List.eraseIdx_cons_succ,c]
   all_goals rfl
section
variable {X:Cx} {pins:List (Addr × Obj)} {σ:St} {H:Hp} {s:Shared} {l b:Addr} {xs ys zs:List V}
variable {its:List Value} {n t':Nat}
theorem Inv.lset {its':List Value} {f:Array Value->Array Value} (I:Inv X pins σ H s) (a:H l=some (.lst xs))
  (e:s.heap.get? l=some { cls:=.type "list",data:=.seq its.toArray n }) (c:f its.toArray=its'.toArray) (d:Vals ys its') (g:ys.length<=sizeLine) :
  Inv X pins σ (upd H l (.lst ys)) { s with heap:=s.heap.update l (Obj.mapSeq f),toks:=t' }:=by
 have q:=PySem.IsL.update e f;rw [c] at q;refine I.write (x:=l) (e:=l) (by rw [a];exact trivial) (.inl rfl) (λm u h k=>(Heap.get?_update_other s.heap (Obj.mapSeq f) (PN h)).trans k) ⟨_,q⟩ ?_;exact ⟨g,its',_,d,q⟩
theorem Inv.lnew (I:Inv X pins σ H s) (a:Vals ys its) (c:ys.length<=sizeLine) :
  Inv X pins σ (upd H s.heap.objs.size (.lst ys)) { s with heap:=s.heap.push { cls:=.type "list",data:=.seq its.toArray },toks:=t' } :=
 I.laid (λ_ _ q=>Ph _ q) (Pu _) ⟨c,its,0,a,P6 _ rfl⟩
theorem Inv.fresh (I:Inv X pins σ H s):H s.heap.objs.size=none:=I.hok.fresh (Pu _)
theorem Inv.Zw (I:Inv X pins σ H s) (a:H l=some (.lst xs)):xs.length<=sizeLine/\∃ (its:List Value) (n:Nat),Vals xs its/\xs.length=its.length/\s.heap.get? l=some { cls:=.type "list",data:=.seq its.toArray n }:=by obtain ⟨z,its,n,r,e⟩:=I.hok l _ a;exact ⟨z,its,n,r,r.length,e⟩
theorem Di (h:n<=sizeLine):Builtin.List.listTooLong n=false:=by unfold Builtin.List.listTooLong;exact Po (by lia)
end
section
variable {X:Cx}
noncomputable def kH:V->List V->Hp->VK->Prop:=λx vs H Q=>∃ l xs y,x=.ref l/\vs=[y]/\H l=some (.lst xs)/\xs.length < sizeLine/\Q .SO (upd H l (.lst (xs++[y])))
theorem cC:MtM X "list.append" kH:=by intro a s σ H x vs v us Q I c d h;obtain ⟨l,xs,y,rfl,rfl,b,g,q⟩:=h;cases c;obtain ⟨u,rfl,f⟩:=d.one;obtain ⟨z,its,n,r,k,e⟩:=I.Zw b;refine call_meets P7 ⟨_,e,rfl⟩ F.entry_list_append (F.args_list_append_2 _ _) (PySem.list_append l its.toArray n u (by rw [PC];lia)) ⟨e,?_⟩;refine ⟨.SO,_,I.lset (its':=its++[u]) b e (by simp) (r.append (.cons f .nil)) ?_,rfl,q⟩;rw [tB,R7];lia
noncomputable def AB:V->List V->Hp->VK->Prop:=λx vs H Q=>∃ l b xs zs,x=.ref l/\vs=[.ref b]/\H l=some (.lst xs)/\H b=some (.lst zs)/\xs.length+zs.length<=sizeLine/\Q .SO (upd H l (.lst (xs++zs)))
theorem ki:MtM X "list.extend" AB:=by
 intro f s σ H x vs v us Q I k m h;obtain ⟨l,b,xs,zs,rfl,rfl,g,o,A,q⟩:=h;cases k;obtain ⟨u,rfl,p⟩:=m.one;cases p;obtain ⟨z,its,n,r,B,e⟩:=I.Zw g;obtain ⟨C,a,t,w,hl2,y⟩:=I.Zw o;have d:its.toArray.size+a.toArray.size<=sizeLine:=by rw [PC,PC];lia
 have c:¬ (!its.toArray.isEmpty && Builtin.List.listTooLong (its.toArray.size+a.toArray.size))=true:=by rw [Di d,Qo];exact Pp
 refine call_meets Ra ⟨_,e,rfl⟩ F.entry_list_extend (F.args_list_extend_2 _ _)
  (AutoSeq1.list_extend_list_list_0 l its.toArray n b a.toArray t c (by rw [PC];lia) (by lia)) ⟨e,y,?_⟩
 refine ⟨.SO,_,I.lset (its':=its++a) g e (by simp) (r.append w) ?_,rfl,q⟩;rw [tB];lia
noncomputable def DF:V->List V->Hp->VK->Prop:=λx vs H Q=>∃ l xs y,x=.ref l/\vs=[]/\H l=some (.lst xs)/\xs[xs.length - 1]?=some y/\Q y (upd H l (.lst xs.dropLast))
theorem lD:MtM X "list.pop" DF:=by
 intro c s σ H x vs v us Q I f g h;obtain ⟨l,xs,y,rfl,rfl,d,k,q⟩:=h;cases f;have a:=g.zero;subst a;obtain ⟨z,its,n,r,m,e⟩:=I.Zw d;obtain ⟨u,o,p⟩:=r.get k
 have b:its.toArray[its.toArray.size - 1]?=some u:=by show its.toArray[its.length - 1]?=some u;rw [<- Array.getElem?_toList,<- m];exact o
 refine call_meets QM ⟨_,e,rfl⟩ F.entry_list_pop (F.args_list_pop_1 _) (MeetsSeq.list_pop_last l its.toArray n u b (by rw [PC];lia)) ⟨e,?_⟩;refine ⟨y,_,I.lset (its':=its.dropLast) d e ?_ r.dropLast ?_,p,q⟩
 ·show its.toArray.eraseIdxIfInBounds (its.toArray.size - 1)=its.dropLast.toArray;rw [PC,List.eraseIdxIfInBounds_toArray,yy]
 ·rw [List.length_dropLast];lia
end
section
variable {prog:Program} {w:World} {A:Around} {E:Value->Shared->Prop} {s:Shared}
end
section
variable {X:Cx}
end
section
variable {κ:Type} [DecidableEq κ]
noncomputable def mY (a:List (κ × V)) (k:κ):Option V:=(a.find? λb=>decide (b.1=k)).map (·.2)
noncomputable def xO (a:List (κ × V)) (k:κ) (v:V):List (κ × V) :=
 if (a.any λb=>decide (b.1=k))=true then a.map (λb=>if b.1=k then (b.1,v) else b) else a++[(k,v)]
theorem ye {p:κ × V} {r:List (κ × V)} {k:κ} (e:p.1=k):mY (p::r) k=some p.2:=by simp [mY,Ru,e]
theorem yd {p:κ × V} {r:List (κ × V)} {k:κ} (e:¬ p.1=k):mY (p::r) k=mY r k:=by simp [mY,Ru,e]
theorem xm (a:List (κ × V)) (k:κ) (v:V):(xO a k v).length<=a.length+1:=by
 unfold xO;split
 ·rw [Pf];lia
 ·rw [tB,Pr,Qm];lia
theorem KV.val {a:List (κ × V)} {vs:List (κ × Value)} (r:KV a vs) (k:κ):WD (mY a k) (valueAt vs k):=by
 unfold KV at r
 induction r with
 | nil=>exact True.intro
 | @cons p q ps c h t g =>
  obtain ⟨f,l⟩:=h;by_cases e:p.1=k
  ·have d:q.1=k:=f.symm.trans e;have b:valueAt (q::c) k=some q.2:=by simp [valueAt,Ru,d]
   rw [ye e,b];exact l
  ·have d:¬ q.1=k:=λz=>e (f.trans z);have b:valueAt (q::c) k=valueAt c k:=by simp [valueAt,Ru,d]
   rw [yd e,b];exact g
theorem KV.any {a:List (κ × V)} {vs:List (κ × Value)} (r:KV a vs) (k:κ):(a.any λb=>decide (b.1=k))=vs.any λb=>decide (b.1=k):=by
 unfold KV at r
 induction r with
 | nil=>rfl
 | cons h t c=>rw [QL,QL,c,h.1]
variable {y:V} {u:Value}
theorem KV.repl {b:List (κ × V)} {vs:List (κ × Value)} (r:KV b vs) (k:κ) (d:RelV y u) :
  KV (b.map λa=>if a.1=k then (a.1,y) else a) (vs.map λa=>if a.1=k then (a.1,u) else a):=by
 unfold KV at r ⊢
 induction r with
 | nil=>exact .nil
 | @cons p q ps l h t f =>
  rw [PD,PD];refine .cons ?_ f;obtain ⟨c,g⟩:=h;by_cases e:p.1=k
  ·rw [Pk e,Pk (c.symm.trans e)];exact ⟨c,d⟩
  ·rw [M1 e,M1 (λz=>e (c.trans z))];exact ⟨c,g⟩
theorem KV.put {a:List (κ × V)} {vs:List (κ × Value)} (r:KV a vs) (k:κ) (b:RelV y u):KV (xO a k y) (stored vs k u):=by
 unfold xO stored;rw [r.any k];by_cases e:(vs.any λc=>decide (c.1=k))=true
 ·rw [Pk e,Pk e];exact r.repl k b
 ·rw [M1 e,M1 e];exact Paired.snoc r ⟨rfl,b⟩
end
variable {P:Program} {w:World}
theorem CV {k:Key} {u:Value} (r:RelV (kV k) u):(fX P w).is k u=true:=by
 cases k with
 | inl i=>obtain ⟨t,e⟩:=(show ∃ t,u=Value.int i t from r);subst e;exact xp P w i t
 | inr x=>obtain ⟨t,e⟩:=(show ∃ t,u=Value.str x t from r);subst e;exact xq P w x t
theorem tE:∀ {a:List Key} {us:List Value},Vals (a.map kV) us->ItemsAre (fX P w) a us
 | [],_,r=>by rw [SE] at r;cases r;exact .nil
 | k::a,_,r=>by
  rw [PD] at r
  cases r with
  | cons h t=>exact .cons (CV h) (tE t)
noncomputable abbrev KT (H:Hp):List (List Key × V)->List (List Key × Addr × Value)->Prop:=Paired λp q=>p.1=q.1/\H q.2.1=some (.tup (p.1.map kV))/\RelV p.2 q.2.2
variable {H:Hp}
theorem KT.val {a:List (List Key × V)} {xs:List (List Key × Addr × Value)} (r:KT H a xs) (k:List Key):WD (mY a k) ((atKey xs k).map (·.2)):=by
 induction r with
 | nil=>exact True.intro
 | @cons p q ps c h t g =>
  obtain ⟨f,_,l⟩:=h;by_cases e:p.1=k
  ·have d:q.1=k:=f.symm.trans e;have b:atKey (q::c) k=some q.2:=by simp [atKey,Ru,d]
   rw [ye e,b];exact l
  ·have d:¬ q.1=k:=λz=>e (f.trans z);have b:atKey (q::c) k=atKey c k:=by simp [atKey,Ru,d]
   rw [yd e,b];exact g
section
variable {P:Program} {w:World} {H:Hp} {h:Heap} {a:Addr}
theorem Gu {u:HO} (ok:WE P w H h) (e:Rd H a u):Td P w H h a u:=e.ok ok
variable {kvs:List (Key × V)}
theorem Cw (ok:WE P w H h) (e:Rd H a (.dK kvs)):kvs.length<=sizeLine/\(a == sysModules)=false/\∃ vs,KV kvs vs/\h.DictOf (fX P w) a vs :=
 show Td P w H h a (.dK kvs) from Gu ok e
theorem IK (ok:WE P w H h) (e:H a=some (.dK kvs)):kvs.length<=sizeLine/\(a == sysModules)=false/\∃ vs,KV kvs vs/\h.DictOf (fX P w) a vs:=Cw ok (.inl e)
theorem CW {b:List Key} (ok:WE P w H h) (e:H a=some (.tup (b.map kV))):(tupleKind (fX P w)).is h b a:=by
 obtain ⟨_,its,r,o,c,d,n,f⟩:=(show Td P w H h a (.tup (b.map kV)) from ok a _ e)
 exact ⟨o,its.toArray,n,c,d,f,by simpa using tE r⟩
theorem Gi {kvs:List (List Key × V)} (ok:WE P w H h) (e:Rd H a (.dT kvs)):kvs.length<=sizeLine/\(a == sysModules)=false /\
  ∃ xs,KT H kvs xs/\h.DictOfH (tupleKind (fX P w)) a xs:=by
 obtain ⟨z,y,xs,r,o,es,c,d,f,g,k,n⟩:=(show Td P w H h a (.dT kvs) from Gu ok e)
 refine ⟨z,y,xs,r,o,es,c,d,f,g,k,λx hx=>?_,n⟩
 have all:∀ {l:List (List Key × V)} {m:List (List Key × Addr × Value)},KT H l m->∀ x ∈ m,(tupleKind (fX P w)).is h x.1 x.2.1:=by
  intro l m q
  induction q with
  | nil=>intro x hx;exact nomatch hx
  | @cons p q ps u b t s =>
   intro x hx;rcases PB.mp hx with e | hx
   ·subst e;exact CW ok (by rw [<- b.1];exact b.2.1)
   ·exact s x hx
 exact all r x hx
end
noncomputable def Yt (H:Hp) (a:Addr) (y:V) (r:Option V):Prop :=
 (∃ c k,Rd H a (.dK c)/\y=kV k/\r=mY c k)\/∃ c k b,Rd H a (.dT c)/\y=.ref b/\H b=some (.tup (k.map kV))/\r=mY c k
variable {a:Addr}
theorem Yt.k {b:List (Key × V)} {k:Key} (e:H a=some (.dK b)):Yt H a (kV k) (mY b k):=.inl ⟨b,k,.inl e,rfl,rfl⟩
section
variable {X:Cx} {pins:List (Addr × Obj)} {σ:St} {H:Hp} {s:Shared} {a:Addr} {y v:V} {u r:Value} {o:Option V} {A:Around} {E:Value->Shared->Prop}
theorem Inv.big (I:Inv X pins σ H s):sysModules < s.heap.objs.size:=by have h:mainGlobals < s.heap.objs.size:=(I.mod.glob.keeps I.bk).lt;exact SG (by decide) h
theorem A3 {Q:Value->Shared->Prop} (C:A.units+1 < cLine) (I:Inv X pins σ H s) (g:Yt H a y (some v)) (B:RelV y u) (h:∀ f s',Inv X pins σ H s'->RelV v f->Q f s') :
  wpAny (model X.prog X.w) A (getItem (.ref a) u) Q E s:=by
 rcases g with ⟨m,k,e,n,l⟩ | ⟨m,k,b,e,n,D,l⟩
 ·subst n;obtain ⟨z,F,vs,c,q⟩:=Cw I.hok e;obtain ⟨f,t,d⟩:=WD.some_of (v:=v) (o:=valueAt vs k) (by rw [l];exact c.val k);exact wpAny_getItem_of (CV B) q.mapOf t (h f _ (I.tok _) d)
 ·subst n;cases (show u=Value.ref b from B);obtain ⟨z,F,xs,c,q⟩:=Gi I.hok e;obtain ⟨f,t,d⟩:=WD.some_of (v:=v) (o:=(atKey xs k).map (·.2)) (by rw [l];exact c.val k);obtain ⟨p,G,x⟩:=PX.mp t;refine wpAny_getItem_heap (tupleKind_room_in1 C) (CW I.hok D) q G ?_;rw [x];exact h f _ (I.tok _) d
variable {h':Heap}
theorem EK {t':Nat} {c:HO} (I:Inv X pins σ H s) (f:Mut (H a)) (g:Heap.SameBut a s.heap h') (h:∃ q,h'.get? a=some q) (d:Td X.prog X.w (upd H a c) h' a c) :
  Inv X pins σ (upd H a c) { s with heap:=h',toks:=t' } :=
 I.write (x:=a) (e:=a) f (.inl rfl) (λb q k z=>(g.2 b k).trans z) h d
theorem Hi {P:Program} {w:World} {d:Hp} {b:List (Key × V)} {vs:List (Key × Value)} (z:b.length<=sizeLine) (e:(a == sysModules)=false) (c:KV b vs) (f:h'.DictOf (fX P w) a vs) :
  Td P w d h' a (.dK b):=⟨z,e,vs,c,f⟩
end
section
variable {X:Cx} {pins:List (Addr × Obj)} {σ:St} {H:Hp} {s:Shared} {a:Addr} {kvs:List (Key × V)} {k:Key} {u:Value} {A:Around} {E:Value->Shared->Prop}
end
noncomputable def ID (i:Expr):Prop:=∀ b c,subscripted i false b c=operate [b,c] (getItem b c)
variable {s:Shared} {pos:Pos}
theorem F4 {prog:Program} {A:Around} {E:Value->Shared->Prop} {env:Env} {c b:Expr} {T id:String} {Q:Value->Shared->Prop}
  (f:typeLookup (.type T) "__getitem__"=pure (some (.builtin id))) (g:ID b)
  (h:wpAny (model prog w) A (eval c env) (λo s₁=>wpAny (model prog w) A (eval b env) (λi s₂=>s₂.TypeIs o T/\wpAny (model prog w) A (getItem o i) Q E s₂) E s₁) E s) :
  wpAny (model prog w) A (eval (.Subscript c b pos) env) Q E s:=by
 refine Subscript_ (RJ h (λo s₁ h₁=>RJ h₁ (λi s₂ h₂=>?_) λ_ _ x=>x) λ_ _ x=>x);obtain ⟨e,h₂⟩:=h₂;unfold subscriptTail;refine Pj ?_;rw [getitemInPython_of_ne e.not_modules];refine Pj (wpAny_specialOf e f ?_)
 have d:wpAny (model prog w) A (subscripted b false o i) (λr s₃=>wpAny (model prog w) A (letTemporaryGo c o r >>= λ_=>pure r) Q E s₃) E s₂:=by rw [g o i];exact wpAny_operating (RJ h₂ (λr s₃ h₃=>Pj (wpAny_letTemporaryGo (PF h₃))) λ_ _ x=>x)
 first
  | exact PF (Pj d)
  | exact Pj (PF (Pj d))
  | exact Pj d
variable {X:Cx}
theorem wR {c:List (Addr × Obj)} {σ:St} {y:V} {o:Option V} (I:Inv X c σ H s) (g:Yt H a y o):s.TypeIs (.ref a) "dict":=by
 rcases g with ⟨d,k,e,_,_⟩ | ⟨d,k,b,e,_,_,_⟩
 ·obtain ⟨_,_,vs,_,f⟩:=Cw I.hok e;exact f.typeIs
 ·obtain ⟨_,_,xs,_,f⟩:=Gi I.hok e;exact f.typeIs
noncomputable def GE (c d:TE):TE:=λσ H Q=>c σ H λx e=>d σ e λy b=>∃ a v,x=.ref a/\Yt b a y (some v)/\Q v b
section
variable {X:Cx} {o i e value:Expr} {pos pos' tpos:Pos} {td ty tv:TE}
theorem pN (f:X.A.units+1 < cLine) (k:PE X o td) (hi:PE X i ty) (l:ID i):PE X (.Subscript o i pos) (GE td ty):=by intro b s σ H Q I h;refine F4 F.slot_dict_getitem.lookup l (S1 (k b s σ H _ I h) λu s1 ⟨x,m,n,p,q⟩=>S1 (hi b s1 σ m _ n q) λC D ⟨y,r,d,t,a,v,ex,g,z⟩=>?_);subst ex;obtain rfl:u=Value.ref a:=p;exact ⟨wR d g,A3 f d g t λE G B c=>⟨v,r,B,c,z⟩⟩
end
theorem Cv (h:Heap) (b:sysModules < h.objs.size):Td P w H (h.push { cls:=.type "dict",data:=.dict #[] }) h.objs.size (.dK []) :=
 ⟨QA _,Rp.mpr (PN (Qe b)),[],.nil,Heap.DictOf.new h⟩
section
variable {X:Cx} {pos:Pos}
end
noncomputable def zA:List (TE × TE)->St->Hp->(List (V × V)->Hp->Prop)->Prop
 | [],_,H,Q=>Q [] H
 | (tk,b)::r,σ,H,Q=>tk σ H λx c=>b σ c λy d=>zA r σ d λps e=>Q ((x,y)::ps) e
noncomputable abbrev VV:List (V × V)->List (Value × Value)->Prop:=Paired λp q=>RelV p.1 q.1/\RelV p.2 q.2
noncomputable def PPs (X:Cx) (pos:Pos) (d:List (Option Expr)) (b:List Expr) (e:List (TE × TE)):Prop :=
 ∀ (c:List (Addr × Obj)) (s:Shared) (σ:St) (H:Hp) (Q:List (V × V)->Hp->Prop),Inv X c σ H s->zA e σ H Q ->
  wpAny (model X.prog X.w) X.A (evalPairs (pairTrees d b X.env pos)) (λvs s'=>∃ ps f,Inv X c σ f s'/\VV ps vs/\Q ps f) X.xe s
theorem FA:PPs X pos [] [] []:=λb s σ H Q I h=>pairTrees_nil_walk ⟨[],H,I,.nil,h⟩
variable {trs:List (TE × TE)}
theorem rf {k v:Expr} {d:List (Option Expr)} {vs:List Expr} {tk e:TE} (hk:PE X k tk) (f:PE X v e) (g:PPs X pos d vs trs) :
  PPs X pos (some k::d) (v::vs) ((tk,e)::trs):=λb s σ H Q I h =>
 pairTrees_cons_walk (S1 (hk b s σ H _ I h) λu s1 ⟨x,l,m,n,o⟩=>S1 (f b s1 σ l _ m o) λD p ⟨y,q,r,t,z⟩ =>
  S1 (g b p σ q _ r z) λE F ⟨ps,A,B,c,C⟩=>⟨(x,y)::ps,A,B,.cons ⟨n,t⟩ c,C⟩)
noncomputable def oi (c b:List (Key × V)):List (Key × V):=b.foldl (λd e=>xO d e.1 e.2) c
theorem KV.merge:∀ {b:List (Key × V)} {d:List (Key × Value)} {c:List (Key × V)} {vs:List (Key × Value)},KV b d->KV c vs->KV (oi c b) (merged vs d):=by
 intro b d c vs r;unfold KV at r
 induction r generalizing c vs with
 | nil=>intro q;exact q
 | @cons p q ps k h t f =>
  intro g
  have e:KV (xO c p.1 p.2) (stored vs q.1 q.2):=by have:=g.put p.1 h.2;rw [<- h.1];exact this
  exact f e
theorem my:∀ (c b:List (Key × V)),(oi b c).length<=b.length+c.length
 | [],b=>by show b.length<=b.length+0;lia
 | p::r,b=>by have d:=my r (xO b p.1 p.2);have e:=xm b p.1 p.2;show (oi (xO b p.1 p.2) r).length<=_;rw [Pr];lia
theorem qj {P:Program} {w:World}:∀ {d:List (Key × V)} {f:List (Value × Value)},VV (d.map λg=>(kV g.1,g.2)) f->∃ e,Carries (fX P w) f e/\KV d e
 | [],_,r=>by rw [SE] at r;cases r;exact ⟨[],True.intro,.nil⟩
 | p::d,_,r=>by
  rw [PD] at r
  cases r with
  | @cons a b as bs h t =>obtain ⟨e,c,q⟩:=qj (P:=P) (w:=w) t;obtain ⟨l,k⟩:=b;exact ⟨(p.1,k)::e,⟨CV h.1,rfl,c⟩,.cons ⟨rfl,h.2⟩ q⟩
noncomputable def Ju (trs:List (TE × TE)):TE:=λσ H Q=>∀ p,H p=none->zA trs σ (upd H p (.dK [])) λps c=>c p=some (.dK [])/\∃ b:List (Key × V),ps=b.map (λd=>(kV d.1,d.2))/\b.length<=15/\Q (.ref p) (upd c p (.dK (oi [] b)))
theorem Fo {b:List (Option Expr)} {d:List Expr} (h:PPs X pos b d trs) (f:b.all (·.isSome)=true) (r:b.length=d.length) (t:b≠[])
  (m:b.length<=15):PE X (.Dict b d pos) (Ju trs):=by
 intro g s σ H Q I q;have u:=I.hok.fresh (Pu s.heap.objs.size);have v:=I.laid (a:=s.heap.objs.size) (o:=.dK []) (h':=s.heap.push { cls:=.type "dict",data:=.dict #[] }) (t':=s.toks) (λ_ _ q=>Ph _ q) (Pu _) (Cv s.heap I.big);refine wpAny_Dict_walk (knd:=fX X.prog X.w) f r t m (S1 (h g _ σ _ _ v (q _ u)) λM N ⟨ps,O,p,n,e,k,x,lk,y⟩=>?_);subst x;obtain ⟨A,c,rk⟩:=qj (P:=X.prog) (w:=X.w) n;obtain ⟨z,B,C,D,E⟩:=IK p.hok e;cases D;refine ⟨A,c,E,λh' l F=>⟨.ref s.heap.objs.size,_,?_,rfl,y⟩⟩
 have G:(oi [] k).length<=sizeLine:=by have J:=my k [];rw [Qm] at J;rw [Rx];lia
 have K:∃ q,h'.get? s.heap.objs.size=some q:=let ⟨q,_,_,L,_⟩:=l;⟨q,L⟩;exact EK p (by rw [e];exact True.intro) F K (Hi G B (rk.merge .nil) l)
structure M2 (X:Cx) (o:Expr) (m:Str) (apos:Pos) (e f:Expr) (cpos:Pos):Prop where
 base:attributeBase o m X.env (eval o X.env)=eval o X.env
 few:((backTo cpos (starEach [e,f] X.env)).all (λx=>!x.1) && (backToKw cpos (keywordEach [] X.env)).all (λx=>x.1.isSome)
  && decide (([e,f]:List Expr).length+([]:List Keyword).length+(if ([]:List Keyword).isEmpty then 0 else 1) < 30))=true
 line:(apos.endLine == cpos.line)=true
 trees:backTo cpos (starEach [e,f] X.env)=[(false,eval e X.env),(false,eval f X.env)]
section
variable {X:Cx} {pins:List (Addr × Obj)} {σ:St} {H:Hp} {s:Shared} {a:Addr} {y d:V} {u r:Value} {o:Option V} {A:Around} {E:Value->Shared->Prop}
end
section
variable {X:Cx} {o e f:Expr} {apos cpos:Pos} {td ty tx:TE}
end
section
variable {X:Cx} {pins:List (Addr × Obj)} {σ:St} {H:Hp} {s:Shared} {a:Addr} {kvs:List (Key × V)} {A:Around} {E:Value->Shared->Prop}
end
section
variable {X:Cx} {pins:List (Addr × Obj)} {σ:St} {H:Hp} {s:Shared} {a:Addr} {y:V} {u:Value} {A:Around} {E:Value->Shared->Prop}
end
end L2
namespace Att
open PySem PySem.W PySem.Calls PyProof.Rows
variable {P:Params} {h:Heap}
theorem pA:∀ (ns:List Int) (vs:List Value),WellAll P h vs (ns.map WData.int)->IntsAre vs ns:=by
 intro ns
 induction ns with
 | nil =>intro vs w;rw [SE] at w;cases w;exact .nil
 | cons n ns c =>
  intro vs w;rw [PD] at w
  cases w with
  | cons a b =>cases a;exact .cons _ _ (c _ b)
variable {l:OpenLaw} {n:Nat}
theorem BL (o:l.most=some n) {args:List WData} {b:List Value}
  (c:l.row.toRowW.claim.pre args=true) (j:WellAll P h b args) :
  ∃ a vs ns,b=[Value.ref a]/\args=[WData.list (ns.map WData.int)]/\h.get? a=some { cls:=.type "list",data:=.seq vs.toArray }/\IntsAre vs ns/\ns.length<=n:=by
 have k:WShape.hasAll [] args [.list .int]=true:=(pre_splitW c).1;have m:l.pre.holds [] { args:=args }=true:=(pre_splitW c).2;obtain ⟨d,r,rfl,p,s⟩:=hasAllW_cons k;obtain rfl:=hasAllW_nil s;obtain ⟨xs,rfl,t⟩:=hasW_list p;obtain ⟨ns,rfl⟩:=items_int t
 have e:ns.length<=n:=by
  unfold OpenLaw.pre at m
  have g:(WTm.not (.lt (.lit (.int (n:Int))) (.len (.arg 0)))).holds [] { args:=[.list (ns.map .int)] }=true:=by have g:=(holds_andW m).1;rw [o] at g;exact g
  have i:=condW_of g (w_not (w_lt w_lit (w_len_list (w_arg rfl))));rw [Pf] at i;refine Nat.le_of_not_lt λq=>?_;have q':(n:Int) < ((ns.length:Nat):Int):=by lia
  first
   | (rw [Py q'] at i;exact absurd i (by decide))
   | (simp at i;lia)
 cases j with
 | cons u v =>
  cases v
  cases u with
  | list w f=>exact ⟨_,_,ns,rfl,rfl,w,pA ns _ f,e⟩
theorem BA (l:OpenLaw) (args:List WData):l.row.toRowW.claim.post args (.bool true) args=true :=
 postW_of (r:=l.row.toRowW) (X:=(true == true))
  (show WShape.has [] (.bool true) .bool=true by first | rfl | decide | simp [WShape.has,WShape.arms,WShape.armsAll])
  (show (WTm.eq .res (.lit (.bool true))).value [] { args:=args,res:=some (.bool true),after:=args }=some (.bool (true == true)) from w_eq_bool (w_res rfl) w_lit) rfl
theorem Yu {q:Program} {loose:List Str} {XP:(Str->Option Value)->Heap->Prop} {YP:World->Heap->Prop} {d:DefRec}
  (A:l.most=some n) (k:d.params.defaults=[])
  (call:∀ (w:World) (s₀ s₁:Shared) (mg m:Str->Option Value) (c:Addr) (o:Obj) (p j doc:Value) (a:Addr) (vs:List Value) (ns:List Int),
   Ground q loose [] XP w s₀ mg m s₁.heap->YP w s₁.heap ->
   s₁.heap.get? c=some o->o.data=.func (docDef d.name d.params d.body d.scope p j doc)->s₁.heap.CodeRec j d.name->mg d.name=some (.ref c) ->
   s₁.heap.get? a=some { cls:=.type "list",data:=.seq vs.toArray }->IntsAre vs ns->ns.length<=n->s₁.gens=#[] ->
   codeAny (model l.prog w) callerA (.call (.ref c) ⟨[.ref a],[]⟩) (λr s'=>r=.ok (.ret (.bool true))/\OldK s₁.heap s'.heap/\s'.os=s₁.os/\AllBare s'.gens) s₁) :
  WalkO q loose XP YP l.row.toRowW d [] (λf vs=>PySem.call f vs):=by
 intro w s₀ s₁ mg m G Y c o p j doc B kV C D t x u E args y as e z F v H;obtain rfl:B=.none:=Dflts.none x k;obtain rfl:kV=.none:=Dflts.noKw x;obtain ⟨a,vs,ns,rfl,rfl,g,b,i⟩:=BL A e v;refine enter_call (RG (call w s₀ s₁ mg m c o p j doc a vs ns G Y C (fd_plain D) t u g b i E) λr s' I=>?_);obtain ⟨rfl,J,K,L⟩:=I;exact ⟨.inl ⟨.bool true,.bool true,[],rfl,λ_=>rfl,.bool true,BA l _,λ_=>⟨List.Pairwise.nil,λ_ M=>(nomatch M)⟩⟩,J,K,L⟩
section
variable {prog:Program} {w:World} {A:Around} {E:Value->Shared->Prop} {s:Shared} {K:Frag}
end
end Att
namespace L2
open PySem PySem.Spec PyProof.Rows
theorem ue:∀ {vs:List Value} {ns:List Int},IntsAre vs ns->Vals (ns.map V.int) vs
 | _,_,.nil=>.nil
 | _,_,.cons n t h=>.cons ⟨t,rfl⟩ (ue h)
noncomputable def EA (H:Hp):Prop:=∀ b,H b=none\/∃ o xs,H b=some (.Zq o (.lst xs))
variable {P:Program} {w:World} {K:W.Frag} {mg:Str->Option Value} {CX:Zk} {a:Addr} {fd:FuncData} {x:Str} {sp:Sp} {ns:List Int}
theorem CY {E:Str->Option Value} {k:Nat} {G:Addr} {s₁:Shared} {vs:List Value}
  (N:K.In s₁.heap) (j:s₁.heap.Ns mainGlobals mg) (c:s₁.heap.Ns builtinsNs E) (I:∀ x:Str,x≠"__name__"->E x=bootBuiltins x) (l:s₁.heap.NoLimit) (X:s₁.gens=#[])
  (D:s₁.heap.get? a=some { cls:=.type "list",data:=.seq vs.toArray }) (hi:IntsAre vs ns) (O:ns.length<=sizeLine) (Y:TH k callerA)
  (F:∀ base:Heap,K.In base->base.Ns mainGlobals mg->Te P w K mg base CX k G fd [x] sp) (i:∀ (s:Shared) (u:Value),BindsTo s fd ⟨[u],[]⟩ [(x,u)])
  (Z:∀ H:Hp,EA H->SR K H a (ns.map V.int)->sp [.ref a] H (λv _=>v=.bl true) λ_ _ _=>False)
  (J:∀ H e s',CX [] H s₁ (λ_ _ _=>False) e s'->False) :
  codeAny (model P w) callerA (.call (.ref G) ⟨[.ref a],[]⟩) (λr s'=>r=.ok (.ret (.bool true))/\OldK s₁.heap s'.heap/\s'.os=s₁.os/\AllBare s'.gens) s₁:=by
 have Q:=ue hi;have p:=hi.length
 have g:∀ H:Hp,EA H->SR K H a (ns.map V.int)->WE P w H s₁.heap->(∀ b,H b≠none->b=a)->(H a≠none->K.lookup a=none) ->
   codeAny (model P w) callerA (.call (.ref G) ⟨[.ref a],[]⟩) (λr s'=>r=.ok (.ret (.bool true))/\OldK s₁.heap s'.heap/\s'.os=s₁.os/\AllBare s'.gens) s₁:=by
  intro H R hS t S hK;have T:∀ {b:Addr} {o:Obj},s₁.heap.get? b=some o->H b=none->(uJ s₁.heap H).get? b=some o:=λe n=>CQ e n
  have L:∀ {b:Addr} {o:Obj} {es:Array DictEntry} {y:Nat},s₁.heap.get? b=some o->o.data=.dict es y->H b=none:=λ{b o es y} e d=>by
   cases q:H b with
   | none=>rfl
   | some u =>have M:b=a:=S b (by rw [q];simp);subst M;rw [D] at e;cases e;have d':Data.seq vs.toArray _=Data.dict es y:=d;cases d'
  have f:∀ {b:Addr} {m:Str->Option Value},s₁.heap.Ns b m->(uJ s₁.heap H).Ns b m:=λ{b m} ⟨o,es,y,e,d,r⟩=>⟨o,es,y,T e (L e d),d,r⟩
  have A:K.In (uJ s₁.heap H):=λb o e=>T (N b o e) (by
   cases q:H b with
   | none=>rfl
   | some u =>have M:b=a:=S b (by rw [q];simp);subst M;rw [hK (by rw [q];simp)] at e;cases e)
  have hM:Mod K mg (uJ s₁.heap H):=⟨A,f j,⟨E,f c,I⟩,let ⟨mc,h1,h2⟩:=l;⟨mc,f h1,h2⟩⟩
  have e0:YL P w K mg (uJ s₁.heap H) callerA [] s₁ H:=⟨rfl,hM,λb o e=>Fi e,Sa (A9 _ _),trivial,λb c=>absurd (show b ∈ ([]:List Addr) from c) (by simp),t,.of_eq X⟩
  refine RG ((F _ A (f j)).run callerA [] s₁ H ⟨[.ref a],[]⟩ [.ref a] [.ref a] _ _ Y e0 (i s₁ (.ref a)) (.cons rfl .nil) (Z H R hS)) λr s' h=>?_
  cases r with
  | error e=>exact (J H e s' h).elim
  | ok fl =>
   cases fl with
   | next=>exact False.elim h
   | brk=>exact False.elim h
   | cont=>exact False.elim h
   | ret u =>
    obtain ⟨v,H',os,B,un,Z7,r',q⟩:=h;have q':v=.bl true:=q;subst q';obtain rfl:u=Value.bool true:=r';refine ⟨rfl,OldK.of_keep λb o e=>?_,os,B⟩
    cases q:H b with
    | none=>exact un.keep b o e q (by intro z;exact absurd (show b ∈ ([]:List Addr) from z) (by simp)) (by simp)
    | some u =>
     rcases R b with z | ⟨ob,xs,z⟩
     ·rw [q] at z;cases z
     ·have z2:=un.Yn b ob _ z;obtain ⟨U,_⟩:=t b _ z;obtain ⟨e2,_⟩:=Z7 b _ z2;rw [e] at U;cases U;exact e2
 cases hk:K.lookup a with
 | some o =>have e:=N a o hk;rw [D] at e;cases e;refine g (λ_=>none) (λ_=>.inl rfl) (.inr ⟨_,vs.toArray,_,hk,rfl,rfl,rfl,by rw [PC,p];exact O,by simpa using Q⟩) (λb u z=>by have C:(none:Option HO)=some u:=z;cases C) (λb z=>absurd rfl z) λz=>absurd rfl z
 | none =>
  refine g (λb=>if b=a then some (.Zq { cls:=.type "list",data:=.seq vs.toArray } (.lst (ns.map V.int))) else none) (λb=>?_) (.inl (.inr ⟨{ cls:=.type "list",data:=.seq vs.toArray },Pk rfl⟩)) (λb u z=>?_) (λb z=>?_) λ_=>hk
  ·by_cases c:b=a
   ·exact .inr ⟨_,_,Pk c⟩
   ·exact .inl (M1 c)
  ·by_cases c:b=a
   ·have C:=(Pk c).symm.trans z;cases C;subst c;exact ⟨D,by rw [Pf];exact O,vs,_,Q,D⟩
   ·have C:=(M1 c).symm.trans z;cases C
  ·by_cases c:b=a
   ·exact c
   ·exact absurd (M1 c) z
variable {n:Nat}
theorem Z8 {l:W.OpenLaw} {k:Nat} {q:Program} {loose:List Str} {XP:(Str->Option Value)->Heap->Prop} {YP:World->Heap->Prop} {d:DefRec} {K:Params->W.Frag} {CX:World->Zk} {sp:World->Sp}
  (A:l.most=some n) (p:n<=sizeLine) (r:d.params.defaults=[]) (B:TH k callerA)
  (C:∀ (w:World) (h:Heap),YP w h->(K w.params).In h)
  (F:∀ (w:World) (mg:Str->Option Value) (m:Addr) (h:Heap),(K w.params).In h->h.Ns mainGlobals mg->mg d.name=some (.ref m) ->
   ∃ fd:FuncData,(∀ (s:Shared) (u:Value),BindsTo s fd ⟨[u],[]⟩ [(x,u)]) /\
    ∀ base:Heap,(K w.params).In base->base.Ns mainGlobals mg->Te l.prog w (K w.params) mg base (CX w) k m fd [x] (sp w))
  (D:∀ (w:World) (H:Hp) (a:Addr) (ns:List Int),ns.length<=n->EA H->SR (K w.params) H a (ns.map V.int)->sp w [.ref a] H (λv _=>v=.bl true) λ_ _ _=>False)
  (t:∀ (w:World) (H:Hp) (s:Shared) (e:Value) (s':Shared),CX w [] H s (λ_ _ _=>False) e s'->False) :
  W.WalkO q loose XP YP l.row.toRowW d [] (λf vs=>PySem.call f vs):=by
 refine Att.Yu A r λw s₀ s₁ mg O m o Q R doc a vs ns G Y S U E y j i c I=>?_;have z:=C w _ Y;obtain ⟨fd,J,L⟩:=F w mg m _ z G.T.g y;exact CY z G.T.g G.T.b G.T.builtins G.T.nolimit I j i (Qf c p) B L J (λH M N=>D w H a ns c M N) λH e s'=>t w H s₁ e s'
noncomputable def cX (s:Stmt):Arguments:=match s with
 | .FunctionDef _ a _ _ _ _ _ _ _ _=>a
 | _=>{ posonlyargs:=[],args:=[],vararg:=none,kwonlyargs:=[],kw_defaults:=[],kwarg:=none,defaults:=[] }
noncomputable def cP (s:Stmt):List Stmt:=match s with
 | .FunctionDef _ _ b _ _ _ _ _ _ _=>b
 | _=>[]
noncomputable def aK (s:Stmt):Scope:=match s with
 | .FunctionDef _ _ _ _ _ _ b _ _ _=>b
 | _=>{ kind:=.function,names:=[],isGenerator:=false,isCoroutine:=false }
noncomputable abbrev WI:Zk:=λ_ _ _ _ _ _=>False
noncomputable abbrev E0:XK:=λ_ _ _=>False
variable {X:Cx}
theorem gN:jY WI X E0:=λ_ _ _ _ _ _ _ h=>h.elim
structure Y3 (K:W.Frag) (x qual:Str) (st:Stmt) (f:Addr) (fd:FuncData):Prop where
 ex:∃ (oc:Value) (od:Option Addr) (kV doc pm:Value) (an:Option Addr) (cdv ct:Value) (osl:Array (Option Value)),
  fd=W.fnOf x qual (cX st) (cP st) (aK st) .none kV doc pm an cdv ct/\K.lookup f=some ⟨oc,od,.func fd,osl⟩/\W.codeIn K cdv qual=true
 kp:W.keepIn K (.ref f)=true
section
variable {P:Program} {w:World} {K:W.Frag} {mg:Str->Option Value} {base:Heap}
variable {x qual:Str} {st:Stmt} {f:Addr} {fd:FuncData} {ps:List Str}
theorem Y3.ok {N:List Str} {k:Nat} {sp:Sp} (F:Y3 K x qual st f fd) (S:SM N ps (aK st)) (len:∀ vs H Q E,sp vs H Q E->vs.length=ps.length)
  (c:∀ (b:Value) (A:Around) (outer:List Env) (s:Shared) (H:Hp) (vs:List V) (Q:VK) (E:XK),TH k (A.deeper (envOfC qual (aK st) s.heap.objs.size f b))->sp vs H Q E ->
   ∃ t,YJ (yv WI P w K mg base N qual (aK st) f b A outer s H E).nox (cP st) t/\t { nx:=λ_ e=>Q .SO e,rt:=Q } (start N vs) H):Te P w K mg base WI (k+1) f fd ps sp:=by
 obtain ⟨l,m,kV,doc,o,p,b,ct,g,rfl,lk,d⟩:=F.ex;refine Gj lk d S len λA outer s H vs Q E i j=>?_;obtain ⟨t,h,q⟩:=c b A outer s H vs Q E i j;exact ⟨t,h.nox,q⟩
theorem Y3.binds (F:Y3 K x qual st f fd)
  (h:∀ (kV doc c:Value) (d:Option Addr) (b ct:Value) (us:List Value),us.length=ps.length->bindArgs (W.fnOf x qual (cX st) (cP st) (aK st) .none kV doc c d b ct) ⟨us,[]⟩=pure (ps.zip us)):Binds K fd ps []:=by
 obtain ⟨i,j,kV,doc,c,d,b,ct,e,rfl,lk,g⟩:=F.ex;exact .all (h kV doc c d b ct)
theorem kC {h:Value} {i e:Option Addr} {d:Array (Option Value)} {kV doc g b ct:Value} (l:K.lookup f=some ⟨h,i,.func (W.fnOf x qual (cX st) (cP st) (aK st) .none kV doc g e b ct),d⟩)
  (c:W.codeIn K b qual=true) (k:W.keepIn K (.ref f)=true):Y3 K x qual st f (W.fnOf x qual (cX st) (cP st) (aK st) .none kV doc g e b ct):=⟨⟨h,i,kV,doc,g,e,b,ct,d,rfl,l,c⟩,k⟩
end
variable {A:Around}
theorem Ag {k:Nat} (b:TH k A):A.units+1 < cLine:=Ss (Nat.add_le_add_left (by decide:1<=64) _) b.units
theorem cM (h:n<=1000):n < sizeLine:=Ss h (by decide)
section
variable {X:Cx}
theorem pv (i:Nat) {x:Str} {b:Pos} (d:X.N[i]?=some x:=by rfl) (e:Vis X.env.scope x:=by first | exact Or.inl rfl | exact Or.inr (Or.inl rfl) | exact Or.inr (Or.inr rfl)) (f:(x == ("__debug__":Str))=false:=by decide)
  (c:(x == ("__classdict__":Str))=false:=by decide):PE X (.Name x b) (fT i):=HL d e f c
end
theorem j0 {A B:Prop} (h:B):if false=true then A else B:=by rw [M1 Pp];exact h
theorem j4 {A B:Prop} (h:A):if true=true then A else B:=by rw [Pk rfl];exact h
theorem sj {c A B:Prop} [Decidable c] (b:c->A) (d:¬ c->B):if c then A else B:=by
 by_cases h:c
 ·rw [Pk h];exact b h
 ·rw [M1 h];exact d h
noncomputable def SJ (H c:Hp):Prop:=∀ b o,H b=some o->c b=some o
theorem SJ.refl (H:Hp):SJ H H:=λ_ _ h=>h
variable {H H1:Hp}
theorem SJ.trans {d:Hp} (a:SJ H H1) (b:SJ H1 d):SJ H d:=λc o h=>b c o (a c o h)
variable {H':Hp} {l:Addr}
theorem SJ.free (e:SJ H H') (h:H' l=Option.none):H l=Option.none:=by
 cases q:H l with
 | none=>rfl
 | some o =>rw [e l o q] at h;cases h
variable {xs:List V}
theorem SJ.seq (e:SJ H H') (h:SR K H a xs):SR K H' a xs:=by
 rcases h with (h | ⟨o,h⟩) | h
 ·exact .inl (.inl (e _ _ h))
 ·exact .inl (.inr ⟨o,e _ _ h⟩)
 ·exact .inr h
section
variable {κ:Type} [DecidableEq κ]
end
noncomputable def rk (env:Env) (x:Str) (k:NameKind):NameKind :=
 if (k == NameKind.free && env.scope.kind == .function && env.kindOf x == some .cell)=true then .cell else k
theorem vP (d:Scope) (env:Env) (x:Str):(relabel d env).names.lookup x=(d.names.lookup x).map (rk env x):=by
 have all:∀ l:List (Str × NameKind),(l.map λ(n,k)=>if (k == NameKind.free && env.scope.kind == .function && env.kindOf n == some .cell) then (n,NameKind.cell) else (n,k)).lookup x=(l.lookup x).map (rk env x):=by
  intro l
  induction l with
  | nil=>rfl
  | cons p r f =>
   obtain ⟨n,k⟩:=p;rw [PD]
   cases b:x == n with
   | true =>
    have e:x=n:=by simpa using b
    subst e;by_cases c:(k == NameKind.free && env.scope.kind == .function && env.kindOf x == some .cell)=true
    ·simp [QV,rk,c]
    ·simp [QV,rk,c]
   | false =>
    have g:((n,k)::r).lookup x=r.lookup x:=by rw [QV,b]
    rw [g,<- f];by_cases c:(k == NameKind.free && env.scope.kind == .function && env.kindOf n == some .cell)=true
    ·show List.lookup x ((if (k == NameKind.free && env.scope.kind == .function && env.kindOf n == some .cell)=true then (n,NameKind.cell) else (n,k))::_)=_;rw [Pk c,QV,b]
    ·show List.lookup x ((if (k == NameKind.free && env.scope.kind == .function && env.kindOf n == some .cell)=true then (n,NameKind.cell) else (n,k))::_)=_;rw [M1 c,QV,b]
 exact all d.names
variable {env:Env}
theorem FR:rk env x .free=.cell\/rk env x .free=.free:=by
 unfold rk;split
 ·exact .inl rfl
 ·exact .inr rfl
theorem Ii {k:NameKind} (h:k≠.free):rk env x k=k:=by
 unfold rk;rw [M1];intro c
 have:(k == NameKind.free)=true:=by
  cases q:(k == NameKind.free) with
  | true=>rfl
  | false=>rw [q] at c;simp at c
 exact h (by simpa using this)
noncomputable def IW:Option NameKind->Bool
 | some .free=>true
 | _=>false
noncomputable def IV:Option NameKind->Bool
 | some .free=>true
 | some .cell=>true
 | _=>false
noncomputable def IX:Option NameKind->Bool
 | some .local=>true
 | _=>false
variable {o:Option NameKind}
theorem E7 (h:IW o=true):o=some .free:=by
 cases o with
 | none=>cases h
 | some k=>cases k <;> first | rfl | cases h
theorem E6 (h:IV o=true):o=some .cell\/o=some .free:=by
 cases o with
 | none=>cases h
 | some k=>cases k <;> first | exact .inl rfl | exact .inr rfl | cases h
theorem E8 (h:IX o=true):o=some .local:=by
 cases o with
 | none=>cases h
 | some k=>cases k <;> first | rfl | cases h
noncomputable def dS (N:List Str) (ok:Str->Option NameKind) (names:List (Str × NameKind)) (own:List Str) (fr:List Nat) (N':List Str):Bool :=
 decide (N'=own++fr.map λj=>N.getD j "") && (fr.all λj=>decide (j < N.length) && IW (names.lookup (N.getD j ""))) &&
  names.all λp=>match p.2 with
   | .free=>IV (ok p.1)
   | .cell=>false
   | .local=>IX (names.lookup p.1)
   | _=>true
structure Blk (N:List Str) (ok:Str->Option NameKind) (names:List (Str × NameKind)) (own:List Str) (fr:List Nat) (N':List Str):Prop where
 eN:N'=own++fr.map λj=>N.getD j ""
 fr:∀ j ∈ fr,j < N.length/\names.lookup (N.getD j "")=some .free
 free:∀ p ∈ names,p.2=.free->ok p.1=some .cell\/ok p.1=some .free
 cell:∀ p ∈ names,p.2≠.cell
 loc:∀ p ∈ names,p.2=.local->names.lookup p.1=some .local
theorem Cf {N:List Str} {ok:Str->Option NameKind} {names:List (Str × NameKind)} {own:List Str} {fr:List Nat} {N':List Str} (h:dS N ok names own fr N'=true):Blk N ok names own fr N':=by
 unfold dS at h;rw [Pz,Pz] at h;obtain ⟨⟨d,f⟩,g⟩:=h;have b:=QH.mp g;refine ⟨Pq d,λj i=>?_,λp c e=>?_,λp c e=>?_,λp c e=>?_⟩
 ·have q:=QH.mp f j i;rw [Pz] at q;exact ⟨Pq q.1,E7 q.2⟩
 ·have q:=b p c;rw [e] at q;exact E6 q
 ·have q:=b p c;rw [e] at q;cases q
 ·have q:=b p c;rw [e] at q;exact E8 q
noncomputable def Z9 (own:List Str) (fr:List Nat) (σ:St):St:=own.map (λ_=>none)++fr.map λj=>(σ[j]?).getD none
theorem IJ (q:Scope) (env:Env) (h:∀ p ∈ q.names,p.2=.free->∃ c,env.cells.lookup p.1=some c) :
  ∃ d,closureFor q env=pure d/\(∀ x c,d.lookup x=some c->env.cells.lookup x=some c)/\∀ p ∈ q.names,p.2=.free->d.lookup p.1=env.cells.lookup p.1:=by
 unfold closureFor
 have all:∀ (l:List (Str × NameKind)) (b:List (Str × Addr)),(∀ p ∈ l,p.2=.free->∃ c,env.cells.lookup p.1=some c)->(∀ x c,b.lookup x=some c->env.cells.lookup x=some c) ->
   ∃ d,(forIn l b λ(p:Str × NameKind) (r:List (Str × Addr))=>(match p with
    | (name,kind)=>if (kind == NameKind.free)=true then (do let a <- cellOf env name;pure (ForInStep.yield ((name,a)::r))) else pure (ForInStep.yield r):Sem (ForInStep (List (Str × Addr)))))=pure d /\
    (∀ x c,d.lookup x=some c->env.cells.lookup x=some c)/\(∀ p ∈ l,p.2=.free->d.lookup p.1=env.cells.lookup p.1)/\∀ x,b.lookup x=env.cells.lookup x->d.lookup x=env.cells.lookup x:=by
  intro l
  induction l with
  | nil=>intro b _ s;exact ⟨b,rfl,s,λp hp=>(by simp at hp),λx e=>e⟩
  | cons p r B =>
   intro b y s;obtain ⟨n,k⟩:=p;rw [Sb];by_cases hk:k=.free
   ·subst hk;obtain ⟨c,u⟩:=y (n,.free) P4 rfl;have z:cellOf env n=pure c:=by unfold cellOf;rw [u]
    obtain ⟨d,g,i,j,v⟩:=B ((n,c)::b) (λp hp=>y p (PV _ hp)) (λx C e=>by
     rw [QV] at e
     cases m:x == n with
     | true =>
      rw [m] at e;have:x=n:=by simpa using m
      subst this;cases e;exact u
     | false=>rw [m] at e;exact s x C e)
    refine ⟨d,?_,i,λp hp e=>?_,λx e=>v x ?_⟩
    ·simp only [beq_self_eq_true,RO,z];exact g
    ·rcases PB.mp hp with rfl | hp
     ·exact v n (by rw [QV];simp [u])
     ·exact j p hp e
    ·rw [QV]
     cases m:x == n with
     | true =>
      have:x=n:=by simpa using m
      subst this;simp [u]
     | false=>exact e
   ·have D:(k == NameKind.free)=false:=by simpa using hk
    obtain ⟨d,g,i,j,v⟩:=B b (λp hp=>y p (PV _ hp)) s;refine ⟨d,?_,i,λp hp e=>?_,v⟩
    ·simp only [D,Su,SD];exact g
    ·rcases PB.mp hp with rfl | hp
     ·exact absurd e hk
     ·exact j p hp e
 obtain ⟨d,g,i,j,_⟩:=all q.names [] h (λx c e=>by simp at e);refine ⟨d,?_,i,j⟩;have f:=P1 (λt:Sem (List (Str × Addr))=>t >>= λcs=>pure cs) g
 first
  | exact f
  | (simp only [pure_bind] at f;exact f)
  | (refine Eq.trans ?_ f;rfl)
  | (dsimp only at f ⊢;exact f)
noncomputable def Cx.Yh (X:Cx) (b:Scope) (c:List (Str × Addr)) (C:Addr) (N:List Str) (s:Shared) (H:Hp) (d:List Addr):Cx where
 prog:=X.prog
 w:=X.w
 K:=X.K
 mg:=X.mg
 base:=X.base
 A:=X.A
 N:=N
 s₀:=s
 H₀:=H
 env:=compEnvC b c C X.env
 outer:=X.stack
 stack:=X.stack
 ex:=d
 fn:=λ_=>false
 calm:=X.calm
 pn:=[]
 xe:=λ_ _=>False
section
variable {X:Cx} {pins:List (Addr × Obj)} {σ:St} {H:Hp} {s:Shared} {sc:Scope} {cl:List (Str × Addr)} {own:List Str} {fr:List Nat} {N':List Str} {fp:List Addr}
variable {C:Addr}
theorem AV (I:Inv X pins σ H s) (B:Blk X.N X.env.kindOf sc.names own fr N') (hk:sc.kind=.function)
  (sub:∀ x c,cl.lookup x=some c->X.env.cells.lookup x=some c) (F:∀ p ∈ sc.names,p.2=.free->cl.lookup p.1=X.env.cells.lookup p.1)
  (M:∀ b ∈ fp,rY X pins H b) (fo:∀ b ∈ fp,b < s.heap.objs.size) {O:Heap} {tk:Nat} {D:Addr} {n:Nat} (G:D=s.heap.objs.size) (Q:s.heap.objs.size < C)
  (R:O.Ns C (λ_=>none)) (g:∀ b o,s.heap.get? b=some o->O.get? b=some o) (hD:O.get? D=some { cls:=.type "list",data:=.seq ([]:List Value).toArray n }) :
  Inv (X.Yh sc cl C N' s H fp) [] (Z9 own fr σ) (upd H D (.lst [])) { s with heap:=O,toks:=tk }:=by
 have h:∀ x c,cl.lookup x=some c->c < s.heap.objs.size:=λx c e=>by obtain ⟨v,q⟩:=I.cell x c (sub x c e);exact q.lt
 have S:H D=none:=I.hok.fresh (Sa G.symm);have kind:∀ x,(X.Yh sc cl C N' s H fp).env.kindOf x=(sc.names.lookup x).map (rk X.env x):=λx=>vP sc X.env x
 refine ⟨⟨I.ok.mod,hk,I.ok.glob,I.ok.blt,QO Q,λx y c T d=>I.ok.inj x y c (sub x c T) (sub y c d),λx hx=>?_,(λx c e=>nomatch (show false=true from e)),I.ok.hd,I.ok.frames,.inl rfl,λb m=>⟨?_,λx c e=>?_⟩,I.bs,Qf I.ok.ZZ I.sz,λb o e m=>?_,λb m=>?_,I.stack,I.YV⟩,
  rfl,I.bare,Un.laid g (Sa G.symm) S,⟨_,R,λi x v T d e3=>?_⟩,λx c e=>?_,?_,λx c e=>?_,λp hp=>?_,I.hok.laid g (Sa G.symm) ⟨QA _,[],n,.nil,hD⟩,?_⟩
 ·have f:(sc.names.lookup x).map (rk X.env x)=some .cell\/(sc.names.lookup x).map (rk X.env x)=some .free:=by
   rw [<- kind x];exact hx
  cases q:sc.names.lookup x with
  | none=>rw [q] at f;simp at f
  | some k =>
   have E:=QN q;by_cases U:k=.free
   ·subst U;show ∃ c,cl.lookup x=some c;rw [F _ E rfl];have z:=B.free _ E rfl;exact I.ok.has x z
   ·rw [q] at f;simp only [Rv,Ii U] at f;rcases f with z | z
    ·exact absurd (Qg z) (B.cell _ E)
    ·exact absurd (Qg z) U
 ·exact Qe (SG (fo b m) Q)
 ·exact (M b m).2.2.2.2.1 x c (sub x c e)
 ·rcases (M b m).2.2.2.1 with z | z
  ·exact I.ok.Zr b o e z
  ·exact absurd (PY (PL e) (Qf I.ok.ZZ z)) (QT _)
 ·intro z;rcases PB.mp (I.Yo b z) with e | e
  ·exact (M b m).2.1 e
  ·exact (M b m).2.2.1 e
 ·
  have J:N'[i]?=some x:=T
  have hi:¬ i < own.length:=λz=>by unfold Z9 at d;rw [QZ (by simpa using z),Pw,Pg z] at d;cases d
  unfold Z9 at d;rw [Qs (by simpa using hi),Pf,Pw] at d;rw [B.eN,Qs (by simpa using hi),Pw] at J
  cases q:fr[i - own.length]? with
  | none=>rw [q] at d;cases d
  | some j =>
   rw [q] at d J;simp only [Rv,Option.some.injEq] at d J;obtain ⟨hj,t⟩:=B.fr j (PM q)
   have ej:X.N[j]?=some x:=by rw [<- J,PZ,Pg hj];rfl
   have eσ:σ[j]?=some (some v):=by
    cases z:σ[j]? with
    | none=>rw [z] at d;cases d
    | some o=>rw [z] at d;simp only [Option.getD_some] at d;rw [d]
   rw [J] at t;have E:=QN t;have L:=B.free _ E rfl;obtain ⟨m0,hn0,X6⟩:=I.loc
   have hv:Vis X.env.scope x:=by
    rcases L with z | z
    ·exact .inr (.inl z)
    ·exact .inr (.inr z)
   obtain ⟨u,r,l⟩:=X6 j x v ej eσ hv;refine ⟨u,r,?_⟩;rcases l with ⟨z,_⟩ | ⟨_,c,hc,o,Y,Z⟩
   ·have Z7:X.env.kindOf x=some .cell\/X.env.kindOf x=some .free:=L;rw [z] at Z7;rcases Z7 with y | y <;> cases y
   ·refine .inr ⟨?_,c,?_,o,g c o Y,Z⟩
    ·rw [kind x,t];rcases FR (env:=X.env) (x:=x) with y | y
     ·exact .inl (by rw [Rv,y])
     ·exact .inr (by rw [Rv,y])
    ·show cl.lookup x=some c;have z:=F _ E rfl;exact z.trans hc
 ·obtain ⟨v,o,Y,Z⟩:=I.cell x c (sub x c e);exact ⟨v,o,g c o Y,Z⟩
 ·show upd H D _ C=none;rw [aS (by rw [G];exact QS Q)];exact I.hok.fresh (QO Q)
 ·show upd H D _ c=none;rw [aS (by rw [G];exact Qe (h x c e))];exact I.We x c (sub x c e)
 ·exact absurd (show p ∈ ([]:List (Addr × Obj)) from hp) (by simp)
 ·show (Z9 own fr σ).length=N'.length;rw [B.eN];simp [Z9]
theorem zN {σ':St} {H':Hp} {s':Shared} (I:Inv X pins σ H s) (c:∀ b ∈ fp,rY X pins H b) (J:Inv (X.Yh sc cl C N' s H fp) [] σ' H' s'):Inv X pins σ H' s' :=
 I.call' (ch:=fp) J.os J.base J.hok J.bare λb d=>⟨(c b d).2.2.2.1,(c b d).2.1,(c b d).2.2.2.2.1,(c b d).2.2.2.2.2⟩
theorem Inv.young {g:Shared} {h:Hp} {σ0:St} {h':Heap} (d:Inv X pins σ0 h g) (I:Inv X pins σ H s) (f:g.heap.objs.size<=C) (i:H C=none) (j:Heap.SameBut C s.heap h'):Inv X pins σ H { s with heap:=h' } :=
 I.turned (t':=s.toks) (λb o k e=>(j.2 b k).trans e) i (QS (PY d.lt f)) (.inr (Qf d.sz f))
  (λx c e z=>by
   obtain ⟨v,q⟩:=d.cell x c e;exact absurd (PY q.lt (by rw [z];exact f)) (QT _))
  (λp m z=>absurd (PY (PL (d.pin p m).1) (by rw [z];exact f)) (QT _))
end
noncomputable def B0 (X:Cx) (d:List Expr) (t:TT):Prop :=
 ∀ (b:List (Addr × Obj)) (s:Shared) (σ:St) (H:Hp) (Q:Bool->Hp->Prop),Inv X b σ H s->t σ H Q ->
  wpAny (model X.prog X.w) X.A (forIn d true λc r=>if r=true then do let ok <- isTrue c X.env (eval c X.env);pure (ForInStep.yield ok) else pure (ForInStep.yield r)) (TP X b σ Q) X.xe s
noncomputable def jc:TT:=λ_ H Q=>Q true H
theorem c7:B0 X [] jc:=λb s σ H Q I h=>wpAny_tests_nil ⟨H,I,h⟩
theorem xJ {c:Expr} {t:TT} (h:PT X c t):B0 X [c] t:=λb s σ H Q I d=>wpAny_tests_one (h b s σ H Q I d)
section
variable {prog:Program} {w:World} {A:Around} {R:Result->Shared->Prop} {s:Shared}
theorem uv {d b iter:Expr} {e:List Expr} {scope:Scope} {g:Pos} {j f:Value} {env:Env} (J:Nat->Shared->Prop)
  (i:∀ n s,J n s->wpAny (model prog w) A (pyNext j) (λr s₁=>match r with
   | none=>R (.ok .next) s₁
   | some v=>wpAny (model prog w) A (letOwnedTupleGo b j v) (λ_ s₂=>wpAny (model prog w) A (assign b env v) (λ_ s₃ =>
     wpAny (model prog w) A (forIn e true λc r=>if r=true then do let ok <- isTrue c env (eval c env);pure (ForInStep.yield ok) else pure (ForInStep.yield r)) (λok s₄ =>
      if ok=true then wpAny (model prog w) A (eval d env) (λx s₅=>wpAny (model prog w) A (call (.builtin "list.append") [f,x]) (λ_ s₆=>∃ m,m < n/\J m s₆) (λ_ _=>False) s₅) (λ_ _=>False) s₄
      else ∃ m,m < n/\J m s₄) (λ_ _=>False) s₃) (λ_ _=>False) s₂) (λ_ _=>False) s₁) (λ_ _=>False) s)
  (n:Nat) (h:J n s):codeAny (model prog w) A (.compLoop (.ListComp d [⟨b,iter,e,0⟩] scope g) 0 j f env) R s:=by
 refine codeAny_loop rfl J (λn s k=>?_) n h;show wpAny (model prog w) A ((compTurn (.ListComp d [⟨b,iter,e,0⟩] scope g) 0 j f env).onRaise λx=>do noteFrame x env;theTreesLotGoes x) _ _ s;refine wpAny_noted (wpAny_noRaise ?_);rw [compTurn_list];refine Pj (RN (Pj (S1 (i n s k) λr s₁ h₁=>?_)))
 cases r with
 | none=>exact PF h₁
 | some v =>
  refine Pj (S1 h₁ λ_ s₂ h₂=>Pj (S1 h₂ λ_ s₃ h₃=>Pj (S1 h₃ λok s₄ h₄=>?_)))
  cases ok with
  | false=>exact PF ⟨rfl,h₄⟩
  | true=>exact Pj (Pj (S1 h₄ λx s₅ h₅=>Pj (S1 h₅ λ_ s₆ h₆=>PF (PF ⟨rfl,h₆⟩))))
end
noncomputable def jP (j:TI) (k:St->St) (g:TG) (p:TT) (q:TE):TE:=λσ H Q=>j σ H λJ H1=>∀ D,H1 D=none->∃ W:Nat->Nat->St->Hp->Prop,(∃ m,W 0 m (k σ) (upd H1 D (.lst [])))/\∀ i m σ' H',W i m σ' H' ->
 (J.stop i H'/\Q (.ref D) H') \/
 (J.go i H'/\∃ d:St->Hp->Prop,(∀ σ'' c,d σ'' c->∃ e,e < m/\W (i+1) e σ'' c)/\∀ x c,J.Yg i H' x c->g x σ' c λσ2 r=>p σ2 r λb f =>
  if b=true then q σ2 f λv h=>∃ ys,h D=some (.lst ys)/\ys.length < sizeLine/\d σ2 (upd h D (.lst (ys++[v]))) else d σ2 f)
section
variable {X:Cx} {elt iter tg:Expr} {ifs:List Expr} {sc:Scope} {pos:Pos} {wi:TI} {own:List Str} {fr:List Nat} {N':List Str} {g:TG} {tt:TT} {te:TE}
theorem wO {t:List (Addr × Obj)} {σ:St} {H:Hp} {s:Shared} {j:List (Str × Addr)} {f:List Addr} {it:Addr} {J:It} {Z:Nat->Heap->Prop} {E:Value->Shared->Prop} {Q:VK} {RR:Value->Addr->Result->Shared->Prop}
  (I:Inv X t σ H s) (B:Blk X.N X.env.kindOf sc.names own fr N') (hk:sc.kind=.function) (hc:X.calm=true)
  (sub:∀ x c,j.lookup x=some c->X.env.cells.lookup x=some c) (has:∀ p ∈ sc.names,p.2=.free->j.lookup p.1=X.env.cells.lookup p.1)
  (T:pq X.prog X.w X.K tg J f it Z) (st:Z 0 s.heap) (f2:∀ b ∈ f,rY X t H b)
  (hg:∀ j C s H f,PG (X.Yh sc j C N' s H f) tg g) (ht:∀ j C s H f,B0 (X.Yh sc j C N' s H f) ifs tt) (he:∀ j C s H f,PE (X.Yh sc j C N' s H f) elt te)
  (hw:∀ D,H D=none->∃ W:Nat->Nat->St->Hp->Prop,(∃ m,W 0 m (Z9 own fr σ) (upd H D (.lst [])))/\∀ i m σ' H',W i m σ' H' ->
   (J.stop i H'/\Q (.ref D) H') \/
   (J.go i H'/\∃ S:St->Hp->Prop,(∀ σ'' T5,S σ'' T5->∃ m',m' < m/\W (i+1) m' σ'' T5)/\∀ x T5,J.Yg i H' x T5->g x σ' T5 λσ2 H2=>tt σ2 H2 λb U =>
    if b=true then te σ2 U λv H4=>∃ ys,H4 D=some (.lst ys)/\ys.length < sizeLine/\S σ2 (upd H4 D (.lst (ys++[v]))) else S σ2 U))
  (hRR:∀ D C σ' H' s',D=s.heap.objs.size->s.heap.objs.size<=C->Inv (X.Yh sc j C N' s H f) [] σ' H' s'->Q (.ref D) H'->RR (.ref D) C (.ok .next) s') :
  wpAny (model X.prog X.w) X.A (newList []) (λacc s₃=>wpAny (model X.prog X.w) X.A (newFunctionEnv sc X.env.globals j [] X.env.qual none .none (some X.env)) (λF s₄ =>
   codeAny (model X.prog X.w) X.A (.compStart (.ListComp elt [⟨tg,iter,ifs,0⟩] sc pos) 0 (.ref it) acc { F with scope:=relabel sc X.env }) (RR acc F.locals) s₄) E s₃) E s:=by
 have fo:∀ b ∈ f,b < s.heap.objs.size:=λb k=>by obtain ⟨o,e,_⟩:=T.obj _ _ st b k;exact PL e
 refine Rk (wpAny_newFunctionEnv B.cell (by intro y hy;simp at hy) (λh₁ hns₁ hsb₁=>?_) hk);dsimp only at hns₁ hsb₁ ⊢;generalize M:s.heap.push { cls:=.type "list",dict:=none,data:=.seq ([]:List Value).toArray }=G at hns₁ hsb₁ ⊢;have hG:G.objs.size=s.heap.objs.size+1:=by rw [<- M,Qu]
 have q:s.heap.objs.size < G.objs.size:=by rw [hG];exact RK _
 have old:∀ b o,s.heap.get? b=some o->h₁.get? b=some o:=λb o e =>
  hsb₁.extBut b o (Qe (SG (PL e) q)) (Ph _ (M ▸ Ph _ e))
 have hacc:h₁.get? s.heap.objs.size=some { cls:=.type "list",data:=.seq ([]:List Value).toArray } :=
  hsb₁.extBut _ _ (Qe q) (Ph _ (M ▸ P6 _ rfl))
 obtain ⟨W,⟨m0,w0⟩,turn⟩:=hw s.heap.objs.size (I.hok.fresh (Pu _));have st₁:Z 0 h₁:=T.keep _ _ _ st λb _ o e=>old b o e
 have hns':h₁.Ns G.objs.size (λ_=>none):=by
  have e:(λx=>([]:List (Str × Value)).reverse.lookup x)=(λ_:Str=>(none:Option Value)):=by funext x;rfl
  first
   | exact hns₁
   | (rw [e] at hns₁;exact hns₁)
 have L:∀ s₃:Shared,s₃={ s with heap:=h₁,toks:=s.toks+([]:List (Str × Value)).length } ->
   codeAny (model X.prog X.w) X.A (.compLoop (.ListComp elt [⟨tg,iter,ifs,0⟩] sc pos) 0 (.ref it) (.ref s.heap.objs.size) (compEnvC sc j G.objs.size X.env)) (RR (.ref s.heap.objs.size) G.objs.size) s₃:=by
  rintro s₃ rfl;have I0:=AV (tk:=s.toks+([]:List (Str × Value)).length) I B hk sub has f2 fo rfl q hns' old hacc
  have wg:∀ {Yd:List (Addr × Obj)} {H':Hp},Yd=[]->(∀ b ∈ f,H' b=none)->∀ b ∈ f,rY (X.Yh sc j G.objs.size N' s H f) Yd H' b:=λep hn b k=>by
   subst ep;refine ⟨hn b k,Qe (SG (fo b k) q),λz=>?_,.inl k,λx c e=>(f2 b k).2.2.2.2.1 x c (sub x c e),λp hp=>absurd (show p ∈ ([]:List (Addr × Obj)) from hp) (by simp)⟩;rcases PB.mp (I.Yo b z) with e | e
   ·exact (f2 b k).2.1 e
   ·exact (f2 b k).2.2.1 e
  have fr0:∀ b ∈ f,upd H s.heap.objs.size (.lst []) b=none:=λb k=>by rw [aS (Qe (fo b k))];exact (f2 b k).1
  refine uv (λn s'=>∃ i σ' H',Inv (X.Yh sc j G.objs.size N' s H f) [] σ' H' s'/\Z i s'.heap/\(∀ b ∈ f,H' b=none)/\W i n σ' H') ?_ m0 ⟨0,_,_,I0,st₁,fr0,w0⟩;rintro n s3 ⟨i,σ3,U,I3,st3,fr3,w3⟩;rcases turn i n σ3 U w3 with ⟨stop,qn⟩ | ⟨go,S,hN,step⟩
  ·refine S1 (T.done (X.Yh sc j G.objs.size N' s H f) rfl rfl rfl hc i [] s3 σ3 U _ I3 (wg rfl fr3) st3 stop) λr s4 ⟨hr,I4⟩=>?_;subst hr;exact hRR _ _ _ _ _ rfl (QO q) I4 qn
  ·refine S1 (T.item (X.Yh sc j G.objs.size N' s H f) rfl rfl rfl hc i [] s3 σ3 U _ I3 (wg rfl fr3) st3 go) λr s4 ⟨u,hr,h4⟩=>?_;subst hr;refine S1 h4 λ_ s5 ⟨x,H5,I5,r5,y5,O,fr5⟩=>?_;have I5':=I5.pinned (wg rfl fr5) (T.obj _ _ O);refine S1 (hg j G.objs.size s H f _ s5 σ3 H5 x u _ I5' r5 (step x H5 y5)) λ_ s6 ⟨σ6,H6,I6,q6⟩=>?_;refine S1 (ht j G.objs.size s H f _ s6 σ6 H6 _ I6 q6) λok s7 ⟨H7,I7,q7⟩=>?_
   have again:∀ {Y:Shared} {R:Hp},Inv (X.Yh sc j G.objs.size N' s H f) ([]++rd f s5.heap) σ6 R Y->S σ6 R ->
     ∃ m,m < n/\∃ i σ' H',Inv (X.Yh sc j G.objs.size N' s H f) [] σ' H' Y/\Z i Y.heap/\(∀ b ∈ f,H' b=none)/\W i m σ' H':=λ{Y R} I8 n8=>by
    obtain ⟨m',hm,w8⟩:=hN σ6 R n8;refine ⟨m',hm,i+1,σ6,R,I8.WG,T.keep _ _ _ O λb k o e=>(I8.pin (b,o) (Qt _ (Qt _ (kD k e)))).1,λb k=>?_,w8⟩;obtain ⟨o,e,d⟩:=T.obj _ _ O b k;exact (I8.pin (b,o) (Qt _ (Qt _ (kD k e)))).2.1
   cases ok with
   | false =>rw [M1 Pp] at q7 ⊢;exact again I7 q7
   | true =>rw [Pk rfl] at q7 ⊢;refine S1 (he j G.objs.size s H f _ s7 σ6 H7 _ I7 q7) λy Y ⟨v,R,I8,rv,ys,hD8,hz,nx⟩=>?_;refine S1 (cC (X:=X.Yh sc j G.objs.size N' s H f) _ Y σ6 R (.ref s.heap.objs.size) [v] (.ref s.heap.objs.size) [y] (λ_ H9=>S σ6 H9) I8 rfl (.cons rv .nil) ⟨_,ys,v,rfl,rfl,hD8,hz,nx⟩) λ_ s9 ⟨_,H9,I9,_,n9⟩=>?_;exact again I9 n9
 exact codeAny_compStart_list (L _ rfl) (T.self _ 0 _ _ _ st₁ (L _ rfl))
theorem eV (hi:PI X tg iter wi) (hk:sc.kind=.function) (z:dS X.N X.env.kindOf sc.names own fr N'=true) (E:X.calm=true)
  (F:∀ c C s H d,PG (X.Yh sc c C N' s H d) tg g) (G:∀ c C s H d,B0 (X.Yh sc c C N' s H d) ifs tt) (L:∀ c C s H d,PE (X.Yh sc c C N' s H d) elt te)
  (M:∀ x,foldedSetIterable iter X.env x=pure x:=by intro _;rfl):PE X (.ListComp elt [⟨tg,iter,ifs,0⟩] sc pos) (jP wi (Z9 own fr) g tt te):=by
 intro b s σ H Q I h;have B:=Cf z;obtain ⟨c,f,sub,i⟩:=IJ sc X.env λp O e=>I.ok.has p.1 (B.free p O e);rw [eval_ListComp];refine wpAny_comprehension_free (use:=none) rfl M f hk B.loc (S1 (hi b s σ H _ I h) λv s1 R=>S1 R λS s2 U=>?_);obtain ⟨it,d,tn,J,H2,e,j,T,k,y,body⟩:=U;subst e;refine wO (RR:=λr C=>compPost (model X.prog X.w) X.A X.xe none (EP X b σ Q) r C) j B hk E sub i T k y F G L body ?_;intro D C σ' H' s' eD Y t q;obtain ⟨m,Z,_⟩:=t.loc;refine ⟨m,Z,λh' u=>⟨.ref D,H',?_,rfl,q⟩⟩;exact Inv.young j (zN j y t) Y t.free u
theorem jL {i:Nat} {y:Str} {d c:Pos} (hi:PI X tg iter wi) (hk:sc.kind=.function) (Z:dS X.N X.env.kindOf sc.names own fr N'=true) (hc:X.calm=true)
  (hg:∀ f C s H j,PG (X.Yh sc f C N' s H j) tg g) (ht:∀ f C s H j,B0 (X.Yh sc f C N' s H j) ifs tt) (he:∀ f C s H j,PE (X.Yh sc f C N' s H j) elt te)
  (hN:X.N.Nodup) (hy:X.N[i]?=some y) (S:X.env.scope.names.lookup y=some .local)
  (r:swapsWith (.ListComp elt [⟨tg,iter,ifs,0⟩] sc pos) (some (.Name y d)) c.line X.env=pure true)
  (hs:∀ x,foldedSetIterable iter X.env x=pure x:=by intro _;rfl):PS X (.Assign [.Name y d] (.ListComp elt [⟨tg,iter,ifs,0⟩] sc pos) c) (rQ (jP wi (Z9 own fr) g tt te) (d6 i)):=by
 intro b s σ H D I h;have B:=Cf Z;obtain ⟨f,t,sub,u⟩:=IJ sc X.env λp hp e=>I.ok.has p.1 (B.free p hp e);rw [exec_Assign_Name_used _ _ _ _ r];refine Pj (RN (Pj ?_));show wpAny _ _ (do let _ <- comprehension (.ListComp elt [⟨tg,iter,ifs,0⟩] sc pos) sc X.env _ (newList []) false (eval iter X.env) (some (assign (.Name y d) X.env))) _ _ s
 refine Pj (RJ (wpAny_comprehension_free (use:=some (assign (.Name y d) X.env)) (Q:=λ_ s'=>SP X b D .next s') rfl hs t hk B.loc
  (S1 (hi b s σ H _ I h) λv s1 h1=>S1 h1 λitv s2 h2=>?_)) (λ_ s' hq=>PF (PF hq)) λ_ _ e=>e)
 obtain ⟨it,j,tn,J,H2,e,k,T,E,U,body⟩:=h2;subst e;refine wO (Q:=λv H'=>D.nx (σ.set i (some v)) H') (RR:=λF C=>compPost (model X.prog X.w) X.A X.xe (some (assign (.Name y d) X.env)) (λ_ s'=>SP X b D .next s') F C) k B hk hc sub u T E U hg ht he body ?_;intro Y C σ' H' s' eD G L q;have I3:=zN k U L;show wpAny _ _ (assign (.Name y d) X.env (.ref Y)) _ _ s';refine wpAny_assign_Name (tZ I3 hN hy (.inl S) (v:=.ref Y) rfl (λs4 I4 ⟨a,M,ha⟩=>?_) (.inr S));obtain ⟨m,hn,_⟩:=L.loc
 have O:C≠a:=by
  rcases ha with e | e
  ·rw [e];exact QS (PY k.lt G)
  ·obtain ⟨v,z⟩:=k.cell _ _ e;exact QS (PY z.lt G)
 refine ⟨m,hn.sameBut M O,λh' R=>⟨_,H',?_,q⟩⟩;exact Inv.young k I4 G L.free R
end
inductive D where
 | SO | bl (b:Bool) | int (i:Int) | str (x:Str) | tup (ds:List D)
 | lst
mutual
noncomputable def Dat (K:W.Frag) (H:Hp):D->V->Prop
 | .SO,v=>v=.SO
 | .bl b,v=>v=.bl b
 | .int i,v=>v=.int i
 | .str x,v=>v=.str x
 | .tup ds,v=>∃ a vs,v=.ref a/\Ti K H a vs/\SI K H ds vs
 | .lst,v=>∃ a vs,v=.ref a/\SR K H a vs
noncomputable def SI (K:W.Frag) (H:Hp):List D->List V->Prop
 | [],vs=>vs=[]
 | d::ds,vs=>∃ v r,vs=v::r/\Dat K H d v/\SI K H ds r
end
section
variable {K:W.Frag} {H H':Hp}
variable {a:Addr} {vs:List V} {ds:List D}
theorem Dat.tupI (h:Ti K H a vs) (r:SI K H ds vs):Dat K H (.tup ds) (.ref a):=by unfold Dat;exact ⟨a,vs,rfl,h,r⟩
theorem SI.nil:SI K H [] []:=by unfold SI;rfl
variable {d:D} {v:V}
theorem SI.cons (h:Dat K H d v) (r:SI K H ds vs):SI K H (d::ds) (v::vs):=by unfold SI;exact ⟨v,vs,rfl,h,r⟩
theorem Dat.SN (i:Int):Dat K H (.int i) (.int i):=by unfold Dat;rfl
theorem Dat.Th (x:Str):Dat K H (.str x) (.str x):=by unfold Dat;rfl
theorem Dat.VY (b:Bool):Dat K H (.bl b) (.bl b):=by unfold Dat;rfl
theorem Dat.X7:Dat K H .SO .SO:=by unfold Dat;rfl
theorem Dat.lstI (h:SR K H a vs):Dat K H .lst (.ref a):=by unfold Dat;exact ⟨a,vs,rfl,h⟩
theorem Dat.S9 (h:Dat K H (.tup ds) v):∃ a vs,v=.ref a/\Ti K H a vs/\SI K H ds vs:=by unfold Dat at h;exact h
theorem Dat.SQ {i:Int} (h:Dat K H (.int i) v):v=.int i:=by unfold Dat at h;exact h
theorem Dat.S5 {x:Str} (h:Dat K H (.str x) v):v=.str x:=by unfold Dat at h;exact h
theorem Dat.VZ {b:Bool} (h:Dat K H (.bl b) v):v=.bl b:=by unfold Dat at h;exact h
theorem Dat.Vj (h:Dat K H .SO v):v=.SO:=by unfold Dat at h;exact h
theorem Dat.YO (h:Dat K H .lst v):∃ a vs,v=.ref a/\SR K H a vs:=by unfold Dat at h;exact h
theorem SI.V1 (h:SI K H [] vs):vs=[]:=by unfold SI at h;exact h
theorem SI.Tu (h:SI K H (d::ds) vs):∃ v r,vs=v::r/\Dat K H d v/\SI K H ds r:=by unfold SI at h;exact h
structure gA (K:W.Frag) (H H':Hp):Prop where
 tup:∀ a xs,Ti K H a xs->Ti K H' a xs
 lst:∀ a xs,SR K H a xs->∃ ys,SR K H' a ys
mutual
theorem Dat.mono (g:gA K H H'):∀ (d:D) {v:V},Dat K H d v->Dat K H' d v
 | .SO,v,h=>by unfold Dat at h ⊢;exact h
 | .bl b,v,h=>by unfold Dat at h ⊢;exact h
 | .int i,v,h=>by unfold Dat at h ⊢;exact h
 | .str x,v,h=>by unfold Dat at h ⊢;exact h
 | .tup ds,v,h=>by obtain ⟨a,vs,e,q,r⟩:=h.S9;subst e;exact Dat.tupI (g.tup _ _ q) (SI.mono g ds r)
 | .lst,v,h=>by obtain ⟨a,vs,e,q⟩:=h.YO;subst e;obtain ⟨ys,q'⟩:=g.lst _ _ q;exact Dat.lstI q'
theorem SI.mono (g:gA K H H'):∀ (ds:List D) {vs:List V},SI K H ds vs->SI K H' ds vs
 | [],vs,h=>by unfold SI at h ⊢;exact h
 | d::ds,vs,h=>by obtain ⟨v,r,e,b,c⟩:=h.Tu;subst e;exact SI.cons (Dat.mono g d b) (SI.mono g ds c)
end
theorem SI.length:∀ {ds:List D} {vs:List V},SI K H ds vs->ds.length=vs.length
 | [],vs,h=>by rw [h.V1];rfl
 | d::ds,vs,h=>by obtain ⟨v,r,e,c,b⟩:=h.Tu;subst e;rw [Pr,Pr,SI.length b]
theorem SI.get:∀ {ds:List D} {vs:List V} {i:Nat} {d:D},SI K H ds vs->ds[i]?=some d->∃ v,vs[i]?=some v/\Dat K H d v
 | [],_,i,d,_,e=>by simp at e
 | d0::ds,vs,0,d,h,e=>by obtain ⟨v,r,b,c,f⟩:=h.Tu;subst b;simp at e;subst e;exact ⟨v,rfl,c⟩
 | d0::ds,vs,i+1,d,h,e=>by obtain ⟨v,r,b,c,f⟩:=h.Tu;subst b;obtain ⟨u,g,j⟩:=SI.get (i:=i) (d:=d) f (by simpa using e);exact ⟨u,by simpa using g,j⟩
theorem SI.Wd:∀ {ds:List D} {vs:List V} {i:Nat} {v:V},SI K H ds vs->vs[i]?=some v->∃ d,ds[i]?=some d/\Dat K H d v
 | [],vs,i,v,h,e=>by rw [h.V1] at e;simp at e
 | d0::ds,vs,0,v,h,e=>by obtain ⟨u,r,b,c,f⟩:=h.Tu;subst b;simp at e;subst e;exact ⟨d0,rfl,c⟩
 | d0::ds,vs,i+1,v,h,e=>by obtain ⟨u,r,b,c,f⟩:=h.Tu;subst b;obtain ⟨d,g,j⟩:=SI.Wd (i:=i) (v:=v) f (by simpa using e);exact ⟨d,by simpa using g,j⟩
theorem SI.append:∀ {ds es:List D} {vs us:List V},SI K H ds vs->SI K H es us->SI K H (ds++es) (vs++us)
 | [],es,vs,us,h,h'=>by rw [h.V1];exact h'
 | d::ds,es,vs,us,h,h'=>by obtain ⟨v,r,e,b,c⟩:=h.Tu;subst e;exact SI.cons b (SI.append c h')
end
mutual
noncomputable def S2:D->D->Bool
 | .SO,.SO=>true
 | .bl a,.bl b=>a == b
 | .int a,.int b=>a == b
 | .bl a,.int b=>(if a then 1 else 0) == b
 | .int a,.bl b=>a == (if b then 1 else 0)
 | .str a,.str b=>a == b
 | .tup a,.tup b=>Tf a b
 | _,_=>false
noncomputable def Tf:List D->List D->Bool
 | [],[]=>true
 | a::r,b::q=>S2 a b && Tf r q
 | _,_=>false
end
mutual
noncomputable def gT:D->Nat
 | .tup ds=>SY ds+1
 | _=>0
noncomputable def SY:List D->Nat
 | []=>0
 | d::ds=>max (gT d) (SY ds)
end
mutual
noncomputable def UM:D->Bool
 | .tup ds=>Tn ds
 | .lst=>false
 | _=>true
noncomputable def Tn:List D->Bool
 | []=>true
 | d::ds=>UM d && Tn ds
end
noncomputable def eAt (a b:List D) (j:Nat):Bool:=match a[j]?,b[j]? with
 | some x,some y=>S2 x y
 | _,_=>false
theorem p4 (n:Nat) (e:Nat->Bool):(List.range (n+1)).all e=(e 0 && (List.range n).all λj=>e (j+1)):=by rw [List.range_succ_eq_map,List.all_cons,List.all_map];rfl
theorem kz:∀ a b:List D,((List.range (min a.length b.length)).all (eAt a b) && a.length == b.length)=Tf a b
 | [],[]=>by unfold Tf;rfl
 | [],y::b=>by unfold Tf;simp
 | x::a,[]=>by unfold Tf;simp
 | x::a,y::b=>by
  have c:=kz a b;unfold Tf;rw [<- c,Pr,Pr,Nat.succ_min_succ,p4];have d:eAt (x::a) (y::b) 0=S2 x y:=rfl
  have e:(λj=>eAt (x::a) (y::b) (j+1))=eAt a b:=by
   funext j
   simp [eAt]
  rw [d,e,Bool.and_assoc];congr 2;simp
theorem wU {a b:List D} (h:a.length=b.length):(List.range a.length).all (eAt a b)=Tf a b:=by have q:=kz a b;rw [<- h,Nat.min_self] at q;rw [<- q];simp
mutual
theorem kZ:∀ d:D,UM d=true->S2 d d=true
 | .SO,_=>by unfold S2;rfl
 | .bl b,_=>by unfold S2;simp
 | .int i,_=>by unfold S2;simp
 | .str x,_=>by unfold S2;simp
 | .tup ds,h=>by unfold S2;unfold UM at h;exact Yi ds h
 | .lst,h=>by unfold UM at h;cases h
theorem Yi:∀ ds:List D,Tn ds=true->Tf ds ds=true
 | [],_=>by unfold Tf;rfl
 | d::ds,h=>by unfold Tn at h;rw [Pz] at h;unfold Tf;rw [kZ d h.1,Yi ds h.2];rfl
end
section
variable {X:Cx} {pins:List (Addr × Obj)} {σ:St} {H:Hp} {s:Shared}
mutual
theorem ux (I:Inv X pins σ H s):∀ (d e:D) {v:V},UM d=true->Dat X.K H d v->Dat X.K H e v->UM e=true->d=e
 | .SO,e,v,g,h,h',f=>by
  have z:=h.Vj;subst z
  cases e with
  | SO=>rfl
  | bl b=>exact nomatch h'.VZ
  | int i=>exact nomatch h'.SQ
  | str x=>exact nomatch h'.S5
  | tup ds=>obtain ⟨_,_,q,_⟩:=h'.S9;exact nomatch q
  | lst=>obtain ⟨_,_,q,_⟩:=h'.YO;exact nomatch q
 | .bl b,e,v,g,h,h',f=>by
  have z:=h.VZ;subst z
  cases e with
  | SO=>exact nomatch h'.Vj
  | bl c=>have q:=h'.VZ;injection q with q;rw [q]
  | int i=>exact nomatch h'.SQ
  | str x=>exact nomatch h'.S5
  | tup ds=>obtain ⟨_,_,q,_⟩:=h'.S9;exact nomatch q
  | lst=>obtain ⟨_,_,q,_⟩:=h'.YO;exact nomatch q
 | .int i,e,v,g,h,h',f=>by
  have z:=h.SQ;subst z
  cases e with
  | SO=>exact nomatch h'.Vj
  | bl c=>exact nomatch h'.VZ
  | int j=>have q:=h'.SQ;injection q with q;rw [q]
  | str x=>exact nomatch h'.S5
  | tup ds=>obtain ⟨_,_,q,_⟩:=h'.S9;exact nomatch q
  | lst=>obtain ⟨_,_,q,_⟩:=h'.YO;exact nomatch q
 | .str x,e,v,g,h,h',f=>by
  have z:=h.S5;subst z
  cases e with
  | SO=>exact nomatch h'.Vj
  | bl c=>exact nomatch h'.VZ
  | int j=>exact nomatch h'.SQ
  | str y=>have q:=h'.S5;injection q with q;rw [q]
  | tup ds=>obtain ⟨_,_,q,_⟩:=h'.S9;exact nomatch q
  | lst=>obtain ⟨_,_,q,_⟩:=h'.YO;exact nomatch q
 | .tup ds,e,v,g,h,h',f=>by
  obtain ⟨a,vs,z,q,r⟩:=h.S9;subst z
  cases e with
  | SO=>exact nomatch h'.Vj
  | bl c=>exact nomatch h'.VZ
  | int j=>exact nomatch h'.SQ
  | str y=>exact nomatch h'.S5
  | tup es =>obtain ⟨t,k,z,q',m⟩:=h'.S9;cases z;have p:=I.Ye q q';subst p;unfold UM at g f;rw [Yv I ds es g r m f]
  | lst=>unfold UM at f;cases f
 | .lst,e,v,g,h,h',f=>by unfold UM at g;cases g
theorem Yv (I:Inv X pins σ H s):∀ (ds es:List D) {vs:List V},Tn ds=true->SI X.K H ds vs->SI X.K H es vs->Tn es=true->ds=es
 | [],es,vs,_,h,h',_=>by
  have z:=h.V1;subst z
  cases es with
  | nil=>rfl
  | cons e es=>obtain ⟨_,_,q,_⟩:=h'.Tu;exact nomatch q
 | d::ds,es,vs,c,h,h',b=>by
  obtain ⟨v,r,z,g,i⟩:=h.Tu;subst z
  cases es with
  | nil=>exact nomatch h'.V1
  | cons e es =>obtain ⟨p,t,z,j,f⟩:=h'.Tu;injection z with k m;subst k m;unfold Tn at c b;rw [Pz] at c b;rw [ux I d e c.1 g j b.1,Yv I ds es c.2 i f b.2]
end
end
theorem n6 (A:Around):A.in1.units=A.units+1:=rfl
section
variable {X:Cx} {pins:List (Addr × Obj)} {σ:St} {H:Hp} {s:Shared}
theorem mO:∀ {ds:List D} {j:Nat} {d:D},ds[j]?=some d->gT d<=SY ds
 | [],_,_,e=>by simp at e
 | d0::ds,0,d,e=>by simp at e;subst e;unfold SY;exact Sd _ _
 | d0::ds,j+1,d,e=>by have q:=mO (ds:=ds) (j:=j) (d:=d) (by simpa using e);unfold SY;exact Qf q (Nat.le_max_right _ _)
theorem kj:∀ {ds:List D} {j:Nat} {d:D},Tn ds=true->ds[j]?=some d->UM d=true
 | [],_,_,_,e=>by simp at e
 | d0::ds,0,d,h,e=>by simp at e;subst e;unfold Tn at h;rw [Pz] at h;exact h.1
 | d0::ds,j+1,d,h,e=>by unfold Tn at h;rw [Pz] at h;exact kj (ds:=ds) (j:=j) (d:=d) h.2 (by simpa using e)
variable {A:Around} {ds es:List D} {xs ys:List V}
theorem qr {us b:List Value} (n:Nat)
  (all:∀ (d e:D) (x y:V) (u w:Value),gT d<=n->UM d=true->UM e=true->Dat X.K H d x->Dat X.K H e y->RelV x u->RelV y w->SeqAt.EqAt A s u w (S2 d e))
  (B:SY ds<=n) (C:Tn ds=true) (E:Tn es=true) (F:SI X.K H ds xs) (G:SI X.K H es ys) (p:Vals xs us) (q:Vals ys b) :
  ∀ j (c:j < us.toArray.size) (f:j < b.toArray.size),SeqAt.EqAt A s us.toArray[j] b.toArray[j] (eAt ds es j):=by
 intro j c f;have r:j < xs.length:=by rw [p.length];simpa using c
 have t:j < ys.length:=by rw [q.length];simpa using f
 obtain ⟨u,I,J⟩:=p.get (i:=j) (x:=xs[j]) (Pg r);obtain ⟨w,L,g⟩:=q.get (i:=j) (x:=ys[j]) (Pg t);obtain ⟨d,h,M⟩:=F.Wd (i:=j) (v:=xs[j]) (Pg r);obtain ⟨e,z,N⟩:=G.Wd (i:=j) (v:=ys[j]) (Pg t)
 have O:us.toArray[j]=u:=by
  have:us[j]?=some u:=I;have k:j < us.length:=by simpa using c
  rw [Pg k] at this;simpa using Qg this
 have Q:b.toArray[j]=w:=by
  have:b[j]?=some w:=L;have m:j < b.length:=by simpa using f
  rw [Pg m] at this;simpa using Qg this
 have R:eAt ds es j=S2 d e:=by unfold eAt;rw [h,z]
 rw [O,Q,R];exact all d e _ _ u w (Qf (mO h) B) (kj C h) (kj E z) M N J g
theorem xP {a b:Addr} (I:Inv X pins σ H s) (f:A.units < cLine) (n:Nat)
  (all:∀ (d e:D) (x y:V) (u w:Value),gT d<=n->UM d=true->UM e=true->Dat X.K H d x->Dat X.K H e y->RelV x u->RelV y w->SeqAt.EqAt A.in1 s u w (S2 d e))
  (r:SY ds<=n) (t:Tn ds=true) (v:Tn es=true) (g:SI X.K H ds xs) (h:SI X.K H es ys) (z:Ti X.K H a xs) (B:Ti X.K H b ys) :
  SeqAt.RcAt A s (.ref a) (.ref b) (Tf ds es)/\SeqAt.RcNeAt A s (.ref a) (.ref b) (!Tf ds es):=by
 obtain ⟨us,i,j,_⟩:=I.tuple z;obtain ⟨c,k,m,_⟩:=I.tuple B;have hi:=qr (X:=X) (H:=H) (s:=s) n all r t v g h i k;have p:=SeqAt.RcAt.tuples (show s.heap.IsTuple a us.toArray from j) (show s.heap.IsTuple b c.toArray from m) f hi;have q:=SeqAt.RcNeAt.tuples (show s.heap.IsTuple a us.toArray from j) (show s.heap.IsTuple b c.toArray from m) f hi;have C:us.toArray.size=ds.length:=by rw [PC,<- i.length,g.length]
 have E:c.toArray.size=es.length:=by rw [PC,<- k.length,h.length]
 rw [C,E,kz] at p q;exact ⟨p,q⟩
theorem yw (I:Inv X pins σ H s):∀ (n:Nat) (A:Around) (d e:D) (x y:V) (u w:Value),A.units+n+1 < cLine->gT d<=n->UM d=true->UM e=true->Dat X.K H d x->Dat X.K H e y->RelV x u->RelV y w->SeqAt.EqAt A s u w (S2 d e):=by
 intro n
 induction n with
 | zero =>
  intro A d e x y u w m J q h r f v g
  exact base I A d e x y u w (by lia) q h r f v g λds es a b xs ys L G=>by subst L;unfold gT at J;lia
 | succ n S =>intro A d e x y u w m J q h r f v g;refine base I A d e x y u w (by lia) q h r f v g λds es a b xs ys L G M C s1 j N=>?_;subst L G;unfold gT at J;unfold UM at q h;have p:=(xP (A:=A) (ds:=ds) (es:=es) I (by lia) n (λd e x y u w T U Y Z k5 k6 k7=>S A.in1 d e x y u w (by rw [n6];lia) T U Y Z k5 k6 k7) (by lia) q h M C s1 j).1;unfold S2;exact .of_refs N p
where
 base (I:Inv X pins σ H s) (A:Around) (d e:D) (x y:V) (u w:Value) (m:A.units < cLine) (q:UM d=true) (h:UM e=true) (r:Dat X.K H d x) (f:Dat X.K H e y) (v:RelV x u) (g:RelV y w)
   (tt:∀ (ds es:List D) (a b:Addr) (xs ys:List V),d=.tup ds->e=.tup es->SI X.K H ds xs->SI X.K H es ys->Ti X.K H a xs->Ti X.K H b ys->a≠b->SeqAt.EqAt A s (.ref a) (.ref b) (S2 (.tup ds) (.tup es))) :
   SeqAt.EqAt A s u w (S2 d e):=by
  cases d with
  | lst=>unfold UM at q;cases q
  | SO =>
   have z:=r.Vj;subst z;cases v
   cases e with
   | lst=>unfold UM at h;cases h
   | SO=>have z:=f.Vj;subst z;cases g;unfold S2;exact SeqAt.EqAt.same _
   | bl b=>have z:=f.VZ;subst z;cases g;unfold S2;exact SeqAt.EqAt.none_bool b
   | int i=>have z:=f.SQ;subst z;obtain ⟨t,rfl⟩:=g;unfold S2;exact SeqAt.EqAt.none_int i t
   | str i=>have z:=f.S5;subst z;obtain ⟨t,rfl⟩:=g;unfold S2;exact SeqAt.EqAt.none_str i t
   | tup es=>obtain ⟨b,ys,z,j,C⟩:=f.S9;subst z;cases g;obtain ⟨E,O,p2,_⟩:=I.tuple j;unfold S2;exact SeqAt.EqAt.none_tuple (show s.heap.IsTuple b E.toArray from p2) m
  | bl c =>
   have z:=r.VZ;subst z;cases v
   cases e with
   | lst=>unfold UM at h;cases h
   | SO=>have z:=f.Vj;subst z;cases g;unfold S2;exact SeqAt.EqAt.bool_none c
   | bl b=>have z:=f.VZ;subst z;cases g;unfold S2;exact SeqAt.EqAt.bool_bool c b
   | int i=>have z:=f.SQ;subst z;obtain ⟨t,rfl⟩:=g;unfold S2;exact SeqAt.EqAt.bool_int c i t
   | str i=>have z:=f.S5;subst z;obtain ⟨t,rfl⟩:=g;unfold S2;exact SeqAt.EqAt.bool_str c i t
   | tup es=>obtain ⟨b,ys,z,j,C⟩:=f.S9;subst z;cases g;obtain ⟨E,O,p2,_⟩:=I.tuple j;unfold S2;exact SeqAt.EqAt.bool_tuple c (show s.heap.IsTuple b E.toArray from p2) m
  | int c =>
   have z:=r.SQ;subst z;obtain ⟨k,rfl⟩:=v
   cases e with
   | lst=>unfold UM at h;cases h
   | SO=>have z:=f.Vj;subst z;cases g;unfold S2;exact SeqAt.EqAt.int_none c k
   | bl b=>have z:=f.VZ;subst z;cases g;unfold S2;exact SeqAt.EqAt.int_bool c k b
   | int i=>have z:=f.SQ;subst z;obtain ⟨t,rfl⟩:=g;unfold S2;exact SeqAt.EqAt.int_int c k i t
   | str i=>have z:=f.S5;subst z;obtain ⟨t,rfl⟩:=g;unfold S2;exact Sk c k i t
   | tup es=>obtain ⟨b,ys,z,j,C⟩:=f.S9;subst z;cases g;obtain ⟨E,O,p2,_⟩:=I.tuple j;unfold S2;exact SeqAt.EqAt.int_tuple c k (show s.heap.IsTuple b E.toArray from p2) m
  | str c =>
   have z:=r.S5;subst z;obtain ⟨k,rfl⟩:=v
   cases e with
   | lst=>unfold UM at h;cases h
   | SO=>have z:=f.Vj;subst z;cases g;unfold S2;exact SeqAt.EqAt.str_none c k
   | bl b=>have z:=f.VZ;subst z;cases g;unfold S2;exact SeqAt.EqAt.str_bool c k b
   | int i=>have z:=f.SQ;subst z;obtain ⟨t,rfl⟩:=g;unfold S2;exact Sl c k i t
   | str i=>have z:=f.S5;subst z;obtain ⟨t,rfl⟩:=g;unfold S2;exact SeqAt.EqAt.str_str c k i t
   | tup es=>obtain ⟨b,ys,z,j,C⟩:=f.S9;subst z;cases g;obtain ⟨E,O,p2,_⟩:=I.tuple j;unfold S2;exact SeqAt.EqAt.str_tuple c k (show s.heap.IsTuple b E.toArray from p2) m
  | tup ds =>
   have Q:=r
   obtain ⟨a,xs,z,s1,M⟩:=r.S9;subst z;cases v;obtain ⟨us,v1,p1,_⟩:=I.tuple s1
   have B:s.heap.IsTuple a us.toArray:=p1
   cases e with
   | lst=>unfold UM at h;cases h
   | SO=>have z:=f.Vj;subst z;cases g;unfold S2;exact SeqAt.EqAt.tuple_none B m
   | bl b=>have z:=f.VZ;subst z;cases g;unfold S2;exact SeqAt.EqAt.tuple_bool b B m
   | int i=>have z:=f.SQ;subst z;obtain ⟨t,rfl⟩:=g;unfold S2;exact SeqAt.EqAt.tuple_int i t B m
   | str i=>have z:=f.S5;subst z;obtain ⟨t,rfl⟩:=g;unfold S2;exact SeqAt.EqAt.tuple_str i t B m
   | tup es =>
    have R:=f
    obtain ⟨b,ys,z,j,C⟩:=f.S9;subst z;cases g
    by_cases F:a=b
    ·subst F
     have G:=ux I (.tup ds) (.tup es) q Q R h
     rw [<- G,kZ _ q]
     exact SeqAt.EqAt.same _
    ·exact tt ds es a b xs ys rfl rfl M C s1 j F
theorem Jk (I:Inv X pins σ H s) (n:Nat) (A:Around) (d e:D) (x y:V) (u w:Value) (S:A.units+n+2 < cLine) (F:gT d<=n+1) (C:UM d=true) (m:UM e=true) (r:Dat X.K H d x) (f:Dat X.K H e y) (v:RelV x u) (g:RelV y w) :
  SeqAt.RcAt A s u w (S2 d e)/\SeqAt.RcNeAt A s u w (!S2 d e):=by
 have j:A.units < cLine:=by lia
 cases d with
 | lst=>unfold UM at C;cases C
 | SO =>
  have z:=r.Vj;subst z;cases v
  cases e with
  | lst=>unfold UM at m;cases m
  | SO=>have z:=f.Vj;subst z;cases g;unfold S2;exact ⟨SeqAt.RcAt.none_none,SeqAt.RcNeAt.none_none⟩
  | bl b=>have z:=f.VZ;subst z;cases g;unfold S2;exact ⟨SeqAt.RcAt.none_bool b,SeqAt.RcNeAt.none_bool b⟩
  | int i=>have z:=f.SQ;subst z;obtain ⟨t,rfl⟩:=g;unfold S2;exact ⟨SeqAt.RcAt.none_int i t,SeqAt.RcNeAt.none_int i t⟩
  | str i=>have z:=f.S5;subst z;obtain ⟨t,rfl⟩:=g;unfold S2;exact ⟨SeqAt.RcAt.none_str i t,SeqAt.RcNeAt.none_str i t⟩
  | tup es=>obtain ⟨b,ys,z,q,B⟩:=f.S9;subst z;cases g;obtain ⟨p,E,p2,_⟩:=I.tuple q;unfold S2;exact ⟨SeqAt.RcAt.none_tuple (show s.heap.IsTuple b p.toArray from p2) j,SeqAt.RcNeAt.none_tuple (show s.heap.IsTuple b p.toArray from p2) j⟩
 | bl c =>
  have z:=r.VZ;subst z;cases v
  cases e with
  | lst=>unfold UM at m;cases m
  | SO=>have z:=f.Vj;subst z;cases g;unfold S2;exact ⟨SeqAt.RcAt.bool_none c,SeqAt.RcNeAt.bool_none c⟩
  | bl b=>have z:=f.VZ;subst z;cases g;unfold S2;exact ⟨SeqAt.RcAt.bool_bool c b,SeqAt.RcNeAt.bool_bool c b⟩
  | int i=>have z:=f.SQ;subst z;obtain ⟨t,rfl⟩:=g;unfold S2;exact ⟨SeqAt.RcAt.bool_int c i t,SeqAt.RcNeAt.bool_int c i t⟩
  | str i=>have z:=f.S5;subst z;obtain ⟨t,rfl⟩:=g;unfold S2;exact ⟨SeqAt.RcAt.bool_str c i t,SeqAt.RcNeAt.bool_str c i t⟩
  | tup es=>obtain ⟨b,ys,z,q,B⟩:=f.S9;subst z;cases g;obtain ⟨p,E,p2,_⟩:=I.tuple q;unfold S2;exact ⟨SeqAt.RcAt.bool_tuple c (show s.heap.IsTuple b p.toArray from p2) j,SeqAt.RcNeAt.bool_tuple c (show s.heap.IsTuple b p.toArray from p2) j⟩
 | int c =>
  have z:=r.SQ;subst z;obtain ⟨h,rfl⟩:=v
  cases e with
  | lst=>unfold UM at m;cases m
  | SO=>have z:=f.Vj;subst z;cases g;unfold S2;exact ⟨SeqAt.RcAt.int_none c h,SeqAt.RcNeAt.int_none c h⟩
  | bl b=>have z:=f.VZ;subst z;cases g;unfold S2;exact ⟨SeqAt.RcAt.int_bool c h b,SeqAt.RcNeAt.int_bool c h b⟩
  | int i=>have z:=f.SQ;subst z;obtain ⟨t,rfl⟩:=g;unfold S2;exact ⟨SeqAt.RcAt.int_int c h i t,SeqAt.RcNeAt.int_int c h i t⟩
  | str i=>have z:=f.S5;subst z;obtain ⟨t,rfl⟩:=g;unfold S2;exact ⟨SeqAt.RcAt.int_str c h i t,SeqAt.RcNeAt.int_str c h i t⟩
  | tup es=>obtain ⟨b,ys,z,q,B⟩:=f.S9;subst z;cases g;obtain ⟨p,E,p2,_⟩:=I.tuple q;unfold S2;exact ⟨SeqAt.RcAt.int_tuple c h (show s.heap.IsTuple b p.toArray from p2) j,SeqAt.RcNeAt.int_tuple c h (show s.heap.IsTuple b p.toArray from p2) j⟩
 | str c =>
  have z:=r.S5;subst z;obtain ⟨h,rfl⟩:=v
  cases e with
  | lst=>unfold UM at m;cases m
  | SO=>have z:=f.Vj;subst z;cases g;unfold S2;exact ⟨SeqAt.RcAt.str_none c h,SeqAt.RcNeAt.str_none c h⟩
  | bl b=>have z:=f.VZ;subst z;cases g;unfold S2;exact ⟨SeqAt.RcAt.str_bool c h b,SeqAt.RcNeAt.str_bool c h b⟩
  | int i=>have z:=f.SQ;subst z;obtain ⟨t,rfl⟩:=g;unfold S2;exact ⟨SeqAt.RcAt.str_int c h i t,SeqAt.RcNeAt.str_int c h i t⟩
  | str i=>have z:=f.S5;subst z;obtain ⟨t,rfl⟩:=g;unfold S2;exact ⟨SeqAt.RcAt.str_str c h i t,SeqAt.RcNeAt.str_str c h i t⟩
  | tup es=>obtain ⟨b,ys,z,q,B⟩:=f.S9;subst z;cases g;obtain ⟨p,E,p2,_⟩:=I.tuple q;unfold S2;exact ⟨SeqAt.RcAt.str_tuple c h (show s.heap.IsTuple b p.toArray from p2) j,SeqAt.RcNeAt.str_tuple c h (show s.heap.IsTuple b p.toArray from p2) j⟩
 | tup ds =>
  obtain ⟨a,xs,z,s1,G⟩:=r.S9;subst z;cases v;obtain ⟨us,T,p1,_⟩:=I.tuple s1;have k:s.heap.IsTuple a us.toArray:=p1
  cases e with
  | lst=>unfold UM at m;cases m
  | SO=>have z:=f.Vj;subst z;cases g;unfold S2;exact ⟨SeqAt.RcAt.tuple_none k j,SeqAt.RcNeAt.tuple_none k j⟩
  | bl b=>have z:=f.VZ;subst z;cases g;unfold S2;exact ⟨SeqAt.RcAt.tuple_bool b k j,SeqAt.RcNeAt.tuple_bool b k j⟩
  | int i=>have z:=f.SQ;subst z;obtain ⟨t,rfl⟩:=g;unfold S2;exact ⟨SeqAt.RcAt.tuple_int i t k j,SeqAt.RcNeAt.tuple_int i t k j⟩
  | str i=>have z:=f.S5;subst z;obtain ⟨t,rfl⟩:=g;unfold S2;exact ⟨SeqAt.RcAt.tuple_str i t k j,SeqAt.RcNeAt.tuple_str i t k j⟩
  | tup es =>obtain ⟨b,ys,z,q,B⟩:=f.S9;subst z;cases g;unfold gT at F;unfold UM at C m;unfold S2;exact xP (A:=A) (ds:=ds) (es:=es) I j n (λd e x y u w J L M N O Q R=>yw I n A.in1 d e x y u w (by rw [n6];lia) J L M N O Q R) (by lia) C m G B s1 q
theorem Jl (I:Inv X pins σ H s) (n:Nat) (A:Around) (ds es:List D) (a b:Addr) (xs ys:List V) (R:A.units+n+2 < cLine) (v:SY ds<=n) (B:Tn ds=true) (C:Tn es=true) (E:SR X.K H a xs) (F:SR X.K H b ys) (j:SI X.K H ds xs) (k:SI X.K H es ys) :
  SeqAt.RcAt A s (.ref a) (.ref b) (Tf ds es)/\SeqAt.RcNeAt A s (.ref a) (.ref b) (!Tf ds es):=by
 have f:A.units < cLine:=by lia
 obtain ⟨us,m,p1,_⟩:=I.list E;obtain ⟨h,q,p2,_⟩:=I.list F;have i:us.toArray.size=ds.length:=by rw [PC,<- m.length,j.length]
 have r:h.toArray.size=es.length:=by rw [PC,<- q.length,k.length]
 have hi:=qr (X:=X) (H:=H) (s:=s) (A:=A.in1) n (λd e x y u w G J L M N O Q=>yw I n A.in1 d e x y u w (by rw [n6];lia) G J L M N O Q) v B C j k m q;by_cases g:ds.length=es.length
 ·have c:us.toArray.size=h.toArray.size:=by rw [i,r,g]
  have p:=SeqAt.RcAt.lists p1.isList p2.isList c f hi;have t:=SeqAt.RcNeAt.lists p1.isList p2.isList c f hi;rw [i,wU g] at p t;exact ⟨p,t⟩
 ·have c:(us.toArray.size != h.toArray.size)=true:=by rw [i,r];simpa using g
  have z:Tf ds es=false:=by
   rw [<- kz];have:(ds.length == es.length)=false:=by simpa using g
   rw [this,Qo]
  rw [z];exact ⟨SeqAt.RcAt.lists_lengths p1.isList p2.isList c f,SeqAt.RcNeAt.lists_lengths p1.isList p2.isList c f⟩
end
section
variable {X:Cx} {k:Nat}
noncomputable def HY (K:W.Frag) (b:Bool):R2:=λx y H Q=>∃ d e,Dat K H d x/\Dat K H e y/\UM d=true/\UM e=true/\gT d<=20/\Q (.bl (if b then !S2 d e else S2 d e)) H
theorem HG (c:TH k X.A):VX X (compareOp .Eq) (HY X.K false):=by
 intro b s σ H x y v u Q I f g h;obtain ⟨d,e,i,j,m,p,t,q⟩:=h;have r:X.A.units+19+2 < cLine:=by have:=c.un;lia
 exact (Jk I 19 X.A d e x y v u r (by lia) m p i j f g).1 _ _ _ _ ⟨.bl _,H,I,rfl,q⟩
theorem HH (c:TH k X.A):VX X (compareOp .NotEq) (HY X.K true):=by
 intro b s σ H x y v u Q I f g h;obtain ⟨d,e,i,j,m,p,t,q⟩:=h;have r:X.A.units+19+2 < cLine:=by have:=c.un;lia
 exact (Jk I 19 X.A d e x y v u r (by lia) m p i j f g).2 _ _ _ _ ⟨.bl _,H,I,rfl,q⟩
noncomputable def FC (K:W.Frag) (c:Bool):R2:=λx y H Q=>∃ a b xs ys ds es,x=.ref a/\y=.ref b/\SR K H a xs/\SR K H b ys/\SI K H ds xs/\SI K H es ys/\Tn ds=true/\Tn es=true/\SY ds<=20/\Q (.bl (if c then !Tf ds es else Tf ds es)) H
theorem vA (d:TH k X.A):VX X (compareOp .Eq) (FC X.K false):=by
 intro c s σ H x y v u Q I e f h;obtain ⟨a,b,xs,ys,ds,es,ex,g,i,j,m,p,r,t,z,q⟩:=h;subst ex g;cases e;cases f;have B:X.A.units+20+2 < cLine:=by have:=d.un;lia
 exact (Jl I 20 X.A ds es a b xs ys B z r t i j m p).1 _ _ _ _ ⟨.bl _,H,I,rfl,q⟩
theorem Dq (d:TH k X.A):VX X (compareOp .NotEq) (FC X.K true):=by
 intro c s σ H x y v u Q I e f h;obtain ⟨a,b,xs,ys,ds,es,ex,g,i,j,m,p,r,t,z,q⟩:=h;subst ex g;cases e;cases f;have B:X.A.units+20+2 < cLine:=by have:=d.un;lia
 exact (Jl I 20 X.A ds es a b xs ys B z r t i j m p).2 _ _ _ _ ⟨.bl _,H,I,rfl,q⟩
theorem Bv:VX X (compareOp .IsNot) (λx y H Q=>∃ a b,x=.bl a/\y=.bl b/\Q (.bl (a != b)) H):=by intro c s σ H x y v u Q I d e h;obtain ⟨a,b,ex,f,q⟩:=h;subst ex f;cases d;cases e;exact PyProof.Rows.isnot_bool ⟨.bl _,H,I,rfl,q⟩
noncomputable def tyD:D->String
 | .SO=>"NoneType"
 | .bl _=>"bool"
 | .int _=>"int"
 | .str _=>"str"
 | .tup _=>"tuple"
 | .lst=>"list"
noncomputable def pB (d:D) (T:String):Bool:=tyD d == T || (tyD d == "bool" && T == "int")
theorem gC {T:String} (hk:∀ d:D,W.kitOne X.K (.type (tyD d)) (.type T)=some (pB d T)) :
  jz X (.builtin "isinstance") (λxs H Q=>∃ x d,xs=[x,.ty T]/\Dat X.K H d x/\Q (.bl (pB d T)) H):=by
 intro m s σ H xs us Q I r h;obtain ⟨x,d,e,q,h⟩:=h;subst e;obtain ⟨u,c,e,g,C⟩:=JB r;subst e;cases (show c=Value.type T from C);have f:∀ tk,EP X m σ Q (.bool (pB d T)) { s with toks:=tk }:=λtk=>⟨.bl _,H,I.tok tk,rfl,h⟩
 have j:=hk d
 cases d with
 | SO=>have z:=q.Vj;subst z;cases g;exact Sv W.kitx_none I.Wc True.intro j (λz=>nomatch z) f
 | bl b=>have z:=q.VZ;subst z;cases g;exact Sv W.kitx_bool I.Wc True.intro j (λz=>nomatch z) f
 | int i=>have z:=q.SQ;subst z;obtain ⟨t,rfl⟩:=g;exact Sv W.kitx_int I.Wc True.intro j (λz=>nomatch z) f
 | str y=>have z:=q.S5;subst z;obtain ⟨t,rfl⟩:=g;exact Sv W.kitx_str I.Wc True.intro j (λz=>nomatch z) f
 | tup ds =>obtain ⟨a,vs,z,p,_⟩:=q.S9;subst z;cases g;obtain ⟨its,_,⟨o,v,B,_⟩,_⟩:=I.tuple p;exact Sv W.kitx_tuple I.Wc ⟨o,v,B⟩ j (λz=>nomatch z) f
 | lst =>obtain ⟨a,vs,z,p⟩:=q.YO;subst z;cases g;obtain ⟨its,_,⟨o,_,v,B,_⟩,_⟩:=I.list p;exact Sv W.kitx_list I.Wc ⟨o,v,B⟩ j (λz=>nomatch z) f
end
noncomputable def kW (K:W.Frag) (a:Addr) (T:List (Str × KTD.Dat)):Prop:=∀ h:Heap,K.In h->KTD.TextTab h a T
section
variable {X:Cx}
theorem nC:VX X (compareOp .In) (λx y H Q=>∃ k a T,x=.str k/\y=.ref a/\kW X.K a T/\Q (.bl (KTD.inKeys k T)) H):=by intro b s σ H x y v u Q I c d h;obtain ⟨k,a,T,ex,f,t,q⟩:=h;subst ex f;obtain ⟨tk,rfl⟩:=c;cases d;exact KTD.in_text (h₀:=s.heap) ⟨t _ I.Wc,λ_ _ e=>e⟩ ⟨.bl _,H,I.tok _,rfl,q⟩
noncomputable def DE (K:W.Frag):R2:=λx y H Q=>∃ a k T i,x=.ref a/\y=.str k/\kW K a T/\(T.all λp=>KTD.plain p.2)=true/\KTD.datumAt k T=some (.flat (.int i))/\Q (.int i) H
theorem CT:IxR X (DE X.K):=by
 intro m p r s σ H x y v u Q I z B h C;obtain ⟨a,k,T,i,ex,D,t,E,f,q⟩:=h;subst ex D;obtain ⟨tk,rfl⟩:=B;cases z;have F:KTD.inKeys k T=true:=by rw [<- KTD.isSome_datumAt,f];rfl
 refine KTD.item_textA (h₀:=s.heap) ⟨t _ I.Wc,λ_ _ e=>e⟩ E F ?_ C
 exact c T f λv G=>by obtain ⟨t',rfl⟩:=PyProof.V.Flat.int_inv G;exact ⟨.int i,H,I.tok _,⟨t',rfl⟩,q⟩
where
 c {h:Heap} {k:Str} {P:Value->Prop} {i:Int}:∀ (T:List (Str × KTD.Dat)),KTD.datumAt k T=some (.flat (.int i))->(∀ v,PyProof.V.Flat v (.int i)->P v)->KTD.EachL h k P T
  | [],f,_=>by simp [KTD.datumAt] at f
  | (x,d)::T,f,g=>by
   have b:(if decide (k=x)=true then some d else KTD.datumAt k T)=some (.flat (.int i)):=f
   by_cases j:k=x
   ·rw [Pk (Py j)] at b
    cases b
    refine KTD.eachL_hit j ?_
    exact opened g
   ·rw [M1 (by simp [j])] at b
    exact KTD.eachL_miss j (c T b g)
 opened {h:Heap} {P:Value->Prop} {i:Int} (g:∀ v,PyProof.V.Flat v (.int i)->P v):KTD.Opened h P (.flat (.int i)):=by
  first
   | exact KTD.opened_int λt=>g _ (PyProof.V.Flat.int i t)
   | exact λt=>g _ (PyProof.V.Flat.int i t)
end
section
variable {K:W.Frag} {H H' H2:Hp}
variable {a:Addr} {xs:List V}
theorem SJ.YD (e:SJ H H') (h:Ti K H a xs):Ti K H' a xs:=by
 rcases h with (h | ⟨o,h⟩) | h
 ·exact .inl (.inl (e _ _ h))
 ·exact .inl (.inr ⟨o,e _ _ h⟩)
 ·exact .inr h
theorem SJ.grow (e:SJ H H'):gA K H H':=⟨λ_ _ h=>e.YD h,λ_ xs h=>⟨xs,e.seq h⟩⟩
theorem SJ.dat {d:D} {v:V} (e:SJ H H') (h:Dat K H d v):Dat K H' d v:=Dat.mono e.grow d h
theorem SJ.SV {ds:List D} {vs:List V} (e:SJ H H') (h:SI K H ds vs):SI K H' ds vs:=SI.mono e.grow ds h
theorem aV {p:Addr} (h:H p=none) (o:HO):SJ H (upd H p o):=λb u q=>by rw [aS (aU q h)];exact q
noncomputable def S6 (t:Addr) (H H':Hp):Prop:=∀ b o,b≠t->H b=some o->H' b=some o
variable {t:Addr}
theorem SJ.but (e:SJ H H'):S6 t H H':=λb o _ h=>e b o h
theorem S6.trans (a:S6 t H H') (b:S6 t H' H2):S6 t H H2:=λc o n h=>b c o n (a c o n h)
theorem S6.upd {o:HO} (a:S6 t H H'):S6 t H (upd H' t o):=λb u n h=>by rw [aS n];exact a b u n h
variable {zs:List V}
theorem S6.YD (e:S6 t H H') (b:H t=some (.lst zs)) (h:Ti K H a xs):Ti K H' a xs:=by
 rcases h with (h | ⟨o,h⟩) | h
 ·exact .inl (.inl (e _ _ (λz=>by rw [z,b] at h;cases h) h))
 ·exact .inl (.inr ⟨o,e _ _ (λz=>by rw [z,b] at h;cases h) h⟩)
 ·exact .inr h
theorem S6.WC (e:S6 t H H') (n:a≠t) (h:SR K H a xs):SR K H' a xs:=by
 rcases h with (h | ⟨o,h⟩) | h
 ·exact .inl (.inl (e _ _ n h))
 ·exact .inl (.inr ⟨o,e _ _ n h⟩)
 ·exact .inr h
theorem S6.grow {b:List V} (e:S6 t H H') (d:H t=some (.lst zs)) (c:H' t=some (.lst b)):gA K H H' :=
 ⟨λ_ _ h=>e.YD d h,λa xs h=>by
  by_cases n:a=t
  ·subst n;exact ⟨b,SR.of c⟩
  ·exact ⟨xs,e.WC n h⟩⟩
end
section
variable {K:W.Frag}
theorem CO (d:D):W.kitOne K (.type (tyD d)) (.type "int")=some (pB d "int"):=by cases d <;> rfl
theorem E3 (d:D):W.kitOne K (.type (tyD d)) (.type "bool")=some (pB d "bool"):=by cases d <;> rfl
theorem CP (d:D):W.kitOne K (.type (tyD d)) (.type "str")=some (pB d "str"):=by cases d <;> rfl
theorem ng (d:D):W.kitOne K (.type (tyD d)) (.type "tuple")=some (pB d "tuple"):=by cases d <;> rfl
theorem Af (d:D):W.kitOne K (.type (tyD d)) (.type "list")=some (pB d "list"):=by cases d <;> rfl
end
noncomputable def Tj (K:W.Frag) (R:List D->D->Prop):Sp:=λvs H Q _=>∃ ds d,SI K H ds vs/\R ds d/\∀ v H',SJ H H'->Dat K H' d v->Q v H'
noncomputable def kL (K:W.Frag) (R:List D->List D->Prop):Sp:=λvs H Q _=>∃ ds es,SI K H ds vs/\R ds es/\∀ r us H',SJ H H'->H' r=some (.lst us)->H r=none->SI K H' es us->Q (.ref r) H'
variable {vs:List V}
theorem ji {a:D} (h:SI K H [a] vs):∃ u,vs=[u]/\Dat K H a u:=by obtain ⟨u,r,e,b,h⟩:=h.Tu;have z:=h.V1;subst z e;exact ⟨u,rfl,b⟩
theorem i5 {a b:D} (h:SI K H [a,b] vs):∃ u v,vs=[u,v]/\Dat K H a u/\Dat K H b v:=by obtain ⟨u,r,e,c,h⟩:=h.Tu;obtain ⟨v,q,d⟩:=ji h;subst q e;exact ⟨u,v,rfl,c,d⟩
theorem sT {a b c:D} (h:SI K H [a,b,c] vs):∃ u v w,vs=[u,v,w]/\Dat K H a u/\Dat K H b v/\Dat K H c w:=by obtain ⟨u,r,e,d,h⟩:=h.Tu;obtain ⟨v,w,q,f⟩:=i5 h;subst q e;exact ⟨u,v,w,rfl,d,f⟩
variable {σ:St} {j:Nat}
theorem nO {z:Option V} {x:Option V}:(σ.set j z).set j x=σ.set j x:=by rw [List.set_set]
variable {J:It} {item:Nat->V} {te:TE} {σ0:St} {Q:VK}
theorem ql (Ok:Hp->Prop)
  (B:∀ i H',Ok H'->i < n->J.go i H'/\∀ x c,J.Yg i H' x c->c=H'/\x=item i) (stop:∀ H',Ok H'->J.stop n H') (C:σ0.set j none=σ0)
  (D:Addr) (d:Nat->Hp->Prop) (p0:d 0 (upd H1 D (.lst []))) (ok:∀ i H',i<=n->d i H'->Ok H')
  (h:∀ i H',i < n->d i H'->te (σ0.set j (some (item i))) H' λv k=>∃ ys,k D=some (.lst ys)/\ys.length < sizeLine/\(∃ z,σ0.set j (some (item i))=σ0.set j z)/\d (i+1) (upd k D (.lst (ys++[v]))))
  (r:∀ H',d n H'->Q (.ref D) H') :
  ∃ W:Nat->Nat->St->Hp->Prop,(∃ m,W 0 m σ0 (upd H1 D (.lst [])))/\∀ i m σ' H',W i m σ' H' ->
   (J.stop i H'/\Q (.ref D) H') \/
   (J.go i H'/\∃ s:St->Hp->Prop,(∀ σ'' c,s σ'' c->∃ t,t < m/\W (i+1) t σ'' c)/\∀ x c,J.Yg i H' x c->d6 j x σ' c λσ2 E=>jc σ2 E λb u =>
    if b=true then te σ2 u λv k=>∃ ys,k D=some (.lst ys)/\ys.length < sizeLine/\s σ2 (upd k D (.lst (ys++[v]))) else s σ2 u):=by
 refine ⟨λi m σ' H'=>m=n - i/\i<=n/\(∃ z,σ'=σ0.set j z)/\d i H',⟨n,by lia,QA _,⟨none,C.symm⟩,p0⟩,?_⟩;rintro i m σ' H' ⟨rfl,hi,⟨z,rfl⟩,p⟩;have o:=ok i H' hi p;by_cases f:i < n
 ·obtain ⟨g,y⟩:=B i H' o f;refine .inr ⟨g,λσ'' c=>(∃ z,σ''=σ0.set j z)/\d (i+1) c,λσ'' c q=>⟨n - (i+1),by lia,rfl,f,q.1,q.2⟩,λx c F=>?_⟩;obtain ⟨G,I⟩:=y x c F;subst G I;simp only [d6,jc,RO,nO];exact h i _ f p
 ·have e:i=n:=by lia
  subst e;exact .inl ⟨stop H' o,r H' p⟩
theorem Ho (i:Nat) (H':Hp) (h:Ti K H' a xs) (hi:i < xs.length):(Itt K a).go i H'/\∀ x b,(Itt K a).Yg i H' x b->b=H'/\x=xs.getD i .SO:=by refine ⟨⟨xs,xs[i],h,Pg hi⟩,λx b y=>⟨y.1,?_⟩⟩;have q:=y.2 xs h;rw [PZ,q];rfl
theorem uH (i:Nat) (H':Hp) (h:SR K H' a xs) (hi:i < xs.length):(Z4 K a).go i H'/\∀ x b,(Z4 K a).Yg i H' x b->b=H'/\x=xs.getD i .SO:=by refine ⟨⟨xs,xs[i],h,Pg hi⟩,λx b y=>⟨y.1,?_⟩⟩;have q:=y.2 xs h;rw [PZ,q];rfl
theorem Hn (i:Nat) (H':Hp) (hi:i < n):(Itr 0 n).go i H'/\∀ x b,(Itr 0 n).Yg i H' x b->b=H'/\x=.int i:=by refine ⟨hi,λx b y=>⟨y.1,?_⟩⟩;have q:=y.2;rw [q];simp
section
variable {X:Cx}
noncomputable def Jd (K:W.Frag):V->V->Hp->VK->Prop:=λo i H Q=>∃ p xs k v,o=.ref p/\i=.int k/\0<=k/\SR K H p xs/\xs[k.toNat]?=some v/\Q v H
theorem xg:IE X (Jd X.K):=by intro c s σ H o i C D Q I e f h;obtain ⟨p,xs,k,v,g,m,u,y,d,q⟩:=h;subst g m;cases e;obtain ⟨t,rfl⟩:=f;obtain ⟨its,r,pl,E⟩:=I.list y;obtain ⟨w,z,b⟩:=r.get d;have F:=r.length;have B:k.toNat < xs.length:=(P5.mp d).1;have G:=mR;exact wpAny_getItem_list pl.isList u (by lia) (by simpa using z) ⟨v,H,I,b,q⟩
theorem Fm:VX X (binaryOp .Mult) (rI IntMulOk λi j=>.int (i * j)):=opI λ_ _ _ _ _ _ _ b q=>mul_int q b
end
theorem uO (h:j < n):YM n (j:Int)=some j:=by unfold YM;rw [Pk (by lia),Pk (by lia)];simp
theorem at0 {α:Type} {x:α} {r:List α}:YZ (x::r) 0=some x:=jT (j:=0) rfl
theorem at1 {α:Type} {x y:α} {r:List α}:YZ (x::y::r) 1=some y:=jT (j:=1) rfl
theorem at2 {α:Type} {x y z:α} {r:List α}:YZ (x::y::z::r) 2=some z:=jT (j:=2) rfl
theorem ix0:YM (n+1) 0=some 0:=uO (j:=0) (by lia)
theorem ix1:YM (n+2) 1=some 1:=uO (j:=1) (by lia)
theorem ix2:YM (n+3) 2=some 2:=uO (j:=2) (by lia)
theorem dN:∀ ns:List Int,SI K H (ns.map D.int) (ns.map V.int)
 | []=>SI.nil
 | n::ns=>SI.cons (Dat.SN n) (dN ns)
theorem jy:∀ ns:List Int,Tn (ns.map D.int)=true
 | []=>by unfold Tn;rfl
 | n::ns=>by show Tn (D.int n::ns.map D.int)=true;unfold Tn;rw [jy ns];unfold UM;rfl
theorem i6:∀ ns:List Int,SY (ns.map D.int)=0
 | []=>by unfold SY;rfl
 | n::ns=>by show SY (D.int n::ns.map D.int)=0;unfold SY;rw [i6 ns];unfold gT;rfl
theorem qt (ns:List Int):Tf (ns.map D.int) []=ns.isEmpty:=by
 cases ns with
 | nil=>unfold Tf;rfl
 | cons n ns=>show Tf (D.int n::ns.map D.int) []=false;unfold Tf;rfl
theorem dB (h:n<=1000):n<=sizeLine:=QO (cM h)
noncomputable def Yw (K:W.Frag) (H:Hp) (a:Addr) (ns:List Int):Prop:=(∃ o,H a=some (.Zq o (.lst (ns.map V.int)))) \/
 ∃ (o:Obj) (its:Array Value) (n:Nat),K.lookup a=some o/\o.cls=.type "list"/\o.dict=none/\o.data=.seq its n/\its.size<=sizeLine/\Vals (ns.map V.int) its.toList
theorem Yw.WC (h:Yw K H a ns):SR K H a (ns.map V.int):=by
 rcases h with ⟨o,h⟩ | h
 ·exact .inl (.inr ⟨o,h⟩)
 ·exact .inr h
theorem Yw.but {t:Addr} {zs:List V} (h:Yw K H a ns) (e:S6 t H H') (b:H t=some (.lst zs)):Yw K H' a ns:=by
 rcases h with ⟨o,h⟩ | h
 ·exact .inl ⟨o,e _ _ (λz=>by rw [z,b] at h;cases h) h⟩
 ·exact .inr h
theorem Yw.same (h:Yw K H a ns) (e:SJ H H'):Yw K H' a ns:=by
 rcases h with ⟨o,h⟩ | h
 ·exact .inl ⟨o,e _ _ h⟩
 ·exact .inr h
theorem Im (b:EA H) (h:SR K H a (ns.map V.int)):Yw K H a ns:=by
 rcases h with (h | ⟨o,h⟩) | h
 ·rcases b a with z | ⟨o,xs,z⟩
  ·rw [h] at z;cases z
  ·rw [h] at z;cases z
 ·exact .inl ⟨o,h⟩
 ·exact .inr h
noncomputable def rN (K:W.Frag):Sp:=λvs H Q _=>∃ (a t:Addr) (ns:List Int) (m p q:Int) (rest:List V),vs=[.ref a,.ref t,.int m]/\Yw K H a ns/\H t=some (.lst (.int p::.int q::rest))/\0<=p/\0 < m/\m<=1000000 /\
 ∀ (r:Int) (H':Hp) (b q':Int),S6 t H H'->H' t=some (.lst (.int b::.int q'::rest))->0<=b->0<=r->r < m->Q (.int r) H'
noncomputable def RE (K:W.Frag) (t:TE) (σ:St) (H:Hp) (d:D):Prop:=∀ H1,SJ H H1->∀ Q:VK,(∀ v H',SJ H1 H'->Dat K H' d v->Q v H')->t σ H1 Q
noncomputable def RT (t:TT) (σ:St) (H:Hp) (b:Bool):Prop:=∀ H1,SJ H H1->∀ Q:Bool->Hp->Prop,(∀ H',SJ H1 H'->Q b H')->t σ H1 Q
noncomputable def RA (K:W.Frag) (t:TA) (σ:St) (H:Hp) (ds:List D):Prop:=∀ H1,SJ H H1->∀ Q:List V->Hp->Prop,(∀ vs H',SJ H1 H'->SI K H' ds vs->Q vs H')->t σ H1 Q
section
variable {K:W.Frag} {σ:St} {H H':Hp} {d d':D} {ds:List D} {t u ta tb:TE} {tt uu:TT} {tA:TA} {i j:Int} {b c:Bool}
theorem RE.mono (h:RE K t σ H d) (e:SJ H H'):RE K t σ H' d:=λH1 s Q q=>h H1 (e.trans s) Q q
theorem RA.mono (h:RA K tA σ H ds) (e:SJ H H'):RA K tA σ H' ds:=λH1 s Q q=>h H1 (e.trans s) Q q
theorem RE.as (h:RE K t σ H d) (e:d=d'):RE K t σ H d':=e ▸ h
theorem RT.as (h:RT tt σ H b) (e:b=c):RT tt σ H c:=e ▸ h
theorem RE.use {Q:VK} (h:RE K t σ H d) (q:∀ v H',SJ H H'->Dat K H' d v->Q v H'):t σ H Q:=h H (SJ.refl H) Q q
theorem RT.use {Q:Bool->Hp->Prop} (h:RT tt σ H b) (q:∀ H',SJ H H'->Q b H'):tt σ H Q:=h H (SJ.refl H) Q q
theorem RA.use {Q:List V->Hp->Prop} (h:RA K tA σ H ds) (q:∀ vs H',SJ H H'->SI K H' ds vs->Q vs H'):tA σ H Q:=h H (SJ.refl H) Q q
theorem aG:RE K (tC (.int i)) σ H (.int i):=λH1 _ Q q=>q _ _ (SJ.refl _) (Dat.SN i)
variable {x:Str}
theorem aL:RE K (tC (.str x)) σ H (.str x):=λH1 _ Q q=>q _ _ (SJ.refl _) (Dat.Th x)
theorem f7:RE K (tC (.bl b)) σ H (.bl b):=λH1 _ Q q=>q _ _ (SJ.refl _) (Dat.VY b)
theorem DS:RE K (tC .SO) σ H .SO:=λH1 _ Q q=>q _ _ (SJ.refl _) Dat.X7
theorem aA {k:Nat} {v:V} (h:Dat K H d v) (e:σ[k]?=some (some v):=by rfl):RE K (fT k) σ H d:=λH1 s Q q=>⟨v,e,q _ _ (SJ.refl _) (s.dat h)⟩
theorem aM:RA K dW σ H []:=λH1 _ Q q=>q _ _ (SJ.refl _) SI.nil
theorem aB (h:RE K t σ H d) (r:RA K tA σ H ds):RA K (bW t tA) σ H (d::ds):=λH1 s Q q =>
 h H1 s _ λv g e k=>r g (s.trans e) _ λvs p f m=>q _ _ (e.trans f) (SI.cons (f.dat k) m)
theorem bF (h:RA K tA σ H ds) (g:ds.length<=1000:=by simp):RE K (zB tA) σ H (.tup ds):=λH1 s Q q =>
 h H1 s _ λvs m k e=>⟨by rw [<- e.length];exact dB g,λp f=>q _ _ (k.trans (aV f _)) (Dat.tupI (Ti.of aI) ((aV f _).SV e))⟩
theorem AH {g:Int->Int} (h:RE K t σ H (.int i)):RE K (tUn (rU λi=>.int (g i)) t) σ H (.int (g i)):=λH1 s Q q =>
 h H1 s _ λv k e f=>⟨i,f.SQ,q _ _ e (Dat.SN _)⟩
variable {g:Int->Int->V}
theorem zk (f:RE K ta σ H (.int i)) (h:RE K tb σ H (.int j)) (k:∀ H,Dat K H d (g i j)):RE K (VG (YX g) ta tb) σ H d:=λH1 s Q q =>
 f H1 s _ λv m e p=>h m (s.trans e) _ λw z r y=>⟨i,j,p.SQ,y.SQ,q _ _ (e.trans r) (k _)⟩
theorem zl {C:Int->Int->Prop} (f:RE K ta σ H (.int i)) (h:RE K tb σ H (.int j)) (k:C i j) (m:∀ H,Dat K H d (g i j)):RE K (VG (rI C g) ta tb) σ H d:=λH1 s Q q =>
 f H1 s _ λv p e r=>h p (s.trans e) _ λw B y z=>⟨i,j,r.SQ,z.SQ,k,q _ _ (e.trans y) (m _)⟩
theorem c8 (e:RE K ta σ H (.int i)) (f:RE K tb σ H (.int j)):RE K (VG (YX λi j=>.int (i+j)) ta tb) σ H (.int (i+j)):=zk e f λ_=>Dat.SN _
theorem vN (e:RE K ta σ H (.int i)) (f:RE K tb σ H (.int j)):RE K (VG (YX λi j=>.int (i - j)) ta tb) σ H (.int (i - j)):=zk e f λ_=>Dat.SN _
variable {p:Int->Int->Bool}
theorem cQ (e:RE K ta σ H (.int i)) (f:RE K tb σ H (.int j)):RE K (VG (YX λi j=>.bl (p i j)) ta tb) σ H (.bl (p i j)):=zk e f λ_=>Dat.VY _
theorem mV (h:RE K ta σ H (.int i)) (k:RE K tb σ H (.int j)):RE K (VG rEq ta tb) σ H (.bl (decide (i=j))):=λH1 s Q q =>
 h H1 s _ λv m f r=>k m (s.trans f) _ λw C y B=>by
  rw [r.SQ,B.SQ];refine ⟨rfl,?_⟩;have e:decide (V.int i=V.int j)=decide (i=j):=by by_cases z:i=j <;> simp [z]
  rw [e];exact q _ _ (f.trans y) (Dat.VY _)
theorem kI (h:RE K ta σ H (.int i)) (k:RE K tb σ H (.int j)):RE K (VG rNe ta tb) σ H (.bl (!decide (i=j))):=λH1 s Q q =>
 h H1 s _ λv m f r=>k m (s.trans f) _ λw C y B=>by
  rw [r.SQ,B.SQ];refine ⟨rfl,?_⟩;have e:decide (V.int i=V.int j)=decide (i=j):=by by_cases z:i=j <;> simp [z]
  rw [e];exact q _ _ (f.trans y) (Dat.VY _)
theorem bI {y:Str} (h:RE K ta σ H (.str x)) (k:RE K tb σ H (.str y)):RE K (VG rEq ta tb) σ H (.bl (decide (x=y))):=λH1 s Q q =>
 h H1 s _ λv m f r=>k m (s.trans f) _ λw E B C=>by
  rw [r.S5,C.S5];refine ⟨rfl,?_⟩;have e:decide (V.str x=V.str y)=decide (x=y):=by by_cases z:x=y <;> simp [z]
  rw [e];exact q _ _ (f.trans B) (Dat.VY _)
theorem BE (f:RE K ta σ H (.bl b)) (h:RE K tb σ H (.bl c)):RE K (VG (λx y H Q=>∃ a b,x=.bl a/\y=.bl b/\Q (.bl (a != b)) H) ta tb) σ H (.bl (b != c)):=λH1 s Q q =>
 f H1 s _ λv k e m=>h k (s.trans e) _ λw B r z=>⟨b,c,m.VZ,z.VZ,q _ _ (e.trans r) (Dat.VY _)⟩
theorem a6 {k:Nat} (m:RE K ta σ H (.tup ds)) (r:RE K tb σ H (.int k)) (e:ds[k]?=some d):RE K (VG (sD K) ta tb) σ H d:=λH1 s Q q =>
 m H1 s _ λv y f z=>r y (s.trans f) _ λw I h B=>by obtain ⟨a,vs,C,E,F⟩:=(h.dat z).S9;obtain ⟨x,ex,G⟩:=F.get e;exact ⟨a,vs,k,x,C,B.SQ,E,jT ex,q _ _ (f.trans h) G⟩
theorem fL (h:RE K t σ H (.tup ds)):RE K (XA (λxs H Q=>∃ p ys,xs=[.ref p]/\(SR K H p ys\/Ti K H p ys)/\Q (.int ys.length) H) (bW t dW)) σ H (.int ds.length):=λH1 s Q q =>
 h H1 s _ λv y e f=>by obtain ⟨a,vs,k,m,r⟩:=f.S9;subst k;refine ⟨a,vs,rfl,.inr m,?_⟩;rw [<- r.length];exact q _ _ e (Dat.SN _)
theorem dC {T:String} (h:RE K t σ H d):RE K (XA (λxs H Q=>∃ x d,xs=[x,.ty T]/\Dat K H d x/\Q (.bl (pB d T)) H) (bW t (bW (tC (.ty T)) dW))) σ H (.bl (pB d T)):=λH1 s Q q =>
 h H1 s _ λv k e f=>⟨v,d,rfl,f,q _ _ e (Dat.VY _)⟩
theorem bM {R:List D->D->Prop} {E:XK} (h:RA K tA σ H ds) (e:R ds d):RE K (kr (Tj K R) [] E tA) σ H d:=λH1 s Q q =>
 h H1 s _ λvs y f k=>⟨ds,d,by rw [PR];exact k,e,λv z m r=>q _ _ (f.trans m) r⟩
variable {a:Addr} {T:List (Str × KTD.Dat)}
theorem i9 {k:Str} (h:RE K t σ H (.str k)) (e:kW K a T):RE K (VG (λx y H Q=>∃ k a T,x=.str k/\y=.ref a/\kW K a T/\Q (.bl (KTD.inKeys k T)) H) t (tC (.ref a))) σ H (.bl (KTD.inKeys k T)):=λH1 s Q q =>
 h H1 s _ λv r f m=>⟨k,a,T,m.S5,rfl,e,q _ _ f (Dat.VY _)⟩
theorem xS {k:Str} (h:RE K t σ H (.str k)) (f:kW K a T) (m:(T.all λp=>KTD.plain p.2)=true) (e:KTD.datumAt k T=some (.flat (.int i))):RE K (VG (DE K) (tC (.ref a)) t) σ H (.int i):=λH1 s Q q =>
 h H1 s _ λv z r y=>⟨a,k,T,i,rfl,y.S5,f,m,e,q _ _ r (Dat.SN _)⟩
theorem Jp {n:Nat}:HT.Uq (n+1) 0 (some 1)=1:=by have:=HT.XC (n+1) 0 1;simpa using this
theorem JI (v:V) (r:List V):sf (v::r) (some 1) none=r:=by unfold sf;rw [Pr,Jp,HT.Zu];simp
theorem mh (h:RE K t σ H (.tup (d'::ds))):RE K (tSl (HZ K) t (uc (tC (.int 1))) AQ) σ H (.tup ds):=λH1 s Q q =>
 h H1 s _ λv F f k=>by
  obtain ⟨a,vs,m,y,B⟩:=k.S9;obtain ⟨w,r,C,G,E⟩:=B.Tu;subst m C;refine ⟨1,rfl,a,w::r,rfl,y,λz=>?_,λp e=>?_⟩
  ·rw [Pr,Jp] at z;exact absurd z.1 (by decide)
  ·rw [JI];exact q _ _ (f.trans (aV e _)) (Dat.tupI (Ti.of aI) ((aV e _).SV E))
theorem eT (f:RE K ta σ H (.bl b)) (h:b=true->RE K tb σ H (.bl c)):RE K (Eb ta tb) σ H (.bl (b && c)):=λH1 s Q q =>
 f H1 s _ λv k e m=>⟨b,m.VZ,by
  cases b with
  | true=>rw [Pk rfl];exact h rfl k (s.trans e) _ λw z r y=>q _ _ (e.trans r) y
  | false=>rw [M1 Pp];exact q _ _ e (Dat.VY _)⟩
theorem AG (f:RE K ta σ H (.bl b)) (h:b=false->RE K tb σ H (.bl c)):RE K (Jx ta tb) σ H (.bl (b || c)):=λH1 s Q q =>
 f H1 s _ λv k e m=>⟨b,m.VZ,by
  cases b with
  | true=>rw [Pk rfl];exact q _ _ e (Dat.VY _)
  | false=>rw [M1 Pp];exact h rfl k (s.trans e) _ λw z r y=>q _ _ (e.trans r) y⟩
theorem DT (h:RE K t σ H (.bl b)):RE K (GF t) σ H (.bl (!b)):=λH1 s Q q =>
 h H1 s _ λv k e f=>⟨b,f.VZ,q _ _ e (Dat.VY _)⟩
theorem lK {r:Int->Int->Bool} {k:Int} {m:TE} (B:RE K ta σ H (.int i)) (C:RE K tb σ H (.int j)) (E:p i j=true->RE K m σ H (.int k)) :
  RE K (wj (YX λi j=>.bl (p i j)) (YX λi j=>.bl (r i j)) ta tb m) σ H (.bl (p i j && r j k)):=λH1 s Q q =>
 B H1 s _ λv F e G=>C F (s.trans e) _ λw I f y=>by
  refine ⟨i,j,G.SQ,y.SQ,p i j,rfl,?_⟩
  cases h:p i j with
  | true =>simp only [RO,QJ];exact E h I (s.trans (e.trans f)) _ λz N L M=>⟨j,k,y.SQ,M.SQ,q _ _ (e.trans (f.trans L)) (by rw [h];exact Dat.VY _)⟩
  | false =>simp only [Su,SD,Rn];exact q _ _ (e.trans f) (by rw [h];exact Dat.VY _)
theorem mC (h:RT tt σ H b) (r:b=true->RE K ta σ H d) (v:b=false->RE K tb σ H d):RE K (tIf tt ta tb) σ H d:=λH1 s Q q =>
 h H1 s _ λm e=>by
  cases b with
  | true=>rw [Pk rfl];exact r rfl m (s.trans e) _ λw y f k=>q _ _ (e.trans f) k
  | false=>rw [M1 Pp];exact v rfl m (s.trans e) _ λw y f k=>q _ _ (e.trans f) k
theorem aJ (h:RE K t σ H (.bl b)):RT (Ef t) σ H b:=λH1 s Q q=>h H1 s _ λv k e f=>⟨b,f.VZ,q _ e⟩
theorem bO (h:RE K t σ H (.bl b)):RT (λσ H Q=>t σ H λx H'=>∃ k,yn K x H' k/\Q k H') σ H b:=λH1 s Q q=>h H1 s _ λv m e f=>by rw [f.VZ];exact ⟨b,rfl,q _ e⟩
theorem bZ (h:RT tt σ H b):RT (Iu tt) σ H (!b):=λH1 s Q q=>h H1 s _ λf e=>q _ e
theorem vV (h:RT tt σ H b) (f:b=true->RT uu σ H c):RT (Js tt uu) σ H (b && c):=λH1 s Q q=>h H1 s _ λk e=>by
 cases b with
 | true=>rw [Pk rfl];exact f rfl k (s.trans e) _ λr m=>q _ (e.trans m)
 | false=>rw [M1 Pp];exact q _ e
theorem dP (h:RT tt σ H b) (f:b=false->RT uu σ H c):RT (tOr tt uu) σ H (b || c):=λH1 s Q q=>h H1 s _ λk e=>by
 cases b with
 | true=>rw [Pk rfl];exact q _ e
 | false=>rw [M1 Pp];exact f rfl k (s.trans e) _ λr m=>q _ (e.trans m)
variable {En:kx}
theorem bJ (h:RE K t σ H d) (q:∀ v H',SJ H H'->Dat K H' d v->En.rt v H'):Ee t En σ H:=h.use q
theorem Ik {k:Nat} (h:RE K t σ H d) (q:∀ v H',SJ H H'->Dat K H' d v->En.nx (σ.set k (some v)) H'):rQ t (d6 k) En σ H:=h.use q
theorem jk {ts us:TS} (h:RT tt σ H b) (e:b=true->∀ H',SJ H H'->ts En σ H') (f:b=false->∀ H',SJ H H'->us En σ H'):F5 tt ts us En σ H:=h.use λH' s=>by
 cases b with
 | true=>rw [Pk rfl];exact e rfl H' s
 | false=>rw [M1 Pp];exact f rfl H' s
end
theorem bU:bootBuiltins "len"=some (.builtin "len"):=by decide +kernel
theorem cY:bootBuiltins "isinstance"=some (.builtin "isinstance"):=by decide +kernel
theorem mN:bootBuiltins "all"=some (.builtin "all"):=by decide +kernel
theorem Hb:bootBuiltins "any"=some (.builtin "any"):=by decide +kernel
theorem yr:bootBuiltins "sum"=some (.builtin "sum"):=by decide +kernel
theorem Hc:bootBuiltins "min"=some (.builtin "min"):=by decide +kernel
theorem Cg:bootBuiltins "int"=some (.type "int"):=by decide +kernel
theorem EI:bootBuiltins "bool"=some (.type "bool"):=by decide +kernel
theorem Cj:bootBuiltins "str"=some (.type "str"):=by decide +kernel
theorem fP:bootBuiltins "tuple"=some (.type "tuple"):=by decide +kernel
theorem pK:bootBuiltins "list"=some (.type "list"):=by decide +kernel
theorem Ci:bootBuiltins "range"=some (.type "range"):=by decide +kernel
theorem Hd:bootBuiltins "set"=some (.type "set"):=by decide +kernel
theorem uk:bootBuiltins "enumerate"=some (.type "enumerate"):=by decide +kernel
theorem He:bootBuiltins "zip"=some (.type "zip"):=by decide +kernel
theorem oR:bootBuiltins "reversed"=some (.type "reversed"):=by decide +kernel
variable {tA:TA} {ds:List D}
theorem zo (h:RA K tA σ H ds) (q:∀ p vs H1,SJ H H1->H1 p=none->SI K H1 ds vs->Q (.ref p) (upd H1 p (.lst vs))) (c:ds.length<=1000:=by simp):wm tA σ H Q :=
 h.use λvs H1 s1 b=>⟨by rw [<- b.length];exact dB c,λp d=>q p vs H1 s1 d b⟩
theorem kg {K:PySem.W.Frag} (F:∀ i H',SJ H1 H'->i < n->J.go i H'/\∀ x c,J.Yg i H' x c->c=H'/\x=item i) (stop:∀ H',SJ H1 H'->J.stop n H')
  (G:σ0.set j none=σ0) (es:List D) (N:es.length=n) (q:n<=1000) (f:∀ i d,es[i]?=some d->RE K te (σ0.set j (some (item i))) H1 d)
  (r:∀ l ys H',H1 l=none->SJ H1 H'->H' l=some (.lst ys)->SI K H' es ys->Q (.ref l) H') (l:Addr) (s:H1 l=none) :
  ∃ W:Nat->Nat->St->Hp->Prop,(∃ m,W 0 m σ0 (upd H1 l (.lst [])))/\∀ i m σ' H',W i m σ' H' ->
   (J.stop i H'/\Q (.ref l) H') \/
   (J.go i H'/\∃ u:St->Hp->Prop,(∀ σ'' c,u σ'' c->∃ B,B < m/\W (i+1) B σ'' c)/\∀ x c,J.Yg i H' x c->d6 j x σ' c λσ2 I=>jc σ2 I λb C =>
    if b=true then te σ2 C λv e=>∃ ys,e l=some (.lst ys)/\ys.length < sizeLine/\u σ2 (upd e l (.lst (ys++[v]))) else u σ2 C):=by
 refine ql (λH'=>SJ H1 H') F stop G l (λi H'=>SJ H1 H'/\∃ ys,H' l=some (.lst ys)/\SI K H' (es.take i) ys) ?_ ?_ ?_ ?_
 ·exact ⟨aV s _,[],aI,by rw [QW];exact SI.nil⟩
 ·intro i H' _ p;exact p.1
 ·intro i H' hi ⟨s1,ys,y,h⟩;have k:i < es.length:=by lia
  refine ((f i es[i] (Pg k)).mono s1).use λv e z L=>?_;have E:=z _ _ y;have M:ys.length=i:=by rw [<- h.length,Qh];lia
  refine ⟨ys,E,cM (by lia),⟨_,rfl⟩,λb o q=>?_,ys++[v],aI,?_⟩
  ·rw [aS (aU q s)];exact z _ _ (s1 _ _ q)
  ·have g:gA K e (upd e l (.lst (ys++[v]))):=S6.grow (t:=l) (S6.upd (SJ.refl e).but) E aI;rw [Qq,Pg k];exact SI.append (SI.mono g _ (z.SV h)) (SI.cons (Dat.mono g _ L) SI.nil)
 ·intro H' ⟨s1,ys,y,h⟩;rw [Ry (by lia)] at h;exact r l ys H' s s1 y h
variable {tt:TT} {En:kx} {ts us:TS}
theorem aR {K:W.Frag} {b:Bool} (h:RT tt σ H b) (c:b=true->∀ H',SJ H H'->ts { En with nx:=us En } σ H') (d:b=false->∀ H',SJ H H'->us En σ H'):lX (F5 tt ts AO) us En σ H :=
 jk h c d
variable {d:D}
theorem eJ {t:TE} {k:Nat} (h:RE K t σ H d) (q:∀ v H',SJ H H'->Dat K H' d v->us En (σ.set k (some v)) H'):lX (rQ t (d6 k)) us En σ H:=h.use q
theorem fR {k:Nat} (h:te σ H λx H1=>us En (σ.set k (some x)) H1):lX (rQ te (d6 k)) us En σ H:=h
theorem jf (h:te σ H λ_ H1=>us En σ H1):lX (rR te) us En σ H:=h
variable {v:V}
theorem DZ (h:Q v H):tC v σ H Q:=h
theorem jO (h:te σ H En.rt):Ee te En σ H:=h
theorem eB (h:ts { En with nx:=us En } σ H):lX ts us En σ H:=h
variable {tl:TE} {mk:St->St}
theorem oB {cs:List D} (h:RE K tl σ H (.tup cs)) (I:cs.length<=1000) (es:List D) (L:es.length=cs.length) (r:(mk σ).set j none=mk σ)
  (b:∀ H1 (i:Nat) c v d,SJ H H1->cs[i]?=some c->es[i]?=some d->Dat K H1 c v->RE K te ((mk σ).set j (some v)) H1 d)
  (g:∀ l ys H',H l=none->SJ H H'->H' l=some (.lst ys)->SI K H' es ys->Q (.ref l) H'):jP (E4 K tl) mk (d6 j) jc te σ H Q:=by
 refine h.use λM t k u=>?_;obtain ⟨a,vs,e,m,p⟩:=u.S9;subst e;have N:=p.length;refine ⟨a,rfl,⟨vs,m⟩,?_⟩;refine kg (K:=K) (Q:=Q) (n:=vs.length) (item:=λi=>vs.getD i .SO) (λi H' s hi=>Ho i H' (s.YD m) hi) (λH' s=>⟨vs,s.YD m,Pu _⟩) r es (by lia) (by lia) (λi d hi=>?_) (λl ys y z B=>g l ys y (k.free z) (k.trans B));have C:i < es.length:=(P5.mp hi).1;have f:i < cs.length:=by lia
 obtain ⟨E,F,G⟩:=p.get (Pg f);have q:=b t i cs[i] E d k (Pg f) hi G;rw [PZ,F];exact q
theorem kJ {Q:St->Hp->Prop} (h:Q (σ.set j (some v)) H):d6 j v σ H Q:=h
theorem pR (M:St->Hp->Prop) (b:∀ σ' H',M σ' H'->us En σ' H') (h:(∀ σ' H',M σ' H'->us En σ' H')->ts { En with nx:=us En } σ H):lX ts us En σ H:=h b
theorem iz {base:Heap} {k:Nat} {f:Addr} {ps:List Str} (b:∀ vs H Q E,¬ sp vs H Q E):Te P w K mg base CX k f fd ps sp :=
 ⟨λvs H Q E h=>absurd h (b vs H Q E),λA outer s H args us vs Q E _ _ _ _ h=>absurd h (b vs H Q E)⟩
theorem rp (n:Nat) (h:∀ R:List V->Hp->Prop,R [.int n] H->tA σ H R) (m:n<=1000) (k:(mk σ).set j none=mk σ) (b:Addr->Nat->Hp->Prop)
  (p0:∀ l,H l=none->b l 0 (upd H l (.lst [])))
  (c:∀ l i G,H l=none->i < n->b l i G->te ((mk σ).set j (some (.int i))) G λv g=>∃ ys,g l=some (.lst ys)/\ys.length < sizeLine/\(∃ z,(mk σ).set j (some (.int i))=(mk σ).set j z)/\b l (i+1) (upd g l (.lst (ys++[v]))))
  (e:∀ l G,H l=none->b l n G->Q (.ref l) G):jP (Gk tA) mk (d6 j) jc te σ H Q:=by
 refine h _ ⟨n,rfl,by lia,by lia,λl f=>?_⟩;rw [RX];exact ql (λ_=>True) (item:=λi=>.int i) (λi H' _ hi=>Hn i H' hi) (λH' _=>Pu _) k l (b l) (p0 l f) (λ_ _ _ _=>trivial) (λi G hi p=>c l i G f hi p) (λG p=>e l G f p)
theorem iL {b:TE} {r:List V->Hp->VK->Prop} (h:b σ H λx H1=>r [x] H1 Q):XA r (bW b dW) σ H Q:=h
variable {i:Nat}
theorem DX {e:D} (h:RA K tA σ H [d,e]) (q:∀ v w H',SJ H H'->Dat K H' d v->Dat K H' e w->us En ((σ.set i (some v)).set j (some w)) H'):lX (Iv i j tA) us En σ H :=
 h.use λvs H1 s1 b=>by obtain ⟨v,w,e,c,f⟩:=i5 b;exact ⟨v,w,e,q v w H1 s1 c f⟩
theorem jX {e:D} (h:RE K te σ H (.tup [d,e])) (q:∀ v w H',SJ H H'->Dat K H' d v->Dat K H' e w->us En ((σ.set i (some v)).set j (some w)) H') :
  lX (rQ te (A7 K 2 (mw (d6 i) (mw (d6 j) CD)))) us En σ H :=
 h.use λx H1 s1 b=>by obtain ⟨a,vs,c,f,g⟩:=b.S9;obtain ⟨v,w,k,m,p⟩:=i5 g;subst c k;exact ⟨a,_,rfl,f,rfl,v,_,rfl,w,_,rfl,rfl,q v w H1 s1 m p⟩
noncomputable def Gn:Expr->Bool
 | .Starred ..=>false
 | _=>true
variable {e:Expr} {es:List Expr}
theorem BN (h:Gn e=true):starEach (e::es) env=(false,eval e env)::starEach es env:=by cases e <;> first | rfl | cases h
variable {t:TA}
theorem aD (b:PE X e te) (c:PA X es t) (h:Gn e=true:=by rfl):PA X (e::es) (bW te t):=dE b c (BN h)
theorem rW {bs:List Bool} {us:List Value}:Vals (bs.map V.bl) us->us=bs.map Value.bool:=by
 intro h
 induction bs generalizing us with
 | nil=>cases h;rfl
 | cons b bs c =>
  cases h with
  | cons r t=>cases r;rw [c t];rfl
theorem DM (bs:List Bool) (d:Bool):(List.range bs.length).map (λi=>(bs[i]?).getD d)=bs:=by
 apply List.ext_getElem
 ·simp
 ·intro i b c;simp at b;simp [b]
section
variable {X:Cx}
theorem jC (B:X.calm=true):jz X (.builtin "all") (λxs H Q=>∃ (l:Addr) (bs:List Bool),xs=[.ref l]/\SR X.K H l (bs.map V.bl)/\Q (.bl (bs.all id)) H):=by
 intro m s σ H xs us Q I r h;obtain ⟨l,bs,rfl,C,q⟩:=h;obtain ⟨u,rfl,E⟩:=jd r;cases E;obtain ⟨its,F,p,M⟩:=I.list C;have y:=rW F;have f:=p.isList;have g:l < s.heap.objs.size:=by obtain ⟨_,e,_⟩:=f;exact PL e
 refine call_all_walk (Rl f ?_)
 refine ⟨s.heap.objs.size,[s.heap.objs.size,l],[s.heap.objs.size],its.toArray.size,_,_,λi=>(bs[i]?).getD true,rfl,Walks.list (A:=X.A.in1) (I.ok.hd B) _ l (Qe g) its.toArray,
  ⟨⟨_,P6 _ rfl,rfl,rfl⟩,f.push _⟩,λi v s' N O G z=>?_,λh' tk hk=>?_⟩
 ·subst y;have c:(bs.map Value.bool)[i]?=some v:=by simpa using G
  rw [Pw] at c
  cases k:bs[i]? with
  | none=>rw [k] at c;cases c
  | some b =>rw [k] at c;cases c;simp only [k,Option.getD_some] at z;exact QD z
 ·have e:((List.range its.toArray.size).all λi=>(bs[i]?).getD true)=bs.all id:=by
   subst y;rw [PC,Pf]
   conv=>rhs;rw [<- DM bs true]
   rw [List.all_map];rfl
  rw [e];exact ⟨.bl _,H,I.kept (t':=tk) λb x e=>hk b x (λL=>by rw [PU.mp L] at e;exact QT _ (PL e)) (Ph _ e),rfl,q⟩
theorem Co (B:X.calm=true):jz X (.builtin "any") (λxs H Q=>∃ (l:Addr) (bs:List Bool),xs=[.ref l]/\SR X.K H l (bs.map V.bl)/\Q (.bl (bs.any id)) H):=by
 intro m s σ H xs us Q I r h;obtain ⟨l,bs,rfl,C,q⟩:=h;obtain ⟨u,rfl,E⟩:=jd r;cases E;obtain ⟨its,F,p,M⟩:=I.list C;have y:=rW F;have f:=p.isList;have g:l < s.heap.objs.size:=by obtain ⟨_,e,_⟩:=f;exact PL e
 refine call_any_walk (Rl f ?_)
 refine ⟨s.heap.objs.size,[s.heap.objs.size,l],[s.heap.objs.size],its.toArray.size,_,_,λi=>(bs[i]?).getD false,rfl,Walks.list (A:=X.A.in1) (I.ok.hd B) _ l (Qe g) its.toArray,
  ⟨⟨_,P6 _ rfl,rfl,rfl⟩,f.push _⟩,λi v s' N O G z=>?_,λh' tk hk=>?_⟩
 ·subst y;have c:(bs.map Value.bool)[i]?=some v:=by simpa using G
  rw [Pw] at c
  cases k:bs[i]? with
  | none=>rw [k] at c;cases c
  | some b =>rw [k] at c;cases c;simp only [k,Option.getD_some] at z;exact QD z
 ·have e:((List.range its.toArray.size).any λi=>(bs[i]?).getD false)=bs.any id:=by
   subst y;rw [PC,Pf]
   conv=>rhs;rw [<- DM bs false]
   rw [List.any_map];rfl
  rw [e];exact ⟨.bl _,H,I.kept (t':=tk) λb x e=>hk b x (λL=>by rw [PU.mp L] at e;exact QT _ (PL e)) (Ph _ e),rfl,q⟩
end
structure FunD (K:W.Frag) (x qual:Str) (st:Stmt) (f:Addr) (fd:FuncData) (T:Addr) (ds:List Value):Prop where
 ex:∃ (oc:Value) (od:Option Addr) (kV doc pm:Value) (an:Option Addr) (cdv ct:Value) (osl:Array (Option Value)),
  fd=W.fnOf x qual (cX st) (cP st) (aK st) (.ref T) kV doc pm an cdv ct/\K.lookup f=some ⟨oc,od,.func fd,osl⟩/\W.codeIn K cdv qual=true
 kp:W.keepIn K (.ref f)=true
 df:∃ (o:Obj) (n:Nat),K.lookup T=some o/\o.data=.seq ds.toArray n
section
variable {P:Program} {w:World} {K:W.Frag} {mg:Str->Option Value} {base:Heap}
theorem FunD.ok {x b:Str} {st:Stmt} {f T:Addr} {fd:FuncData} {ds:List Value} {N ps:List Str} {k:Nat} {sp:Sp} (F:FunD K x b st f fd T ds) (S:SM N ps (aK st)) (len:∀ vs H Q E,sp vs H Q E->vs.length=ps.length)
  (g:∀ (c:Value) (A:Around) (outer:List Env) (s:Shared) (H:Hp) (vs:List V) (Q:VK) (E:XK),TH k (A.deeper (envOfC b (aK st) s.heap.objs.size f c))->sp vs H Q E ->
   ∃ t,YJ (yv WI P w K mg base N b (aK st) f c A outer s H E).nox (cP st) t/\t { nx:=λ_ H'=>Q .SO H',rt:=Q } (start N vs) H):Te P w K mg base WI (k+1) f fd ps sp:=by
 obtain ⟨y,z,kV,doc,B,C,c,ct,p,rfl,lk,m⟩:=F.ex;refine Gj lk m S len λA outer s H vs Q E r u=>?_;obtain ⟨t,h,q⟩:=g c A outer s H vs Q E r u;exact ⟨t,h.nox,q⟩
end
section
variable {K:W.Frag} {σ:St} {H H':Hp} {d d':D} {ds:List D} {t u ta tb:TE} {tt uu:TT} {tA:TA} {i j:Int} {b c:Bool}
theorem jN (f:RE K ta σ H (.int i)) (g:RE K tb σ H (.int j)) (h:0 < j):RE K (VG (rI (λ_ j=>0 < j) λi j=>.int (i % j)) ta tb) σ H (.int (i % j)):=zl f g h λ_=>Dat.SN _
theorem vK (f:RE K ta σ H (.int i)) (g:RE K tb σ H (.int j)) (h:Zt i j):RE K (VG (rI Zt λi j=>.int (i * j)) ta tb) σ H (.int (i * j)):=zl f g h λ_=>Dat.SN _
theorem AE (f:RE K ta σ H (.int i)) (g:RE K tb σ H (.int j)) (h:GH i j):RE K (VG (rI GH λi j=>.int (i / j)) ta tb) σ H (.int (i / j)):=zl f g h λ_=>Dat.SN _
theorem zR:∀ {bs:List Bool} {vs:List V},SI K H (bs.map D.bl) vs->vs=bs.map V.bl
 | [],vs,h=>by rw [SI.V1 h];rfl
 | b::bs,vs,h=>by obtain ⟨v,r,e,f,g⟩:=h.Tu;rw [e,f.VZ,zR g];rfl
theorem zj {te tl:TE} {mk:St->St} {k:Nat} {cs:List D} (h:RE K tl σ H (.tup cs)) (r:cs.length<=1000) (bs:List Bool) (y:bs.length=cs.length) (z:(mk σ).set k none=mk σ)
  (g:∀ H1 (i:Nat) c v b,SJ H H1->cs[i]?=some c->bs[i]?=some b->Dat K H1 c v->RE K te ((mk σ).set k (some v)) H1 (.bl b)) :
  RE K (XA (λxs H Q=>∃ (l:Addr) (bs:List Bool),xs=[.ref l]/\SR K H l (bs.map V.bl)/\Q (.bl (bs.all id)) H) (bW (jP (E4 K tl) mk (d6 k) jc te) dW)) σ H (.bl (bs.all id)):=λH1 s Q q =>
 iL (oB (K:=K) (h.mono s) r (bs.map D.bl) (by rw [Pf,y]) z (λB i c v d C m f E=>by
  rw [Pw] at f
  cases p:bs[i]? with
  | none=>rw [p] at f;cases f
  | some b=>rw [p] at f;cases f;exact g B i c v b (s.trans C) m p E) (λl ys H' F s' G I=>by
  have e:=zR I;subst e;exact ⟨l,bs,rfl,SR.of G,q _ _ s' (Dat.VY _)⟩))
theorem zT:∀ {xs:List Str} {vs:List V},SI K H (xs.map D.str) vs->vs=xs.map V.str
 | [],vs,h=>by rw [SI.V1 h];rfl
 | x::xs,vs,h=>by obtain ⟨v,r,e,f,g⟩:=h.Tu;rw [e,f.S5,zT g];rfl
theorem EO (x y:Str):Zl (.str x) (.str y)=decide (x=y):=by unfold Zl;by_cases h:x=y <;> simp [h]
theorem uK (x:Str):∀ ys:List Str,Zv (.str x) (ys.map V.str)=decide (x ∈ ys)
 | []=>by simp [Zv]
 | y::ys=>by
  have f:=uK x ys;unfold Zv at f ⊢;rw [PD,QL,f,EO];by_cases h:y=x
  ·subst h;simp
  ·have h':¬ x=y:=λz=>h z.symm;simp [h,h']
theorem tj (ys:List Str):(ys.map V.str).all lg=true:=by rw [QH];intro v f;obtain ⟨y,_,rfl⟩:=QB.mp f;rfl
variable {x:Str} {ys:List Str}
theorem j7 (g:RE K ta σ H (.str x)) (h:RE K tb σ H (.tup (ys.map D.str))):RE K (VG (rIn K false) ta tb) σ H (.bl (decide (x ∈ ys))):=λH1 s Q q =>
 g H1 s _ λv k f m=>h k (s.trans f) _ λw C p r=>by obtain ⟨a,vs,y,z,B⟩:=r.S9;have e:=zT B;subst e;rw [m.S5];refine ⟨a,_,y,.inr z,rfl,tj ys,?_⟩;rw [uK];exact q _ _ (f.trans p) (Dat.VY _)
theorem BI (g:RE K ta σ H (.str x)) (h:RE K tb σ H (.tup (ys.map D.str))):RE K (VG (rIn K true) ta tb) σ H (.bl (!decide (x ∈ ys))):=λH1 s Q q =>
 g H1 s _ λv k f m=>h k (s.trans f) _ λw C p r=>by obtain ⟨a,vs,y,z,B⟩:=r.S9;have e:=zT B;subst e;rw [m.S5];refine ⟨a,_,y,.inr z,rfl,tj ys,?_⟩;rw [uK];exact q _ _ (f.trans p) (Dat.VY _)
theorem vM {y:Str} (g:RE K ta σ H (.str x)) (h:RE K tb σ H (.str y)):RE K (VG rNe ta tb) σ H (.bl (!decide (x=y))):=λH1 s Q q =>
 g H1 s _ λv k f m=>h k (s.trans f) _ λw B p r=>by
  rw [m.S5,r.S5];refine ⟨rfl,?_⟩;have e:decide (V.str x=V.str y)=decide (x=y):=by by_cases z:x=y <;> simp [z]
  rw [e];exact q _ _ (f.trans p) (Dat.VY _)
end
section
variable {X:Cx}
theorem FB {body:List Stmt} {t:TS} {h:ExceptHandler} {k:List ExceptHandler} {g:Pos} (m:YJ X body t) (p:X.xe=(λ_ _=>False):=by rfl):PS X (.Try body (h::k) [] [] g) t:=by
 intro b s σ H D I q;have w:=m b s σ H D I q;rw [p] at w;refine wpAny_Try_except (RJ w (λf s1 c=>?_) λe s1 z=>z.elim)
 cases f with
 | next =>obtain ⟨σ',H',r,q'⟩:=c;exact aQ b s1 σ' H' D r q'
 | ret u=>exact c
 | brk=>exact c
 | cont=>exact c
theorem Dp:VX X (compareOp .LtE) (λx y H Q=>∃ i j:Str,x=.str i/\y=.str j/\Q (.bl (!decide (j.cps.toList < i.cps.toList))) H):=by intro b s σ H x y v u Q I c f h;obtain ⟨i,j,rfl,rfl,q⟩:=h;obtain ⟨t,rfl⟩:=c;obtain ⟨t',rfl⟩:=f;refine PySem.P.le_str ?_;exact ⟨.bl _,H,I,rfl,q⟩
noncomputable def Its (x:Str):It:=⟨λi _=>i < x.cps.size,λi H v H'=>H'=H/\∃ c,x.cps[i]?=some c/\v=.str ⟨#[c]⟩,λi _=>i=x.cps.size⟩
theorem ud {P:Program} {w:World} {K:PySem.W.Frag} {T:Expr} {f:Addr} {n:String} {x:Str} {t:Tok} (U:["enumerate","zip","dict_itemiterator","dict_reverseitemiterator","odict_iterator","itertools.zip_longest","itertools.pairwise"].contains n=false)
  (W:∀ A:Around,A.handled=none->Walks P w A f [f] [f] x.cps.size (SignAt x) (λi h=>h.IsStrIter f n x t i))
  (self:∀ (A:Around) (i:Nat) (s:Shared) (Q:Value->Shared->Prop) (E:Value->Shared->Prop),s.heap.IsStrIter f n x t i->Q (.ref f) s->wpAny (model P w) A (pyIter (.ref f)) Q E s) :
  pq P w K T (Its x) [f] f (λi h=>h.IsStrIter f n x t i) where
 mem:=by simp
 obj:=λi h st b m=>by
  have e:b=f:=by simpa using m
  subst e;obtain ⟨o,e,c,d⟩:=st;exact ⟨o,e,λv z=>by rw [d] at z;cases z⟩
 keep:=λi h h' st k=>by obtain ⟨o,e,r⟩:=st;exact ⟨o,k f (by simp) o e,r⟩
 item:=by intro X y B C F i g s σ H E I q st G;subst y B C;obtain ⟨L,M,Y,N,O,R⟩:=q f (by simp);refine (W X.A (I.ok.hd F)).item i s _ _ G st λv h' tk Z p kk=>?_;obtain ⟨c,u,hx,rfl⟩:=Z;have I1:Inv X g σ H { s with heap:=h',toks:=tk }:=I.turned (λb o m e=>kk b o (by simpa using m) e) L M N O R;obtain ⟨o,e,cc,d⟩:=id p;exact ⟨_,rfl,tq (s:={ s with heap:=h',toks:=tk }) e cc d U ⟨.str ⟨#[c]⟩,H,I1,⟨u,rfl⟩,⟨rfl,c,hx,rfl⟩,p,λb m=>(q b m).1⟩⟩
 done:=by intro X y B C F i g s σ H E I q st G;subst y B C;obtain ⟨L,M,Y,N,O,R⟩:=q f (by simp);have S:i=x.cps.size:=G;subst S;exact (W X.A (I.ok.hd F)).done s _ _ st λh' tk eb=>⟨rfl,I.turned (λb o m e=>eb b o (by simpa using m) e) L M N O R⟩
 self:=self
variable {tg:Expr}
noncomputable def IR (tl:TE):TI:=λσ H R=>tl σ H λv H1=>∃ x,v=.str x/\R (Its x) H1
theorem HV {l:Expr} {tl:TE} (p:PE X l tl):PI X tg l (IR tl):=by
 intro c s σ H R I h;refine S1 (p c s σ H _ I h) λv s1 ⟨z,H1,g,r,u⟩=>?_;obtain ⟨x,e,q⟩:=u;subst e;obtain ⟨t,rfl⟩:=r
 have f:∀ (o:Obj) (n:String),pq X.prog X.w X.K tg (Its x) [s1.heap.objs.size] s1.heap.objs.size (λi h=>h.IsStrIter s1.heap.objs.size n x t i)->(s1.heap.push o).IsStrIter s1.heap.objs.size n x t 0->PIE X c σ tg R (.ref s1.heap.objs.size) { s1 with heap:=s1.heap.push o }:=by
  intro o n T st;refine ⟨s1.heap.objs.size,[s1.heap.objs.size],_,_,H1,rfl,g.kept (t':=s1.toks) λb o e=>Ph _ e,T,st,λb y=>?_,q⟩;have e:b=s1.heap.objs.size:=by simpa using y
  subst e;exact g.X4 (Pu _) (g.hok.fresh (Pu _))
 cases m:x.cps.all (· < 128)
 ·exact wpAny_pyIter_wide m (f _ "str_iterator" (ud (by decide) (λA k=>Walks.strWide k _ x t) λA i s Q E st q=>wpAny_pyIter_striter_wide st q) ⟨_,P6 _ rfl,rfl,rfl⟩)
 ·exact wpAny_pyIter_ascii m (f _ "str_ascii_iterator" (ud (by decide) (λA k=>Walks.strAscii k _ x t) λA i s Q E st q=>wpAny_pyIter_striter_ascii st q) ⟨_,P6 _ rfl,rfl,rfl⟩)
theorem xG:VX X (compareOp .NotIn) (λx y H Q=>∃ k a T,x=.str k/\y=.ref a/\kW X.K a T/\Q (.bl (!KTD.inKeys k T)) H):=by intro b s σ H x y v u Q I c f h;obtain ⟨k,a,T,ex,g,t,q⟩:=h;subst ex g;obtain ⟨tk,rfl⟩:=c;cases f;exact KTD.notin_text (h₀:=s.heap) ⟨t _ I.Wc,λ_ _ e=>e⟩ ⟨.bl _,H,I.tok _,rfl,q⟩
noncomputable def AC (K:W.Frag):R2:=λx y H Q=>∃ a k T z,x=.ref a/\y=.str k/\kW K a T/\(T.all λp=>KTD.plain p.2)=true/\KTD.datumAt k T=some (.flat (.str z))/\Q (.str z) H
theorem E9:IxR X (AC X.K):=by
 intro m p r s σ H x y v u Q I C E h F;obtain ⟨a,k,T,z,ex,G,t,L,f,q⟩:=h;subst ex G;obtain ⟨tk,rfl⟩:=E;cases C;have M:KTD.inKeys k T=true:=by rw [<- KTD.isSome_datumAt,f];rfl
 refine KTD.item_textA (h₀:=s.heap) ⟨t _ I.Wc,λ_ _ e=>e⟩ L M ?_ F;exact c T f λt'=>⟨.str z,H,I.tok _,⟨t',rfl⟩,q⟩
where
 c {h:Heap} {k:Str} {P:Value->Prop} {z:Str}:∀ (T:List (Str × KTD.Dat)),KTD.datumAt k T=some (.flat (.str z))->(∀ t,P (.str z t))->KTD.EachL h k P T
  | [],f,_=>by simp [KTD.datumAt] at f
  | (x,d)::T,f,B=>by
   have b:(if decide (k=x)=true then some d else KTD.datumAt k T)=some (.flat (.str z)):=f
   by_cases g:k=x
   ·rw [Pk (Py g)] at b
    cases b
    exact KTD.eachL_hit g (KTD.opened_str B)
   ·rw [M1 (by simp [g])] at b
    exact KTD.eachL_miss g (c T b B)
noncomputable def AR (K:W.Frag) (b c f:TE):TE:=λσ H Q=>b σ H λx H1=>∃ a T,x=.ref a/\kW K a T/\c σ H1 λy g=>f σ g λz h=>∃ k i,y=.str k/\z=.int i/\(∀ p ∈ T,∃ j,p.2=.flat (.int j)) /\
 Q (.int (match KTD.datumAt k T with | some (.flat (.int j))=>j | _=>i)) h
theorem tL {o e f:Expr} {g r:Pos} {S U Y:TE} (ho:PE X o S) (he:PE X e U) (hf:PE X f Y) (m:M2 X o "get" g e f r):PE X (.Call (.Attribute o "get" g) [e,f] [] r) (AR X.K S U Y):=by
 intro c s σ H Q I h;refine wpAny_Call_method m.base m.few m.line F.plainAttrs_dict F.slot_dict_get F.type_dict_get (S1 (ho c s σ H _ I h) λu s1 ⟨x,H1,Z,rx,a,T,ex,tk,q1⟩=>?_);subst ex;obtain rfl:u=Value.ref a:=rx;have t1:=tk _ Z.Wc;obtain ⟨lo,ob,es,ep,C,hex,hdat,L⟩:=id t1;refine ⟨⟨ob,C,hex.1⟩,λb eb=>?_,?_⟩
 ·cases eb;exact ⟨ob,C,hex.2.1⟩
 rw [m.trees]
 refine R0 rfl (Calls.evalArgs_plain (Sq (S1 (he c s1 σ H1 _ Z q1) λiv s2 ⟨y,H2,I2,ry,q2⟩ =>
  Sq (S1 (hf c s2 σ H2 _ I2 q2) λfv B ⟨z,M,N,rz,k,i,ey,ez,hT,q3⟩=>Calls.spliced_nil ?_))))
 subst ey ez;obtain ⟨tok1,rfl⟩:=ry;obtain ⟨E,rfl⟩:=rz;refine KTD.get2_text (h₀:=B.heap) ⟨tk _ N.Wc,λ_ _ e=>e⟩ ?_
 have O:∀ (D:List (Str × KTD.Dat)),(∀ p ∈ D,∃ j,p.2=.flat (.int j))->Q (.int (match KTD.datumAt k D with | some (.flat (.int j))=>j | _=>i)) M ->
   KTD.Each B.heap k (λv=>EP X c σ Q v { B with toks:=B.toks+1 }) (EP X c σ Q (.int i E) { B with toks:=B.toks+1 }) D:=by
  intro D
  induction D with
  | nil=>intro _ q;exact KTD.each_nil ⟨.int i,M,N.tok _,⟨_,rfl⟩,q⟩
  | cons p D ih =>
   intro hD q;obtain ⟨x,d⟩:=p;obtain ⟨j,ej⟩:=hD (x,d) P4;have R:d=.flat (.int j):=ej;subst R;have ed:KTD.datumAt k ((x,KTD.Dat.flat (.int j))::D)=if decide (k=x)=true then some (.flat (.int j)) else KTD.datumAt k D:=rfl;rw [ed] at q;by_cases G:k=x
   ·rw [Pk (Py G)] at q;exact KTD.each_hit G (KTD.opened_int λt=>⟨.int j,M,N.tok _,⟨t,rfl⟩,q⟩)
   ·rw [M1 (by simp [G])] at q;exact KTD.each_miss G (ih (λp hp=>hD p (PV _ hp)) q)
 exact O T hT q3
end
structure BZ (P:Program) (w:World) (K:W.Frag) (a:Addr) (ks:List Str):Prop where
 lk:∃ o,K.lookup a=some o
 tb:∀ h:Heap,K.In h->∃ D,StrTab P w h a D/\D.map (·.1)=ks.map PyData.str
noncomputable def Itk (b:List Str):It:=⟨λi _=>i < b.length,λi H v H'=>H'=H/\∃ k,b[i]?=some k/\v=.str k,λi _=>i=b.length⟩
variable {kvs:List (Str × Value)}
theorem A6 {D:List (PyData × PyData)} {b:List Str} (h:PyProof.V.FlatPairs PyData.str kvs D) (e:D.map (·.1)=b.map PyData.str):kvs.map (·.1)=b:=by
 induction h generalizing b with
 | nil =>
  cases b with
  | nil=>rfl
  | cons k b=>simp at e
 | cons _ _ f =>
  cases b with
  | nil=>simp at e
  | cons k b =>simp only [PD,List.cons.injEq] at e;obtain ⟨c,g⟩:=e;injection c with c;rw [PD,f g,<- c]
variable {it:Addr}
theorem Eo {T:Expr} {d:Addr} {O:Nat} (R:∀ h:Heap,K.In h->h.DictAt (strKind P w) d kvs O) :
  pq P w K T (Itk (kvs.map (·.1))) [it] it (λi h=>h.IsKeyIter it d i kvs.length O) where
 mem:=by simp
 obj:=λi h st b g=>by
  have e:b=it:=by simpa using g
  subst e;obtain ⟨o,e,c,d⟩:=st;exact ⟨o,e,λv z=>by rw [d] at z;cases z⟩
 keep:=λi h h' st k=>by obtain ⟨o,e,r⟩:=st;exact ⟨o,k it (by simp) o e,r⟩
 item:=by
  intro X u y B S i f s σ H E I p st C;subst u y B;obtain ⟨F,G,U,L,M,N⟩:=p it (by simp);have hi:i < kvs.length:=by have z:i < (kvs.map (·.1)).length:=C;simpa using z
  refine wpAny_pyNext_dict_item st (R _ I.Wc) (Pg hi) λY h' hk m Z=>?_;obtain ⟨t,rfl⟩:=Value.isStrOf_shape hk;have I1:Inv X f σ H { s with heap:=h' }:=I.turned (t':=s.toks) (λb o g e=>(Z.2 b g).trans e) F G L M N;refine ⟨_,rfl,PyProof.Rows.letGo_keyiter (s':={ s with heap:=h' }) m ⟨.str (kvs[i]).1,H,I1,⟨t,rfl⟩,⟨rfl,(kvs[i]).1,?_,rfl⟩,m,λb g=>(p b g).1⟩⟩;rw [Pw,Pg hi];rfl
 done:=by
  intro X u y B S i f s σ H E I p st C;subst u y B;obtain ⟨F,G,U,L,M,N⟩:=p it (by simp);have hi:i=kvs.length:=by have z:i=(kvs.map (·.1)).length:=C;simpa using z
  exact wpAny_pyNext_dict_end (I.ok.hd S) st (R _ I.Wc) (by simp [hi]) λh' eb=>⟨rfl,I.turned (t':=s.toks) (λb o g e=>eb b o g e) F G L M N⟩
 self:=λA i s Q E st q=>wpAny_pyIter_keyiter st q
section
variable {X:Cx} {tg:Expr}
noncomputable def IS (P:Program) (w:World) (K:W.Frag) (tl:TE):TI:=λσ H R=>tl σ H λv H1=>∃ a b,v=.ref a/\BZ P w K a b/\R (Itk b) H1
theorem HW {l:Expr} {tl:TE} (y:PE X l tl):PI X tg l (IS X.prog X.w X.K tl):=by
 intro c s σ H R I h;refine S1 (y c s σ H _ I h) λv s1 ⟨O,H1,f,B,C⟩=>?_;obtain ⟨a,S,e,p,q⟩:=C;subst e;cases B;obtain ⟨D,T,E⟩:=p.tb _ f.Wc;obtain ⟨o,u⟩:=p.lk;obtain ⟨lo,kvs,m,F⟩:=T;obtain ⟨G,g⟩:=m.dictAt;have L:=A6 F E;subst L
 have k:∀ h:Heap,X.K.In h->h.DictAt (strKind X.prog X.w) a kvs G:=λh x=>by obtain ⟨U,es,M,r⟩:=g;have z:=f.Wc _ _ u;rw [M] at z;cases z;exact ⟨_,es,x _ _ u,r⟩
 refine wpAny_pyIter_dict lo g ?_;refine ⟨s1.heap.objs.size,[s1.heap.objs.size],_,_,H1,rfl,f.kept (t':=s1.toks) λb o e=>Ph _ e,Eo k,⟨_,P6 _ rfl,rfl,rfl⟩,λb N=>?_,q⟩;have e:b=s1.heap.objs.size:=by simpa using N
 subst e;exact f.X4 (Pu _) (f.hok.fresh (Pu _))
end
noncomputable def RC (K:W.Frag) (t:TE) (σ:St) (H:Hp) (es:List D):Prop:=∀ H1,SJ H H1->∀ Q:VK,(∀ l ys H',H1 l=none->SJ H1 H'->H' l=some (.lst ys)->SI K H' es ys->Q (.ref l) H')->t σ H1 Q
section
variable {K:W.Frag} {σ:St} {H H':Hp} {d d':D} {ds es:List D} {t u ta tb te tl:TE} {tt uu:TT} {tA:TA} {i j:Int} {b c:Bool} {mk:St->St} {jj:Nat}
theorem RC.mono (h:RC K t σ H es) (e:SJ H H'):RC K t σ H' es:=λH1 s Q q=>h H1 (e.trans s) Q q
theorem RC.as (h:RC K t σ H es) (e:es=ds):RC K t σ H ds:=e ▸ h
theorem RC.use {Q:VK} (h:RC K t σ H es) (q:∀ l ys H',H l=none->SJ H H'->H' l=some (.lst ys)->SI K H' es ys->Q (.ref l) H'):t σ H Q:=h H (SJ.refl H) Q q
theorem iC (h:RA K tA σ H es) (k:es.length<=1000:=by simp):RC K (wm tA) σ H es:=λH1 s Q q =>
 zo (h.mono s) (λp vs r g f m=>q p vs _ (g.free f) (g.trans (aV f _)) aI ((aV f _).SV m)) k
variable {cs:List D}
theorem rn (h:RE K tl σ H (.tup cs)) (p:cs.length<=1000) (es:List D) (g:es.length=cs.length) (r:(mk σ).set jj none=mk σ)
  (f:∀ H1 (i:Nat) c v d,SJ H H1->cs[i]?=some c->es[i]?=some d->Dat K H1 c v->RE K te ((mk σ).set jj (some v)) H1 d):RC K (jP (E4 K tl) mk (d6 jj) jc te) σ H es:=λH1 s Q q =>
 oB (K:=K) (h.mono s) p es g r (λk i c v d m=>f k i c v d (s.trans m)) (λl ys k g m y z=>q l ys k g m y z)
variable {x:Str}
theorem Ic (h:RE K tl σ H (.str x)) (f:x.cps.size<=1000) (es:List D) (m:es.length=x.cps.size) (p:(mk σ).set jj none=mk σ)
  (g:∀ H1 (i:Nat) c d,SJ H H1->x.cps[i]?=some c->es[i]?=some d->RE K te ((mk σ).set jj (some (.str ⟨#[c]⟩))) H1 d):RC K (jP (IR tl) mk (d6 jj) jc te) σ H es:=λH1 s Q q=>by
 refine (h.mono s).use λG r k z=>?_;have e:=z.S5;subst e;refine ⟨x,rfl,?_⟩;refine kg (K:=K) (Q:=Q) (n:=x.cps.size) (item:=λi=>.str ⟨#[x.cps.getD i 0]⟩) (λi H' s hi=>⟨hi,λv I y=>⟨y.1,?_⟩⟩) (λH' s=>rfl) p es m f (λi d hi=>?_) (λl ys B C E=>q l ys B (k.free C) (k.trans E))
 ·obtain ⟨_,c,f,e⟩:=y;rw [e,Array.getD_eq_getD_getElem?,f];rfl
 ·have F:i < es.length:=(P5.mp hi).1
  have f:x.cps[i]?=some (x.cps.getD i 0):=by rw [Array.getD_eq_getD_getElem?,Array.getElem?_eq_getElem (by lia)];rfl
  exact g r i _ d (s.trans k) f hi
variable {a:Addr}
theorem Ie {P:Program} {w:World} {f:List Str} (h:BZ P w K a f) (m:f.length<=1000) (es:List D) (p:es.length=f.length) (r:(mk σ).set jj none=mk σ)
  (g:∀ H1 (i:Nat) k d,SJ H H1->f[i]?=some k->es[i]?=some d->RE K te ((mk σ).set jj (some (.str k))) H1 d):RC K (jP (IS P w K (tC (.ref a))) mk (d6 jj) jc te) σ H es:=λH1 s Q q=>by
 refine ⟨a,f,rfl,h,?_⟩;refine kg (K:=K) (Q:=Q) (n:=f.length) (item:=λi=>.str (f.getD i "")) (λi H' s hi=>⟨hi,λv B y=>⟨y.1,?_⟩⟩) (λH' s=>rfl) r es p m (λi d hi=>?_) q
 ·obtain ⟨_,k,hk,e⟩:=y;rw [e,PZ,hk];rfl
 ·have z:i < es.length:=(P5.mp hi).1
  have hk:f[i]?=some (f.getD i ""):=by rw [PZ,Pg (by lia)];rfl
  exact g H1 i _ d s hk hi
theorem FF (h:RC K tl σ H cs) (O:cs.length<=1000) (es:List D) (R:es.length=cs.length) (y:(mk σ).set jj none=mk σ)
  (f:∀ H1 (i:Nat) c v d,SJ H H1->cs[i]?=some c->es[i]?=some d->Dat K H1 c v->RE K te ((mk σ).set jj (some v)) H1 d):RC K (jP (tu K tl) mk (d6 jj) jc te) σ H es:=λH1 s Q q=>by
 refine (h.mono s).use λz k B C m p r=>?_;have S:=r.length;refine ⟨z,rfl,⟨k,SR.of p⟩,?_⟩;refine kg (K:=K) (Q:=Q) (n:=k.length) (item:=λi=>k.getD i .SO) (λi H' s hi=>uH i H' (SR.of (s _ _ p)) hi) (λH' s=>⟨k,SR.of (s _ _ p),Pu _⟩) y es (by lia) (by lia) (λi d hi=>?_) (λl ys E F G=>q l ys E (m.free F) (m.trans G));have I:i < es.length:=(P5.mp hi).1;have g:i < cs.length:=by lia
 obtain ⟨L,M,N⟩:=r.get (Pg g);have q:=f B i cs[i] L d (s.trans m) (Pg g) hi N;rw [PZ,M];exact q
theorem nG {R:List D->List D->Prop} {E:XK} (h:RA K tA σ H ds) (e:R ds es):RC K (kr (kL K R) [] E tA) σ H es:=λH1 s Q q =>
 h H1 s _ λvs B g k=>⟨ds,es,by rw [PR];exact k,e,λr us m p y f z=>q r us m (g.free f) (g.trans p) y z⟩
theorem me {bs:List Bool} (h:RC K t σ H (bs.map D.bl)):RE K (XA (λxs H Q=>∃ (l:Addr) (bs:List Bool),xs=[.ref l]/\SR K H l (bs.map V.bl)/\Q (.bl (bs.all id)) H) (bW t dW)) σ H (.bl (bs.all id)):=λH1 s Q q =>
 iL ((h.mono s).use λl ys H' _ s' f g=>⟨l,bs,rfl,by rw [<- zR g];exact SR.of f,q _ _ s' (Dat.VY _)⟩)
theorem FH {bs:List Bool} (h:RC K t σ H (bs.map D.bl)):RE K (XA (λxs H Q=>∃ (l:Addr) (bs:List Bool),xs=[.ref l]/\SR K H l (bs.map V.bl)/\Q (.bl (bs.any id)) H) (bW t dW)) σ H (.bl (bs.any id)):=λH1 s Q q =>
 iL ((h.mono s).use λl ys H' _ s' f g=>⟨l,bs,rfl,by rw [<- zR g];exact SR.of f,q _ _ s' (Dat.VY _)⟩)
theorem tO (h:RC K t σ H es):RE K (XA (λxs H Q=>∃ p ys,xs=[.ref p]/\((SR K H p ys/\∀ l,H l=none->Q (.ref l) (upd H l (.tup ys)))\/(Ti K H p ys/\Q (.ref p) H))) (bW t dW)) σ H (.tup es):=λH1 s Q q =>
 iL ((h.mono s).use λl ys H' _ s' g k=>⟨l,ys,rfl,.inl ⟨SR.of g,λp f=>q _ _ (s'.trans (aV f _)) (Dat.tupI (Ti.of aI) ((aV f _).SV k))⟩⟩)
theorem BJ (h:RE K t σ H (.tup es)):RE K (XA (λxs H Q=>∃ p ys,xs=[.ref p]/\((SR K H p ys/\∀ l,H l=none->Q (.ref l) (upd H l (.tup ys)))\/(Ti K H p ys/\Q (.ref p) H))) (bW t dW)) σ H (.tup es):=λH1 s Q q =>
 iL ((h.mono s).use λv H' s' k=>by
  obtain ⟨a,vs,e,g,f⟩:=k.S9;subst e;exact ⟨a,vs,rfl,.inr ⟨g,q _ _ s' (Dat.tupI g f)⟩⟩)
theorem FJ (h:RC K t σ H es):RE K (XA (λxs H Q=>∃ p ys,xs=[.ref p]/\(SR K H p ys\/Ti K H p ys)/\Q (.int ys.length) H) (bW t dW)) σ H (.int es.length):=λH1 s Q q =>
 iL ((h.mono s).use λl ys H' _ s' f g=>⟨l,ys,rfl,.inl (SR.of f),by rw [<- g.length];exact q _ _ s' (Dat.SN _)⟩)
theorem FK (h:RE K t σ H (.str x)) (f:x.length<=sizeLine):RE K (XA (λxs H Q=>∃ z:Str,xs=[.str z]/\z.length<=sizeLine/\Q (.int z.length) H) (bW t dW)) σ H (.int x.length):=λH1 s Q q =>
 iL ((h.mono s).use λv H' s' g=>by
  rw [g.S5];exact ⟨x,rfl,f,q _ _ s' (Dat.SN _)⟩)
theorem gY {us:TS} {En:kx} {k:Nat} (h:RC K t σ H es) (q:∀ l ys H',H l=none->SJ H H'->H' l=some (.lst ys)->SI K H' es ys->us En (σ.set k (some (.ref l))) H'):lX (rQ t (d6 k)) us En σ H:=h.use q
variable {z:Str}
theorem BD {k:TE} {y:Str} {p q':Str->Str->Bool} (r:RE K ta σ H (.str x)) (B:RE K tb σ H (.str y)) (C:p x y=true->RE K k σ H (.str z)) :
  RE K (wj (λu v H Q=>∃ i j:Str,u=.str i/\v=.str j/\Q (.bl (p i j)) H) (λu v H Q=>∃ i j:Str,u=.str i/\v=.str j/\Q (.bl (q' i j)) H) ta tb k) σ H (.bl (p x y && q' y z)):=λH1 s Q q =>
 r H1 s _ λv E f F=>B E (s.trans f) _ λw G g m=>by
  refine ⟨x,y,F.S5,m.S5,p x y,rfl,?_⟩
  cases h:p x y with
  | true =>simp only [RO,QJ];exact C h G (s.trans (f.trans g)) _ λM N I L=>⟨y,z,m.S5,L.S5,q _ _ (f.trans (g.trans I)) (by rw [h];exact Dat.VY _)⟩
  | false =>simp only [Su,SD,Rn];exact q _ _ (f.trans g) (by rw [h];exact Dat.VY _)
variable {T:List (Str × KTD.Dat)}
theorem xU {k:Str} (h:RE K t σ H (.str k)) (f:kW K a T):RE K (VG (λx y H Q=>∃ k a T,x=.str k/\y=.ref a/\kW K a T/\Q (.bl (!KTD.inKeys k T)) H) t (tC (.ref a))) σ H (.bl (!KTD.inKeys k T)):=λH1 s Q q =>
 h H1 s _ λv p g m=>⟨k,a,T,m.S5,rfl,f,q _ _ g (Dat.VY _)⟩
theorem BF {k:Str} (h:RE K t σ H (.str k)) (f:kW K a T) (g:(T.all λp=>KTD.plain p.2)=true) (e:KTD.datumAt k T=some (.flat (.str z))):RE K (VG (AC K) (tC (.ref a)) t) σ H (.str z):=λH1 s Q q =>
 h H1 s _ λv y m r=>⟨a,k,T,z,rfl,r.S5,f,g,e,q _ _ m (Dat.Th _)⟩
noncomputable def j9 (k:Str) (T:List (Str × KTD.Dat)) (i:Int):Int:=match KTD.datumAt k T with | some (.flat (.int j))=>j | _=>i
theorem tN {k:Str} (h:kW K a T) (m:RE K ta σ H (.str k)) (r:RE K tb σ H (.int i)) (y:∀ p ∈ T,∃ j,p.2=.flat (.int j)):RE K (AR K (tC (.ref a)) ta tb) σ H (.int (j9 k T i)):=λH1 s Q q =>
 ⟨a,T,rfl,h,m H1 s _ λv B f C=>r B (s.trans f) _ λw F g E=>⟨k,i,(g.dat C).S5,E.SQ,y,q _ _ (f.trans g) (Dat.SN _)⟩⟩
variable {lo hi:Nat}
theorem zQ {vs:List V}:sf vs (some (lo:Int)) (some (hi:Int))=(vs.drop lo).take (hi - lo):=by
 unfold sf;rw [HT.XC,HT.XC];apply List.ext_getElem?;intro i;simp only [List.getElem?_take,List.getElem?_drop];by_cases f:i < hi - lo
 ·rw [Pk f];by_cases g:i < min hi vs.length - min lo vs.length
  ·rw [Pk g];congr 1;lia
  ·rw [M1 g,RH (by lia)]
 ·rw [M1 f,M1 (by lia)]
theorem SI.Zz:∀ {n:Nat} {ds:List D} {vs:List V},SI K H ds vs->SI K H (ds.drop n) (vs.drop n)
 | 0,_,_,h=>h
 | n+1,[],_,h=>by rw [h.V1];exact SI.nil
 | n+1,d::ds,_,h=>by obtain ⟨v,r,e,g,f⟩:=h.Tu;subst e;exact SI.Zz (n:=n) f
theorem SI.ZA:∀ {n:Nat} {ds:List D} {vs:List V},SI K H ds vs->SI K H (ds.take n) (vs.take n)
 | 0,_,_,h=>by rw [QW,QW];exact SI.nil
 | n+1,[],_,h=>by rw [h.V1];exact SI.nil
 | n+1,d::ds,_,h=>by obtain ⟨v,r,e,f,g⟩:=h.Tu;subst e;exact SI.cons f (SI.ZA (n:=n) g)
theorem Ig (h:RE K t σ H (.tup ds)) (y:RE K ta σ H (.int lo)) (B:RE K tb σ H (.int hi)) (N:1<=lo) (O:0 < ds.length):RE K (tSl (HZ K) t (uc ta) (uc tb)) σ H (.tup ((ds.drop lo).take (hi - lo))):=λH1 s Q q =>
 h H1 s _ λv C g E=>y C (s.trans g) _ λR F k G=>⟨lo,G.SQ,B F (s.trans (g.trans k)) _ λS U m I=>⟨hi,I.SQ,by
  obtain ⟨a,vs,L,M,f⟩:=((k.trans m).dat E).S9;have Y:=f.length;refine ⟨a,vs,L,M,λz=>?_,λp r=>?_⟩
  ·rw [HT.XC] at z;lia
  ·rw [zQ];exact q _ _ (g.trans (k.trans (m.trans (aV r _)))) (Dat.tupI (Ti.of aI) ((aV r _).SV (SI.ZA (SI.Zz f))))⟩⟩
end
mutual
noncomputable def hX (K:W.Frag):D->Value->Bool
 | .SO,u=>(match u with | .none=>true | _=>false)
 | .bl b,u=>(match u with | .bool c=>b == c | _=>false)
 | .int i,u=>(match u with | .int j _=>i == j | _=>false)
 | .str x,u=>(match u with | .str y _=>x == y | _=>false)
 | .tup ds,u=>(match u with | .ref a=>(match K.lookup a with | some ⟨.type "tuple",_,.seq its _,_⟩=>decide (its.size<=1000) && W6 K ds its.toList | _=>false) | _=>false)
 | .lst,_=>false
noncomputable def W6 (K:W.Frag):List D->List Value->Bool
 | [],us=>us.isEmpty
 | d::ds,us=>(match us with | u::r=>hX K d u && W6 K ds r | []=>false)
end
mutual
variable {K:W.Frag}
theorem oV (H:Hp):∀ (d:D) (u:Value),hX K d u=true->∃ v,RelV v u/\Dat K H d v
 | .SO,u,h=>by unfold hX at h;cases u <;> first | (exact ⟨.SO,rfl,Dat.X7⟩) | cases h
 | .bl b,u,h=>by
  unfold hX at h;cases u <;> first | cases h | skip
  rename_i c;have e:b=c:=by simpa using h
  subst e;exact ⟨.bl b,rfl,Dat.VY _⟩
 | .int i,u,h=>by
  unfold hX at h;cases u <;> first | cases h | skip
  rename_i j t;have e:i=j:=by simpa using h
  subst e;exact ⟨.int i,⟨t,rfl⟩,Dat.SN _⟩
 | .str x,u,h=>by
  unfold hX at h;cases u <;> first | cases h | skip
  rename_i y t;have e:x=y:=by simpa using h
  subst e;exact ⟨.str x,⟨t,rfl⟩,Dat.Th _⟩
 | .tup ds,u,h=>by
  unfold hX at h;cases u <;> first | cases h | skip
  rename_i a;dsimp only at h;split at h
  ·rename_i g its n k e;rw [Pz] at h;obtain ⟨vs,r,f⟩:=VH H ds its.toList h.2;refine ⟨.ref a,rfl,Dat.tupI (.inr ⟨_,its,n,e,rfl,rfl,?_,r⟩) f⟩;exact Qf (Pq h.1) (by decide)
  ·cases h
 | .lst,u,h=>by unfold hX at h;cases h
theorem VH (H:Hp):∀ (ds:List D) (us:List Value),W6 K ds us=true->∃ vs,Vals vs us/\SI K H ds vs
 | [],us,h=>by
  unfold W6 at h
  cases us with
  | nil=>exact ⟨[],.nil,SI.nil⟩
  | cons u r=>cases h
 | d::ds,us,h=>by
  unfold W6 at h
  cases us with
  | nil=>cases h
  | cons u r =>dsimp only at h;rw [Pz] at h;obtain ⟨v,b,c⟩:=oV H d u h.1;obtain ⟨vs,f,g⟩:=VH H ds r h.2;exact ⟨v::vs,.cons b f,SI.cons c g⟩
end
theorem JJ (h:hX K (.tup ds) (.ref a)=true) (H:Hp):Dat K H (.tup ds) (.ref a):=by obtain ⟨v,r,c⟩:=oV H _ _ h;obtain ⟨b,vs,e,_⟩:=id c.S9;subst e;have z:Value.ref a=.ref b:=r;cases z;exact c
theorem lN (h:hX K (.tup ds) (.ref a)=true):RE K (tC (.ref a)) σ H (.tup ds):=λH1 _ Q q=>q _ _ (SJ.refl _) (JJ h H1)
section
variable {X:Cx}
theorem Cp:jz X (.type "range") (λxs H Q=>∃ n:Nat,xs=[.int n]/\∀ p,H p=none->Q (.ref p) (upd H p (.Zp 0 n))):=by intro c s σ H xs us Q I r h;obtain ⟨n,rfl,q⟩:=h;obtain ⟨u,rfl,f⟩:=jd r;obtain ⟨t,rfl⟩:=f;refine call_range_1 ⟨.ref s.heap.objs.size,_,I.laid (λb o e=>Ph _ e) (Pu _) (show Td X.prog X.w _ _ _ (.Zp 0 n) from ⟨_,_,_,P6 _ rfl⟩),rfl,q _ (I.hok.fresh (Pu _))⟩
theorem Eu {n:Nat} {b:Array Value} (h:ItemsOf (λi v=>∃ t,v=.int ((0:Int)+(i:Nat) * 1) t) b n):Vals ((List.range n).map λi:Nat=>V.int i) b.toList:=by
 obtain ⟨f,hi⟩:=h
 have all:∀ (l:List Value) (k:Nat),(∀ (j:Nat) (v:Value),l[j]?=some v->∃ t,v=Value.int ((0:Int)+((k+j:Nat):Int) * 1) t)->Vals ((List.range' k l.length).map λi:Nat=>V.int i) l:=by
  intro l
  induction l with
  | nil=>intro k _;exact .nil
  | cons u l g =>
   intro k c;rw [Pr,List.range'_succ,PD];refine .cons ?_ (g (k+1) λj v e=>?_)
   ·obtain ⟨t,e⟩:=c 0 u rfl;refine ⟨t,?_⟩;rw [e];congr 1;simp
   ·obtain ⟨t,m⟩:=c (j+1) v (by simpa using e);refine ⟨t,?_⟩;rw [m];congr 1;have:k+(j+1)=k+1+j:=by lia
    rw [this]
 have q:=all b.toList 0 λj v e=>by rw [Nat.zero_add];exact hi j v (by simpa using e)
 rw [List.range_eq_range'];rw [Q6,f] at q;exact q
theorem r9 (k:X.calm=true):jz X (.type "list") (λxs H Q=>∃ (p:Addr) (n:Nat),xs=[.ref p]/\H p=some (.Zp 0 n)/\n<=1000/\∀ l,H l=none->Q (.ref l) (upd H l (.lst ((List.range n).map λi:Nat=>V.int i)))):=by
 intro f s σ H xs us Q I r h;obtain ⟨p,n,rfl,m,y,q⟩:=h;obtain ⟨u,rfl,z⟩:=jd r;cases z;obtain ⟨t,u,v,e⟩:=(show Td X.prog X.w H s.heap p (.Zp 0 n) from I.hok p _ m)
 refine call_list_range (n:=n) (I.ok.hd k) (show IsRange s.heap p 0 n 1 t u v from e) (small_one (by lia) (by lia) (by lia) (by lia)) ?_ (by lia) λh' tk b B C E c=>?_
 ·rw [rangeSize_one];split <;> lia
 ·have g:=Eu c;have F:=g.length;refine ⟨.ref s.heap.objs.size,_,I.laid C (Pu _) (show Td X.prog X.w _ h' _ (.lst _) from ⟨?_,b.toList,B,g,by simpa using E⟩),rfl,q _ (I.hok.fresh (Pu _))⟩;simp only [Pf,List.length_range];exact Qf y (by decide)
noncomputable def IC (K:W.Frag) (a:Addr) (xs:List V):Prop:=∃ (its:Array Value) (n:Nat),K.lookup a=some ⟨.type "list",none,.seq its n,#[]⟩/\its.size<=1000/\Vals xs its.toList
noncomputable def VI (K:W.Frag) (H:Hp) (a:Addr) (xs:List V):Prop:=H a=some (.lst xs)\/IC K a xs
variable {H:Hp} {a:Addr} {xs:List V}
theorem VI.WC {K:W.Frag} (h:VI K H a xs):SR K H a xs:=by
 rcases h with h | ⟨its,n,e,b,r⟩
 ·exact SR.of h
 ·exact .inr ⟨_,its,n,e,rfl,rfl,rfl,Qf b (by decide),r⟩
theorem VI.at {b:List (Addr × Obj)} {σ:St} {s:Shared} (I:Inv X b σ H s) (h:VI X.K H a xs):∃ (its:List Value) (n:Nat),Vals xs its/\s.heap.get? a=some { cls:=.type "list",data:=.seq its.toArray n }:=by
 rcases h with h | ⟨its,n,e,c,r⟩
 ·obtain ⟨z,its,n,r,f,e⟩:=I.Zw h;exact ⟨its,n,r,e⟩
 ·exact ⟨its.toList,n,r,by simpa using I.Wc _ _ e⟩
noncomputable def Gr (K:W.Frag):R2:=λx y H Q=>∃ l b xs zs,x=.ref l/\y=.ref b/\VI K H l xs/\VI K H b zs/\xs.length+zs.length<=1000/\∀ p,H p=none->Q (.ref p) (upd H p (.lst (xs++zs)))
theorem jr:VX X (binaryOp .Add) (Gr X.K):=by
 intro f s σ H x y v u Q I k m h;obtain ⟨l,b,xs,zs,rfl,rfl,p,z,B,q⟩:=h;cases k;cases m;obtain ⟨its,n,r,e⟩:=p.at I;obtain ⟨c,G,g,C⟩:=z.at I;have L:=r.length;have M:=g.length;have E:xs.length+zs.length<=sizeLine:=Qf B (by decide);refine PySem.P.add_list e C ?_ (by rw [PC,PC];lia);have F:its.toArray++c.toArray=(its++c).toArray:=by simp
 rw [F];exact ⟨.ref _,_,I.lnew (t':=s.toks) (r.append g) (by rw [tB];lia),rfl,q _ I.fresh⟩
end
section
variable {K:W.Frag} {σ:St} {H:Hp} {t:TE} {n:Nat}
noncomputable def qL (K:W.Frag) (ds:List D) (a:Addr):Bool:=match K.lookup a with
 | some ⟨.type "list",none,.seq its _,b⟩=>decide (its.size<=1000) && (b.isEmpty && W6 K ds its.toList)
 | _=>false
theorem uR {K:W.Frag} {ds:List D} {a:Addr} (h:qL K ds a=true) (H:Hp):∃ vs,IC K a vs/\SI K H ds vs:=by
 unfold qL at h;split at h
 ·rename_i its n b e;rw [Pz,Pz] at h;obtain ⟨vs,r,c⟩:=VH H ds its.toList h.2.2;have es:b=#[]:=by simpa using h.2.1
  subst es;exact ⟨vs,⟨its,n,e,Pq h.1,r⟩,c⟩
 ·cases h
theorem vI (h:RE K t σ H (.int n)) (g:n<=1000):RC K (XA (λxs H Q=>∃ (p:Addr) (n:Nat),xs=[.ref p]/\H p=some (.Zp 0 n)/\n<=1000/\∀ l,H l=none->Q (.ref l) (upd H l (.lst ((List.range n).map λi:Nat=>V.int i))))
  (bW (XA (λxs H Q=>∃ n:Nat,xs=[.int n]/\∀ p,H p=none->Q (.ref p) (upd H p (.Zp 0 n))) (bW t dW)) dW)) σ H ((List.range n).map λi:Nat=>D.int i):=λH1 s Q q =>
 iL (iL ((h.mono s).use λv k b r=>by
  rw [r.SQ];refine ⟨n,rfl,λp c=>⟨p,n,rfl,aI,g,λl f=>?_⟩⟩;have u:=b.trans ((aV c (.Zp 0 n)).trans (aV f (.lst ((List.range n).map λi:Nat=>V.int i))));refine q l _ _ ((b.trans (aV c _)).free f) u aI ?_
  have z:∀ m:List Nat,SI K (upd (upd k p (.Zp 0 n)) l (.lst ((List.range n).map λi:Nat=>V.int i))) (m.map λi:Nat=>D.int i) (m.map λi:Nat=>V.int i):=by
   intro m
   induction m with
   | nil=>exact SI.nil
   | cons a m y=>exact SI.cons (Dat.SN _) y
  exact z _))
end
structure X8 (l0 l1 l2:Addr) (H:Hp) (a b c:List V):Prop where
 h0:H l0=some (.lst a)
 h1:H l1=some (.lst b)
 h2:H l2=some (.lst c)
 n01:l0≠l1
 n02:l0≠l2
 n12:l1≠l2
noncomputable def Wq (c f g:Addr) (H H':Hp):Prop:=∀ b o,b≠c->b≠f->b≠g->H b=some o->H' b=some o
section
variable {K:W.Frag} {l0 l1 l2:Addr} {H H' H2:Hp} {a b c a' b' c':List V} {v:V}
theorem SJ.Vi (e:SJ H H'):Wq l0 l1 l2 H H':=λb o _ _ _ h=>e b o h
theorem Wq.trans (x:Wq l0 l1 l2 H H') (y:Wq l0 l1 l2 H' H2):Wq l0 l1 l2 H H2:=λb o f g k h=>y b o f g k (x b o f g k h)
theorem X8.same (t:X8 l0 l1 l2 H a b c) (e:SJ H H'):X8 l0 l1 l2 H' a b c:=⟨e _ _ t.h0,e _ _ t.h1,e _ _ t.h2,t.n01,t.n02,t.n12⟩
theorem Wq.grow (e:Wq l0 l1 l2 H H') (t:X8 l0 l1 l2 H a b c) (t':X8 l0 l1 l2 H' a' b' c'):gA K H H':=by
 have f:∀ (x:Addr) (o:HO),H x=some o->(∀ xs,o≠.lst xs)->H' x=some o:=λx o h g =>
  e x o (λz=>by rw [z,t.h0] at h;cases h;exact g _ rfl) (λz=>by rw [z,t.h1] at h;cases h;exact g _ rfl) (λz=>by rw [z,t.h2] at h;cases h;exact g _ rfl) h
 refine ⟨λx xs h=>?_,λx xs h=>?_⟩
 ·rcases h with (h | ⟨o,h⟩) | h
  ·exact .inl (.inl (f _ _ h (λ_ z=>by cases z)))
  ·exact .inl (.inr ⟨o,f _ _ h (λ_ z=>by cases z)⟩)
  ·exact .inr h
 ·by_cases k:x=l0
  ·rw [k];exact ⟨_,SR.of t'.h0⟩
  by_cases m:x=l1
  ·rw [m];exact ⟨_,SR.of t'.h1⟩
  by_cases p:x=l2
  ·rw [p];exact ⟨_,SR.of t'.h2⟩
  refine ⟨xs,?_⟩;rcases h with (h | ⟨o,h⟩) | h
  ·exact .inl (.inl (e _ _ k m p h))
  ·exact .inl (.inr ⟨o,e _ _ k m p h⟩)
  ·exact .inr h
theorem X8.p0 (t:X8 l0 l1 l2 H a b c):X8 l0 l1 l2 (upd H l0 (.lst (a++[v]))) (a++[v]) (b++[]) (c++[])/\Wq l0 l1 l2 H (upd H l0 (.lst (a++[v]))):=by rw [PR,PR];exact ⟨⟨aI,by rw [aS (PN t.n01)];exact t.h1,by rw [aS (PN t.n02)];exact t.h2,t.n01,t.n02,t.n12⟩,λx o f _ _ h=>by rw [aS f];exact h⟩
theorem X8.p1 (t:X8 l0 l1 l2 H a b c):X8 l0 l1 l2 (upd H l1 (.lst (b++[v]))) (a++[]) (b++[v]) (c++[])/\Wq l0 l1 l2 H (upd H l1 (.lst (b++[v]))):=by rw [PR,PR];exact ⟨⟨by rw [aS t.n01];exact t.h0,aI,by rw [aS (PN t.n12)];exact t.h2,t.n01,t.n02,t.n12⟩,λx o _ f _ h=>by rw [aS f];exact h⟩
theorem X8.p2 (t:X8 l0 l1 l2 H a b c):X8 l0 l1 l2 (upd H l2 (.lst (c++[v]))) (a++[]) (b++[]) (c++[v])/\Wq l0 l1 l2 H (upd H l2 (.lst (c++[v]))):=by rw [PR,PR];exact ⟨⟨by rw [aS t.n02];exact t.h0,by rw [aS t.n12];exact t.h1,aI,t.n01,t.n02,t.n12⟩,λx o _ _ f h=>by rw [aS f];exact h⟩
theorem X8.nil (t:X8 l0 l1 l2 H a b c):X8 l0 l1 l2 H (a++[]) (b++[]) (c++[]):=by rw [PR,PR,PR];exact t
variable {σ:St} {j:Nat} {l:Addr}
theorem iZ {te:TE} {us:TS} {En:kx} {G:Hp} {xs:List V} {d:D} (h:RE K te σ G d) (k:G l=some (.lst xs)) (r:xs.length<=900)
  (q:∀ y g,S6 l G g->g l=some (.lst (xs++[y]))->Dat K g d y->us En σ g) (m:σ[j]?=some (some (.ref l)):=by rfl):lX (rR (Z6 K "list" kH (fT j) (bW te dW))) us En σ G:=by
 refine ⟨_,m,.inl ⟨rfl,_,SR.of k⟩,h.use λy H1 s1 p=>?_⟩;have f:=s1 _ _ k;refine ⟨l,xs,y,rfl,rfl,f,cM (by lia),?_⟩;have b:S6 l H1 (upd H1 l (.lst (xs++[y]))):=S6.upd (SJ.refl _).but;exact q y _ (s1.but.trans b) aI (Dat.mono (b.grow f aI) _ p)
theorem oE {f:Addr} {x:Str} {kvs:List (Key × V)} {ys:List V} {es:List D} (m:H f=some (.dK kvs)) (hk:mY kvs (Sum.inr x)=some (.ref l)) (r:H l=some (.lst ys)) (u:SI K H es ys) (y:σ[j]?=some (some (.ref f)):=by rfl) :
  RE K (XA (λxs H Q=>∃ p ys,xs=[.ref p]/\((SR K H p ys/\∀ l,H l=none->Q (.ref l) (upd H l (.tup ys)))\/(Ti K H p ys/\Q (.ref p) H))) (bW (GE (fT j) (tC (.str x))) dW)) σ H (.tup es):=λH1 s Q q =>
 ⟨_,y,f,.ref l,rfl,by have g:=Yt.k (k:=Sum.inr x) (s _ _ m);rw [hk] at g;exact g,l,ys,rfl,.inl ⟨SR.of (s _ _ r),λp h=>q _ _ (aV h _) (Dat.tupI (Ti.of aI) ((aV h _).SV (s.SV u)))⟩⟩
end
theorem uM:∀ {ns:List Int} {us:List Value},Vals (ns.map V.int) us->IntsAre us ns
 | [],us,h=>by cases h;exact .nil
 | n::ns,us,h=>by
  cases h with
  | cons r t =>obtain ⟨tk,rfl⟩:=r;exact .cons n tk (uM t)
section
variable {X:Cx}
theorem qi (f:X.calm=true):jz X (.builtin "sum") (λxs H Q=>∃ (l:Addr) (ns:List Int),xs=[.ref l]/\SR X.K H l (ns.map V.int)/\Q (.int ns.sum) H):=by
 intro c s σ H xs us Q I r h;obtain ⟨l,ns,rfl,g,q⟩:=h;obtain ⟨u,rfl,k⟩:=jd r;cases k;obtain ⟨its,m,p,C⟩:=I.list g;have hi:=uM m;obtain ⟨zs,b⟩:=hi.allInts.items;refine sum_intListG (I.ok.hd f) (show s.heap.IsList l (intItems zs) from b ▸ p.isList) λh' tk t' hk=>?_
 have y:zs.toList.map (·.1)=ns:=by have z:=hi.numsOf;rw [show its=(intItems zs).toList by rw [<- b]] at z;rw [<- z,nums_intItems]
 have B:preSum (numAt zs) zs.size=ns.sum:=by rw [preSum_eq,<- y,Ry (by simp)]
 rw [B];exact ⟨.int ns.sum,H,I.kept (t':=tk) hk,⟨t',rfl⟩,q⟩
noncomputable def Itv (K:W.Frag) (a:Addr) (xs:List V):It:=⟨λi H=>i < xs.length/\SR K H a xs,λi H x H'=>H'=H/\xs[xs.length - 1 - i]?=some x,λi _=>i=xs.length⟩
theorem Em {P:Program} {w:World} {K:W.Frag} {tg:Expr} (a it:Addr) (xs:List V):pq P w K tg (Itv K a xs) [it] it (λi h=>h.IsRevIter it a ((xs.length:Int) - 1 - (i:Int))) where
 mem:=by simp
 obj:=λi h st b g=>by
  have e:b=it:=by simpa using g
  subst e;obtain ⟨o,e,c,d⟩:=st;exact ⟨o,e,λv z=>by rw [d] at z;cases z⟩
 keep:=λi h h' st k=>by obtain ⟨o,e,r⟩:=st;exact ⟨o,k it (by simp) o e,r⟩
 item:=by
  intro X B C F U i f s σ H E I y st G;subst B C F;obtain ⟨hi,hq⟩:=G;obtain ⟨its,Y,p,hz⟩:=I.list hq;obtain ⟨L,M,f2,N,O,R⟩:=y it (by simp);have lr:=Y.length;have Z:xs[xs.length - 1 - i]?=some (xs[xs.length - 1 - i]'(by lia)):=Pg (by lia);obtain ⟨u,hu,ru⟩:=Y.get Z;have S:(xs.length:Int) - 1 - (i:Int)=((xs.length - 1 - i:Nat):Int):=by lia
  have st1:s.heap.IsRevIter it a ((xs.length - 1 - i:Nat):Int):=by rw [<- S];exact st
  refine wpAny_pyNext_rev_item st1 p.isList (x:=u) (by simpa using hu) λh' m sb=>?_;have e2:((xs.length - 1 - i:Nat):Int) - 1=(xs.length:Int) - 1 - ((i+1:Nat):Int):=by lia
  rw [e2] at m;have I1:Inv X f σ H { s with heap:=h' }:=I.turned (t':=s.toks) (λb o g e=>(sb.2 b g).trans e) L M N O R;obtain ⟨o,e,c,d⟩:=id m;exact ⟨u,rfl,tq (s:={ s with heap:=h' }) e c d (by decide) ⟨_,H,I1,ru,⟨rfl,Z⟩,m,λb g=>(y b g).1⟩⟩
 done:=by
  intro X B C F U i f s σ H E I y st G;subst B C F;obtain ⟨L,M,f2,N,O,R⟩:=y it (by simp);have T:i=xs.length:=G;subst T;have S:(xs.length:Int) - 1 - (xs.length:Int)=-1:=by lia
  rw [S] at st;exact wpAny_pyNext_rev_end (I.ok.hd U) st λh' eb=>⟨rfl,I.turned (t':=s.toks) (λb o g e=>eb b o g e) L M N O R⟩
 self:=λA i s Q E st q=>wpAny_pyIter_revIter st q
variable {tg:Expr}
noncomputable def IP (K:W.Frag) (b:TA):TI:=λσ H R=>b σ H λvs H1=>∃ a xs,vs=[.ref a]/\SR K H1 a xs/\R (Itv K a xs) H1
theorem HU {a:Expr} {k:TA} {p c:Pos} (m:Gl X "reversed") (r:X.mg "reversed"=none) (y:PA X [a] k) (z:starEach [a] X.env=[(false,eval a X.env)]:=by rfl):PI X tg (.Call (.Name "reversed" p) [a] [] c) (IP X.K k):=by
 intro f s σ H R I h;refine Call_ (lj I m r oR (QF (S1 (y c f s σ H _ I h) λus s1 ⟨vs,H1,g,B,C⟩=>?_) z rfl));obtain ⟨l,xs,e,E,q⟩:=C;subst e;obtain ⟨u,rfl,F⟩:=jd B;cases F;obtain ⟨its,G,pl,N⟩:=g.list E;have L:=G.length;refine call_reversed_list pl.isList ?_;have st:(s1.heap.push (revObj l ((its.toArray.size:Int) - 1))).IsRevIter s1.heap.objs.size l ((xs.length:Int) - 1 - ((0:Nat):Int)):=⟨_,P6 _ rfl,rfl,by simp [revObj,L]⟩
 refine wpAny_pyIter_revIter (s:={ s1 with heap:=s1.heap.push (revObj l ((its.toArray.size:Int) - 1)) }) st ?_;refine ⟨s1.heap.objs.size,[s1.heap.objs.size],_,_,H1,rfl,g.kept (t':=s1.toks) λb o e=>Ph _ e,Em l _ xs,st,λb M=>?_,q⟩;have e:b=s1.heap.objs.size:=by simpa using M
 subst e;exact g.X4 (Pu _) (g.hok.fresh (Pu _))
end
noncomputable def met (f:Nat->Str) (i:Nat):List Str:=((List.range i).map f).foldl step_dedup []
theorem lC (f:Nat->Str) (i:Nat):met f (i+1)=step_dedup (met f i) (f i):=by unfold met;rw [List.range_succ,P0,List.foldl_append];rfl
theorem uz (l:List Str) (x:Str):(step_dedup l x).length=if l.any (· == x) then l.length else l.length+1:=by unfold step_dedup;split <;> simp
theorem zX (l:List Str) (x y:Str):(step_dedup l x).any (· == y)=(l.any (· == y) || decide (y=x)):=by
 unfold step_dedup;split
 ·rename_i h;by_cases e:y=x
  ·subst e;rw [h];rfl
  ·rw [Po e,Bool.or_false]
 ·rw [List.any_append];congr 1;by_cases e:y=x
  ·subst e;simp
  ·have b:¬ x=y:=λz=>e z.symm;simp [e,b]
theorem uS (f:Nat->Str):∀ i,(met f i).length<=i
 | 0=>by simp [met]
 | i+1=>by rw [lC,uz];have:=uS f i;split <;> lia
theorem Es {R:Result->Shared->Prop} {U u:List Addr} {G:Array GenState->Array GenState->Prop} {Pv:Nat->Value->Prop} {St:Nat->Shared->Prop}
  (W:WalksS P w A.in1 it U u G n Pv St) (c:Addr) (B:c ∉ U) (f:Nat->Str) (hf:∀ i v,Pv i v->∃ t,v=.str (f i) t) (few:n+1 < scanBound) :
  ∀ (m i:Nat) (s:Shared),n - i=m->i<=n->St i s->s.heap.SetOf (strKind P w) c (λy=>(met f i).any (· == y)) (met f i).length ->
   (∀ s',Moved (c::u) G s s'->s'.heap.SetOf (strKind P w) c (λy=>(met f n).any (· == y)) (met f n).length->R (.ok (.ret .none)) s')->codeAny (model P w) A (.builtin "set.update.loop" ⟨[.ref c,.ref it],[]⟩) R s:=by
 have Y:c ∉ u:=λz=>B (W.sub _ z);have h:∀ b ∈ u,b ∈ c::u:=λb z=>PV _ z;intro m
 induction m with
 | zero =>
  intro i s e1 e2 st E r;obtain rfl:i=n:=by lia
  refine codeAny_builtin RS ?_;rw [Around.under_plainId Rb _];show wpAny _ A.in1 (pyNext (.ref it) >>= _) _ _ s;refine Pj (W.done s _ _ st λp C=>?_);show wpAny _ A.in1 (ret Value.none) _ _ p;obtain ⟨o,es,F,I,g,rest⟩:=E;exact PF (r p (C.mono h) ⟨o,es,F,I,C.heap c _ Y g,rest⟩)
 | succ m ih =>
  intro i s e1 e2 st E r;have lt:i < n:=by lia
  refine codeAny_builtin RS ?_;rw [Around.under_plainId Rb _];show wpAny _ A.in1 (pyNext (.ref it) >>= _) _ _ s;refine Pj (W.item i s _ _ lt st λv p pv L C=>?_);obtain ⟨tk,rfl⟩:=hf i v pv;have M:p.heap.SetOf (strKind P w) c (λy=>(met f i).any (· == y)) (met f i).length:=let ⟨o,es,F,I,g,rest⟩:=E;⟨o,es,F,I,C.heap c _ Y g,rest⟩;show wpAny _ A.in1 (holding [Value.str (f i) tk] (setAdd c (.str (f i) tk)) >>= _) _ _ p;refine Pj (Rr ?_);unfold setAdd;refine Rr (Pj ((strKind P w).pyHash (k:=f i) (strKind_is P w _ _) ?_));have rm:(met f i).length+1 < scanBound:=by have:=uS f i;lia
  refine wpAny_setAddHashed_of (knd:=strKind P w) (s:={ p with toks:=p.toks+1 }) (strKind_is P w _ _) rfl M rm λh' Z N=>?_;have O:h'.SetOf (strKind P w) c (λy=>(met f (i+1)).any (· == y)) (met f (i+1)).length:=SetOf_congr N (λy=>by rw [lC,zX]) (by rw [lC,uz]);refine PF ⟨plainId_quiet Rb _,ih (i+1) _ (by lia) lt (W.frame _ p _ _ L (RZ _) λb z o g=>?_) O λs3 S T=>?_⟩
  ·rw [Z.2 b (λq:b=c=>B (by rw [<- q];exact z))];exact g
  ·refine r s3 (Moved.trans W.gtrans ((C.mono h).then_heap (RZ _) λb o z g=>?_) S) T;rw [Z.2 b (λq:b=c=>z (by rw [q];exact P4))];exact g
noncomputable abbrev vX (b:Bool):Obj:={ cls:=.type "set",dict:=none,data:=.set #[] 0 (.fresh 0 0 b) }
theorem AZ {E:Value->Shared->Prop} {s:Shared} {items:Array Value} {f:Nat->Str} {Q:Value->Shared->Prop} (Z:A.handled=none) (hl:s.heap.IsList l items)
  (hi:∀ (i:Nat) (v:Value),items[i]?=some v->∃ t,v=.str (f i) t) (p:items.size+1 < scanBound)
  (q:∀ (h':Heap) (tk:Nat),h'.SetOf (strKind P w) s.heap.objs.size (λy=>(met f items.size).any (· == y)) (met f items.size).length->(∀ b o,b < s.heap.objs.size->s.heap.get? b=some o->h'.get? b=some o)->Q (.ref s.heap.objs.size) { s with heap:=h',toks:=tk }) :
  wpAny (model P w) A (call (.type "set") [.ref l]) Q E s:=by
 obtain ⟨c,tl,mro⟩:=Ro.mro;have made:=Ro.made;have sub:=Ro.sub;refine wpAny_call (codeAny_of_tree ?_);show wpAny _ _ (callAny (.type "set") _) _ _ _;refine PF ⟨Code.quiet_builtin _ (by decide +kernel),codeAny_builtin F.entry_type_call ?_⟩;rw [Around.under_plain (weight_type_call_type "set" [.ref l] []) rfl];have k1:=Ro.notType;have k2:=Ro.canCreate;have k3:=F.typeCall_set_1 (.ref l)
 repeat (any_goals (first | assumption | wp_step))
 refine RG (code_set_new_1 (.ref l) (E:=E) (Q₁:=λobj s1=>∃ h:Bool,obj=.ref s.heap.objs.size/\s1={ s with heap:=s.heap.push (vX h) }) λh=>⟨h,rfl,rfl⟩) λr s1 u=>?_
 cases r with
 | error e=>exact u
 | ok fl =>
  cases fl with
  | ret obj =>
   obtain ⟨h,rfl,rfl⟩:=u;have L:(s.heap.push (vX h)).get? s.heap.objs.size=some (vX h):=P6 _ rfl;have ty:Shared.TypeIs { s with heap:=s.heap.push (vX h) } (.ref s.heap.objs.size) "set":=⟨_,L,rfl⟩
   have k4:=Ro.init.lookup;have k5:=Ro.init.bind (.ref s.heap.objs.size)
   repeat (any_goals (first | assumption | wp_step))
   refine RG (codeAny_call_builtin (R:=wants (λr M=>r=.none/\∃ h' tk,M={ s with heap:=h',toks:=tk }/\h'.SetOf (strKind P w) s.heap.objs.size (λy=>(met f items.size).any (· == y)) (met f items.size).length /\
     (∀ b o,b < s.heap.objs.size->s.heap.get? b=some o->h'.get? b=some o)) E) Ro.init.plain F.entry_set_init (check_set_init_1 ty ?_)) λr2 M k=>?_
   ·obtain ⟨ol,N,O,S,T⟩:=hl;obtain ⟨oc,od,ob,os⟩:=ol;simp only at O T;subst O;subst T;have g4:(s.heap.push (vX h)).get? l=some { cls:=.type "list",dict:=od,data:=.seq items S,slots:=os }:=Ph _ N;have m1:=F.sub_list_set;have m2:=F.sub_list_frozenset;have m3:(Value.type "list" == Value.type "dict")=false:=by decide
    have U:(s.heap.push (vX h)).IsList l items:=⟨_,g4,rfl,S,rfl⟩
    unfold Builtin.«set.__init__» noKeywords Builtin.Frozenset.updateFrom;generalize B:pyIter=PI
    wp_walk
    subst B;refine Rl U (Pj (wpAny_runValue ?_));have Y:l < s.heap.objs.size:=PL N;have h3:A.in1.in1.in1.handled=none:=by simp [Z]
    have n1:l≠(s.heap.push (vX h)).objs.size:=by rw [Qu];exact Qe (Sx Y)
    have n2:s.heap.objs.size ∉ [(s.heap.push (vX h)).objs.size,l]:=by rw [Qu];simp only [PB,PU,Qa,Qz,not_or];exact ⟨Qe (RK _),QS Y⟩
    refine Es ((Walks.list h3 _ l n1 items).toS) s.heap.objs.size n2 f hi p (items.size - 0) 0 _ (by lia) (QA _) ⟨⟨_,P6 _ rfl,rfl,rfl⟩,(U.push _)⟩ ?so ?fi
    case so=>exact SetOf_congr ((setObjOf_fresh (knd:=strKind P w) h).setOf (Ph _ L) (by unfold scanBound;lia)) (λ_=>rfl) rfl
    case fi =>
     intro s' m so;obtain ⟨h',g',d',C,G⟩:=s';obtain rfl:g'=s.gens:=m.gens;obtain rfl:d'=s.drawn:=m.drawn;obtain rfl:G=s.os:=m.os;show wpAny _ _ _ _ _ _;refine PF ?_;show wpAny _ _ (ret Value.none) _ _ _;refine PF ⟨rfl,h',C,rfl,so,λb o z g=>?_⟩;have z1:b≠s.heap.objs.size:=Qe z;have z2:b≠(s.heap.push (vX h)).objs.size:=by rw [Qu];exact Qe (Sx z)
     exact m.heap b o (by simp only [PB,PU,Qa,Qz,not_or];exact ⟨z1,z2⟩) (Ph _ (Ph _ g))
   ·cases r2 with
    | error e=>exact k
    | ok I =>
     cases I with
     | ret r =>
      obtain ⟨rfl,h',tk,rfl,so,kp⟩:=k
      repeat (any_goals (first | assumption | wp_step))
      exact q _ _ so kp
     | _=>exact k.elim
  | _=>exact u.elim
noncomputable def zt (a:Addr) (n:Nat) (h:Heap):Prop:=∃ o es b t,h.get? a=some o/\o.ExactSet/\o.data=.set es b t/\t.fits es.size=true/\es.size=n
section
variable {X:Cx}
theorem AM:∀ {zs:List Str} {us:List Value} (i:Nat) (v:Value),Vals (zs.map V.str) us->us[i]?=some v->∃ t,v=.str (zs.getD i "") t
 | [],us,i,v,h,e=>by cases h;simp at e
 | z::zs,us,i,v,h,e=>by
  cases h with
  | cons r t =>
   obtain ⟨tk,rfl⟩:=r
   cases i with
   | zero =>
    have b:Value.str z tk=v:=by simpa using e
    exact ⟨tk,b.symm⟩
   | succ i =>obtain ⟨t',b⟩:=AM (zs:=zs) i v t (by simpa using e);exact ⟨t',by simpa using b⟩
noncomputable def uy (zs:List Str):Nat:=(met (λi=>zs.getD i "") zs.length).length
theorem A0 (E:X.calm=true):jz X (.type "set") (λxs H Q=>∃ (l:Addr) (zs:List Str),xs=[.ref l]/\SR X.K H l (zs.map V.str)/\zs.length<=100/\∀ p,H p=none->Q (.ref p) (upd H p (.ext (zt p (uy zs))))):=by
 intro y s σ H xs us Q I r h;obtain ⟨l,zs,rfl,F,T,q⟩:=h;obtain ⟨u,rfl,G⟩:=jd r;cases G;obtain ⟨its,B,p,_⟩:=I.list F;have C:=B.length;rw [Pf] at C;refine AZ (f:=λi=>zs.getD i "") (I.ok.hd E) p.isList (λi v e=>AM i v B (by simpa using e)) (by unfold scanBound;simp;lia) λh' tk L M=>?_
 have c:zt s.heap.objs.size (uy zs) h':=by obtain ⟨o,es,m,t,g,N,O,_,_,_,R,S⟩:=L;refine ⟨o,es,m,t,g,N,O,R,?_⟩;rw [S];unfold uy;rw [C];simp
 refine ⟨.ref s.heap.objs.size,_,I.laid (t':=tk) (λb o e=>M b o (PL e) e) (Pu _) (show Td X.prog X.w _ h' _ (.ext (zt s.heap.objs.size (uy zs))) from ⟨c,?_,λU Y z k=>?_⟩),rfl,q _ (I.hok.fresh (Pu _))⟩
 ·obtain ⟨o,_,_,_,g,_⟩:=c;exact ⟨o,g⟩
 ·obtain ⟨o,es,m,t,g,rest⟩:=z;exact ⟨o,es,m,t,k _ g,rest⟩
theorem wL:jz X (.builtin "len") (λxs H Q=>∃ (p:Addr) (n:Nat),xs=[.ref p]/\H p=some (.ext (zt p n))/\n<=1000/\Q (.int n) H):=by
 intro b s σ H xs us Q I r h;obtain ⟨p,n,rfl,c,B,q⟩:=h;obtain ⟨u,rfl,f⟩:=jd r;cases f;obtain ⟨⟨o,es,C,t,g,k,m,y,z⟩,_⟩:=(show Td X.prog X.w H s.heap p (.ext (zt p n)) from I.hok p _ c)
 subst z;exact call_len_set g k m y (by lia) ⟨.int (es.size:Nat),H,I.tok _,⟨_,rfl⟩,q⟩
end
theorem SJ.VI (e:SJ H H') (h:VI K H a xs):VI K H' a xs:=h.elim (λz=>.inl (e _ _ z)) .inr
noncomputable def LD (K:W.Frag) (H:Hp) (ds:List D) (v:V):Prop:=∃ a vs,v=.ref a/\VI K H a vs/\SI K H ds vs
theorem SJ.ld (e:SJ H H') (h:LD K H ds v):LD K H' ds v:=by obtain ⟨a,vs,b,c,f⟩:=h;exact ⟨a,vs,b,e.VI c,e.SV f⟩
theorem LD.lst (h:LD K H ds v):Dat K H .lst v:=by obtain ⟨a,vs,rfl,b,_⟩:=h;exact Dat.lstI b.WC
theorem LD.of (h:H a=some (.lst vs)) (b:SI K H ds vs):LD K H ds (.ref a):=⟨a,vs,rfl,.inl h,b⟩
inductive Ar where
 | d (x:D)
 | l (ds:List D)
noncomputable def Zg (K:W.Frag) (H:Hp):Ar->V->Prop
 | .d x,v=>Dat K H x v
 | .l ds,v=>LD K H ds v
inductive Y6 (K:W.Frag) (H:Hp):List Ar->List V->Prop
 | nil:Y6 K H [] []
 | cons {a v as vs}:Zg K H a v->Y6 K H as vs->Y6 K H (a::as) (v::vs)
theorem SJ.ari {a:Ar} (e:SJ H H') (h:Zg K H a v):Zg K H' a v:=by
 cases a with
 | d x=>exact e.dat h
 | l ds=>exact e.ld h
theorem Y6.length {as:List Ar} (h:Y6 K H as vs):as.length=vs.length:=by
 induction h with
 | nil=>rfl
 | cons _ _ b=>simp [b]
theorem AS {a:Ar} (h:Y6 K H [a] vs):∃ u,vs=[u]/\Zg K H a u:=by
 cases h with
 | cons b c=>cases c;exact ⟨_,rfl,b⟩
variable {b:Ar}
theorem yp {a:Ar} (h:Y6 K H [a,b] vs):∃ u v,vs=[u,v]/\Zg K H a u/\Zg K H b v:=by
 cases h with
 | cons c f=>obtain ⟨v,rfl,q⟩:=AS f;exact ⟨_,v,rfl,c,q⟩
variable {c:Ar}
theorem IG {a:Ar} (h:Y6 K H [a,b,c] vs):∃ u v w,vs=[u,v,w]/\Zg K H a u/\Zg K H b v/\Zg K H c w:=by
 cases h with
 | cons f g=>obtain ⟨v,w,rfl,q,q'⟩:=yp g;exact ⟨_,v,w,rfl,f,q,q'⟩
theorem ED {a d:Ar} (h:Y6 K H [a,b,c,d] vs):∃ u v w x,vs=[u,v,w,x]/\Zg K H a u/\Zg K H b v/\Zg K H c w/\Zg K H d x:=by
 cases h with
 | cons g k=>obtain ⟨v,w,x,rfl,q,q',f⟩:=IG k;exact ⟨_,v,w,x,rfl,g,q,q',f⟩
noncomputable def Xs (K:W.Frag) (R:List Ar->D->Prop):Sp:=λvs H Q _=>∃ as d,Y6 K H as vs/\R as d/\∀ v H',SJ H H'->Dat K H' d v->Q v H'
noncomputable def lV (K:W.Frag) (R:List Ar->List D->Prop):Sp:=λvs H Q _=>∃ as es,Y6 K H as vs/\R as es/\∀ r us H',SJ H H'->H' r=some (.lst us)->H r=none->SI K H' es us->Q (.ref r) H'
noncomputable def RL (K:W.Frag) (t:TE) (σ:St) (H:Hp) (ds:List D):Prop:=∀ H1,SJ H H1->∀ Q:VK,(∀ v H',SJ H1 H'->LD K H' ds v->Q v H')->t σ H1 Q
noncomputable def RB (K:W.Frag) (t:TA) (σ:St) (H:Hp) (as:List Ar):Prop:=∀ H1,SJ H H1->∀ Q:List V->Hp->Prop,(∀ vs H',SJ H1 H'->Y6 K H' as vs->Q vs H')->t σ H1 Q
section
variable {K:W.Frag} {σ:St} {H H':Hp} {d d':D} {ds es:List D} {t u ta tb te tl:TE} {tt uu:TT} {tA:TA} {i j:Int} {b c:Bool} {mk:St->St} {jj:Nat} {ar:List Ar}
theorem RL.mono (h:RL K t σ H es) (e:SJ H H'):RL K t σ H' es:=λH1 s Q q=>h H1 (e.trans s) Q q
theorem RL.use {Q:VK} (h:RL K t σ H es) (q:∀ v H',SJ H H'->LD K H' es v->Q v H'):t σ H Q:=h H (SJ.refl H) Q q
theorem RB.use {Q:List V->Hp->Prop} (h:RB K tA σ H ar) (q:∀ vs H',SJ H H'->Y6 K H' ar vs->Q vs H'):tA σ H Q:=h H (SJ.refl H) Q q
theorem dU:RB K dW σ H []:=λH1 _ Q q=>q _ _ (SJ.refl _) .nil
theorem iK (h:RE K t σ H d) (r:RB K tA σ H ar):RB K (bW t tA) σ H (.d d::ar):=λH1 s Q q =>
 h H1 s _ λv k f m=>r k (s.trans f) _ λvs y g p=>q _ _ (f.trans g) (.cons (g.ari (a:=.d d) m) p)
theorem gB (h:RL K t σ H ds) (r:RB K tA σ H ar):RB K (bW t tA) σ H (.l ds::ar):=λH1 s Q q =>
 h H1 s _ λv k f m=>r k (s.trans f) _ λvs y g p=>q _ _ (f.trans g) (.cons (g.ari (a:=.l ds) m) p)
variable {v:V}
theorem a8 {k:Nat} (h:LD K H ds v) (e:σ[k]?=some (some v):=by rfl):RL K (fT k) σ H ds:=λH1 s Q q=>⟨v,e,q _ _ (SJ.refl _) (s.ld h)⟩
theorem jW (h:RC K t σ H es):RL K t σ H es:=λH1 s Q q=>h H1 s _ λl ys H' _ s' f g=>q _ _ s' (LD.of f g)
theorem Ij {a:Addr} (h:qL K ds a=true):RL K (tC (.ref a)) σ H ds:=λH1 _ Q q=>by obtain ⟨vs,f,g⟩:=uR h H1;exact q _ _ (SJ.refl _) ⟨a,vs,rfl,.inr f,g⟩
variable {E:XK}
theorem eF {R:List Ar->D->Prop} (h:RB K tA σ H ar) (e:R ar d):RE K (kr (Xs K R) [] E tA) σ H d:=λH1 s Q q =>
 h H1 s _ λvs p f g=>⟨ar,d,by rw [PR];exact g,e,λv r k m=>q _ _ (f.trans k) m⟩
theorem gU {R:List Ar->List D->Prop} (h:RB K tA σ H ar) (e:R ar es):RC K (kr (lV K R) [] E tA) σ H es:=λH1 s Q q =>
 h H1 s _ λvs B g k=>⟨ar,es,by rw [PR];exact k,e,λr us m p y f z=>q r us m (g.free f) (g.trans p) y z⟩
theorem iD {k:Nat} (h:RL K ta σ H ds) (m:RE K tb σ H (.int k)) (e:ds[k]?=some d):RE K (VG (BC K) ta tb) σ H d:=λH1 s Q q =>
 h H1 s _ λv p f r=>m p (s.trans f) _ λw G g y=>by obtain ⟨a,vs,z,B,C⟩:=g.ld r;obtain ⟨x,ex,F⟩:=C.get e;exact ⟨a,vs,k,x,z,y.SQ,B.WC,jT ex,q _ _ (f.trans g) F⟩
theorem SI.snocE {b:D}:∀ {as:List D} {vs:List V},SI K H (as++[b]) vs->∃ us v,vs=us++[v]/\SI K H as us/\Dat K H b v
 | [],vs,h=>by obtain ⟨v,rfl,q⟩:=ji h;exact ⟨[],v,rfl,SI.nil,q⟩
 | a::as,vs,h=>by obtain ⟨v,r,rfl,f,g⟩:=h.Tu;obtain ⟨us,w,rfl,k,m⟩:=SI.snocE (as:=as) g;exact ⟨v::us,w,rfl,SI.cons f k,m⟩
theorem mf (h:RL K ta σ H (ds++[d])) (k:RE K tb σ H (.int (-1))):RE K (VG (BC K) ta tb) σ H d:=λH1 s Q q =>
 h H1 s _ λv m f p=>k m (s.trans f) _ λw F g r=>by obtain ⟨a,vs,y,z,B⟩:=g.ld p;obtain ⟨us,x,rfl,G,C⟩:=B.snocE;exact ⟨a,_,-1,x,y,r.SQ,z.WC,Ce us x,q _ _ (f.trans g) C⟩
theorem eA (h:RL K t σ H es):RE K (XA (λxs H Q=>∃ p ys,xs=[.ref p]/\(SR K H p ys\/Ti K H p ys)/\Q (.int ys.length) H) (bW t dW)) σ H (.int es.length):=λH1 s Q q =>
 iL ((h.mono s).use λv H' s' f=>by
  obtain ⟨l,ys,rfl,g,f⟩:=f;exact ⟨l,ys,rfl,.inl g.WC,by rw [<- f.length];exact q _ _ s' (Dat.SN _)⟩)
theorem qm:∀ {ns:List Int} {vs:List V},SI K H (ns.map D.int) vs->vs=ns.map V.int
 | [],vs,h=>by rw [SI.V1 h];rfl
 | n::ns,vs,h=>by obtain ⟨v,r,e,f,g⟩:=h.Tu;rw [e,f.SQ,qm g];rfl
theorem vO {ns:List Int} (h:RL K t σ H (ns.map D.int)):RE K (XA (λxs H Q=>∃ (l:Addr) (ns:List Int),xs=[.ref l]/\SR K H l (ns.map V.int)/\Q (.int ns.sum) H) (bW t dW)) σ H (.int ns.sum):=λH1 s Q q =>
 iL ((h.mono s).use λv H' s' f=>by
  obtain ⟨l,ys,rfl,g,f⟩:=f;exact ⟨l,ns,rfl,by rw [<- qm f];exact g.WC,q _ _ s' (Dat.SN _)⟩)
noncomputable def isN:D->Bool
 | .SO=>true
 | _=>false
theorem Ai (h:Dat K H d v):decide (v=.SO)=isN d:=by
 cases d with
 | SO=>rw [h.Vj];rfl
 | bl b=>rw [h.VZ];rfl
 | int i=>rw [h.SQ];rfl
 | str x=>rw [h.S5];rfl
 | tup ds=>obtain ⟨a,vs,e,_⟩:=h.S9;rw [e];rfl
 | lst=>obtain ⟨a,vs,e,_⟩:=h.YO;rw [e];rfl
theorem oC (h:RE K ta σ H d):RE K (VG (λx y H Q=>y=.SO/\Q (.bl (decide (x=.SO))) H) ta (tC .SO)) σ H (.bl (isN d)):=λH1 s Q q =>
 h H1 s _ λv k f g=>⟨rfl,by rw [Ai g];exact q _ _ f (Dat.VY _)⟩
theorem AF (h:RE K ta σ H d):RE K (VG (λx y H Q=>y=.SO/\Q (.bl (!decide (x=.SO))) H) ta (tC .SO)) σ H (.bl (!isN d)):=λH1 s Q q =>
 h H1 s _ λv k f g=>⟨rfl,by rw [Ai g];exact q _ _ f (Dat.VY _)⟩
theorem jM {cs:List D} (h:RL K tl σ H cs) (R:cs.length<=1000) (es:List D) (S:es.length=cs.length) (y:(mk σ).set jj none=mk σ)
  (f:∀ H1 (i:Nat) c v d,SJ H H1->cs[i]?=some c->es[i]?=some d->Dat K H1 c v->RE K te ((mk σ).set jj (some v)) H1 d):RC K (jP (tu K tl) mk (d6 jj) jc te) σ H es:=λH1 s Q q=>by
 refine (h.mono s).use λT z m B=>?_;obtain ⟨C,k,rfl,p,r⟩:=B;have U:=r.length;refine ⟨C,rfl,⟨k,p.WC⟩,?_⟩;refine kg (K:=K) (Q:=Q) (n:=k.length) (item:=λi=>k.getD i .SO) (λi H' s hi=>uH i H' (s.seq p.WC) hi) (λH' s=>⟨k,s.seq p.WC,Pu _⟩) y es (by lia) (by lia) (λi d hi=>?_) (λl ys F G I=>q l ys F (m.free G) (m.trans I));have L:i < es.length:=(P5.mp hi).1;have g:i < cs.length:=by lia
 obtain ⟨M,N,O⟩:=r.get (Pg g);have q:=f z i cs[i] M d (s.trans m) (Pg g) hi O;rw [PZ,N];exact q
theorem zi (h:RL K t σ H es):RC K (XA (λxs H Q=>∃ p ys,xs=[.ref p]/\(SR K H p ys\/Ti K H p ys)/\∀ l,H l=none->Q (.ref l) (upd H l (.lst ys))) (bW t dW)) σ H es:=λH1 s Q q =>
 iL ((h.mono s).use λv H' s' f=>by
  obtain ⟨p,ys,rfl,k,f⟩:=f;exact ⟨p,ys,rfl,.inl k.WC,λl g=>q l ys _ (s'.free g) (s'.trans (aV g _)) aI ((aV g _).SV f)⟩)
theorem js (r:RL K ta σ H ds) (y:RL K tb σ H es) (I:ds.length+es.length<=1000):RC K (VG (Gr K) ta tb) σ H (ds++es):=λH1 s Q q =>
 r H1 s _ λv z f B=>y z (s.trans f) _ λw L g C=>by obtain ⟨a,xs,rfl,F,k⟩:=g.ld B;obtain ⟨b,ys,rfl,G,m⟩:=C;have M:=k.length;have N:=m.length;exact ⟨a,b,xs,ys,rfl,rfl,F,G,by lia,λp h=>q p _ _ ((f.trans g).free h) (f.trans (g.trans (aV h _))) aI ((aV h _).SV (SI.append k m))⟩
end
section
variable {K:W.Frag} {σ:St} {H H':Hp} {d d':D} {ds es:List D} {t u ta tb te tl:TE}
theorem BG {zs:List Str} (h:RC K t σ H (zs.map D.str)) (f:zs.length<=100):RE K (XA (λxs H Q=>∃ (p:Addr) (n:Nat),xs=[.ref p]/\H p=some (.ext (zt p n))/\n<=1000/\Q (.int n) H)
  (bW (XA (λxs H Q=>∃ (l:Addr) (zs:List Str),xs=[.ref l]/\SR K H l (zs.map V.str)/\zs.length<=100/\∀ p,H p=none->Q (.ref p) (upd H p (.ext (zt p (uy zs))))) (bW t dW)) dW)) σ H (.int (uy zs)):=λH1 s Q q =>
 iL (iL ((h.mono s).use λl ys y _ g k m=>by
  refine ⟨l,zs,rfl,by rw [<- zT m];exact SR.of k,f,λp r=>⟨p,uy zs,rfl,aI,?_,q _ _ (g.trans (aV r _)) (Dat.SN _)⟩⟩;have:=uS (λi=>zs.getD i "") zs.length;unfold uy;lia))
theorem zY (zs:List Str):∀ i,i<=zs.length->((∀ y,(met (λi=>zs.getD i "") i).any (· == y)=decide (y ∈ zs.take i))/\((met (λi=>zs.getD i "") i).length=i↔(zs.take i).Nodup))
 | 0,_=>⟨λy=>by simp [met],by simp [met]⟩
 | i+1,h=>by
  obtain ⟨g,k⟩:=zY zs i (by lia);have r:=uS (λi=>zs.getD i "") i;have hi:i < zs.length:=h;have m:zs.take (i+1)=zs.take i++[zs[i]]:=by rw [Qq,Pg hi];rfl
  have p:zs.getD i ""=zs[i]:=by rw [PZ,Pg hi];rfl
  refine ⟨λy=>?_,?_⟩
  ·rw [lC,zX,g,m];simp only [p,Qc,PU];by_cases s:y ∈ zs.take i <;> by_cases B:y=zs[i] <;> simp [s,B]
  ·rw [lC,uz,g,m];simp only [p];rw [List.nodup_append];by_cases f:zs[i] ∈ zs.take i
   ·rw [Pk (Py f)];constructor
    ·intro z;lia
    ·rintro ⟨_,_,z⟩;exact absurd rfl (z _ f _ (PU.mpr rfl))
   ·rw [M1 (by simpa using f)];constructor
    ·intro z;refine ⟨k.mp (by lia),by simp,?_⟩;rintro a q b C rfl;rw [PU.mp C] at q;exact f q
    ·rintro ⟨z,_⟩;have:=k.mpr z;lia
theorem EL (zs:List Str):uy zs=zs.length↔zs.Nodup:=by have h:=(zY zs zs.length (Pu _)).2;rw [QK] at h;exact h
end
noncomputable def pP (K:W.Frag):V->List V->Hp->VK->Prop:=λx vs H Q=>∃ l xs y ds d j,x=.ref l/\vs=[y]/\VI K H l xs/\SI K H ds xs/\Dat K H d y/\Tn ds=true/\UM d=true/\SY ds<=20/\xs.length<=1000 /\
 (∃ e,ds[j]?=some e/\S2 e d=true)/\(∀ (m:Nat) e,m < j->ds[m]?=some e->S2 e d=false)/\Q (.int (j:Nat)) H
section
variable {X:Cx}
theorem Bk {k:Nat} (hr:TH k X.A):MtM X "list.index" (pP X.K):=by
 intro pins s σ H x vs v us Q I rx rv h;obtain ⟨l,xs,y,ds,d,j,rfl,rfl,hH,G,hd,T,n2,dp,hx,⟨e0,L,U⟩,Y,q⟩:=h;cases rx;obtain ⟨u,rfl,ru⟩:=jd rv;obtain ⟨its,n,r,e⟩:=hH.at I;have hl:=r.length;have ll:=G.length
 have item:∀ (m:Nat) (w:Value),its[m]?=some w->∃ g,ds[m]?=some g/\∃ M,RelV M w/\Dat X.K H g M:=λm w f=>by have S:m < its.length:=(P5.mp f).1;obtain ⟨g,z,dg⟩:=G.Wd (i:=m) (v:=xs[m]'(by lia)) (Pg (by lia));obtain ⟨w',B,rr⟩:=r.get (i:=m) (x:=xs[m]'(by lia)) (Pg (by lia));rw [f] at B;cases B;exact ⟨g,z,_,rr,dg⟩
 have E:∀ {Z x2:V} {w:Value},RelV Z w->RelV x2 w->Z=x2:=λ{Z x2 w} h1 h2=>RelV.inj h1 h2
 classical
 let eq:Value->Bool:=λw=>if f:∃ m:Nat,its[m]?=some w then (match ds[Classical.choose f]? with | some g=>S2 g d | none=>false) else false
 have C:∀ (m:Nat) (w:Value) (g:D),its[m]?=some w->ds[m]?=some g->eq w=S2 g d:=λm w g f z=>by
  have B:∃ m:Nat,its[m]?=some w:=⟨m,f⟩
  show (if f:∃ m:Nat,its[m]?=some w then _ else false)=_;rw [dif_pos B];have hc:=Classical.choose_spec B;obtain ⟨g',N,xv',r1,d1⟩:=item _ w hc;obtain ⟨g2,O,M,r2,d2⟩:=item m w f;rw [z] at O;cases O;rw [N];have ex:=E r1 r2;subst ex;have:=ux I g' g (kj T N) d1 d2 (kj T z);rw [this]
 have hj:j < ds.length:=(P5.mp L).1
 have hu:X.A.in1.units+20+1 < cLine:=by have:=hr.un;show X.A.units+1+20+1 < cLine;lia
 refine call_meets F.slot_list_index ⟨_,e,rfl⟩ F.entry_list_index (F.args_list_index_2 _ _) (SeqAt.list_indexAt l its.toArray n none #[] u eq j (by simp;lia) (by lia) ?_ ?_) ⟨e,?_,?_⟩
 ·have f:its[j]?=some (its[j]'(by lia)):=Pg (by lia);have:=C j _ e0 f L;simpa [this] using U
 ·intro m S hmj;have p:m < its.length:=by simpa using S
  have f:its[m]?=some (its[m]'p):=Pg p;obtain ⟨g,z,_⟩:=item m _ f;have:=C m _ g f z;simpa [this] using Y m g hmj z
 ·intro w f;obtain ⟨m,S,rfl⟩:=Array.getElem_of_mem f;have p:m < its.length:=by simpa using S
  have R:its[m]?=some (its[m]'p):=Pg p;obtain ⟨g,z,M,r1,d1⟩:=item m _ R;have z1:its.toArray[m]=its[m]'p:=by simp
  rw [z1,C m _ g R z];exact yw I 20 X.A.in1 g d M y _ u hu (Qf (mO z) dp) (kj T z) n2 d1 hd r1 ru
 ·exact ⟨.int (j:Nat),H,I.tok _,⟨_,rfl⟩,q⟩
theorem Bl {k:Nat} (f:TH k X.A):MtR X "list.index" (pP X.K):=Bk f
end
section
variable {K:W.Frag} {σ:St} {H:Hp} {te:TE}
theorem DR {k j:Nat} {v:V} {ds:List D} {d:D} (r:LD K H ds v) (h:RE K te σ H d) (u:Tn ds=true) (z:UM d=true) (B:SY ds<=20) (G:ds.length<=1000) (C:∃ e,ds[j]?=some e/\S2 e d=true) (E:∀ (m:Nat) e,m < j->ds[m]?=some e->S2 e d=false) (e:σ[k]?=some (some v):=by rfl) :
  RE K (Z6 K "list" (pP K) (fT k) (bW te dW)) σ H (.int (j:Nat)):=λH1 s Q q=>by
 obtain ⟨a,vs,rfl,g,p⟩:=s.ld r;have I:=p.length;refine ⟨_,e,.inl ⟨rfl,_,g.WC⟩,h H1 s _ λy L f F=>?_⟩;exact ⟨a,vs,y,ds,d,j,rfl,rfl,f.VI g,f.SV p,F,u,z,B,by lia,C,E,q _ _ f (Dat.SN _)⟩
end
theorem EW {K:PySem.W.Frag} {g:TG} {k:TS} {D:kx} (Pv:Nat->St->Hp->Prop) (s:Pv 0 σ H) (u:∀ i σ H,i<=xs.length->Pv i σ H->SR K H a xs)
  (z:∀ i x σ H,i < xs.length->xs[xs.length - 1 - i]?=some x->Pv i σ H->g x σ H λσ2 h=>k { D with nx:=Pv (i+1),ct:=Pv (i+1),bk:=D.nx } σ2 h) (B:∀ σ H,Pv xs.length σ H->D.nx σ H) :
  ∃ W:Nat->Nat->St->Hp->Prop,(∃ m,W 0 m σ H)/\∀ i m σ H,W i m σ H ->
   ((Itv K a xs).stop i H/\D.nx σ H)\/((Itv K a xs).go i H/\∃ N:St->Hp->Prop,(∀ σ' H',N σ' H'->∃ r,r < m/\W (i+1) r σ' H')/\∀ x H',(Itv K a xs).Yg i H x H'->g x σ H' λσ2 h=>k { D with nx:=N,ct:=N,bk:=D.nx } σ2 h):=by
 refine ⟨λi m σ H=>m=xs.length - i/\i<=xs.length/\Pv i σ H,⟨xs.length,by simp,QA _,s⟩,?_⟩;rintro i m σ H ⟨rfl,hi,p⟩;have q:=u i σ H hi p;by_cases f:i < xs.length
 ·refine .inr ⟨⟨f,q⟩,Pv (i+1),λσ' H' C=>⟨xs.length - (i+1),by lia,rfl,f,C⟩,λx H' y=>?_⟩;obtain ⟨e,y⟩:=y;subst e;exact z i x σ _ f y p
 ·have e:i=xs.length:=by lia
  subst e;exact .inl ⟨rfl,B σ H p⟩
theorem oT (Ok:Hp->Prop)
  (F:∀ i H',Ok H'->i < n->J.go i H'/\∀ x f,J.Yg i H' x f->f=H'/\x=item i) (stop:∀ H',Ok H'->J.stop n H') (G:σ0.set j none=σ0)
  (D:Addr) (h:Nat->Hp->Prop) (p0:h 0 (upd H1 D (.lst []))) (ok:∀ i H',i<=n->h i H'->Ok H')
  (r:∀ i H',i < n->h i H'->tt (σ0.set j (some (item i))) H' λb s=>if b=true then te (σ0.set j (some (item i))) s λv u=>∃ ys,u D=some (.lst ys)/\ys.length < sizeLine/\(∃ z,σ0.set j (some (item i))=σ0.set j z)/\h (i+1) (upd u D (.lst (ys++[v]))) else (∃ z,σ0.set j (some (item i))=σ0.set j z)/\h (i+1) s)
  (B:∀ H',h n H'->Q (.ref D) H') :
  ∃ W:Nat->Nat->St->Hp->Prop,(∃ m,W 0 m σ0 (upd H1 D (.lst [])))/\∀ i m σ' H',W i m σ' H' ->
   (J.stop i H'/\Q (.ref D) H') \/
   (J.go i H'/\∃ C:St->Hp->Prop,(∀ σ'' f,C σ'' f->∃ E,E < m/\W (i+1) E σ'' f)/\∀ x f,J.Yg i H' x f->d6 j x σ' f λσ2 I=>tt σ2 I λb s =>
    if b=true then te σ2 s λv u=>∃ ys,u D=some (.lst ys)/\ys.length < sizeLine/\C σ2 (upd u D (.lst (ys++[v]))) else C σ2 s):=by
 refine ⟨λi m σ' H'=>m=n - i/\i<=n/\(∃ z,σ'=σ0.set j z)/\h i H',⟨n,by lia,QA _,⟨none,G.symm⟩,p0⟩,?_⟩;rintro i m σ' H' ⟨rfl,hi,⟨z,rfl⟩,p⟩;have o:=ok i H' hi p;by_cases k:i < n
 ·obtain ⟨g,y⟩:=F i H' o k;refine .inr ⟨g,λσ'' f=>(∃ z,σ''=σ0.set j z)/\h (i+1) f,λσ'' f q=>⟨n - (i+1),by lia,rfl,k,q.1,q.2⟩,λx f L=>?_⟩;obtain ⟨M,N⟩:=y x f L;subst M N;simp only [d6,nO];exact r i _ k p
 ·have e:i=n:=by lia
  subst e;exact .inl ⟨stop H' o,B H' p⟩
theorem HJ {o:Expr} {to:TE} {name:Str} {h f:Pos} {T id:String} {r:V->List V->Hp->VK->Prop} (K:W.Frag) (s:X.K=K) (u:PlainAttrs T) (slot:Slot T name id) (q:typeOf (.builtin id)=pure (.type "method_descriptor")) (y:MtR X id r) (z:PE X o to) (B:PA X (e::es) t)
  (k:attributeBase o name X.env (eval o X.env)=eval o X.env:=by rfl)
  (p:((backTo f (starEach (e::es) X.env)).all (λx=>!x.1) && (backToKw f (keywordEach [] X.env)).all (λx=>x.1.isSome)
   && decide ((e::es).length+([]:List Keyword).length+(if ([]:List Keyword).isEmpty then 0 else 1) < 30))=true:=by rfl)
  (m:(h.endLine == f.line)=true:=by rfl) (C:starEach (e::es) X.env=(false,eval e X.env)::starEach es X.env:=by rfl) (g:(backTo f (starEach es X.env)).any (·.1)=false:=by rfl) :
  PE X (.Call (.Attribute o name h) (e::es) [] f) (Z6 K T r to t):=by
 subst s;exact fF u slot q y z B k p m C g
theorem dO (a b:D) (r q:List D):Tf (a::r) (b::q)=(S2 a b && Tf r q):=by rw [Tf]
theorem fA:Tf [] []=true:=by rw [Tf]
theorem fO (b:D) (q:List D):Tf [] (b::q)=false:=by unfold Tf;rfl
theorem e8 (a:D) (r:List D):Tf (a::r) []=false:=by unfold Tf;rfl
theorem gQ (a b:List D):S2 (.tup a) (.tup b)=Tf a b:=by rw [S2]
theorem gP (a b:Str):S2 (.str a) (.str b)=decide (a=b):=by unfold S2;by_cases h:a=b <;> simp [h]
theorem gO (a b:Int):S2 (.int a) (.int b)=decide (a=b):=by unfold S2;by_cases h:a=b <;> simp [h]
theorem xQ (M:Addr->List V->Hp->Prop) (h:∀ R:VK,(∀ r us H1,H1 r=some (.lst us)->M r us H1->R (.ref r) H1)->tl σ H R) (p:(mk σ).set j none=mk σ)
  (body:∀ r us H1 l,H1 r=some (.lst us)->M r us H1->H1 l=none->∃ f:Nat->Hp->Prop,f 0 (upd H1 l (.lst []))/\(∀ i G,i<=us.length->f i G->SR K G r us) /\
   (∀ i G,i < us.length->f i G->tt ((mk σ).set j (some (us.getD i .SO))) G λb g=>if b=true then te ((mk σ).set j (some (us.getD i .SO))) g λv k=>∃ ys,k l=some (.lst ys)/\ys.length < sizeLine/\(∃ z,(mk σ).set j (some (us.getD i .SO))=(mk σ).set j z)/\f (i+1) (upd k l (.lst (ys++[v]))) else (∃ z,(mk σ).set j (some (us.getD i .SO))=(mk σ).set j z)/\f (i+1) g) /\
   ∀ G,f us.length G->Q (.ref l) G):jP (tu K tl) mk (d6 j) tt te σ H Q:=by
 refine h _ λr us H1 m q=>⟨r,rfl,⟨us,SR.of m⟩,λl s=>?_⟩
 obtain ⟨f,u,y,B,C⟩:=body r us H1 l m q s;exact oT (J:=Z4 K r) (n:=us.length) (item:=λi=>us.getD i .SO) (λG=>SR K G r us) (λi G o hi=>uH i G o hi) (λG o=>⟨us,o,Pu _⟩) p l f u y B C
section
variable {P:Program} {w:World} {H H':Hp} {h h1 h2:Heap} {a b T:Addr} {o:HO} {fs:List Addr}
end
section
variable {X:Cx} {pins:List (Addr × Obj)} {σ:St} {H:Hp} {s s':Shared} {E:XK} {e:Value}
end
section
variable {X:Cx} {CX:Zk} {k:Nat} {f C:Addr} {fd:FuncData} {ps:List Str} {sp:Sp} {Wo:List V} {ds:List Value} {E:St->XK} {x m:Str} {p pos apos:Pos} {e o:Expr} {es:List Expr} {ta:TE} {t:TA}
end
section
variable {X:Cx} {pins Yd:List (Addr × Obj)} {σ:St} {H:Hp} {s:Shared} {xe:Value->Shared->Prop} {e:Value}
end
end L2
namespace L2
open PySem PySem.Spec PySem.Calls PyProof.Rows PySem.W PySem.Builtin PySem.Builtin.ObjectAttr PySem.Builtin.Getset_descriptor
section
variable {prog:Program} {w:World} {A:Around} {E:Value->Shared->Prop} {s:Shared} {K:Frag} {x D:Addr} {ox:Obj} {od:Option Obj} {name:Str}
end
section
variable {X:Cx} {pins:List (Addr × Obj)} {σ:St} {H H':Hp} {s s2:Shared} {a:Addr} {o:HO}
end
end L2
namespace L2
open PySem PySem.Spec PySem.Calls PyProof.Rows
section
variable {P:Program} {w:World} {K:W.Frag} {mg:Str->Option Value} {base:Heap}
end
section
variable {X:Cx} {k:Nat} {f:Addr} {fd:FuncData} {ps:List Str} {sp:Sp} {Wo:List V} {ds:List Value} {E:XK} {x:Str} {p pos:Pos} {e:Expr} {es:List Expr} {t:TA}
end
section
variable {X:Cx}
end
section
variable {P:Program} {w:World} {K:W.Frag} {mg:Str->Option Value} {base:Heap}
end
section
variable {X:Cx} {CX:Zk} {k:Nat} {f C:Addr} {fd:FuncData} {ps ks:List Str} {sp:Sp} {E:St->XK} {x m:Str} {p pos apos kpos:Pos} {e o:Expr} {es:List Expr} {kws:List Keyword} {te ta:TE} {t tk:TA} {nm:Option Str} {g:List Value->List Value->List Value} {gV:List V->List V->List V}
end
section
variable {K:W.Frag} {σ:St} {H:Hp} {tA tK:TA} {ds es fs:List D} {d e:D} {Wo:List V} {R:List D->D->Prop} {B:List D->Addr->Prop} {E:XK} {Q:VK} {C:Addr} {gV:List V->List V->List V} {ta tb:TE}
theorem FM (c:RE K ta σ H d) (f:RE K tb σ H e) (g:UM d=true) (h:UM e=true) (i:gT d<=20):RE K (VG (HY K true) ta tb) σ H (.bl (!S2 d e)):=λj s Q q =>
 c j s _ λv k a l=>f k (s.trans a) _ λw n b m=>⟨d,e,b.dat l,m,g,h,i,q _ _ (a.trans b) (Dat.VY _)⟩
end
section
variable {X:Cx}
end
end L2
namespace L2
open PySem PySem.Spec PySem.Calls PyProof.Rows PySem.W PySem.Builtin PySem.Builtin.ObjectAttr
section
variable {prog:Program} {w:World} {A:Around} {E:Value->Shared->Prop} {K:Frag} {C fI:Addr} {us:List Value}
end
section
variable {h:Heap} {x b:Addr} {o:Obj} {vs:Array Value}
end
section
variable {prog:Program} {w:World} {A:Around} {E:Value->Shared->Prop} {s:Shared} {K:Frag} {x C:Addr} {ox:Obj} {name:Str} {v:Value} {vs:Array Value}
end
section
variable {X:Cx} {pins:List (Addr × Obj)} {σ:St} {H:Hp} {s s':Shared} {C fI e:Addr} {fd:FuncData} {k:Nat} {ps:List Str} {a0:Value}
end
end L2
namespace L2
open PySem PySem.Spec PySem.Calls PyProof.Rows
noncomputable abbrev gK (h:Heap) (a t:Addr) (i:Nat):Prop:=h.get? a=some { cls:=.type "tuple_iterator",dict:=none,data:=.fields #[.ref t,rawInt i],slots:=#[] }
section
variable {prog:Program} {w:World} {A:Around} {E:Value->Shared->Prop} {s:Shared} {it t:Addr} {i:Nat} {items:Array Value}
theorem rV {x:Value} {Q:Value->Shared->Prop} (a:gK s.heap it t i) (c:s.heap.IsTuple t items) (f:items[i]?=some x)
  (q:∀ h',gK h' it t (i+1)->Heap.SameBut it s.heap h'->Q x { s with heap:=h' }):wpAny (model prog w) A (Builtin.SmallTypes.nextOf (.ref it)) Q E s:=by
 have d:s.TypeIs (.ref it) "tuple_iterator":=⟨_,a,rfl⟩
 obtain ⟨⟨g,m,b,o⟩,c,h,n,j⟩:=c;obtain rfl:g=.type "tuple":=h;obtain rfl:b=.seq items n:=j;unfold Builtin.SmallTypes.nextOf;refine Pj (QG (name:=Str.ofString "__next__") d Rj (QU Rj d F.entry_tuple_iterator_next ?_ (F.args_tuple_iterator_next_1 _)));obtain ⟨p,r,u,v,y⟩:=s;unfold gK rawInt at a
 wp_walk
 rw [RX,f];refine Pj (QX a (by simp) λh' k l=>PF ⟨x,rfl,PF (q h' ?_ l)⟩);show h'.get? it=some _;have e:((i+1:Nat):Int)=(i:Int)+1:=by lia
 rw [e];exact k
theorem zC {Q:Value->Shared->Prop} (f:A.handled=none) (a:gK s.heap it t i) (c:s.heap.IsTuple t items) (g:items[i]?=none)
  (q:∀ h' e,Heap.ExtBut it s.heap h'->(∃ o,h'.get? e=some o/\o.cls=.type "StopIteration")->E (.ref e) { s with heap:=h' }):wpAny (model prog w) A (Builtin.SmallTypes.nextOf (.ref it)) Q E s:=by
 have d:s.TypeIs (.ref it) "tuple_iterator":=⟨_,a,rfl⟩
 obtain ⟨⟨h,m,b,p⟩,c,j,n,k⟩:=c;obtain rfl:h=.type "tuple":=j;obtain rfl:b=.seq items n:=k;unfold Builtin.SmallTypes.nextOf;refine Pj (QG (name:=Str.ofString "__next__") d Rj (QU Rj d F.entry_tuple_iterator_next ?_ (F.args_tuple_iterator_next_1 _)));obtain ⟨r,u,v,x,y⟩:=s;unfold gK rawInt at a
 wp_walk
 rw [RX,g];refine Pj (wpAny_rule (Pj (QX a (by simp) λh' z l=>?_)));unfold Builtin.SmallTypes.stopIteration
 wp_walk
 exact wpAny_raiseNew_none f (q _ _ ((l.extBut.push _).push _) ⟨_,P6 _ rfl,rfl⟩)
end
noncomputable abbrev Ed (t:Addr):Obj:={ cls:=.type "tuple_iterator",data:=.fields #[.ref t,.int 0 0] }
noncomputable abbrev sX (a:Addr):Obj:={ cls:=.type "enumerate",data:=.fields #[.none,.bool false,.ref a,rawInt 0,.none,.none] }
variable {X:Cx} {s:Shared}
theorem Inv.Yq {a:List (Addr × Obj)} {σ:St} {H:Hp} {h':Heap} {t':Nat} {its:List Addr} (I:Inv X a σ H s) (k:∀ b o,b ∉ its->s.heap.get? b=some o->h'.get? b=some o)
  (ok:∀ b ∈ its,H b=none/\b≠X.env.locals/\(b ∈ X.ex\/X.s₀.heap.objs.size<=b)/\(∀ x c,X.env.cells.lookup x=some c->c≠b)/\∀ p ∈ X.pn++a,p.1≠b):Inv X a σ H { s with heap:=h',toks:=t' }:=by
 have f:∀ b u,H b=some u->b ∉ its:=λb u e z=>by rw [(ok b z).1] at e;cases e
 refine I.step (g':=s.gens) (d':=s.drawn) (ch:=its) (λb g=>⟨(ok b g).2.2.1,(ok b g).2.1,(ok b g).2.2.2⟩) (λb o _ _ d e _=>k b o d e) (λb o _ _ d e _=>⟨o.slots,k b o d e⟩) (λ_ _ _ _ n=>n)
  (λb o d e=>⟨o,k b o d e⟩) (λ_ _ e=>e) (λ_ _ _ e=>e) (λb ps e=>⟨#[],by rw [Array.append_empty];exact e⟩) (λm h=>?_) (λb u e=>?_) I.bare
 ·obtain ⟨o,es,i,j,r⟩:=h;exact ⟨o,es,i,k _ o (λz=>(ok _ z).2.1 rfl) j,r⟩
 ·refine (I.hok b u e).stay (λc v d q=>k c v ?_ q) (λ_ q=>q) λ_ _ q=>q;rcases d with z | z
  ·rw [z];exact f b u e
  ·exact f c _ z
section
variable {prog:Program} {w:World} {A:Around} {E:Value->Shared->Prop} {s:Shared} {z TI TO i1 i2 t1 t2:Addr} {k:Nat} {xs ys:Array Value}
variable {a b:Value}
theorem BX {x y:Value} {Q:Value->Shared->Prop} (p:IsZip s.heap z TI TO .none) (hI:IsPair s.heap TI (.ref i1) (.ref i2)) (hO:IsPair s.heap TO a b) (h1:gK s.heap i1 t1 k) (h2:gK s.heap i2 t2 k)
  (l1:s.heap.IsTuple t1 xs) (l2:s.heap.IsTuple t2 ys) (hx:xs[k]?=some x) (hy:ys[k]?=some y) (D:ZipApart z TI TO i1 i2 t1 t2)
  (q:∀ h',IsZip h' z TI TO (rawInt s.heap.objs.size)->IsPair h' TO x y->gK h' i1 t1 (k+1)->gK h' i2 t2 (k+1)->h'.get? s.heap.objs.size=some { cls:=.type "tuple",data:=.seq #[x,y] } ->
   (∀ b o,b≠z->b≠TO->b≠i1->b≠i2->s.heap.get? b=some o->h'.get? b=some o)->Q (.ref s.heap.objs.size) { s with heap:=h' }):wpAny (model prog w) A (Builtin.«zip.__next__» ⟨[.ref z],[]⟩) (λI s'=>∃ v,I=.done (.ret v)/\Q v s') E s:=by
 show wpAny _ _ (field (.ref z) 2 >>= _) _ _ _;refine Pj (Q0 p rfl rfl ?_);show wpAny _ _ (field (.ref z) 3 >>= _) _ _ _;refine Pj (Q0 p rfl rfl ?_);refine Pj (RW hI rfl ?_);refine Pj (Pj (Q0 p rfl rfl (PF ?_)));refine Pj (wpAny_rule ?_);refine Pj (Q0 p rfl rfl ?_);refine Pj (QX p (by simp) λf J i=>?_)
 replace J:IsZip f z TI TO .ellipsis:=J
 rw [show (#[Value.ref i1,Value.ref i2]:Array Value).toList.zipIdx=[(.ref i1,0),(.ref i2,1)] from rfl,Sb];have K:gK f i1 t1 k:=(i.2 i1 D.i1z).trans h1;have L:gK f i2 t2 k:=(i.2 i2 D.i2z).trans h2;have M:f.IsTuple t1 xs:=l1.extBut i.extBut D.l1z;have N:f.IsTuple t2 ys:=l2.extBut i.extBut D.l2z;have O:IsPair f TO a b:=(i.2 TO D.TOz).trans hO;refine Pj (Pj (Pj (wpAny_onRaise (Pj (rV (s:={ s with heap:=f }) K M hx λt P g=>PF ?_)))))
 replace g:Heap.SameBut i1 f t:=g
 have u:IsPair t TO a b:=(g.2 TO D.TOi1).trans O;refine Pj (RW (s:={ s with heap:=t }) u rfl ?_);refine Pj (wpAny_updateSeq_pair (s:={ s with heap:=t }) u λr j h=>?_)
 replace h:Heap.SameBut TO t r:=h
 replace j:IsPair r TO x b:=j
 refine Pj (wpAny_letGo (PF ?_));have R:gK r i2 t2 k:=(h.2 i2 (PN D.TOi2)).trans ((g.2 i2 (PN D.i12)).trans L);have S:r.IsTuple t2 ys:=(N.extBut g.extBut D.l2i1).extBut h.extBut D.l2TO;show wpAny _ _ (forIn [(Value.ref i2,1)] _ _) _ _ _;rw [Sb];refine Pj (Pj (wpAny_onRaise (Pj (rV (s:={ s with heap:=r }) R S hy λB T l=>PF ?_))))
 replace l:Heap.SameBut i2 r B:=l
 have C:IsPair B TO x b:=(l.2 TO D.TOi2).trans j;refine Pj (RW (s:={ s with heap:=B }) C rfl ?_);refine Pj (wpAny_updateSeq_pair (s:={ s with heap:=B }) C λc d m=>?_)
 replace m:Heap.SameBut TO B c:=m
 replace d:IsPair c TO x y:=d
 refine Pj (wpAny_letGo (PF ?_));show wpAny _ _ (forIn [] _ _) _ _ _;rw [List.forIn_nil];refine PF ?_;show wpAny _ _ (seqItems? (.ref TO) >>= _) _ _ _;refine Pj (RW (s:={ s with heap:=c }) d rfl ?_);refine Pj (wpAny_newTuple ?_);have F:c.objs.size=s.heap.objs.size:=by rw [m.1,l.1,h.1,g.1,i.1]
 have ze:IsZip c z TI TO .ellipsis:=(m.2 z (PN D.TOz)).trans ((l.2 z (PN D.i2z)).trans ((h.2 z (PN D.TOz)).trans ((g.2 z (PN D.i1z)).trans J)));have zf:IsZip (c.push { cls:=.type "tuple",data:=.seq #[x,y] }) z TI TO .ellipsis:=Ph _ ze;have tf:(c.push { cls:=.type "tuple",data:=.seq #[x,y] }).get? s.heap.objs.size=some { cls:=.type "tuple",data:=.seq #[x,y] }:=Qx F.symm rfl;have of:IsPair (c.push { cls:=.type "tuple",data:=.seq #[x,y] }) TO x y:=Ph _ d;have f1:gK (c.push { cls:=.type "tuple",data:=.seq #[x,y] }) i1 t1 (k+1):=Ph _ ((m.2 i1 (PN D.TOi1)).trans ((l.2 i1 D.i12).trans ((h.2 i1 (PN D.TOi1)).trans P)));have f2:gK (c.push { cls:=.type "tuple",data:=.seq #[x,y] }) i2 t2 (k+1):=Ph _ ((m.2 i2 (PN D.TOi2)).trans T)
 have kf:∀ b o,b≠z->b≠TO->b≠i1->b≠i2->s.heap.get? b=some o->(c.push { cls:=.type "tuple",data:=.seq #[x,y] }).get? b=some o:=λb o G H U V e =>
  Ph _ ((m.2 b H).trans ((l.2 b V).trans ((h.2 b H).trans ((g.2 b U).trans ((i.2 b G).trans e)))))
 generalize c.push { cls:=.type "tuple",data:=.seq #[x,y] }=W at zf tf of f1 f2 kf;have lz:z < s.heap.objs.size:=PL p;show wpAny _ _ (Builtin.SmallTypes.ownedTupleHandOut (.ref z) (.ref c.objs.size) >>= _) _ _ _;rw [F];refine Pj (Pj (QX (s:={ s with heap:=W }) zf (by simp) λY zg Z=>QX (s:={ s with heap:=Y }) zg (by simp) λhh zh sh=>PF ⟨_,rfl,?_⟩))
 replace Z:Heap.SameBut z W Y:=Z
 replace sh:Heap.SameBut z Y hh:=sh
 have on:∀ b,b≠z->hh.get? b=W.get? b:=λb n=>(sh.2 b n).trans (Z.2 b n);refine q hh zh ?_ ?_ ?_ ?_ λb o G H U V e=>(on b G).trans (kf b o G H U V e)
 ·exact (on TO D.TOz).trans of
 ·exact (on i1 D.i1z).trans f1
 ·exact (on i2 D.i2z).trans f2
 ·exact (on _ (QS lz)).trans tf
theorem BW {Q:Fin->Shared->Prop} (x:A.handled=none) (d:IsZip s.heap z TI TO .none) (B:IsPair s.heap TI (.ref i1) (.ref i2)) (L:IsPair s.heap TO a b) (C:gK s.heap i1 t1 k)
  (F:s.heap.IsTuple t1 xs) (G:xs[k]?=none) (D:ZipApart z TI TO i1 i2 t1 t2)
  (q:∀ h' e,(∀ b o,b≠z->b≠i1->s.heap.get? b=some o->h'.get? b=some o)->(∃ o,h'.get? e=some o/\o.cls=.type "StopIteration")->E (.ref e) { s with heap:=h' }):wpAny (model prog w) A (Builtin.«zip.__next__» ⟨[.ref z],[]⟩) Q E s:=by
 show wpAny _ _ (field (.ref z) 2 >>= _) _ _ _;refine Pj (Q0 d rfl rfl ?_);show wpAny _ _ (field (.ref z) 3 >>= _) _ _ _;refine Pj (Q0 d rfl rfl ?_);refine Pj (RW B rfl ?_);refine Pj (Pj (Q0 d rfl rfl (PF ?_)));refine Pj (wpAny_rule ?_);refine Pj (Q0 d rfl rfl ?_);refine Pj (QX d (by simp) λf i j=>?_)
 replace i:IsZip f z TI TO .ellipsis:=i
 rw [show (#[Value.ref i1,Value.ref i2]:Array Value).toList.zipIdx=[(.ref i1,0),(.ref i2,1)] from rfl,Sb];have l:gK f i1 t1 k:=(j.2 i1 D.i1z).trans C;have m:f.IsTuple t1 xs:=F.extBut j.extBut D.l1z;refine Pj (Pj (Pj (wpAny_onRaise (Pj (zC (s:={ s with heap:=f }) x l m G λn e h H=>?_)))))
 replace h:Heap.ExtBut i1 f n:=h
 have t:IsZip n z TI TO .ellipsis:=h z _ (PN D.i1z) i;obtain ⟨I,c,g⟩:=H;have p:e≠z:=λy=>by rw [y,t] at c;cases c;simp at g
 refine QX (s:={ s with heap:=n }) t (by simp) λJ M u=>q J e (λb o v K r=>?_) ⟨I,(u.2 e p).trans c,g⟩;exact (u.2 b v).trans (h b o K ((j.2 b v).trans r))
end
theorem Ez (a c:Addr) (xs ys:Array Value) :
  Meets (Builtin.«zip.__new__» ⟨[.type "zip",.ref a,.ref c],[]⟩) (λ_ R s=>s.heap.IsTuple a xs/\s.heap.IsTuple c ys /\
   ∀ h',IsZip h' (s.heap.objs.size+4) (s.heap.objs.size+2) (s.heap.objs.size+3) .none->IsPair h' (s.heap.objs.size+2) (.ref s.heap.objs.size) (.ref (s.heap.objs.size+1))->IsPair h' (s.heap.objs.size+3) .none .none ->
    gK h' s.heap.objs.size a 0->gK h' (s.heap.objs.size+1) c 0->(∀ b o,s.heap.get? b=some o->h'.get? b=some o)->R (.ok (.ret (.ref (s.heap.objs.size+4)))) { s with heap:=h' }) :=
 .of_wp λ_ _ _ _ s q=>by
  obtain ⟨d,g,h,i,j⟩:=s;obtain ⟨k,l,q⟩:=q;have f:=sub_zip;have m:Heap.IsTuple (Shared.heap ⟨d,g,h,i,j⟩) a xs:=k;have n:Heap.IsTuple (Shared.heap ⟨d.push (Ed a),g,h,i,j⟩) c ys:=Heap.IsTuple.push l _
  wp_walk using So m,So n
  refine ⟨_,rfl,?_⟩;have p:(d.push (Ed a)).objs.size=d.objs.size+1:=Qu _ _;simp only [Qu];refine q _ ?_ ?_ ?_ ?_ ?_ λb o e=>?_
  ·exact Qx (by simp [Qu]) rfl
  ·exact Ph _ (Ph _ (Qx (by simp [Qu]) rfl))
  ·exact Ph _ (Qx (by simp [Qu]) rfl)
  ·exact Ph _ (Ph _ (Ph _ (Ph _ (Qx (by simp [Qu]) rfl))))
  ·exact Ph _ (Ph _ (Ph _ (Qx (by simp [Qu]) rfl)))
  ·exact Ph _ (Ph _ (Ph _ (Ph _ (Ph _ e))))
variable {w:World}
theorem A1 {prog:Program} {A:Around} {E:Value->Shared->Prop} {a c:Addr} {xs ys:Array Value} {Q:Value->Shared->Prop} (e:s.heap.IsTuple a xs) (f:s.heap.IsTuple c ys)
  (q:∀ h',IsZip h' (s.heap.objs.size+4) (s.heap.objs.size+2) (s.heap.objs.size+3) .none->IsPair h' (s.heap.objs.size+2) (.ref s.heap.objs.size) (.ref (s.heap.objs.size+1))->IsPair h' (s.heap.objs.size+3) .none .none ->
   gK h' s.heap.objs.size a 0->gK h' (s.heap.objs.size+1) c 0->(∀ b o,s.heap.get? b=some o->h'.get? b=some o)->Q (.ref (s.heap.objs.size+4)) { s with heap:=h' }):wpAny (model prog w) A (call (.type "zip") [.ref a,.ref c]) Q E s :=
 callType_new F.called_zip (by decide) (F.typeCall_zip_2 _ _) (F.newCall_zip_2 _ _) (λo=>F.args_object_init_3 o _ _) F.entry_zip_new (Ez a c xs ys) ⟨e,f,λh' d g h i j k=>⟨⟨_,d,rfl⟩,q h' d g h i j k⟩⟩
noncomputable def Itz (K:W.Frag) (a b:Addr) (xs ys:List V):It:=⟨λi H=>i < xs.length/\i < ys.length/\Ti K H a xs/\Ti K H b ys,λi H x c=>∃ p u v,H p=none/\x=.ref p/\xs[i]?=some u/\ys[i]?=some v/\c=upd H p (.tup [u,v]),λi H=>i=xs.length/\Ti K H a xs⟩
variable {elts:List Expr} {ps:Pos}
theorem Ep {P:Program} {K:W.Frag} {c1} (a b z TI TO l m:Addr) (xs ys:List V) (D:ZipApart z TI TO l m a b):pq P w K (.Tuple elts c1 ps) (Itz K a b xs ys) [z,TI,TO,l,m] z
  (λi h=>∃ c d,IsZip h z TI TO .none/\IsPair h TI (.ref l) (.ref m)/\IsPair h TO c d/\gK h l a i/\gK h m b i) where
 mem:=by simp
 obj:=λi h ⟨c,d,g,n,p,r,t⟩ b f=>by
  simp only [PB,Qa,Qz] at f;rcases f with rfl | rfl | rfl | rfl | rfl
  ·exact ⟨_,g,λv e=>by cases e⟩
  ·exact ⟨_,n,λv e=>by cases e⟩
  ·exact ⟨_,p,λv e=>by cases e⟩
  ·exact ⟨_,r,λv e=>by cases e⟩
  ·exact ⟨_,t,λv e=>by cases e⟩
 keep:=λi h h' ⟨c,d,g,n,p,r,t⟩ k=>⟨c,d,k z (by simp) _ g,k TI (by simp) _ n,k TO (by simp) _ p,k l (by simp) _ r,k m (by simp) _ t⟩
 item:=by
  intro X L M N hc i j s σ H E I G st O;subst L M N;obtain ⟨c,d,g,n,p,r,t⟩:=st;obtain ⟨hi,hj,R,f⟩:=O;obtain ⟨us,S,U,_⟩:=I.tuple R;obtain ⟨vs,rv,pv,_⟩:=I.tuple f;have hx:xs[i]?=some xs[i]:=Pg hi;have hy:ys[i]?=some ys[i]:=Pg hj;obtain ⟨u,hu,r1⟩:=S.get hx;obtain ⟨v,hv,r2⟩:=rv.get hy;have B:s.TypeIs (.ref z) "zip":=⟨_,g,rfl⟩
  unfold pyNext;refine Pj (R3 (QG (name:=Str.ofString "__next__") B Se (QU Se B F.entry_zip_next ?_ (F.args_zip_next_1 _))));refine BX (x:=u) (y:=v) g n p r t (show s.heap.IsTuple a us.toArray from U) (show s.heap.IsTuple b vs.toArray from pv) (by simpa using hu) (by simpa using hv) D λh' w1 w2 w3 w4 w5 w6=>PF ⟨_,rfl,?_⟩;refine wpAny_letOwnedTupleGo_zip (s:={ s with heap:=h' }) w1 λJ e2 same=>?_
  replace same:Heap.SameBut z h' J:=same
  have lz:z < s.heap.objs.size:=PL g;have lTI:TI < s.heap.objs.size:=PL n;have lTO:TO < s.heap.objs.size:=PL p;have l1:l < s.heap.objs.size:=PL r;have l2:m < s.heap.objs.size:=PL t
  have low:∀ b ∈ [z,TI,TO,l,m],b < s.heap.objs.size:=λb f=>by simp only [PB,Qa,Qz] at f;rcases f with rfl | rfl | rfl | rfl | rfl <;> assumption
  have C:J.get? s.heap.objs.size=some { cls:=.type "tuple",data:=.seq #[u,v] }:=(same.2 _ (QS lz)).trans w5
  have I1:Inv X j σ (upd H s.heap.objs.size (.tup [xs[i],ys[i]])) { s with heap:=s.heap.push { cls:=.type "tuple",data:=.seq #[u,v] },toks:=s.toks } :=
   I.laid (o:=.tup [xs[i],ys[i]]) (λb ob q=>Ph _ q) (Pu _) ⟨by rw [Rx];simp,[u,v],.cons r1 (.cons r2 .nil),Sn _ _⟩
  have frees:∀ b,b < s.heap.objs.size->upd H s.heap.objs.size (.tup [xs[i],ys[i]]) b=H b:=λb f=>aS (Qe f)
  have I2:Inv X j σ (upd H s.heap.objs.size (.tup [xs[i],ys[i]])) { s with heap:=J,toks:=s.toks }:=by
   refine Inv.Yq (s:={ s with heap:=s.heap.push { cls:=.type "tuple",data:=.seq #[u,v] },toks:=s.toks }) (h':=J) (its:=[z,TI,TO,l,m]) (t':=s.toks) I1 (λb o f q=>?_) (λb f=>?_)
   ·simp only [PB,Qa,Qz,not_or] at f;obtain ⟨n1,n2,n3,n4,n5⟩:=f;by_cases ZP:b=s.heap.objs.size
    ·subst ZP;have q':(s.heap.push { cls:=.type "tuple",data:=.seq #[u,v] }).get? s.heap.objs.size=some o:=q;rw [Qx rfl rfl] at q';cases q';exact C
    ·have q':s.heap.get? b=some o:=(Heap.get?_push_ne _ _ _ ZP).symm.trans q;exact (same.2 b n1).trans (w6 b o n1 n3 n4 n5 q')
   ·obtain ⟨Y,Z,f2,f3,f4,f5⟩:=G b f;exact ⟨by rw [frees b (low b f)];exact Y,Z,f3,f4,f5⟩
  refine ⟨.ref s.heap.objs.size,_,I2,rfl,⟨_,_,_,I.hok.fresh (Pu _),rfl,hx,hy,rfl⟩,⟨u,v,e2,?_,?_,?_,?_⟩,λb f=>?_⟩
  ·exact (same.2 TI D.TIz).trans (w6 TI _ D.TIz D.TITO D.TIi1 D.TIi2 n)
  ·exact (same.2 TO D.TOz).trans w2
  ·exact (same.2 l D.i1z).trans w3
  ·exact (same.2 m D.i2z).trans w4
  ·rw [frees b (low b f)];exact (G b f).1
 done:=by
  intro X L M N hc i j s σ H E I G st O;subst L M N;obtain ⟨c,d,g,n,p,r,t⟩:=st;obtain ⟨hi,R⟩:=O;obtain ⟨us,S,U,_⟩:=I.tuple R;have lr:=S.length;have B:s.TypeIs (.ref z) "zip":=⟨_,g,rfl⟩
  unfold pyNext;refine Pj (R3 (QG (name:=Str.ofString "__next__") B Se (QU Se B F.entry_zip_next ?_ (F.args_zip_next_1 _))));refine BW (I.ok.hd hc) g n p r (show s.heap.IsTuple a us.toArray from U) (by simp;lia) D λh' e kk ⟨o,ho,hco⟩=>?_;refine Pj (wpAny_isInstance (T:="StopIteration") (b:=true) ⟨o,ho,hco⟩ isSubtype_stop (PF ⟨rfl,?_⟩));refine Inv.Yq (s:=s) (h':=h') (its:=[z,l]) (t':=s.toks) I (λb o f q=>kk b o (λy=>f (by simp [y])) (λy=>f (by simp [y])) q) (λb f=>?_)
  obtain ⟨Y,Z,f2,f3,f4,f5⟩:=G b (by
   simp only [PB,Qa,Qz] at f;rcases f with rfl | rfl <;> simp)
  exact ⟨Y,Z,f3,f4,f5⟩
 self:=λA i s Q E ⟨_,_,g,_⟩ q=>wpAny_pyIter_zip g q
noncomputable def IT (K:W.Frag) (d:TA):TI:=λσ H R=>d σ H λvs c=>∃ a b xs ys,vs=[.ref a,.ref b]/\Ti K c a xs/\Ti K c b ys/\R (Itz K a b xs ys) c
theorem Dw {a b:Expr} {r:TA} {p f:Pos} {A} (B:Gl X "zip") (C:X.mg "zip"=none) (D:PA X [a,b] r) (E:starEach [a,b] X.env=(false,eval a X.env)::starEach [b] X.env:=by rfl) (k:(backTo f (starEach [b] X.env)).any (·.1)=false:=by rfl) :
  PI X (.Tuple elts A ps) (.Call (.Name "zip" p) [a,b] [] f) (IT X.K r):=by
 intro g s σ H R I h;refine Call_ (lj I B C He (QF (S1 (D f g s σ H _ I h) λus s1 ⟨vs,F,i,G,J⟩=>?_) E k));obtain ⟨l,m,xs,ys,L,n,o,q⟩:=J;subst L
 cases G with
 | cons M rt =>
  obtain ⟨V,rfl,N⟩:=jd rt;cases M;cases N;obtain ⟨us,W,t,_⟩:=i.tuple n;obtain ⟨vs,Y,pv,_⟩:=i.tuple o;have d:l < s1.heap.objs.size:=t.lt;have e:m < s1.heap.objs.size:=pv.lt;refine A1 t pv λh' u O P Q S T=>?_;refine wpAny_pyIter_zip (s:={ s1 with heap:=h' }) u ?_;have c:∀ {x y:Nat},x < y->x≠y:=λh=>Qe h;have j:∀ {x y:Nat},y < x->x≠y:=λh=>QS h
  have U:ZipApart (s1.heap.objs.size+4) (s1.heap.objs.size+2) (s1.heap.objs.size+3) s1.heap.objs.size (s1.heap.objs.size+1) l m :=
   ⟨c (by lia),c (by lia),c (by lia),c (by lia),c (by lia),j (by lia),j (by lia),j (by lia),j (by lia),c (by lia),c (PY d (by lia)),c (PY d (by lia)),c d,c (PY d (by lia)),
    c (PY e (by lia)),c (PY e (by lia)),c e,c (PY e (by lia))⟩
  refine ⟨s1.heap.objs.size+4,[s1.heap.objs.size+4,s1.heap.objs.size+2,s1.heap.objs.size+3,s1.heap.objs.size,s1.heap.objs.size+1],_,_,F,rfl,i.kept (t':=s1.toks) T,Ep l m _ _ _ _ _ xs ys U,⟨.none,.none,u,O,P,Q,S⟩,λb v=>?_,q⟩
  have z:s1.heap.objs.size<=b:=by
   simp only [PB,Qa,Qz] at v;rcases v with rfl | rfl | rfl | rfl | rfl
   ·exact R5 _ _
   ·exact R5 _ _
   ·exact R5 _ _
   ·exact Pu _
   ·exact R5 _ _
  exact i.X4 z (i.hok.fresh z)
section
variable {prog:Program} {w:World} {A:Around} {E:Value->Shared->Prop} {s:Shared} {z TI TO i1 i2 t1 t2:Addr} {k:Nat} {xs ys:Array Value}
end
theorem AI (σ:St) {i j:Nat} (e:i≠j) (a b c d:Option V):((((σ.set i a).set j b).set i c).set j d)=(σ.set i c).set j d:=by rw [List.set_comm _ _ (PN e),List.set_set,List.set_set]
section
variable {K:W.Frag} {σ:St} {H:Hp} {tA:TA} {ar:List Ar} {d:D} {R:List Ar->D->Prop} {B:List Ar->Addr->Prop} {E:XK} {Q:VK} {C:Addr}
end
end L2
namespace L2
open PySem PySem.Spec PyProof.Rows
section
variable {X:Cx}
noncomputable def Je (K:W.Frag):List V->Hp->VK->Prop:=λxs H Q=>∃ (l:Addr) (ns:List Int),xs=[.ref l]/\SR K H l (ns.map V.int)/\0 < ns.length/\∀ M,M ∈ ns->(∀ a ∈ ns,M<=a)->Q (.int M) H
theorem AX (g:X.calm=true):jz X (.builtin "min") (Je X.K):=by
 intro e s σ H xs us Q I r h;obtain ⟨l,ns,rfl,i,x,q⟩:=h;obtain ⟨u,rfl,k⟩:=jd r;cases k;obtain ⟨its,m,p,y⟩:=I.list i;have hi:=uM m;obtain ⟨zs,c⟩:=hi.allInts.items
 have d:zs.toList.map (·.1)=ns:=by have z:=hi.numsOf;rw [show its=(intItems zs).toList by rw [<- c]] at z;rw [<- z,nums_intItems]
 have sz:zs.size=ns.length:=by rw [<- d];simp
 refine min_intList (I.ok.hd g) (show s.heap.IsList l (intItems zs) from c ▸ p.isList) (by lia) λv h' tk n hk=>?_;obtain ⟨t,rfl⟩:=intItems_at n;have b:=argBest_lt (numAt zs) (zs.size - 1);refine ⟨.int _,H,I.kept (t':=tk) hk,⟨t,rfl⟩,q _ ?_ λa f=>?_⟩
 ·rw [<- d,numAt_eq];exact getD_mem (by rw [Pf,Q6];have:=b.1;lia)
 ·rw [<- d] at f;obtain ⟨j,o,w⟩:=mem_getD f;rw [Pf,Q6] at o;have le:=b.2 j (by lia);rw [<- w,<- numAt_eq];exact le
end
noncomputable def Y7:Option Int->D
 | none=>.SO
 | some i=>.int i
noncomputable def opV:Option Int->V
 | none=>.SO
 | some i=>.int i
section
variable {K:W.Frag} {σ:St} {H H':Hp} {d d':D} {ds es:List D} {t u ta tb te tl:TE} {tA:TA} {mk:St->St} {jj:Nat}
theorem zS:∀ {os:List (Option Int)} {vs:List V},SI K H (os.map Y7) vs->vs=os.map opV
 | [],vs,h=>by rw [SI.V1 h];rfl
 | none::os,vs,h=>by obtain ⟨v,r,e,a,b⟩:=h.Tu;rw [e,Dat.Vj a,zS b];rfl
 | some i::os,vs,h=>by obtain ⟨v,r,e,a,b⟩:=h.Tu;rw [e,Dat.SQ a,zS b];rfl
theorem pM:∀ os:List (Option Int),Zv .SO (os.map opV)=os.any Option.isNone
 | []=>rfl
 | none::os=>by have a:=pM os;unfold Zv at a ⊢;rw [PD,QL,a];rfl
 | some i::os=>by have a:=pM os;unfold Zv at a ⊢;rw [PD,QL,a];rfl
theorem Aa (os:List (Option Int)):(os.map opV).all lg=true:=by rw [QH];intro v a;obtain ⟨o,_,rfl⟩:=QB.mp a;cases o <;> rfl
variable {os:List (Option Int)}
theorem Ih (h:RL K tb σ H (os.map Y7)):RE K (VG (rIn K false) (tC .SO) tb) σ H (.bl (os.any Option.isNone)):=λb s Q q =>
 h b s _ λw k c f=>by obtain ⟨a,vs,g,i,j⟩:=f;have e:=zS j;subst e;refine ⟨a,_,g,.inl i.WC,rfl,Aa os,?_⟩;rw [pM];exact q _ _ c (Dat.VY _)
theorem BH (h:RL K tb σ H (os.map Y7)):RE K (VG (rIn K true) (tC .SO) tb) σ H (.bl (!os.any Option.isNone)):=λb s Q q =>
 h b s _ λw k c f=>by obtain ⟨a,vs,g,i,j⟩:=f;have e:=zS j;subst e;refine ⟨a,_,g,.inl i.WC,rfl,Aa os,?_⟩;rw [pM];exact q _ _ c (Dat.VY _)
theorem FL {ns:List Int} {m:Int} (h:RL K t σ H (ns.map D.int)) (c:m ∈ ns) (lo:∀ a ∈ ns,m<=a):RE K (XA (Je K) (bW t dW)) σ H (.int m):=λj s Q q =>
 iL ((h.mono s).use λv H' s' b=>by
  obtain ⟨l,ys,rfl,f,b⟩:=b;refine ⟨l,ns,rfl,by rw [<- qm b];exact f.WC,List.length_pos_of_mem c,λM g i=>?_⟩;have e:M=m:=Int.le_antisymm (i m c) (lo M g);subst e;exact q _ _ s' (Dat.SN _))
inductive X0 (K:W.Frag) (H:Hp):List (List D)->List V->Prop
 | nil:X0 K H [] []
 | cons {es:List D} {v:V} {S0:List (List D)} {vs:List V}:LD K H es v->X0 K H S0 vs->X0 K H (es::S0) (v::vs)
variable {S0:List (List D)} {vs:List V}
theorem X0.length (h:X0 K H S0 vs):S0.length=vs.length:=by
 induction h with
 | nil=>rfl
 | cons _ _ a=>simp [a]
theorem X0.map (h:X0 K H S0 vs) (f:∀ es v,LD K H es v->LD K H' es v):X0 K H' S0 vs:=by
 induction h with
 | nil=>exact .nil
 | cons a _ b=>exact .cons (f _ _ a) b
theorem SJ.lds (e:SJ H H') (h:X0 K H S0 vs):X0 K H' S0 vs:=h.map λ_ _ z=>e.ld z
theorem X0.snoc {es:List D} {v:V} (h:X0 K H S0 vs) (a:LD K H es v):X0 K H (S0++[es]) (vs++[v]):=by
 induction h with
 | nil=>exact .cons a .nil
 | cons k _ b=>exact .cons k b
noncomputable def RCL (K:W.Frag) (t:TE) (σ:St) (H:Hp) (S0:List (List D)):Prop:=∀ a,SJ H a->∀ Q:VK,(∀ l ys H',a l=none->SJ a H'->H' l=some (.lst ys)->X0 K H' S0 ys->Q (.ref l) H')->t σ a Q
theorem RCL.use {Q:VK} (h:RCL K t σ H S0) (q:∀ l ys H',H l=none->SJ H H'->H' l=some (.lst ys)->X0 K H' S0 ys->Q (.ref l) H'):t σ H Q:=h H (SJ.refl H) Q q
noncomputable def Off (K:W.Frag) (H:Hp) (l:Addr) (vs:List V):Prop:=∀ v ∈ vs,v≠.ref l
theorem X0.grown {l:Addr} {zs c:List V} (h:X0 K H S0 vs) (b:Off K H l vs) (e:S6 l H H') (f:H l=some (.lst zs)) (i:H' l=some (.lst c)):X0 K H' S0 vs:=by
 have g:gA K H H':=e.grow f i
 induction h with
 | nil=>exact .nil
 | cons k _ j =>refine .cons ?_ (j λv m=>b v (PV _ m));obtain ⟨a,us,rfl,n,o⟩:=k;have p:a≠l:=λz=>b _ P4 (by rw [z]);refine ⟨a,us,rfl,?_,SI.mono g _ o⟩;exact n.elim (λz=>.inl (e _ _ p z)) .inr
end
end L2
namespace L2
open PySem PySem.Spec PySem.Calls PyProof.Rows
variable {K:W.Frag} {σ:St} {H:Hp} {te:TE} {mk:St->St} {cs:List D}
theorem FG {ta:TA} {i j:Nat} {ds:List D} (h:RA K ta σ H [.tup cs,.tup ds]) (hl:cs.length=ds.length) (hc:cs.length<=1000) (S0:List (List D)) (hn:S0.length=cs.length) (ne:i≠j)
  (h0:((mk σ).set i none).set j none=mk σ)
  (B:∀ t (k:Nat) c d es v w,SJ H t->cs[k]?=some c->ds[k]?=some d->S0[k]?=some es->Dat K t c v->Dat K t d w->RC K te (((mk σ).set i (some v)).set j (some w)) t es) :
  RCL K (jP (IT K ta) mk (A7 K 2 (mw (d6 i) (mw (d6 j) CD))) jc te) σ H S0:=λt s Q q=>by
 refine h t s _ λvs R S q2=>?_;obtain ⟨v1,v2,e,k1,k2⟩:=i5 q2;subst e;obtain ⟨a,us,e1,T,da⟩:=k1.S9;obtain ⟨b,ws,e2,hb,db⟩:=k2.S9;subst e1 e2;have lu:=da.length;have lw:=db.length;refine ⟨a,b,us,ws,rfl,T,hb,λl hl2=>?_⟩;have U:SJ H R:=s.trans S;refine ⟨λn m σ' G=>m=us.length - n/\n<=us.length/\(∃ M N,σ'=((mk σ).set i M).set j N)/\SJ R G/\∃ ys,G l=some (.lst ys)/\X0 K G (S0.take n) ys/\Off K G l ys,⟨us.length,by lia,QA _,⟨none,none,h0.symm⟩,aV hl2 _,[],aI,by rw [QW];exact .nil,λv hv=>by cases hv⟩,?_⟩;rintro n m σ' G ⟨rfl,hle,⟨M,N,rfl⟩,C,ys,V,O,E⟩;by_cases F:n < us.length
 ·refine .inr ⟨⟨F,by lia,C.YD T,C.YD hb⟩,λσ'' A=>(∃ M N,σ''=((mk σ).set i M).set j N)/\SJ R A/\∃ ys,A l=some (.lst ys)/\X0 K A (S0.take (n+1)) ys/\Off K A l ys,λσ'' A w=>⟨us.length - (n+1),by lia,rfl,F,w.1,w.2⟩,λx A y=>?_⟩;obtain ⟨p,u,w,hp,rfl,hu,hw,rfl⟩:=y;have P:SJ G (upd G p (.tup [u,w])):=aV hp _;have f:=C.trans P;obtain ⟨c,ec,X⟩:=da.Wd hu;obtain ⟨d,ed,Y⟩:=db.Wd hw;have I:n < S0.length:=by lia
  refine ⟨p,[u,w],rfl,Ti.of aI,rfl,u,_,rfl,w,_,rfl,rfl,?_⟩;simp only [jc,RO];rw [AI _ ne];refine RC.use (B _ n c d S0[n] u w (U.trans f) ec ed (Pg I) (f.dat X) (f.dat Y)) λr zs J hr Z hz dz=>?_;have Yj:=Z _ _ (P _ _ V);have L:r≠l:=λz=>by rw [z,P _ _ V] at hr;cases hr
  have lys:ys.length=n:=by rw [<- O.length,Qh];lia
  refine ⟨ys,Yj,cM (by lia),⟨_,_,rfl⟩,λx o hx=>?_,ys++[.ref r],aI,?_,?_⟩
  ·rw [aS (aU hx hl2)];exact Z _ _ (f _ _ hx)
  ·have bl:S6 l J (upd J l (.lst (ys++[.ref r]))):=S6.upd (SJ.refl J).but;have g:gA K J (upd J l (.lst (ys++[.ref r]))):=bl.grow Yj aI;rw [Qq,Pg I];exact X0.snoc (X0.grown (Z.lds (P.lds O)) E bl Yj aI) (LD.of (bl _ _ L hz) (SI.mono g _ dz))
  ·intro v hv;rcases Qc.mp hv with hv | hv
   ·exact E v hv
   ·rw [PU.mp hv];exact λz=>L (by injection z)
 ·have e:n=us.length:=by lia
  subst e;refine .inl ⟨⟨rfl,C.YD T⟩,?_⟩;rw [Ry (by lia)] at O;exact q l ys G (S.free hl2) (S.trans C) V O
theorem FE {F:TE} {I:TT} {t:Nat} (h:RL K F σ H cs) (hc:cs.length<=1000) (p:D->Bool) (S:(mk σ).set t none=mk σ)
  (j:∀ k (i:Nat) c v,SJ H k->cs[i]?=some c->Dat K k c v->RT I ((mk σ).set t (some v)) k (p c)/\RE K te ((mk σ).set t (some v)) k c):RC K (jP (tu K F) mk (d6 t) I te) σ H (cs.filter p):=λk s Q q=>by
 refine (h.mono s).use λv4 T y U=>?_;obtain ⟨z,e,rfl,L,M⟩:=U;have V:=M.length;refine ⟨z,rfl,⟨e,L.WC⟩,λl A=>?_⟩;refine oT (J:=Z4 K z) (n:=e.length) (item:=λi=>e.getD i .SO) (λG=>SR K G z e) (λi G o hi=>uH i G o hi) (λG o=>⟨e,o,Pu _⟩) S l (λi G=>SJ T G/\∃ zs,G l=some (.lst zs)/\SI K G ((cs.take i).filter p) zs) ⟨aV A _,[],aI,by rw [QW];exact SI.nil⟩ (λi G _ w=>w.1.seq L.WC) (λi G hi w=>?_) (λG w=>?_)
 ·obtain ⟨f,zs,u,a⟩:=w;have b:i < cs.length:=by lia
  obtain ⟨N,X,Y⟩:=(f.SV M).get (Pg b);have Z:e.getD i .SO=N:=by rw [PZ,X];rfl
  simp only [Z];obtain ⟨t1,t2⟩:=j G i cs[i] N (s.trans (y.trans f)) (Pg b) Y;have O:cs.take (i+1)=cs.take i++[cs[i]]:=by rw [Qq,Pg b];rfl
  have lz:zs.length<=1000:=by rw [<- a.length];exact Qf (List.length_filter_le _ _) (by rw [Qh];lia)
  have lz':zs.length < 1000:=by rw [<- a.length];exact Ss (List.length_filter_le _ _) (by rw [Qh];lia)
  refine t1.use λG2 d=>?_
  cases P:p cs[i] with
  | true =>
   refine j4 ((t2.mono d).use λB m C q3=>?_);have r:=(d.trans C) _ _ u;have bl:S6 l m (upd m l (.lst (zs++[B]))):=S6.upd (SJ.refl m).but;have g:gA K m (upd m l (.lst (zs++[B]))):=bl.grow r aI;refine ⟨zs,r,cM (by lia),⟨_,rfl⟩,λx o R=>?_,zs++[B],aI,?_⟩
   ·rw [aS (aU R A)];exact (d.trans C) _ _ (f _ _ R)
   ·rw [O,List.filter_append];have E:[cs[i]].filter p=[cs[i]]:=by rw [RM,Pk P];rfl
    rw [E];exact SI.append (SI.mono g _ ((d.trans C).SV a)) (SI.cons (Dat.mono g _ q3) SI.nil)
  | false =>
   refine j0 ⟨⟨_,rfl⟩,f.trans d,zs,d _ _ u,?_⟩;rw [O,List.filter_append];have E:[cs[i]].filter p=[]:=by rw [RM,M1 (by rw [P];exact Pp)];rfl
   rw [E,PR];exact d.SV a
 ·obtain ⟨f,zs,u,a⟩:=w;rw [<- V,QK] at a;exact q l zs G (y.free A) (y.trans f) u a
variable {X:Cx} {es:List Expr} {t:Z1} {n:Nat} {pos:Pos}
theorem Aw {k:Nat} (b:X.K=K) (c:X.calm=true) (h:PGs X es t)
  (d:(assignEach es X.env).length=n:=by rfl) (a:(assignEach es X.env).findIdx? (·.1)=none:=by rfl):PG X (.Tuple es k pos) (A7 K n t):=by
 subst b;exact gF c h d a
section
variable {K:W.Frag} {σ:St} {H H':Hp} {d d':D} {ds es:List D} {t u ta tb te tl:TE} {tA:TA} {mk:St->St} {jj:Nat} {o:Option (List D)} {os:List (Option (List D))} {vs:List V} {ar:List Ar}
theorem sL:∀ {os:List (Option (List D))},os.any Option.isNone=false->∃ S0:List (List D),os=S0.map some
 | [],_=>⟨[],rfl⟩
 | none::os,h=>by cases h
 | some es::os,h=>by rw [QL] at h;obtain ⟨S0,e⟩:=sL (os:=os) (by simpa using h);exact ⟨es::S0,by rw [e];rfl⟩
theorem FV {f:kx} {G:Hp} {j:Nat} {l:Addr} {xs:List V} (h:RC K te σ G es) (g:G l=some (.lst xs)) (r:xs.length+es.length<=1000)
  (q:∀ ys c,S6 l G c->c l=some (.lst (xs++ys))->SI K c es ys->f.nx σ c) (m:σ[j]?=some (some (.ref l)):=by rfl):rR (Z6 K "list" AB (fT j) (bW te dW)) f σ G:=by
 refine ⟨_,m,.inl ⟨rfl,_,SR.of g⟩,h.use λp vs i s s1 e k=>?_⟩;have a:=s1 _ _ g;have v:=k.length;refine ⟨l,p,xs,vs,rfl,rfl,a,e,dB (by lia),?_⟩;have b:S6 l i (upd i l (.lst (xs++vs))):=S6.upd (SJ.refl _).but;exact q vs _ (s1.but.trans b) aI (SI.mono (b.grow a aI) _ k)
end
theorem EX {K:PySem.W.Frag} {a b:Addr} {xs ys:List V} {g:TG} {h:TS} {D:kx} (Pv:Nat->St->Hp->Prop) (C:xs.length=ys.length) (k:Pv 0 σ H) (l:∀ i σ H,i<=xs.length->Pv i σ H->Ti K H a xs/\Ti K H b ys)
  (o:∀ i u v p σ H,xs[i]?=some u->ys[i]?=some v->H p=none->Pv i σ H->g (.ref p) σ (upd H p (.tup [u,v])) λσ2 f=>h { D with nx:=Pv (i+1),ct:=Pv (i+1),bk:=D.nx } σ2 f) (s:∀ σ H,Pv xs.length σ H->D.nx σ H) :
  ∃ W:Nat->Nat->St->Hp->Prop,(∃ m,W 0 m σ H)/\∀ i m σ H,W i m σ H ->
   ((Itz K a b xs ys).stop i H/\D.nx σ H)\/((Itz K a b xs ys).go i H/\∃ N:St->Hp->Prop,(∀ σ' c,N σ' c->∃ j,j < m/\W (i+1) j σ' c)/\∀ x c,(Itz K a b xs ys).Yg i H x c->g x σ c λσ2 f=>h { D with nx:=N,ct:=N,bk:=D.nx } σ2 f):=by
 refine ⟨λi m σ H=>m=xs.length - i/\i<=xs.length/\Pv i σ H,⟨xs.length,by simp,QA _,k⟩,?_⟩;rintro i m σ H ⟨rfl,hi,p⟩;have q:=l i σ H hi p;by_cases d:i < xs.length
 ·refine .inr ⟨⟨d,by lia,q.1,q.2⟩,Pv (i+1),λσ' c w=>⟨xs.length - (i+1),by lia,rfl,d,w⟩,λx c y=>?_⟩;obtain ⟨r,u,v,z,rfl,A,B,rfl⟩:=y;exact o i u v r σ H A B z p
 ·have e:i=xs.length:=by lia
  subst e;exact .inl ⟨⟨rfl,q.1⟩,s σ H p⟩
noncomputable def IL (K:W.Frag) (n:Nat) (t:Z1):TG:=λv σ H Q=>∃ a xs,v=.ref a/\SR K H a xs/\xs.length=n/\t xs σ H Q
theorem Fw {k:Nat} (g:X.calm=true) (h:PGs X es t)
  (i:(assignEach es X.env).length=n:=by rfl) (d:(assignEach es X.env).findIdx? (·.1)=none:=by rfl):PG X (.Tuple es k pos) (IL X.K n t):=λc s σ H v u Q I r ⟨a,xs,j,l,m,p⟩=>by
 subst j;cases r;obtain ⟨its,f,pl,x⟩:=I.list l;have q:(assignEach es X.env).length=its.toArray.size:=by rw [i,<- m,f.length,PC]
 rw [assign_Tuple];refine Pj (RN ?_);unfold unpack;rw [q,d];refine Pj (Rr (W.kun_itemsOf (I.ok.hd g) pl.isList λh' w=>?_));exact h c _ σ H xs _ Q (I.kept (t':=s.toks) λb o e=>w b o (Qe (PL e)) e) (by simpa using f) p
section
variable {prog:Program} {w:World} {A:Around} {E:Value->Shared->Prop} {s:Shared}
end
section
variable {K:W.Frag} {σ:St} {H H':Hp} {d:D} {ds es:List D} {t u ta tb te:TE} {n:Nat}
end
end L2
namespace L2
open PySem
end L2
namespace L2
open PySem PySem.Spec PySem.Calls PyProof.Rows PySem.W PySem.Builtin PySem.Builtin.ObjectAttr
section
variable {X:Cx} {pins:List (Addr × Obj)} {σ:St} {H:Hp} {s s':Shared} {E:XK} {e:Value}
end
section
variable {H:Hp} {e C dx b:Addr} {a0:Value} {f:Str} {v:V}
end
section
variable {X:Cx} {pins:List (Addr × Obj)} {σ:St} {H:Hp} {s s':Shared} {C fI e dx:Addr} {fd:FuncData} {k:Nat} {ps:List Str} {a0:Value} {f:Str} {v:V}
end
theorem AD {K:W.Frag} {σ:St} {H:Hp} {t g i:TE} {ds:List D} {lo hi:Nat} (h:RL K t σ H ds) (j:RE K g σ H (.int lo)) (k:RE K i σ H (.int hi)):RC K (tSl (Jg K) t (uc g) (uc i)) σ H ((ds.drop lo).take (hi - lo)):=λl s Q q =>
 h l s _ λv m b n=>j m (s.trans b) _ λx o c r=>⟨lo,r.SQ,k o (s.trans (b.trans c)) _ λy z d u=>⟨hi,u.SQ,by
  obtain ⟨a,vs,rfl,w,e⟩:=(c.trans d).ld n;refine ⟨a,vs,rfl,w.WC,λp f=>?_⟩;rw [zQ];exact q p _ _ ((b.trans (c.trans d)).free f) (b.trans (c.trans (d.trans (aV f _)))) aI ((aV f _).SV (SI.ZA (SI.Zz e)))⟩⟩
section
variable {K:W.Frag} {σ:St} {H:Hp} {tA:TA} {ar:List Ar} {d:D} {f:Str} {es:List D} {R:List Ar->D->Prop} {RL:List Ar->List D->Prop} {B:List Ar->Addr->Int->Prop} {E:XK} {Q:VK} {C:Addr} {i:Int}
end
end L2
namespace L2
open PySem PySem.Spec PySem.Calls PyProof.Rows
noncomputable abbrev rq (t:Addr) (i:Int):Obj:={ cls:=.type "reversed",data:=.fields #[.ref t,rawInt i] }
theorem sF:Slot "reversed" "__init__" "object.__init__":=.of (owner:="object") (n:="__init__") (by rw [RQ,Rg];kernel_rfl) (by decide +kernel) (by decide +kernel) (by decide +kernel) (by first | exact .inl (by decide +kernel) | exact .inr (by decide +kernel)) (by rw [Sj];kernel_rfl)
theorem yu:TypeCalled "reversed" "reversed.__new__" "object.__init__":=⟨by decide +kernel,by decide +kernel,⟨_,_,F.mro_reversed⟩,F.made_reversed,by decide +kernel,F.sub_reversed_self,sF⟩
theorem T4:Slot "reversed" "__next__" "reversed.__next__":=.of (owner:="reversed") (n:="__next__") (by rw [RQ,Rg];kernel_rfl) (by decide +kernel) (by decide +kernel) (by decide +kernel) (by first | exact .inl (by decide +kernel) | exact .inr (by decide +kernel)) (by rw [Sj];kernel_rfl)
theorem mJ:Slot "reversed" "__iter__" "reversed.__iter__":=.of (owner:="reversed") (n:="__iter__") (by rw [RQ,Rg];kernel_rfl) (by decide +kernel) (by decide +kernel) (by decide +kernel) (by first | exact .inl (by decide +kernel) | exact .inr (by decide +kernel)) (by rw [Sj];kernel_rfl)
theorem kY:entryFor table "reversed.__next__"=some Builtin.«reversed.__next__»:=entryFor_of_tree (by kernel_rfl)
theorem qp:entryFor table "reversed.__iter__"=some Builtin.«dict_keyiterator.__iter__»:=entryFor_alias (id':="dict_keyiterator.__iter__") (by kernel_rfl) (by first | rfl | decide +kernel | (unfold String.splitOn;simp +decide [String.splitOnAux])) (by decide +kernel) (by kernel_rfl)
theorem tI:Manifest.owners.lookup (String.ofList ['d','e','s','r','e','v','e','r'].reverse)=some Manifest.sig_reversed:=by kernel_rfl
theorem mr (a:Value):argsOk "reversed.__next__" ⟨[a],[]⟩:=by unfold argsOk;rw [signature?_of (id:="reversed.__next__") (n:=['_','_','t','x','e','n','_','_']) (o:=['d','e','s','r','e','v','e','r']) (by kernel_rfl) tI];kernel_rfl
theorem r6 (a:Value):argsOk "reversed.__iter__" ⟨[a],[]⟩:=by unfold argsOk;rw [signature?_of (id:="reversed.__iter__") (n:=['_','_','r','e','t','i','_','_']) (o:=['d','e','s','r','e','v','e','r']) (by kernel_rfl) tI];kernel_rfl
theorem BR:typeLookup (.type "tuple") "__reversed__"=pure none:=by rw [RQ,Rg];kernel_rfl
theorem zD:isSubtype (.type "tuple") (.type "dict")=pure false:=by rw [Sj];kernel_rfl
theorem pj:typeLookup (.type "tuple") "__getitem__"=pure (some (.builtin "tuple.__getitem__")):=by rw [RQ,Rg];kernel_rfl
theorem DU (t:Addr) (items:Array Value) (n:Nat) (d:Option Addr) (e:Array (Option Value)) :
  Meets (Builtin.«reversed.__new__» ⟨[.type "reversed",.ref t],[]⟩) (λ_ R s=>s.heap.get? t=some { cls:=.type "tuple",dict:=d,data:=.seq items n,slots:=e } /\
   (items.size:Int) < 2 ^ 63/\R (.ok (.ret (.ref s.heap.objs.size))) { s with heap:=s.heap.push (rq t ((items.size:Int) - 1)),toks:=s.toks+2 }) :=
 .of_wp λ_ _ _ _ s q=>by
  obtain ⟨f,g,h,i,j⟩:=s;obtain ⟨k,a,q⟩:=q;have b:Heap.IsTuple (Shared.heap ⟨f,g,h,i,j⟩) t items:=⟨_,k,rfl,n,rfl⟩
  have c:=F.sub_reversed_self
  wp_walk
  show wpAny _ _ (typeLookup (.type "tuple") "__reversed__") _ _ _;rw [BR];refine PF ?_;dsimp only
  wp_walk
  show wpAny _ _ (isSubtype (.type "tuple") (.type "dict")) _ _ _;rw [zD];refine PF ?_;rw [M1 (by decide)]
  wp_walk
  show wpAny _ _ (typeLookup (.type "tuple") "__getitem__") _ _ _;rw [pj];refine PF ?_;dsimp only;rw [Pk (by decide +kernel)];refine PF ?_;rw [M1 (by decide)];refine Pj ?_;refine PyProof.Rows.len_tuple b a ?_
  wp_walk
  exact ⟨_,rfl,q⟩
variable {prog:Program} {w:World} {A:Around} {s:Shared} {t:Addr} {items:Array Value}
theorem AY {E:Value->Shared->Prop} {Q:Value->Shared->Prop} (a:s.heap.IsTuple t items) (b:(items.size:Int) < 2 ^ 63)
  (q:Q (.ref s.heap.objs.size) { s with heap:=s.heap.push (rq t ((items.size:Int) - 1)),toks:=s.toks+2 }):wpAny (model prog w) A (call (.type "reversed") [.ref t]) Q E s:=by
 obtain ⟨⟨d,e,c,f⟩,a,g,n,h⟩:=a;obtain rfl:d=.type "tuple":=g;obtain rfl:c=.seq items n:=h;refine callType_new yu (by decide) (F.typeCall_reversed_1 _) (F.newCall_reversed_1 _) (λo=>F.args_object_init_2 o _) F.entry_reversed_new (DU t items n e f) ⟨a,b,?_⟩;show _/\_;exact ⟨⟨_,Qx rfl rfl,rfl⟩,q⟩
variable {i:Nat}
theorem sx {n:Nat} (h:i < n):seqIndex? (i:Int) n=some i:=(uP (by unfold YM;rw [Pk (by lia),Pk (by lia)];rfl)).1
noncomputable abbrev oP (h:Heap) (a t:Addr) (i:Int):Prop:=h.get? a=some (rq t i)
section
variable {prog:Program} {w:World} {A:Around} {E:Value->Shared->Prop} {s:Shared} {it t:Addr} {items:Array Value}
theorem zq {i:Nat} {x:Value} {Q:Option Value->Shared->Prop} (a:oP s.heap it t i) (c:s.heap.IsTuple t items) (f:(items.size:Int) < 2 ^ 63) (d:items[i]?=some x)
  (q:∀ h' tk,oP h' it t ((i:Int) - 1)->Heap.SameBut it s.heap h'->Q (some x) { s with heap:=h',toks:=tk }):wpAny (model prog w) A (pyNext (.ref it)) Q E s:=by
 have e:s.TypeIs (.ref it) "reversed":=⟨_,a,rfl⟩
 have lt:i < items.size:=(Array.getElem?_eq_some_iff.mp d).1;unfold pyNext;refine Pj (R3 (QG (name:=Str.ofString "__next__") e T4 (QU T4 e kY ?_ (mr _))));obtain ⟨⟨g,l,b,m⟩,o,h,n,k⟩:=id c;obtain rfl:g=.type "tuple":=h;obtain rfl:b=.seq items n:=k;obtain ⟨p,r,u,v,y⟩:=s;unfold oP rq rawInt at a
 wp_walk
 show wpAny _ _ (typeLookup (.type "tuple") "__getitem__") _ _ _;rw [pj];refine PF ?_;rw [M1 (by decide)];refine Pj (wpAny_mkInt (Pj (R3 ?_)));show wpAny _ _ (getItem (.ref t) (.int (i:Int) _)) _ _ _;refine PyProof.Rows.getItem_tuple (j:=i) c (by lia) (by lia) (sx lt) d ?_
 wp_walk
 exact ⟨x,rfl,PF (q _ _ (Heap.get?_update_self _ a rfl) (Heap.SameBut.update ..))⟩
theorem zp {Q:Option Value->Shared->Prop} (f:A.handled=none) (a:oP s.heap it t (-1)) (q:∀ h',Heap.ExtBut it s.heap h'->Q none { s with heap:=h' }):wpAny (model prog w) A (pyNext (.ref it)) Q E s:=by
 have c:s.TypeIs (.ref it) "reversed":=⟨_,a,rfl⟩
 unfold pyNext;refine Pj (R3 (QG (name:=Str.ofString "__next__") c T4 (QU T4 c kY ?_ (mr _))));obtain ⟨g,h,j,k,l⟩:=s;unfold oP rq rawInt at a
 wp_walk
 refine wpAny_raiseNew_none f ?_;refine Pj (wpAny_isInstance (T:="StopIteration") (b:=true) ⟨_,P6 _ rfl,rfl⟩ isSubtype_stop (PF (q _ λb o d e=>?_)));exact Ph _ (Ph _ ((Heap.get?_update_ne _ _ _ _ d).trans ((Heap.get?_update_ne _ _ _ _ d).trans e)))
theorem xV {i:Int} {Q:Value->Shared->Prop} (b:oP s.heap it t i) (h:Q (.ref it) s):wpAny (model prog w) A (pyIter (.ref it)) Q E s:=by
 have a:s.TypeIs (.ref it) "reversed":=⟨_,b,rfl⟩
 refine wpAny_pyIter_slot a mJ (QU mJ a qp ?_ (r6 _));show wpAny _ _ (ret (.ref it)) _ _ s;exact PF ⟨_,rfl,"reversed",_,a,T4.lookup,h⟩
end
noncomputable def Itw (K:W.Frag) (a:Addr) (xs:List V):It:=⟨λi H=>i < xs.length/\Ti K H a xs,λi H x b=>b=H/\xs[xs.length - 1 - i]?=some x,λi _=>i=xs.length⟩
variable {P:Program} {K:W.Frag}
theorem BU {O:Expr} (a d:Addr) (xs:List V):pq P w K O (Itw K a xs) [d] d (λi h=>oP h d a ((xs.length:Int) - 1 - (i:Int))) where
 mem:=by simp
 obj:=λi h st b f=>by
  have e:b=d:=by simpa using f
  subst e;exact ⟨_,st,λv z=>by cases z⟩
 keep:=λi h h' st k=>k d (by simp) _ st
 item:=by
  intro X l m n L i c s σ H E I j st r;subst l m n;obtain ⟨hi,R⟩:=r;obtain ⟨its,M,p,S⟩:=I.tuple R;obtain ⟨y,B,T,C,D,F⟩:=j d (by simp);have lr:=M.length;have N:xs[xs.length - 1 - i]?=some (xs[xs.length - 1 - i]'(by lia)):=Pg (by lia);obtain ⟨u,U,Y⟩:=M.get N;have G:(xs.length:Int) - 1 - (i:Int)=((xs.length - 1 - i:Nat):Int):=by lia
  rw [G] at st;refine zq st p (by rw [PC];rw [Rx] at S;lia) (x:=u) (by simpa using U) λh' tk g Z=>?_;have e2:((xs.length - 1 - i:Nat):Int) - 1=(xs.length:Int) - 1 - ((i+1:Nat):Int):=by lia
  rw [e2] at g;have I1:Inv X c σ H { s with heap:=h',toks:=tk }:=I.turned (t':=tk) (λb o f e=>(Z.2 b f).trans e) y B C D F;exact ⟨u,rfl,tq (s:={ s with heap:=h',toks:=tk }) g rfl rfl (by decide) ⟨_,H,I1,Y,⟨rfl,N⟩,g,λb f=>(j b f).1⟩⟩
 done:=by
  intro X l m n L i c s σ H E I j st r;subst l m n;obtain ⟨y,B,T,C,D,F⟩:=j d (by simp);have J:i=xs.length:=r;subst J;have G:(xs.length:Int) - 1 - (xs.length:Int)=-1:=by lia
  rw [G] at st;exact zp (I.ok.hd L) st λh' eb=>⟨rfl,I.turned (t':=s.toks) (λb o f e=>eb b o f e) y B C D F⟩
 self:=λA i s Q E st q=>xV st q
section
variable {X:Cx} {tg:Expr}
noncomputable def IQ (K:W.Frag) (c:TA):TI:=λσ H R=>c σ H λvs b=>∃ a xs,vs=[.ref a]/\Ti K b a xs/\R (Itw K a xs) b
theorem Fx {a:Expr} {g:TA} {p c:Pos} (j:Gl X "reversed") (k:X.mg "reversed"=none) (m:PA X [a] g) (n:starEach [a] X.env=[(false,eval a X.env)]:=by rfl):PI X tg (.Call (.Name "reversed" p) [a] [] c) (IQ X.K g):=by
 intro d s σ H R I h;refine Call_ (lj I j k oR (QF (S1 (m c d s σ H _ I h) λus s1 ⟨vs,r,f,v,x⟩=>?_) n rfl));obtain ⟨l,xs,e,y,q⟩:=x;subst e;obtain ⟨u,rfl,z⟩:=jd v;cases z;obtain ⟨its,B,pl,C⟩:=f.tuple y;have D:=B.length;refine AY pl (by rw [PC];rw [Rx] at C;lia) ?_;have E:((its.toArray.size:Nat):Int) - 1=(xs.length:Int) - 1 - ((0:Nat):Int):=by rw [PC,D];lia
 rw [E];have st:oP (s1.heap.push (rq l ((xs.length:Int) - 1 - ((0:Nat):Int)))) s1.heap.objs.size l ((xs.length:Int) - 1 - ((0:Nat):Int)):=P6 _ rfl;refine xV (s:={ s1 with heap:=s1.heap.push (rq l ((xs.length:Int) - 1 - ((0:Nat):Int))),toks:=s1.toks+2 }) st ?_;refine ⟨s1.heap.objs.size,[s1.heap.objs.size],_,_,r,rfl,f.kept (t':=s1.toks+2) λb o e=>Ph _ e,BU l _ xs,st,λb F=>?_,q⟩;have e:b=s1.heap.objs.size:=by simpa using F
 subst e;exact f.X4 (Pu _) (f.hok.fresh (Pu _))
end
variable {σ:St} {H:Hp}
theorem CC {K:PySem.W.Frag} {a:Addr} {xs:List V} {g:TG} {f:TS} {D:kx} (Pv:Nat->St->Hp->Prop) (j:Pv 0 σ H) (k:∀ i σ H,i<=xs.length->Pv i σ H->Ti K H a xs)
  (l:∀ i x σ H,i < xs.length->xs[xs.length - 1 - i]?=some x->Pv i σ H->g x σ H λσ2 d=>f { D with nx:=Pv (i+1),ct:=Pv (i+1),bk:=D.nx } σ2 d) (n:∀ σ H,Pv xs.length σ H->D.nx σ H) :
  ∃ W:Nat->Nat->St->Hp->Prop,(∃ m,W 0 m σ H)/\∀ i m σ H,W i m σ H ->
   ((Itw K a xs).stop i H/\D.nx σ H)\/((Itw K a xs).go i H/\∃ N:St->Hp->Prop,(∀ σ' b,N σ' b->∃ h,h < m/\W (i+1) h σ' b)/\∀ x b,(Itw K a xs).Yg i H x b->g x σ b λσ2 d=>f { D with nx:=N,ct:=N,bk:=D.nx } σ2 d):=by
 refine ⟨λi m σ H=>m=xs.length - i/\i<=xs.length/\Pv i σ H,⟨xs.length,by simp,QA _,j⟩,?_⟩;rintro i m σ H ⟨rfl,hi,p⟩;have q:=k i σ H hi p;by_cases c:i < xs.length
 ·refine .inr ⟨⟨c,q⟩,Pv (i+1),λσ' b o=>⟨xs.length - (i+1),by lia,rfl,c,o⟩,λx b y=>?_⟩;obtain ⟨e,y⟩:=y;subst e;exact l i x σ _ c y p
 ·have e:i=xs.length:=by lia
  subst e;exact .inl ⟨rfl,n σ H p⟩
section
variable {X:Cx} {pins:List (Addr × Obj)} {σ:St} {H:Hp} {a:Addr} {cls C:Value} {dx:Option Addr} {s:Shared} {D:kx} {x n:Str} {i:Nat} {np hpos:Pos} {b₀:Stmt} {suite:List Stmt} {rest:List ExceptHandler} {th:TS} {b:Bool}
end
noncomputable abbrev oW (t:Addr):Obj:={ cls:=.type "list_iterator",data:=.fields #[.ref t,.int 0 0] }
theorem A4 (t:Addr) (items:Array Value) (n:Nat) (c:Option Addr) (d:Array (Option Value)) :
  Meets (Builtin.«enumerate.__new__» ⟨[.type "enumerate",.ref t],[]⟩) (λ_ R s=>s.heap.get? t=some { cls:=.type "list",dict:=c,data:=.seq items n,slots:=d } /\
   R (.ok (.ret (.ref (s.heap.push (oW t)).objs.size))) { s with heap:=(s.heap.push (oW t)).push (sX s.heap.objs.size) }) :=
 .of_wp λ_ _ _ _ s q=>by
  obtain ⟨e,f,g,h,j⟩:=s;obtain ⟨k,q⟩:=q;have a:Heap.IsList (Shared.heap ⟨e,f,g,h,j⟩) t items:=⟨_,k,rfl,n,rfl⟩
  have b:=sub_enumerate
  wp_walk
  refine wpAny_stack_any λrows=>?_;refine PF ?_;split
  ·rename_i l _ _ _ _ _;cases (l == Value.type "enumerate") <;> (wp_walk using Rl a;exact ⟨_,rfl,q⟩)
  ·wp_walk using Rl a
   exact ⟨_,rfl,q⟩
theorem yt {E:Value->Shared->Prop} {Q:Value->Shared->Prop} (a:s.heap.IsList t items)
  (q:Q (.ref (s.heap.objs.size+1)) { s with heap:=(s.heap.push (oW t)).push (sX s.heap.objs.size) }):wpAny (model prog w) A (call (.type "enumerate") [.ref t]) Q E s:=by
 obtain ⟨⟨c,d,b,e⟩,a,f,n,g⟩:=a;obtain rfl:c=.type "list":=f;obtain rfl:b=.seq items n:=g;have sz:(s.heap.push (oW t)).objs.size=s.heap.objs.size+1:=Qu _ _;refine callType_new F.called_enumerate (by decide) (F.typeCall_enumerate_1 _) (F.newCall_enumerate_1 _) (λo=>F.args_object_init_2 o _) F.entry_enumerate_new (A4 t items n d e) ⟨a,?_⟩;show _/\_;rw [sz];refine ⟨⟨sX s.heap.objs.size,?_,rfl⟩,q⟩;exact Qx sz.symm rfl
noncomputable def IB (K:W.Frag) (a:Addr) (xs:List V):It:=⟨λi H=>i < xs.length/\SR K H a xs,λi H x b=>∃ p y,H p=none/\x=.ref p/\xs[i]?=some y/\b=upd H p (.tup [.int i,y]),λi H=>i=xs.length/\SR K H a xs⟩
variable {elts:List Expr} {ps:Pos}
theorem zE {c1} (a e f:Addr) (xs:List V) (J:e≠f):pq P w K (.Tuple elts c1 ps) (IB K a xs) [e,f] e (λi h=>a≠f/\a≠e/\∃ j,IsEnum h e f i j/\h.IsListIter f a i) where
 mem:=by simp
 obj:=λi h st b g=>by
  obtain ⟨_,_,j,m,r⟩:=st;rcases PB.mp g with z | z
  ·subst z;exact ⟨_,m,λv z=>by cases z⟩
  ·have z:b=f:=by simpa using z
   subst z;obtain ⟨o,e,c,d⟩:=r;exact ⟨o,e,λv z=>by rw [d] at z;cases z⟩
 keep:=λi h h' ⟨n1,n2,j,m,r⟩ k=>⟨n1,n2,j,k e (by simp) _ m,r.at λo z=>k f (by simp) o z⟩
 item:=by
  intro X L M N O i l s σ H E I F st R;subst L M N;obtain ⟨hi,S⟩:=R;obtain ⟨n,x,j,m,r⟩:=st;obtain ⟨its,G,p,hz⟩:=I.list S;have hx:xs[i]?=some xs[i]:=Pg hi;obtain ⟨u,hu,ru⟩:=G.get hx;have B:s.heap.IsList a its.toArray:=p.isList;have lr:=G.length;refine wpAny_pyNext_enum_itemD (Draws.list (A:=X.A.in1) (I.ok.hd O) f a n its.toArray) m ⟨r,B⟩ (by rw [PC];lia) J (by simp [J,PN x]) λy h' tk hy T U Y sz kk=>⟨_,rfl,?_⟩
  have ey:y=u:=by
   have C:its[i]?=some y:=by simpa using hy
   rw [hu] at C;exact (Qg C).symm
  subst ey;refine wpAny_letOwnedTupleGo_enum (s:={ s with heap:=h',toks:=tk+1 }) T λZ e2 same=>?_;have le:e < s.heap.objs.size:=PL m;have li:f < s.heap.objs.size:=let ⟨_,z,_⟩:=r;PL z;have D:Z.get? s.heap.objs.size=some { cls:=.type "tuple",data:=.seq #[.int i tk,y] }:=(same.2 _ (QS le)).trans Y
  have I1:Inv X l σ (upd H s.heap.objs.size (.tup [.int i,xs[i]])) { s with heap:=s.heap.push { cls:=.type "tuple",data:=.seq #[.int i tk,y] },toks:=s.toks } :=
   I.laid (o:=.tup [.int i,xs[i]]) (λb ob q=>Ph _ q) (Pu _) ⟨by rw [Rx];simp,[.int i tk,y],.cons ⟨_,rfl⟩ (.cons ru .nil),Sn _ _⟩
  have frees:∀ b,b < s.heap.objs.size->upd H s.heap.objs.size (.tup [.int i,xs[i]]) b=H b:=λb g=>aS (Qe g)
  have I2:Inv X l σ (upd H s.heap.objs.size (.tup [.int i,xs[i]])) { s with heap:=Z,toks:=tk+1 }:=by
   refine Inv.Yq (s:={ s with heap:=s.heap.push { cls:=.type "tuple",data:=.seq #[.int i tk,y] },toks:=s.toks }) (h':=Z) (its:=[e,f]) (t':=tk+1) I1 (λb o g q=>?_) (λb g=>?_)
   ·have C:b≠e:=λz=>g (by simp [z]);have h3:b≠f:=λz=>g (by simp [z]);by_cases ZP:b=s.heap.objs.size
    ·subst ZP;have q':(s.heap.push { cls:=.type "tuple",data:=.seq #[.int i tk,y] }).get? s.heap.objs.size=some o:=q;rw [Qx rfl rfl] at q';cases q';exact D
    ·have q':s.heap.get? b=some o:=by
      have lt:b < s.heap.objs.size:=by have l1:b < (s.heap.push { cls:=.type "tuple",data:=.seq #[.int i tk,y] }).objs.size:=PL q;rw [Qu] at l1;exact Nat.lt_of_le_of_ne (Nat.le_of_lt_succ l1) ZP
      exact (Heap.get?_push_ne _ _ _ ZP).symm.trans q
     exact (same.2 b C).trans (kk b o C h3 q')
   ·have lb:b < s.heap.objs.size:=by
     rcases PB.mp g with z | z
     ·rw [z];exact le
     ·rw [show b=f by simpa using z];exact li
    obtain ⟨f0,f1,f2,f3,f4,f5⟩:=F b g;exact ⟨by rw [frees b lb];exact f0,f1,f3,f4,f5⟩
  refine ⟨.ref s.heap.objs.size,_,I2,rfl,⟨_,_,I.hok.fresh (Pu _),rfl,hx,rfl⟩,⟨n,x,y,?_,?_⟩,λb g=>?_⟩
  ·have ec:((i+1:Nat):Int)=(i:Int)+1:=by lia
   rw [ec];exact e2
  ·exact U.1.at λo z=>(same.2 f (PN J)).trans z
  ·have lb:b < s.heap.objs.size:=by
    rcases PB.mp g with z | z
    ·rw [z];exact le
    ·rw [show b=f by simpa using z];exact li
   rw [frees b lb];exact (F b g).1
 done:=by
  intro X L M N O i l s σ H E I F st R;subst L M N;obtain ⟨hi,S⟩:=R;obtain ⟨n,x,j,m,r⟩:=st;obtain ⟨its,G,p,hz⟩:=I.list S;have lr:=G.length;have B:s.heap.IsList a its.toArray:=p.isList;obtain ⟨f0,f1,f2,f3,f4,f5⟩:=F f (by simp);refine wpAny_pyNext_enum_endD (Draws.list (A:=X.A.in1) (I.ok.hd O) f a n its.toArray) m (by rw [PC,<- lr,<- hi];exact ⟨r,B⟩) λh' eb=>⟨rfl,?_⟩
  exact I.turned (t':=s.toks) (λb o g q=>eb b o g q) f0 f1 f3 f4 f5
 self:=λA i s Q E ⟨_,_,_,m,_⟩ q=>wpAny_pyIter_enum m q
noncomputable def CS (K:W.Frag) (c:TA):TI:=λσ H R=>c σ H λvs b=>∃ a xs,vs=[.ref a]/\SR K b a xs/\R (IB K a xs) b
theorem Dv {X:Cx} {a:Expr} {j:TA} {p d:Pos} {k} (l:Gl X "enumerate") (m:X.mg "enumerate"=none) (n:PA X [a] j) (r:starEach [a] X.env=[(false,eval a X.env)]:=by rfl):PI X (.Tuple elts k ps) (.Call (.Name "enumerate" p) [a] [] d) (CS X.K j):=by
 intro f s σ H R I h;refine Call_ (lj I l m uk (QF (S1 (n d f s σ H _ I h) λus s1 ⟨vs,v,c,x,g⟩=>?_) r rfl));obtain ⟨t,xs,y,B,q⟩:=g;subst y;obtain ⟨u,rfl,C⟩:=jd x;cases C;obtain ⟨its,F,pt,G⟩:=c.list B;have lt:t < s1.heap.objs.size:=let ⟨_,z,_⟩:=pt.isList;PL z;refine yt pt.isList ?_;have sz:(s1.heap.push (oW t)).objs.size=s1.heap.objs.size+1:=Qu _ _;have g:IsEnum ((s1.heap.push (oW t)).push (sX s1.heap.objs.size)) (s1.heap.objs.size+1) s1.heap.objs.size ((0:Nat):Int) .none:=Qx sz.symm rfl;have D:((s1.heap.push (oW t)).push (sX s1.heap.objs.size)).IsListIter s1.heap.objs.size t 0:=⟨_,Ph _ (Qx rfl rfl),rfl,rfl⟩
 refine wpAny_pyIter_enum (s:={ s1 with heap:=(s1.heap.push (oW t)).push (sX s1.heap.objs.size) }) g ?_;refine ⟨s1.heap.objs.size+1,[s1.heap.objs.size+1,s1.heap.objs.size],_,_,v,rfl,c.kept (t':=s1.toks) (λb o e=>Ph _ (Ph _ e)),zE t _ _ xs (QS (RK _)),⟨Qe lt,Qe (Sx lt),.none,g,D⟩,λb E=>?_,q⟩;rcases PB.mp E with z | z
 ·subst z;exact c.X4 (RZ _) (c.hok.fresh (RZ _))
 ·have z:b=s1.heap.objs.size:=by simpa using z
  subst z;exact c.X4 (Pu _) (c.hok.fresh (Pu _))
theorem DO {U:TE} {V:TE} {d:St->St} {j:Nat} {cs:List D} (h:RL K U σ H cs) (hc:cs.length<=1000) (es:List D) (hn:es.length=cs.length) (ne:i≠j)
  (h0:((d σ).set i none).set j none=d σ)
  (f:∀ r (k:Nat) c e w,SJ H r->cs[k]?=some c->es[k]?=some e->Dat K r c w->RE K V (((d σ).set i (some (.int k))).set j (some w)) r e) :
  RC K (jP (CS K (bW U dW)) d (A7 K 2 (mw (d6 i) (mw (d6 j) CD))) jc V) σ H es:=λr s Q q=>by
 refine h r s _ λvs J L q2=>?_;obtain ⟨a,us,e1,M,X⟩:=q2;subst e1;have lu:=X.length;refine ⟨a,us,rfl,M.WC,λl hl2=>?_⟩;have N:SJ H J:=s.trans L;refine ⟨λn m σ' G=>m=us.length - n/\n<=us.length/\(∃ C E,σ'=((d σ).set i C).set j E)/\SJ J G/\∃ ys,G l=some (.lst ys)/\SI K G (es.take n) ys,⟨us.length,by lia,QA _,⟨none,none,h0.symm⟩,aV hl2 _,[],aI,by rw [QW];exact SI.nil⟩,?_⟩;rintro n m σ' G ⟨rfl,hle,⟨C,E,rfl⟩,F,ys,Y,I⟩;by_cases u:n < us.length
 ·refine .inr ⟨⟨u,(F.VI M).WC⟩,λσ'' z=>(∃ C E,σ''=((d σ).set i C).set j E)/\SJ J z/\∃ ys,z l=some (.lst ys)/\SI K z (es.take (n+1)) ys,λσ'' z w=>⟨us.length - (n+1),by lia,rfl,u,w.1,w.2⟩,λx z y=>?_⟩;obtain ⟨p,w,hp,rfl,hw,rfl⟩:=y;have O:SJ G (upd G p (.tup [.int n,w])):=aV hp _;have b:=F.trans O;obtain ⟨c,ec,R⟩:=X.Wd hw;have B:n < es.length:=by lia
  refine ⟨p,[.int n,w],rfl,Ti.of aI,rfl,.int n,_,rfl,w,_,rfl,rfl,?_⟩;simp only [jc,RO];rw [AI _ ne];refine RE.use (f _ n c es[n] w (N.trans b) ec (Pg B) (b.dat R)) λv S T q4=>?_;have Z:=T _ _ (O _ _ Y);have lys:ys.length=n:=by rw [<- I.length,Qh];lia
  refine ⟨ys,Z,cM (by lia),⟨_,_,rfl⟩,λx o hx=>?_,ys++[v],aI,?_⟩
  ·rw [aS (aU hx hl2)];exact T _ _ (b _ _ hx)
  ·have g:gA K S (upd S l (.lst (ys++[v]))):=S6.grow (t:=l) (S6.upd (SJ.refl S).but) Z aI;rw [Qq,Pg B];exact SI.append (SI.mono g _ (T.SV (O.SV I))) (SI.cons (Dat.mono g _ q4) SI.nil)
 ·have e:n=us.length:=by lia
  subst e;refine .inl ⟨⟨rfl,(F.VI M).WC⟩,?_⟩;rw [Ry (by lia)] at I;exact q l ys G (L.free hl2) (L.trans F) Y I
section
variable {prog:Program} {w:World} {A:Around} {E:Value->Shared->Prop} {s:Shared} {z TI TO i1 i2 i3 l1 l2 l3:Addr} {k:Nat} {xs ys zs:Array Value}
end
end L2
namespace L2
open PySem PySem.Spec PyProof.Rows
section
variable {X:Cx}
end
section
variable {K:W.Frag} {σ:St} {H:Hp} {t ta tb:TE} {d:D} {ds:List D}
end
end L2
namespace My
open PySem L2 PyProof.Rows
noncomputable abbrev TL:List (Str × KTD.Dat):=[("num",.flat (.int 9999)),("arg",.flat (.int 3))]
noncomputable abbrev TB:List (Str × KTD.Dat):=[("add",.flat (.int 2)),("sub",.flat (.int 2)),("mul",.flat (.int 2)),("less",.flat (.int 2)),("pick",.flat (.int 3))]
noncomputable abbrev TM:List (Str × KTD.Dat):=[("hole",.flat (.int 2)),("gap",.flat (.int 3)),("slot",.flat (.int 2))]
noncomputable abbrev TF:List (Str × KTD.Dat):=[("low",.flat (.str "gap")),("high",.flat (.str "gap")),("arg",.flat (.str "slot"))]
noncomputable abbrev Y8:List (Str × KTD.Dat):=[("load",.flat (.int 3)),("skip",.flat (.int 9)),("zero",.flat (.int 9))]
noncomputable abbrev AHE:List D:=[.int 10,.int 11]
noncomputable abbrev BAS:List D:=[.tup [.str "one",.tup [.str "gap",.int 0,.int 99],.tup [.int 1,.tup [.str "low",.int 0]]],.tup [.str "two",.tup [.str "gap",.int 0,.int 9999],.tup [.int 2,.tup [.str "low",.int 0],.tup [.str "high",.int 0]]],.tup [.str "slot",.tup [.str "slot",.int 0],.tup [.int 3,.tup [.str "arg",.int 0]]],.tup [.str "add",.tup [.str "add",.tup [.str "hole",.int 0],.tup [.str "hole",.int 1]],.tup [.int 4]],.tup [.str "sub",.tup [.str "sub",.tup [.str "hole",.int 0],.tup [.str "hole",.int 1]],.tup [.int 5]],.tup [.str "mul",.tup [.str "mul",.tup [.str "hole",.int 0],.tup [.str "hole",.int 1]],.tup [.int 6]],.tup [.str "less",.tup [.str "less",.tup [.str "hole",.int 0],.tup [.str "hole",.int 1]],.tup [.int 7]],.tup [.str "more",.tup [.str "add",.tup [.str "hole",.int 0],.tup [.str "gap",.int 0,.int 99]],.tup [.int 12,.tup [.str "low",.int 0]]]]
noncomputable abbrev BEH:List D:=[.int 8,.int 9]
noncomputable abbrev INS:List D:=[.tup [.str "end",.int 0],.tup [.str "put",.int 1],.tup [.str "far",.int 2],.tup [.str "load",.int 1],.tup [.str "add",.int 0],.tup [.str "sub",.int 0],.tup [.str "mul",.int 0],.tup [.str "less",.int 0],.tup [.str "skip",.int 1],.tup [.str "jump",.int 2],.tup [.str "zero",.int 1],.tup [.str "none",.int 2],.tup [.str "more",.int 1],.tup [.str "twice",.int 0],.tup [.str "about",.int 0],.tup [.str "call",.int 2],.tup [.str "back",.int 0]]
noncomputable abbrev STR:List D:=[.str "put",.str "far",.str "load",.str "add",.str "sub",.str "mul",.str "less",.str "more",.str "twice",.str "about"]
noncomputable abbrev WAY:List D:=[.str "skip",.str "jump",.str "zero",.str "none",.str "call",.str "back"]
noncomputable def qk (s:Stmt) (j:Nat):Stmt:=match s with
 | .ClassDef _ _ _ b _ _ _ _ _ _ _=>b.getD j (.Pass ⟨0,0,0,0⟩)
 | _=>.Pass ⟨0,0,0,0⟩
noncomputable abbrev rH:Stmt:=top 15
theorem Xi:SM ["thing","low","high"] ["thing","low","high"] (aK rH):=.TR
noncomputable abbrev o8:Stmt:=top 16
theorem WJ:SM ["thing"] ["thing"] (aK o8):=.TR
noncomputable abbrev tT:Stmt:=top 25
theorem XD:SM ["thing","kind"] ["thing"] (aK tT):=.TR
noncomputable abbrev lU:Stmt:=top 26
theorem VL:SM ["tree"] ["tree"] (aK lU):=.TR
noncomputable abbrev oH:Stmt:=top 27
theorem XE:SM ["thing","waiting","parts","part","deep"] ["thing"] (aK oH):=.TR
noncomputable abbrev ph:Stmt:=top 28
theorem WK:SM ["tree"] ["tree"] (aK ph):=.TR
noncomputable abbrev xY:Stmt:=top 30
theorem Yk:SM ["tree","parts","within"] ["tree"] (aK xY):=.TR
noncomputable abbrev oG:Stmt:=top 17
theorem XF:SM ["thing"] ["thing"] (aK oG):=.TR
noncomputable abbrev kq:Stmt:=top 42
theorem Tv:SM ["cells","place","name","many","behind"] ["cells","place"] (aK kq):=.TR
noncomputable abbrev tS:Stmt:=top 57
theorem XG:SM ["thing"] ["thing"] (aK tS):=.TR
noncomputable abbrev iE:Stmt:=top 58
theorem UR:SM ["thing","deep"] ["thing","deep"] (aK iE):=.TR
noncomputable abbrev rJ:Stmt:=top 59
theorem Xj:SM ["pattern","kind","marks","within"] ["pattern","kind"] (aK rJ):=.TR
noncomputable abbrev j8:Stmt:=top 60
theorem V2:SM ["pattern","kind","numbers"] ["pattern","kind"] (aK j8):=.TR
noncomputable abbrev kK:Stmt:=top 61
theorem Wf:SM ["thing"] ["thing"] (aK kK):=.TR
noncomputable abbrev nK:Stmt:=top 62
theorem Wg:SM ["thing","pattern"] ["thing","pattern"] (aK nK):=.TR
noncomputable abbrev tR:Stmt:=top 63
theorem XH:SM ["thing","pattern"] ["thing","pattern"] (aK tR):=.TR
noncomputable abbrev hV:Stmt:=top 64
theorem UN:SM ["cells","pattern","place","name","behind"] ["cells","pattern"] (aK hV):=.TR
noncomputable abbrev rG:Stmt:=top 65
theorem Xk:SM ["thing","name","pattern","cells"] ["thing"] (aK rG):=.TR
noncomputable abbrev nL:Stmt:=top 66
theorem Yl:SM ["thing"] ["thing"] (aK nL):=.TR
noncomputable abbrev rK:Stmt:=top 67
theorem Xl:SM ["some"] ["some"] (aK rK):=.TR
noncomputable abbrev kQ:Stmt:=top 68
theorem Vk:SM ["mark","tree"] ["mark","tree"] (aK kQ):=.TR
noncomputable abbrev tU:Stmt:=top 69
theorem XI:SM ["pattern","tree","found","kind"] ["pattern","tree","found"] (aK tU):=.TR
noncomputable abbrev rF:Stmt:=top 70
theorem Xm:SM ["piece","tree","found"] ["piece","tree"] (aK rF):=.TR
noncomputable abbrev mG:Stmt:=top 71
theorem V3:SM ["cell","nums","ks"] ["cell","nums","ks"] (aK mG):=.TR
noncomputable abbrev o9:Stmt:=top 77
theorem WL:SM ["many","kinds","near","far"] ["many","kinds"] (aK o9):=.TR
noncomputable abbrev kP:Stmt:=top 78
theorem Vl:SM ["second","third","behind","ahead"] ["second","third"] (aK kP):=.TR
noncomputable abbrev tW:Stmt:=top 79
theorem XJ:SM ["tree","some","ways","piece","found"] ["tree","some"] (aK tW):=.TR
noncomputable abbrev pd:Stmt:=top 80
theorem WM:SM ["name","cells","lengths","own","ahead","behind"] ["name","cells","lengths"] (aK pd):=.TR
noncomputable abbrev fS:Stmt:=top 81
theorem VM:SM ["tree","some","done","bests","best","name","cells","trees","within","length"] ["tree","some","done","bests"] (aK fS):=.TR
noncomputable abbrev kO:Stmt:=top 82
theorem Vm:SM ["tree","some","done","bests","part"] ["tree","some"] (aK kO):=.TR
noncomputable abbrev lR:Stmt:=top 86
theorem WN:SM ["tree","some","cover","places","first","second","third","ahead","behind"] ["tree","some","cover","places"] (aK lR):=.TR
noncomputable abbrev ju:Stmt:=top 87
theorem Wh:SM ["tree","some","cover","places","name","within","piece","holes","nums","ks","cells","hole","inner"] ["tree","some","cover","places"] (aK ju):=.TR
noncomputable abbrev nM:Stmt:=top 88
theorem Wi:SM ["tree","some","cover","places","place"] ["tree","some","cover","places"] (aK nM):=.TR
noncomputable abbrev tQ:Stmt:=top 89
theorem XM:SM ["tree","some","length","cover"] ["tree","some"] (aK tQ):=.TR
noncomputable abbrev Gw:Stmt:=top 90
theorem ZC:SM ["tree","some"] ["tree","some"] (aK Gw):=.TR
noncomputable abbrev fV:Stmt:=top 18
theorem WO:SM ["size","most"] ["size","most"] (aK fV):=.TR
noncomputable abbrev lS:Stmt:=top 19
theorem WQ:SM ["args","size"] ["args","size"] (aK lS):=.TR
noncomputable abbrev kR:Stmt:=top 29
theorem Vn:SM ["kind","first","second","size"] ["kind","first","second","size"] (aK kR):=.TR
noncomputable abbrev oF:Stmt:=top 40
theorem XN:SM ["thing"] ["thing"] (aK oF):=.TR
noncomputable abbrev pf:Stmt:=top 41
theorem WR:SM ["code"] ["code"] (aK pf):=.TR
noncomputable abbrev mH:Stmt:=top 43
theorem V4:SM ["behind","number","cell"] ["behind"] (aK mH):=.TR
noncomputable abbrev cH:Stmt:=qk (top 44) 0
theorem UO:SM ["self","cells","given","size","pile"] ["self","cells","given","size","pile"] (aK cH):=.TR
noncomputable abbrev dJ:Stmt:=qk (top 44) 1
theorem VN:SM ["self"] ["self"] (aK dJ):=.TR
noncomputable abbrev dH:Stmt:=qk (top 44) 2
theorem VO:SM ["self","number"] ["self","number"] (aK dH):=.TR
noncomputable abbrev dZ:Stmt:=qk (top 44) 4
theorem V5:SM ["self","name","number","onward"] ["self","name","number","onward"] (aK dZ):=.TR
noncomputable abbrev cV:Stmt:=qk (top 44) 5
theorem Vb:SM ["self"] ["self"] (aK cV):=.TR
noncomputable abbrev cU:Stmt:=qk (top 44) 6
theorem Vc:SM ["self","name","number","upper","lower"] ["self","name","number"] (aK cU):=.TR
noncomputable abbrev dI:Stmt:=qk (top 44) 3
theorem VP:SM ["self","name","behind","number","onward"] ["self"] (aK dI):=.TR
noncomputable abbrev tV:Stmt:=top 45
theorem XO:SM ["code","args","size","steps"] ["code","args","size","steps"] (aK tV):=.TR
noncomputable abbrev mI:Stmt:=top 46
theorem ZD:SM ["code","args","size","steps","machine","done"] ["code","args","size","steps"] (aK mI):=.TR
noncomputable abbrev xX:Stmt:=top 47
theorem Ym:SM ["code","rows","place","name","behind"] ["code"] (aK xX):=.TR
noncomputable abbrev o3:Stmt:=top 92
theorem WT:SM ["_law_script","_law_town","_law_many","_law_one","_law_at","_law_mixed"] ["_law_script","_law_town","_law_many"] (aK o3):=.TR
noncomputable abbrev o6:Stmt:=top 93
theorem WU:SM ["_law_script","_law_town","_law_some"] ["_law_script","_law_town","_law_some"] (aK o6):=.TR
noncomputable abbrev lQ:Stmt:=top 94
theorem WV:SM ["_law_script","_law_town","_law_room","_law_leaf","_law_name","_law_many"] ["_law_script","_law_town","_law_room"] (aK lQ):=.TR
noncomputable abbrev lO:Stmt:=top 95
theorem WW:SM ["_law_script","_law_town","_law_base"] ["_law_script","_law_town","_law_base"] (aK lO):=.TR
noncomputable abbrev o7:Stmt:=top 96
theorem WX:SM ["_law_script","_law_town"] ["_law_script","_law_town"] (aK o7):=.TR
noncomputable abbrev rE:Stmt:=top 97
theorem Xn:SM ["_law_name","_law_one","_law_other","_law_base"] ["_law_name","_law_one","_law_other","_law_base"] (aK rE):=.TR
noncomputable abbrev nJ:Stmt:=top 98
theorem Wj:SM ["_law_tree_here","_law_args_here","_law_base"] ["_law_tree_here","_law_args_here","_law_base"] (aK nJ):=.TR
noncomputable abbrev nI:Stmt:=top 99
theorem Wl:SM ["_law_first"] [] (aK nI):=.TR
noncomputable abbrev mD:Stmt:=top 100
theorem V6:SM ["_law_number"] ["_law_number"] (aK mD):=.TR
noncomputable abbrev o4:Stmt:=top 101
theorem WY:SM ["_law_name","_law_number","_law_on","_law_pile","_law_ways"] ["_law_name","_law_number","_law_on","_law_pile","_law_ways"] (aK o4):=.TR
noncomputable abbrev o2:Stmt:=top 102
theorem WZ:SM ["_law_name","_law_number","_law_pile","_law_args_here","_law_base","_law_other","_law_one"] ["_law_name","_law_number","_law_pile","_law_args_here","_law_base"] (aK o2):=.TR
noncomputable abbrev lP:Stmt:=top 104
theorem W0:SM ["_law_code","_law_args_here","_law_base","_law_most","_law_at","_law_ways","_law_pile","_law_did","_law_k","_law_name","_law_many","_law_cells","_law_number","_law_on","_law_now"] ["_law_code","_law_args_here","_law_base","_law_most","_law_at","_law_ways"] (aK lP):=.TR
noncomputable abbrev rD:Stmt:=top 103
theorem Xo:SM ["_law_code","_law_args_here","_law_base","_law_most"] ["_law_code","_law_args_here","_law_base","_law_most"] (aK rD):=.TR
noncomputable abbrev mE:Stmt:=top 105
theorem V7:SM ["_law_hole","_law_other","_law_gap","_law_made"] [] (aK mE):=.TR
noncomputable abbrev mW:Stmt:=top 106
theorem Xp:SM ["_law_script","_law_town","_law_more"] ["_law_script","_law_town"] (aK mW):=.TR
noncomputable abbrev rC:Stmt:=top 107
theorem Xq:SM ["_law_pattern","_law_tree_here","_law_found"] ["_law_pattern","_law_tree_here","_law_found"] (aK rC):=.TR
noncomputable abbrev o5:Stmt:=top 108
theorem W2:SM ["_law_cells"] ["_law_cells"] (aK o5):=.TR
noncomputable abbrev jt:Stmt:=top 109
theorem Wm:SM ["_law_tree_here","_law_some","_law_three","_law_last","_law_lengths","_law_piece","_law_found","_law_holes"] ["_law_tree_here","_law_some"] (aK jt):=.TR
noncomputable abbrev Gv:Stmt:=top 113
theorem ZE:SM ["_law_script","_law_town","_law_tree_here","_law_some","_law_code","_law_k","_law_base","_law_args_here","_law_due"] ["_law_script"] (aK Gv):=.TR
structure Df (K:W.Frag) (mg:Str->Option Value) (n:Str) (st:Stmt) (ps:List Str) where
 a:Addr
 d:FuncData
 f:Y3 K n n st a d
 m:mg n=some (.ref a)
 b:Binds K d ps []
noncomputable abbrev Ok (P:Program) (w:World) (base:Heap) (k:Nat) {K:W.Frag} {mg:Str->Option Value} {n:Str} {st:Stmt} {ps:List Str} (D:Df K mg n st ps) (sp:Sp):Prop:=Te P w K mg base WI k D.a D.d ps sp
theorem pc {X:Cx} {k:Nat} {n:Str} {st:Stmt} {ps:List Str} {sp:Sp} {e:Expr} {es:List Expr} {t:TA} {p c:Pos} {D:Df X.K X.mg n st ps} (F:Te X.prog X.w X.K X.mg X.base WI k D.a D.d ps sp) (i:TH k X.A) (j:PA X (e::es) t) (l:Gl X n:=by rfl) (g:(n == ("__debug__":Str))=false:=by decide) (o:starEach (e::es) X.env=(false,eval e X.env)::starEach es X.env:=by rfl) (h:(backTo c (starEach es X.env)).any (·.1)=false:=by rfl):PE X (.Call (.Name n p) (e::es) [] c) (kr sp [] E0 t):=Au F i l D.m D.f.kp D.b .nil gN j g o h
set_option genInjectivity false in
set_option genSizeOfSpec false in
structure Dfs (K:W.Frag) (mg:Str->Option Value) where
 JX:Df K mg "is_whole" rH ["thing","low","high"]
 KH:Df K mg "is_tagged" o8 ["thing"]
 Ma:Df K mg "is_node" tT ["thing"]
 J5:Df K mg "trees_within" lU ["tree"]
 M4:Df K mg "is_tree" oH ["thing"]
 Mz:Df K mg "need_tree" ph ["tree"]
 Mm:Df K mg "walked" xY ["tree"]
 M0:Df K mg "is_name" oG ["thing"]
 JY:Df K mg "instruction_at" kq ["cells","place"]
 MZ:Df K mg "is_mark" tS ["thing"]
 J8:Df K mg "is_pattern_part" iE ["thing","deep"]
 KJ:Df K mg "marks_in" rJ ["pattern","kind"]
 LJ:Df K mg "is_numbered" j8 ["pattern","kind"]
 L6:Df K mg "is_pattern" kK ["thing"]
 L5:Df K mg "is_filling" nK ["thing","pattern"]
 MY:Df K mg "is_cell" tR ["thing","pattern"]
 KI:Df K mg "are_instructions" hV ["cells","pattern"]
 MK:Df K mg "is_piece" rG ["thing"]
 Nk:Df K mg "is_set" nL ["thing"]
 ML:Df K mg "need_set" rK ["some"]
 Lc:Df K mg "may_stand_for" kQ ["mark","tree"]
 Ln:Df K mg "matches" tU ["pattern","tree","found"]
 LG:Df K mg "found_in" rF ["piece","tree"]
 LI:Df K mg "filled_cell" mG ["cell","nums","ks"]
 L1:Df K mg "jump_over" o9 ["many","kinds"]
 Kq:Df K mg "jumps_of_pick" kP ["second","third"]
 M9:Df K mg "ways_of" tW ["tree","some"]
 Mw:Df K mg "length_by" pd ["name","cells","lengths"]
 Lx:Df K mg "best_by_ways" fS ["tree","some","done","bests"]
 Lb:Df K mg "best_covering" kO ["tree","some"]
 Mv:Df K mg "laid_pick" lR ["tree","some","cover","places"]
 L7:Df K mg "laid_piece" ju ["tree","some","cover","places"]
 Kh:Df K mg "laid_cells" nM ["tree","some","cover","places"]
 MX:Df K mg "code_of" tQ ["tree","some"]
 OC:Df K mg "lay" Gw ["tree","some"]
 Mx:Df K mg "need_args" lS ["args","size"]
 Ld:Df K mg "worth_of_both" kR ["kind","first","second","size"]
 L9:Df K mg "is_code" oF ["thing"]
 Lo:Df K mg "need_code" pf ["code"]
 LL:Df K mg "number_told" mH ["behind"]
 M5:Df K mg "started" tV ["code","args","size","steps"]
 Nl:Df K mg "listed" xX ["code"]
 Ka:Df K mg "_law_draw" o3 ["_law_script","_law_town","_law_many"]
 Kt:Df K mg "_law_pick" o6 ["_law_script","_law_town","_law_some"]
 K0:Df K mg "_law_tree" lQ ["_law_script","_law_town","_law_room"]
 Mq:Df K mg "_law_args" lO ["_law_script","_law_town","_law_base"]
 Mu:Df K mg "_law_size" o7 ["_law_script","_law_town"]
 LF:Df K mg "_law_two" rE ["_law_name","_law_one","_law_other","_law_base"]
 Kc:Df K mg "_law_worth" nJ ["_law_tree_here","_law_args_here","_law_base"]
 K6:Df K mg "_law_names" nI []
 LH:Df K mg "_law_behind" mD ["_law_number"]
 Mt:Df K mg "_law_goes" o4 ["_law_name","_law_number","_law_on","_law_pile","_law_ways"]
 Mr:Df K mg "_law_does" o2 ["_law_name","_law_number","_law_pile","_law_args_here","_law_base"]
 Ms:Df K mg "_law_from" lP ["_law_code","_law_args_here","_law_base","_law_most","_law_at","_law_ways"]
 MI:Df K mg "_law_run" rD ["_law_code","_law_args_here","_law_base","_law_most"]
 KM:Df K mg "_law_pieces" mE []
 MJ:Df K mg "_law_set" mW ["_law_script","_law_town"]
 KZ:Df K mg "_law_fit" rC ["_law_pattern","_law_tree_here","_law_found"]
 L0:Df K mg "_law_over" o5 ["_law_cells"]
 Ks:Df K mg "_law_least" jt ["_law_tree_here","_law_some"]
 Oo:Df K mg "law" Gv ["_law_script"]
set_option genInjectivity false in
set_option genSizeOfSpec false in
structure Txt (P:Program) (w:World) (K:W.Frag) (mg:Str->Option Value) extends Dfs K mg where
 LN:Addr
 LO:FuncData
 MR:Addr
 Mp:Tok
 LQ:FunD K "need_size" "need_size" fV LN LO MR [.int 10000 Mp]
 Nw:mg "need_size"=some (.ref LN)
 Ol:Addr
 NW:FuncData
 ON:Y3 K "run" "run" mI Ol NW
 O4:mg "run"=some (.ref Ol)
 OT:Tok
 w_run:∀ (z:Setting) (x_code XQ XR:Value),W.peek K z (bindArgs NW ⟨[x_code,XQ],[("size",XR)]⟩)=some ([("code",x_code),("args",XQ),("size",XR),("steps",.int 1000 OT)]:List (Str × Value))
 JW:Addr
 L8:mg "Machine"=some (.ref JW)
 SK:X5 K JW
 Kl:Addr
 Km:FuncData
 Le:Y3 K "__init__" "Machine.__init__" cH Kl Km
 XS:Mk K JW Kl
 Kz:Addr
 KD:FuncData
 Mh:Y3 K "take" "Machine.take" dJ Kz KD
 To:uh K JW "take" Kz
 KQ:Addr
 KU:FuncData
 Mf:Y3 K "push" "Machine.push" dH KQ KU
 SW:uh K JW "push" KQ
 K8:Addr
 K9:FuncData
 MD:Y3 K "way" "Machine.way" dZ K8 K9
 V8:uh K JW "way" K8
 Ky:Addr
 KC:FuncData
 Lz:Y3 K "finish" "Machine.finish" cV Ky KC
 Vd:uh K JW "finish" Ky
 Kx:Addr
 KB:FuncData
 Ly:Y3 K "change" "Machine.change" cU Kx KB
 Ve:uh K JW "change" Kx
 KR:Addr
 KW:FuncData
 Mg:Y3 K "step" "Machine.step" dI KR KW
 VQ:uh K JW "step" KR
 US:S4 K JW "cells"
 UT:S4 K JW "given"
 Vf:S4 K JW "size"
 TU:S4 K JW "pile"
 TJ:S4 K JW "place"
 Ub:S4 K JW "kept"
 Ur:S4 K JW "ended"
 Lv:Tok
 K4:mg "MOST_PARTS"=some (.int 40 Lv)
 LV:Tok
 Lh:mg "MOST_DEEP"=some (.int 8 LV)
 KY:Tok
 KF:mg "LONGEST_NAME"=some (.int 8 KY)
 LU:Tok
 KG:mg "MOST_CELL"=some (.int 99 LU)
 Kg:Tok
 J9:mg "MOST_PATTERN_DEEP"=some (.int 3 Kg)
 Ml:Tok
 LA:mg "MOST_GAP"=some (.int 9999 Ml)
 Kp:Tok
 Kb:mg "MOST_PIECE_CELLS"=some (.int 12 Kp)
 La:Tok
 KL:mg "MOST_PIECES"=some (.int 16 La)
 LX:Tok
 Lj:mg "MOST_NEAR"=some (.int 9 LX)
 Ls:Tok
 K2:mg "CALL_CELLS"=some (.int 3 Ls)
 On:Tok
 NX:mg "END"=some (.int 0 On)
 NO:Tok
 Nr:mg "CALL"=some (.int 15 NO)
 Lu:Tok
 K3:mg "MOST_CELLS"=some (.int 1000 Lu)
 LS:Tok
 Lg:mg "MANY_ARGS"=some (.int 4 LS)
 LZ:Tok
 LR:mg "MOST_SIZE"=some (.int 10000 LZ)
 Lw:Tok
 K5:mg "MOST_STEPS"=some (.int 100000 Lw)
 LY:Tok
 Lk:mg "MOST_PILE"=some (.int 64 LY)
 LW:Tok
 Li:mg "MOST_KEPT"=some (.int 16 LW)
 KP:Addr
 Kn:mg "MOST_IN_LEAF"=some (.ref KP)
 Ko:kW K KP TL
 Kf:Addr
 J3:mg "TREES_IN_BRANCH"=some (.ref Kf)
 J4:kW K Kf TB
 Kk:Addr
 Ke:mg "MARK_LENGTHS"=some (.ref Kk)
 J1:kW K Kk TM
 K7:Addr
 Ku:mg "FILLED_FROM"=some (.ref K7)
 Kv:kW K K7 TF
 Mo:Addr
 Ll:mg "MOST_TOLD"=some (.ref Mo)
 Lm:kW K Mo Y8
 Kj:Addr
 J7:mg "INSTRUCTIONS"=some (.ref Kj)
 KS:hX K (.tup INS) (.ref Kj)=true
 MG:Addr
 LB:mg "STRAIGHT"=some (.ref MG)
 NJ:hX K (.tup STR) (.ref MG)=true
 ND:Addr
 MV:mg "AHEAD"=some (.ref ND)
 Oz:hX K (.tup AHE) (.ref ND)=true
 Nj:Addr
 ME:mg "BEHIND"=some (.ref Nj)
 Om:hX K (.tup BEH) (.ref Nj)=true
 N3:Addr
 Nt:mg "WAYS"=some (.ref N3)
 OM:hX K (.tup WAY) (.ref N3)=true
 NF:Addr
 MW:mg "BASIC"=some (.ref NF)
 OA:qL K BAS NF=true
 MQ:BZ P w K Kk ["hole","gap","slot"]
 J0:mg "len"=none
 J6:mg "isinstance"=none
 OQ:mg "int"=none
 OO:mg "bool"=none
 OR:mg "str"=none
 KN:mg "tuple"=none
 NL:mg "list"=none
 MH:mg "range"=none
 Ny:mg "all"=none
 O5:mg "any"=none
 O7:mg "set"=none
 OB:mg "sum"=none
 Ng:mg "reversed"=none
 OS:mg "zip"=none
 Nz:mg "enumerate"=none
 O6:mg "min"=none
section
variable {P:Program} {w:World} {K:W.Frag} {mg:Str->Option Value} {base:Heap} {k:Nat}
theorem HA {α:Type} {us:List α} (h:us.length=1):∃ a,us=[a]:=match us,h with | [a],_=>⟨a,rfl⟩
theorem JN {α:Type} {us:List α} (h:us.length=2):∃ a b,us=[a,b]:=match us,h with | [a,b],_=>⟨a,b,rfl⟩
theorem JO {α:Type} {us:List α} (h:us.length=3):∃ a b c,us=[a,b,c]:=match us,h with | [a,b,c],_=>⟨a,b,c,rfl⟩
theorem JP {α:Type} {us:List α} (h:us.length=4):∃ a b c d,us=[a,b,c,d]:=match us,h with | [a,b,c,d],_=>⟨a,b,c,d,rfl⟩
theorem JQ {α:Type} {us:List α} (h:us.length=5):∃ a b c d e,us=[a,b,c,d,e]:=match us,h with | [a,b,c,d,e],_=>⟨a,b,c,d,e,rfl⟩
theorem wH (T:Txt P w K mg):Binds K T.LO ["size","most"] [.int 10000 T.Mp]:=by
 obtain ⟨i,j,kV,doc,m,p,b,ct,c,e,lk,d⟩:=T.LQ.ex;obtain ⟨o,n,l,h⟩:=T.LQ.df;intro s us f g;have a:us.length=1:=by simpa using g
 match us,a with
 | [q],_=>rw [e];exact .of_defaults (T:=T.MR) rfl (f _ _ l) h rfl rfl
theorem yc (T:Txt P w K mg):Vals [V.int 10000] [Value.int 10000 T.Mp]:=.cons ⟨_,rfl⟩ .nil
theorem mL (T:Txt P w K mg):Binds K T.Km ["self","cells","given","size","pile"] []:=T.Le.binds λ_ _ _ _ _ _ us a=>by obtain ⟨_,_,_,_,_,rfl⟩:=JQ a;rfl
theorem h9 (T:Txt P w K mg):Binds K T.KD ["self"] []:=T.Mh.binds λ_ _ _ _ _ _ us a=>by obtain ⟨_,rfl⟩:=HA a;rfl
theorem d4 (T:Txt P w K mg):Binds K T.KU ["self","number"] []:=T.Mf.binds λ_ _ _ _ _ _ us a=>by obtain ⟨_,_,rfl⟩:=JN a;rfl
theorem r8 (T:Txt P w K mg):Binds K T.K9 ["self","name","number","onward"] []:=T.MD.binds λ_ _ _ _ _ _ us a=>by obtain ⟨_,_,_,_,rfl⟩:=JP a;rfl
theorem nU (T:Txt P w K mg):Binds K T.KC ["self"] []:=T.Lz.binds λ_ _ _ _ _ _ us a=>by obtain ⟨_,rfl⟩:=HA a;rfl
theorem nT (T:Txt P w K mg):Binds K T.KB ["self","name","number"] []:=T.Ly.binds λ_ _ _ _ _ _ us a=>by obtain ⟨_,_,_,rfl⟩:=JO a;rfl
theorem qa (T:Txt P w K mg):Binds K T.KW ["self"] []:=T.Mg.binds λ_ _ _ _ _ _ us a=>by obtain ⟨_,rfl⟩:=HA a;rfl
noncomputable def yA {α:Type} (z:α):List α->List α->List α
 | [a,b],[c]=>[a,b,c,z]
 | _,_=>[]
noncomputable abbrev CF:List V->List V->List V:=yA (.int 1000)
theorem IH (T:Txt P w K mg):yi K T.NW ["code","args","size","steps"] ["size"] (yA (.int 1000 T.OT)) CF:=by
 refine ⟨λs us b c a=>?_,λ{vs us zs b} d e=>?_⟩
 ·unfold yA at a ⊢;split at a
  ·exact λM A E Q f=>(W.Looks.of_peek c (T.w_run _ _ _ _)).here f
  ·cases a
 ·unfold CF
  cases d with
  | nil=>exact .nil
  | cons g h =>
   cases h with
   | nil=>exact .nil
   | cons i j =>
    cases j with
    | cons _ _=>exact .nil
    | nil =>
     cases e with
     | nil=>exact .nil
     | cons p1 l =>
      cases l with
      | cons _ _=>exact .nil
      | nil=>exact (.cons g (.cons i (.cons p1 (.cons ⟨_,rfl⟩ .nil))))
noncomputable def dM (d:D) (lo hi:Int):Bool:=match d with
 | .int i=>decide (lo<=i) && decide (i<=hi)
 | _=>false
noncomputable def fW (ds:List D) (d:D):Prop:=∃ x lo hi,ds=[x,.int lo,.int hi]/\d=.bl (dM x lo hi)
noncomputable def f9:D->Bool
 | .tup (.str _::_)=>true
 | _=>false
noncomputable def pJ (ds:List D) (d:D):Prop:=∃ x,ds=[x]/\d=.bl (f9 x)
noncomputable def mX (k:Str) (T:List (Str × KTD.Dat)):Int:=match KTD.datumAt k T with
 | some (.flat (.int i))=>i
 | _=>0
noncomputable def fM:D->Bool
 | .tup (.str k::r)=>if KTD.inKeys k TL=true then decide ((r.length:Int)+1=2) && dM (r.getD 0 .SO) 0 (mX k TL) else KTD.inKeys k TB && decide ((r.length:Int)+1=1+mX k TB)
 | _=>false
noncomputable def B7 (ds:List D) (d:D):Prop:=∃ x,ds=[x]/\d=.bl (fM x)
noncomputable def dQ:D->List D
 | .tup (.str k::r)=>if KTD.inKeys k TB=true then r else []
 | _=>[]
noncomputable def jl (ds:List D) (d:D):Prop:=∃ k r,ds=[.tup (.str k::r)]/\d=.tup (dQ (.tup (.str k::r)))
theorem Jz {T:List (Str × KTD.Dat)} {k:Str} (g:∀ p ∈ T,∃ i,p.2=.flat (.int i)) (h:KTD.inKeys k T=true):KTD.datumAt k T=some (.flat (.int (mX k T))):=by
 unfold mX
 cases e:KTD.datumAt k T with
 | none=>exact absurd e (KTD.at_of_mem h)
 | some d =>
  have all:∀ (T:List (Str × KTD.Dat)),(∀ p ∈ T,∃ i,p.2=.flat (.int i))->KTD.datumAt k T=some d->∃ i,d=.flat (.int i):=by
   intro T
   induction T with
   | nil=>intro _ e;simp [KTD.datumAt] at e
   | cons p r j =>
    intro c e;obtain ⟨x,y⟩:=p;have a:(if decide (k=x)=true then some y else KTD.datumAt k r)=some d:=e;by_cases f:k=x
    ·rw [Pk (Py f)] at a;cases a;exact c _ P4
    ·rw [M1 (by simp [f])] at a;exact j (λp b=>c p (PV _ b)) a
  obtain ⟨i,rfl⟩:=all T g e;rfl
theorem GU:∀ p ∈ TL,∃ i,p.2=.flat (.int i):=by intro p a;simp only [TL,PB,Qa,Qz] at a;rcases a with rfl | rfl <;> exact ⟨_,rfl⟩
theorem GS:∀ p ∈ TB,∃ i,p.2=.flat (.int i):=by intro p a;simp only [TB,PB,Qa,Qz] at a;rcases a with rfl | rfl | rfl | rfl | rfl <;> exact ⟨_,rfl⟩
theorem xD (T:Txt P w K mg)  : Ok P w base (k+1) T.JX (Tj K fW):=by
 refine T.JX.f.ok Xi (λvs H Q E h=>?_) (λj A outer s H vs Q E n h=>?_)
 ·obtain ⟨ds,d,b,⟨x,lo,hi,rfl,rfl⟩,_⟩:=h;exact b.length.symm
 have o:=Xi.nd;obtain ⟨ds,d,b,⟨x,lo,hi,rfl,rfl⟩,post⟩:=h;obtain ⟨p,q,r,rfl,a,e,g⟩:=sT b;have l:=e.SQ;have m:=g.SQ;subst l m;refine ⟨_,(aH (aP (jH (aX (gC CO) rfl T.J6 cY (dE (pv 0) (dE (iB (v:=.ty "int") rfl T.OQ Cg rfl) aC))) (jH (HK (aX (gC E3) rfl T.J6 cY (dE (pv 0) (dE (iB (v:=.ty "bool") rfl T.OO EI rfl) aC)))) (jI (xI jV jV (pv 1) (pv 0) (pv 2))))))),?_⟩;refine bJ (K:=K) (d:=.bl (dM x lo hi)) ?_ post
 cases x with
 | int i=>exact RE.as (eT (dC (aA a)) λ_=>eT (DT (dC (aA a))) λ_=>lK (aA e) (aA a) λ_=>aA g) rfl
 | bl y=>exact RE.as (eT (c:=false) (dC (aA a)) λ_=>RE.as (eT (c:=true) (DT (dC (aA a))) λz=>nomatch z) rfl) rfl
 | SO=>exact RE.as (eT (c:=true) (dC (aA a)) λz=>nomatch z) rfl
 | str y=>exact RE.as (eT (c:=true) (dC (aA a)) λz=>nomatch z) rfl
 | tup y=>exact RE.as (eT (c:=true) (dC (aA a)) λz=>nomatch z) rfl
 | lst=>exact RE.as (eT (c:=true) (dC (aA a)) λz=>nomatch z) rfl
theorem vi (T:Txt P w K mg)  : Ok P w base (k+1) T.KH (Tj K pJ):=by
 refine T.KH.f.ok WJ (λvs H Q E h=>?_) (λe A outer s H vs Q E g h=>?_)
 ·obtain ⟨ds,d,b,⟨x,rfl,rfl⟩,_⟩:=h;exact b.length.symm
 have j:=WJ.nd;obtain ⟨ds,d,b,⟨x,rfl,rfl⟩,post⟩:=h;obtain ⟨m,rfl,a⟩:=ji b;refine ⟨_,(aH (aP (jH (aX (gC ng) rfl T.J6 cY (dE (pv 0) (dE (iB (v:=.ty "tuple") rfl T.KN fP rfl) aC))) (jH (eU kl (aX aW rfl T.J0 bU (aD (pv 0) aC)) aF (aT _)) (jI (aX (gC CP) rfl T.J6 cY (dE (aY aZ (pv 0) aF) (dE (iB (v:=.ty "str") rfl T.OR Cj rfl) aC)))))))),?_⟩;refine bJ (K:=K) (d:=.bl (f9 x)) ?_ post
 cases x with
 | tup ds =>
  cases ds with
  | nil=>exact RE.as (eT (c:=false) (dC (aA a)) λ_=>RE.as (eT (c:=true) (cQ (fL (aA a)) aG) λz=>nomatch z) rfl) rfl
  | cons y r =>have l:decide ((0:Int) < (((y::r).length:Nat):Int))=true:=Py (by rw [Pr];lia);refine RE.as (eT (dC (aA a)) λ_=>eT (RE.as (cQ (fL (aA a)) aG) (P1 D.bl l)) λ_=>dC (a6 (k:=0) (aA a) aG (show (y::r)[0]?=some y from rfl))) ?_;cases y <;> rfl
 | int i=>exact RE.as (eT (c:=true) (dC (aA a)) λz=>nomatch z) rfl
 | bl y=>exact RE.as (eT (c:=true) (dC (aA a)) λz=>nomatch z) rfl
 | SO=>exact RE.as (eT (c:=true) (dC (aA a)) λz=>nomatch z) rfl
 | str y=>exact RE.as (eT (c:=true) (dC (aA a)) λz=>nomatch z) rfl
 | lst=>exact RE.as (eT (c:=true) (dC (aA a)) λz=>nomatch z) rfl
theorem yR (T:Txt P w K mg) (L:Ok P w base k T.KH (Tj K pJ)) (M:Ok P w base k T.JX (Tj K fW)):Ok P w base (k+1) T.Ma (Tj K B7):=by
 refine T.Ma.f.ok XD (λvs H Q E h=>?_) (λN A outer s H vs Q E G h=>?_)
 ·obtain ⟨ds,d,t,⟨x,rfl,rfl⟩,_⟩:=h;exact t.length.symm
 have O:=XD.nd;obtain ⟨ds,d,t,⟨x,rfl,rfl⟩,post⟩:=h;obtain ⟨u,rfl,I⟩:=ji t;refine ⟨_,(aE (bE (cW (bR (pc (D:=T.KH) L G (aD (pv 0) aC)) (λ_=>rfl))) (aH (aP d8)) aQ)
 (aE (bQ (i:=1) O rfl (Or.inl rfl) (aY aZ (pv 0) aF))
 (aE (bE (aN nC (pv 1) (bT (v:=.ref T.KP) rfl T.Kn rfl) (by with_unfolding_all rfl)) (aH (aP (jH (eU bV (aX aW rfl T.J0 bU (aD (pv 0) aC)) aF (aT _)) (jI (pc (D:=T.JX) M G (aD (aY aZ (pv 0) aF) (aD aF (aD (aY CT (bT (v:=.ref T.KP) rfl T.Kn rfl) (pv 1)) aC)))))))) aQ)
 (aH (aP (jH (eU nC (pv 1) (bT (v:=.ref T.Kf) rfl T.J3 rfl) (by with_unfolding_all rfl)) (jI (eU bV (aX aW rfl T.J0 bU (aD (pv 0) aC)) (bL cJ aF (aY CT (bT (v:=.ref T.Kf) rfl T.J3 rfl) (pv 1))) (aT _))))))))),?_⟩
 refine aR (K:=K) (b:=!f9 x) (bZ (bO (bM (aB (aA I) aM) ⟨x,rfl,rfl⟩))) (λc S s1=>?_) (λc S s1=>?_)
 ·refine bJ (K:=K) (d:=.bl (fM x)) ?_ λv j s q=>post v j (s1.trans s) q
  have e:fM x=false:=by
   unfold fM;split
   ·unfold f9 at c;simp at c
   ·rfl
  rw [e];exact f7
 ·have l:=s1.dat I;have z:f9 x=true:=by simpa using c
  unfold f9 at z;split at z
  ·rename_i a r;refine eJ (K:=K) (d:=.str a) (a6 (k:=0) (aA l) aG rfl) λv1 H2 B m=>?_;have J:=B.dat l;have U:=m.S5;subst U;refine aR (K:=K) (b:=KTD.inKeys a TL) (aJ (i9 (aA m) T.Ko)) (λo V g=>?_) (λo V g=>?_)
   ·have p:=g.dat J
    have e:fM (.tup (.str a::r))=(decide ((r.length:Int)+1=2) && dM (r.getD 0 .SO) 0 (mX a TL)):=by show (if KTD.inKeys a TL=true then _ else _)=_;rw [Pk o]
    refine bJ (K:=K) (d:=.bl (fM (.tup (.str a::r)))) ?_ λv j s q=>post v j (s1.trans (B.trans (g.trans s))) q;rw [e];have C:((((D.str a)::r).length:Nat):Int)=(r.length:Int)+1:=by rw [Pr];lia
    have n:=mV (K:=K) (fL (aA (σ:=(start ["thing","kind"] [u]).set 1 (some (.str a))) (k:=0) p)) (aG (i:=2));rw [C] at n;refine eT n λX=>?_;have F:(r.length:Int)+1=2:=Pq X
    obtain ⟨y,Y⟩:∃ y,r=[y]:=by
     match r,F with
     | [],h=>simp at h
     | [y],_=>exact ⟨y,rfl⟩
     | _::_::_,h=>simp at h;lia
    subst Y;refine bM (E:=E0) (R:=fW) (aB (a6 (k:=1) (aA p) aG rfl) (aB aG (aB (xS (aA (g.dat m)) T.Ko (by rfl) (Jz GU o)) aM))) ⟨y,0,mX a TL,rfl,rfl⟩
   ·have p:=g.dat J
    have e:fM (.tup (.str a::r))=(KTD.inKeys a TB && decide ((r.length:Int)+1=1+mX a TB)):=by show (if KTD.inKeys a TL=true then _ else _)=_;rw [M1 (by rw [o];exact Pp)]
    refine bJ (K:=K) (d:=.bl (fM (.tup (.str a::r)))) ?_ λv j s q=>post v j (s1.trans (B.trans (g.trans s))) q;rw [e];have C:((((D.str a)::r).length:Nat):Int)=(r.length:Int)+1:=by rw [Pr];lia
    refine eT (i9 (aA (g.dat m)) T.J4) λZ=>?_;have n:=mV (K:=K) (fL (aA (σ:=(start ["thing","kind"] [u]).set 1 (some (.str a))) (k:=0) p)) (c8 (aG (i:=1)) (xS (aA (σ:=(start ["thing","kind"] [u]).set 1 (some (.str a))) (k:=1) (g.dat m)) T.J4 (by rfl) (Jz GS Z)));rw [C] at n;exact n
  ·cases z
theorem pG (T:Txt P w K mg)  : Ok P w base (k+1) T.J5 (Tj K jl):=by
 refine T.J5.f.ok VL (λvs H Q E h=>?_) (λj A outer s H vs Q E n h=>?_)
 ·obtain ⟨ds,d,g,⟨e,r,rfl,rfl⟩,_⟩:=h;exact g.length.symm
 have o:=VL.nd;obtain ⟨ds,d,g,⟨e,r,rfl,rfl⟩,post⟩:=h;obtain ⟨l,rfl,i⟩:=ji g;refine ⟨_,(aE (bE (aN nC (aY aZ (pv 0) aF) (bT (v:=.ref T.Kf) rfl T.J3 rfl) (by with_unfolding_all rfl)) (aH (aP (jJ rL (pv 0) (iY aF) pO))) aQ)
 (aH (aP (bA aC)))),?_⟩
 refine aR (K:=K) (b:=KTD.inKeys e TB) (aJ (i9 (a6 (k:=0) (aA i) aG rfl) T.J4)) (λc m s1=>?_) (λc m s1=>?_)
 ·refine bJ (K:=K) (d:=.tup r) (mh (aA (s1.dat i))) λv a s q=>post v a (s1.trans s) ?_;show Dat K a (.tup (if KTD.inKeys e TB=true then r else [])) v;rw [Pk c];exact q
 ·refine bJ (K:=K) (σ:=start ["tree"] [l]) (d:=.tup []) (bF aM) λv a s q=>post v a (s1.trans s) ?_;show Dat K a (.tup (if KTD.inKeys e TB=true then r else [])) v;rw [M1 (by rw [c];exact Pp)];exact q
theorem Dx {ns:List Int} {k:Int} (a:0<=k) (b:k < (ns.length:Int)):∃ z,YZ (ns.map V.int) k=some (.int z):=by
 have hk:k.toNat < ns.length:=by lia
 refine ⟨ns[k.toNat],?_⟩;have e:k=((k.toNat:Nat):Int):=by lia
 have q:YZ (ns.map V.int) ((k.toNat:Nat):Int)=some (.int ns[k.toNat]):=jT (by rw [Pw,Pg hk] <;> rfl);rw [<- e] at q;exact q
theorem uW (T:Txt P w K mg)  : Ok P w base (k+1) T.Ka (rN K):=by
 refine T.Ka.f.ok WT (λvs H Q E h=>?_) (λN A outer s H vs Q E O h=>?_)
 ·obtain ⟨a,t,ns,m,p,q,rest,rfl,_⟩:=h;rfl
 have x:=WT.nd;obtain ⟨a,t,ns,m,p,q,rest,rfl,I,g,J,e,R,post⟩:=h;refine ⟨_,(aE (bE (aN kl (aY bX (pv 1) aF) aF (aT _)) (aE (bQ (i:=3) x rfl (Or.inl rfl) (bL eZ (aY bX (pv 1) aF) (pv 2)))
 (aE (gH (bL nB (aY bX (pv 1) aF) (pv 2)) (vF (pv 1) aF nN))
 (aH (aP (pv 3))))) aQ)
 (aE (bQ (i:=4) x rfl (Or.inl rfl) (aY bX (pv 1) aF))
 (aE (Ax (pv 1) aF xg aF uN nN)
 (aE (bE (aN (vA O) (pv 0) (bY aC) (aT _)) (aH (aP (bL eZ (pv 4) (pv 2)))) aQ)
 (aE (bE (PW.pt (rj (aN km (pv 4) (aX aW rfl T.J0 bU (aD (pv 0) aC)) (aT _)) (nF (aN tH (aY bX (pv 0) (pv 4)) (bL vC aF aF) (aT _))))) (aE (gH (bL eZ (bL nB (aY bX (pv 0) (pv 4)) (pv 2)) (bL Fm (bL vC aF aF) (bL vC aF aF))) (vF (pv 1) aF nN))
 (aH (aP (bL eZ (aY bX (pv 0) (pv 4)) (pv 2))))) aQ)
 (aE (bQ (i:=5) x rfl (Or.inl rfl) (bL eZ (bL cJ (bL cJ (bL ow (aY bX (pv 0) (bL eZ (pv 4) (aX aW rfl T.J0 bU (aD (pv 0) aC)))) aF) (bL ow aF (pv 4))) aF) aF))
 (aH (aP (bL eZ (bL eZ (bL eZ (bL vC (pv 5) aF) aF) aF) (pv 2)))))))))),?_⟩
 refine ⟨_,rfl,t,_,1,_,rfl,rfl,SR.of g,at1,q,0,rfl,rfl,_,rfl,?_⟩;refine sj (λc=>?_) (λc=>?_)
 ·refine ⟨_,rfl,t,_,1,_,rfl,rfl,SR.of g,at1,_,rfl,q,m,rfl,rfl,e,?_⟩;refine ⟨_,rfl,t,_,1,_,rfl,rfl,SR.of g,at1,_,rfl,q,m,rfl,rfl,⟨e,by lia⟩,?_⟩;refine ⟨_,rfl,t,_,1,1,rfl,rfl,g,ix1,?_⟩;refine ⟨_,rfl,?_⟩;exact post (q % m) _ p (q / m) (S6.upd (SJ.refl H).but) aI J (Qp _ (by lia)) (Qj _ e)
 refine ⟨_,rfl,t,_,0,_,rfl,rfl,SR.of g,at0,?_⟩;refine ⟨_,rfl,t,_,0,_,rfl,rfl,RP 0,SR.of g,rfl,p,1,rfl,rfl,t,_,0,0,rfl,rfl,g,ix0,?_⟩;refine ⟨_,rfl,(by show 0<=sizeLine;decide),λl y=>?_⟩;have B:S6 t H (upd H t (.lst ((V.int p::.int q::rest).set 0 (.int (p+1))))):=S6.upd (SJ.refl H).but;have C:l≠t:=λz=>by rw [z,aI] at y;cases y
 have d:=B.trans (aV y (.lst [])).but
 have j:upd (upd H t (.lst ((V.int p::.int q::rest).set 0 (.int (p+1))))) l (.lst []) t=some (.lst (.int (p+1)::.int q::rest)):=by rw [aS (PN C)];exact aI
 have o:=(I.but d g).WC;have b:((ns.map V.int).length:Int)=(ns.length:Int):=by rw [Pf]
 refine ⟨a,l,_,[],ns.map D.int,[],rfl,rfl,o,SR.of aI,dN ns,SI.nil,jy ns,(by unfold Tn;rfl),(by rw [i6];decide),_,rfl,?_⟩;show (if Tf (ns.map D.int) []=true then _ else _);rw [qt];refine sj (λL=>?_) (λL=>?_)
 ·refine ⟨_,rfl,_,rfl,p,m,rfl,rfl,e,?_⟩;exact post _ _ (p+1) q d j (by lia) (Qp _ (by lia)) (Qj _ e)
 have v:(0:Int) < ((ns.map V.int).length:Int):=by
  rw [b]
  cases ns with
  | nil=>exact absurd rfl L
  | cons n ns=>rw [Pr];lia
 refine ⟨_,rfl,_,rfl,a,_,rfl,.inl o,p,_,rfl,rfl,_,rfl,?_⟩;refine sj (λM=>?_) (λM=>?_)
 ·have F:p < ((ns.map V.int).length:Int):=Pq M;obtain ⟨z,G⟩:=Dx (ns:=ns) J (by rw [<- b];exact F);refine ⟨_,rfl,_,rfl,a,_,p,_,rfl,rfl,o,G,10,18,rfl,rfl,⟨by decide,by decide,by decide⟩,z,_,rfl,rfl,_,rfl,?_⟩;refine sj (λS=>?_) (λS=>?_)
  ·refine ⟨_,rfl,_,rfl,a,_,p,_,rfl,rfl,o,G,_,rfl,z,m,rfl,rfl,⟨e,by lia⟩,10,60,rfl,rfl,⟨by decide,by decide,by decide⟩,10,60,rfl,rfl,⟨by decide,by decide,by decide⟩,_,_,rfl,rfl,IntMulOk.of_bits (by decide +kernel) (by decide +kernel),_,_,rfl,rfl,(by show (0:Int) < 10 ^ (60:Int).toNat * 10 ^ (60:Int).toNat;decide +kernel),?_⟩;refine ⟨_,rfl,t,_,1,1,rfl,rfl,j,ix1,?_⟩;refine ⟨_,rfl,_,rfl,a,_,p,_,rfl,rfl,(I.but d.upd g).WC,G,_,rfl,z,m,rfl,rfl,e,?_⟩;exact post _ _ (p+1) _ d.upd aI (by lia) (Qp _ (by lia)) (Qj _ e)
  ·refine ⟨_,rfl,_,rfl,_,rfl,a,_,rfl,.inl o,p,_,rfl,rfl,v,?_⟩;obtain ⟨r,u⟩:=Dx (ns:=ns) (Qp p (by lia:((ns.map V.int).length:Int)≠0)) (by rw [<- b];exact Qj p v);refine ⟨a,_,_,_,rfl,rfl,o,u,r,1103515245,rfl,rfl,.inr ⟨by decide,by decide⟩,_,rfl,7919,p,rfl,rfl,.inl ⟨by decide,by decide⟩,_,_,rfl,rfl,_,_,rfl,rfl,_,_,rfl,rfl,(by show (0:Int) < 2147483647;decide),?_⟩;have U:=Qp (r * 1103515245+7919 * p+12345) (by decide:(2147483647:Int)≠0);have X:=Qj (r * 1103515245+7919 * p+12345) (by decide:(0:Int) < 2147483647);refine ⟨_,rfl,_,5,rfl,rfl,⟨by decide,by decide,by lia⟩,_,_,rfl,rfl,(by show (0:Int) < 2147483647;decide),_,_,rfl,rfl,(by show (0:Int) < 999983;decide),_,rfl,_,m,rfl,rfl,e,?_⟩;exact post _ _ (p+1) q d j (by lia) (Qp _ (by lia)) (Qj _ e)
 ·refine ⟨_,rfl,_,rfl,_,rfl,a,_,rfl,.inl o,p,_,rfl,rfl,v,?_⟩;obtain ⟨r,u⟩:=Dx (ns:=ns) (Qp p (by lia:((ns.map V.int).length:Int)≠0)) (by rw [<- b];exact Qj p v);refine ⟨a,_,_,_,rfl,rfl,o,u,r,1103515245,rfl,rfl,.inr ⟨by decide,by decide⟩,_,rfl,7919,p,rfl,rfl,.inl ⟨by decide,by decide⟩,_,_,rfl,rfl,_,_,rfl,rfl,_,_,rfl,rfl,(by show (0:Int) < 2147483647;decide),?_⟩;have U:=Qp (r * 1103515245+7919 * p+12345) (by decide:(2147483647:Int)≠0);have X:=Qj (r * 1103515245+7919 * p+12345) (by decide:(0:Int) < 2147483647);refine ⟨_,rfl,_,5,rfl,rfl,⟨by decide,by decide,by lia⟩,_,_,rfl,rfl,(by show (0:Int) < 2147483647;decide),_,_,rfl,rfl,(by show (0:Int) < 999983;decide),_,rfl,_,m,rfl,rfl,e,?_⟩;exact post _ _ (p+1) q d j (by lia) (Qp _ (by lia)) (Qj _ e)
noncomputable def wc (K:W.Frag):Sp:=λvs H Q _=>∃ (a t l:Addr) (ns:List Int) (xs:List V) (p q:Int) (rest:List V),vs=[.ref a,.ref t,.ref l]/\Yw K H a ns/\SR K H l xs/\l≠t/\0 < xs.length/\xs.length<=1000000 /\
 H t=some (.lst (.int p::.int q::rest))/\0<=p/\∀ (i:Nat) (x:V) (b:Hp) (c q':Int),S6 t H b->b t=some (.lst (.int c::.int q'::rest))->0<=c->xs[i]?=some x->Q x b
theorem va (T:Txt P w K mg) (g:Ok P w base k T.Ka (rN K)):Ok P w base (k+1) T.Kt (wc K):=by
 refine T.Kt.f.ok WU (λvs H Q E h=>?_) (λi A outer s H vs Q E j h=>?_)
 ·obtain ⟨a,t,l,ns,xs,p,q,rest,rfl,_⟩:=h;rfl
 have G:=WU.nd;obtain ⟨a,t,l,ns,xs,p,q,rest,rfl,m,d,c,n,o,u,v,post⟩:=h;refine ⟨_,(aH (aP (aY bX (pv 2) (pc (D:=T.Ka) g j (aD (pv 0) (aD (pv 1) (aD (aX aW rfl T.J0 bU (aD (pv 2) aC)) aC))))))),?_⟩;refine ⟨_,rfl,_,rfl,_,rfl,_,rfl,l,xs,rfl,.inl d,a,t,ns,(xs.length:Int),p,q,rest,rfl,m,u,v,by lia,by lia,λr x p1 y e B C I J=>?_⟩;have b:r.toNat < xs.length:=by lia
 have F:r=((r.toNat:Nat):Int):=by lia
 have z:YZ xs ((r.toNat:Nat):Int)=some xs[r.toNat]:=jT (Pg b);rw [<- F] at z;exact ⟨l,xs,r,xs[r.toNat],rfl,rfl,e.WC c d,z,post r.toNat _ x p1 y e B C (Pg b)⟩
end
inductive Tr where
 | num (n:Int)
 | arg (k:Int)
 | two (o:Str) (a b:Tr)
 | pick (a b c:Tr)
noncomputable def toD:Tr->D
 | .num n=>.tup [.str "num",.int n]
 | .arg k=>.tup [.str "arg",.int k]
 | .two o a b=>.tup [.str o,toD a,toD b]
 | .pick a b c=>.tup [.str "pick",toD a,toD b,toD c]
noncomputable def UQ:Tr->Prop
 | .num n=>0<=n/\n<=9999
 | .arg k=>0<=k/\k<=3
 | .two o a b=>(o="add"\/o="sub"\/o="mul"\/o="less")/\UQ a/\UQ b
 | .pick a b c=>UQ a/\UQ b/\UQ c
noncomputable def a9:Tr->Nat
 | .num _=>1
 | .arg _=>1
 | .two _ a b=>max (a9 a) (a9 b)+1
 | .pick a b c=>max (a9 a) (max (a9 b) (a9 c))+1
noncomputable def bB:Tr->Nat
 | .num _=>1
 | .arg _=>1
 | .two _ a b=>bB a+bB b+1
 | .pick a b c=>bB a+bB b+bB c+1
noncomputable def dR:Tr->List Tr
 | .num _=>[]
 | .arg _=>[]
 | .two _ a b=>[a,b]
 | .pick a b c=>[a,b,c]
noncomputable def bC:Tr->List Tr
 | .num n=>[.num n]
 | .arg k=>[.arg k]
 | .two o a b=>.two o a b::(bC a++bC b)
 | .pick a b c=>.pick a b c::(bC a++bC b++bC c)
theorem cE:∀ t:Tr,(bC t).length=bB t
 | .num _=>rfl
 | .arg _=>rfl
 | .two _ a b=>by simp only [bC,bB,Pr,tB,cE a,cE b]
 | .pick a b c=>by simp only [bC,bB,Pr,tB,cE a,cE b,cE c]
theorem kh (t:Tr):1<=a9 t:=by cases t <;> simp [a9]
theorem Dh {o:Str} (h:o="add"\/o="sub"\/o="mul"\/o="less"):KTD.inKeys o TL=false/\KTD.inKeys o TB=true/\mX o TB=2:=by rcases h with rfl | rfl | rfl | rfl <;> decide +kernel
theorem Bq:KTD.inKeys ("pick":Str) TL=false/\KTD.inKeys ("pick":Str) TB=true/\mX ("pick":Str) TB=3:=by decide +kernel
theorem Dg:KTD.inKeys ("num":Str) TL=true/\KTD.inKeys ("num":Str) TB=false/\mX ("num":Str) TL=9999:=by decide +kernel
theorem De:KTD.inKeys ("arg":Str) TL=true/\KTD.inKeys ("arg":Str) TB=false/\mX ("arg":Str) TL=3:=by decide +kernel
variable {r:List D}
theorem qQ {k:Str} (h:KTD.inKeys k TL=true):fM (.tup (.str k::r))=(decide ((r.length:Int)+1=2) && dM (r.getD 0 .SO) 0 (mX k TL)):=by unfold fM;dsimp only;rw [Pk h]
theorem qP {k:Str} (h:KTD.inKeys k TL=false):fM (.tup (.str k::r))=(KTD.inKeys k TB && decide ((r.length:Int)+1=1+mX k TB)):=by unfold fM;dsimp only;rw [M1 (by rw [h];exact Pp)]
theorem xk {k:Str} (h:KTD.inKeys k TB=true):dQ (.tup (.str k::r))=r:=by unfold dQ;dsimp only;rw [Pk h]
theorem oh {k:Str} (h:KTD.inKeys k TB=false):dQ (.tup (.str k::r))=[]:=by unfold dQ;dsimp only;rw [M1 (by rw [h];exact Pp)]
theorem nr:∀ t:Tr,UQ t->fM (toD t)=true/\dQ (toD t)=(dR t).map toD
 | .num n,h=>by obtain ⟨e,d,f⟩:=Dg;refine ⟨?_,oh d⟩;unfold toD;rw [qQ e,f];show (decide ((1:Int)+1=2) && (decide (0<=n) && decide (n<=9999)))=true;simp [h.1,h.2]
 | .arg n,h=>by obtain ⟨e,d,f⟩:=De;refine ⟨?_,oh d⟩;unfold toD;rw [qQ e,f];show (decide ((1:Int)+1=2) && (decide (0<=n) && decide (n<=3)))=true;simp [h.1,h.2]
 | .two o a b,h=>by obtain ⟨e,d,f⟩:=Dh h.1;refine ⟨?_,xk d⟩;unfold toD;rw [qP e,d,f];rfl
 | .pick a b c,h=>by obtain ⟨e,d,f⟩:=Bq;refine ⟨?_,xk d⟩;unfold toD;rw [qP e,d,f];rfl
noncomputable def mz:Nat->List (D × Int)->Int->Bool
 | 0,_,_=>false
 | _+1,[],_=>true
 | n+1,(d,a)::st,p=>if (decide (40 < p+1) || (decide (8 < a) || !fM d))=true then false else mz n (((dQ d).map λx=>(x,a+1)).reverse++st) (p+1)
noncomputable def iW (d:D):Bool:=mz 50 [(d,1)] 0
theorem md {n:Nat} {d:D} {a:Int} {st:List (D × Int)} {p:Int} (c:p+1<=40) (e:a<=8) (b:fM d=true):mz (n+1) ((d,a)::st) p=mz n (((dQ d).map λx=>(x,a+1)).reverse++st) (p+1):=by show (if _=true then false else _)=_;rw [M1];simp [b];lia
theorem jx:∀ (t:Tr),UQ t->∀ (n:Nat) (d:Int) (st:List (D × Int)) (p:Int),(a9 t:Int)+d<=9->p+(bB t:Int)<=40->mz (n+bB t) ((toD t,d)::st) p=mz n st (p+bB t)
 | .num m,h,n,d,st,p,e,f=>by obtain ⟨g,i⟩:=nr (.num m) h;simp only [a9,bB] at e f ⊢;rw [md (by lia) (by lia) g,i];rfl
 | .arg m,h,n,d,st,p,e,f=>by obtain ⟨g,i⟩:=nr (.arg m) h;simp only [a9,bB] at e f ⊢;rw [md (by lia) (by lia) g,i];rfl
 | .two o a b,h,n,d,st,p,e,f=>by
  obtain ⟨g,i⟩:=nr (.two o a b) h;have l:=kh a;simp only [a9,bB] at e f ⊢;have j:(a9 a:Int)+(d+1)<=9:=by lia
  have k:(a9 b:Int)+(d+1)<=9:=by lia
  rw [show n+(bB a+bB b+1)=(n+bB a+bB b)+1 by lia,md (by lia) (by lia) g,i];show mz (n+bB a+bB b) ((toD b,d+1)::(toD a,d+1)::st) (p+1)=_;rw [jx b h.2.2 (n+bB a) (d+1) ((toD a,d+1)::st) (p+1) k (by lia),jx a h.2.1 n (d+1) st _ j (by lia)];congr 1;lia
 | .pick a b c,h,n,d,st,p,e,f=>by
  obtain ⟨g,i⟩:=nr (.pick a b c) h;have l:=kh a;simp only [a9,bB] at e f ⊢;have j:(a9 a:Int)+(d+1)<=9:=by lia
  have k:(a9 b:Int)+(d+1)<=9:=by lia
  have q:(a9 c:Int)+(d+1)<=9:=by lia
  rw [show n+(bB a+bB b+bB c+1)=(n+bB a+bB b+bB c)+1 by lia,md (by lia) (by lia) g,i];show mz (n+bB a+bB b+bB c) ((toD c,d+1)::(toD b,d+1)::(toD a,d+1)::st) (p+1)=_;rw [jx c h.2.2 (n+bB a+bB b) (d+1) _ (p+1) q (by lia),jx b h.2.1 (n+bB a) (d+1) _ _ k (by lia),jx a h.1 n (d+1) st _ j (by lia)];congr 1;lia
theorem F8 {t:Tr} (h:UQ t) (a:a9 t<=8) (b:bB t<=40):iW (toD t)=true:=by
 have q:=jx t h (50 - bB t) 1 [] 0 (by lia) (by lia);rw [show 50 - bB t+bB t=50 by lia] at q;unfold iW;rw [q];obtain ⟨m,e⟩:∃ m,50 - bB t=m+1:=⟨50 - bB t - 1,by lia⟩
 rw [e];rfl
section
variable {P:Program} {w:World} {K:W.Frag} {mg:Str->Option Value} {base:Heap} {k:Nat}
noncomputable def mu2 (σ:L2.St) (_:Hp):Nat:=match σ[2]? with
 | some (some (V.int p))=>(50 - p).toNat
 | _=>0
noncomputable def zH (ds:List D) (d:D):Prop:=∃ x,ds=[x]/\d=.bl (iW x)
noncomputable abbrev pr (x:D × Int):D:=.tup [x.1,.int x.2]
variable {H:Hp}
theorem sU {K:W.Frag} {b:D}:∀ {as:List D} {vs:List V},SI K H (as++[b]) vs->∃ us v,vs=us++[v]/\SI K H as us/\Dat K H b v
 | [],vs,h=>by obtain ⟨v,e,q⟩:=ji h;exact ⟨[],v,e,SI.nil,q⟩
 | a::as,vs,h=>by obtain ⟨u,r,e,c,d⟩:=h.Tu;obtain ⟨us,v,f,g,i⟩:=sU d;subst f e;exact ⟨u::us,v,rfl,SI.cons c g,i⟩
theorem Gb (k:Str):mX k TB<=3:=by
 unfold mX;split
 ·rename_i i e;simp only [TB,KTD.datumAt] at e
  repeat' split at e
  all_goals first
   | (cases e;decide)
   | cases e
 ·decide
variable {d:D}
theorem qH (h:fM d=true):(dQ d).length<=3:=by
 unfold fM at h;split at h
 ·rename_i k r;unfold dQ;dsimp only;split
  ·rename_i a;split at h
   ·rw [Pz] at h;have z:=Pq h.1;lia
   ·rw [Pz] at h;have z:=Pq h.2;have b:=Gb k;lia
  ·exact QA _
 ·cases h
theorem qR (h:fM d=true):∃ k r,d=.tup (.str k::r):=by
 unfold fM at h;split at h
 ·exact ⟨_,_,rfl⟩
 ·cases h
theorem yS (T:Txt P w K mg) (Nq:Ok P w base k T.Ma (Tj K B7)) (Ki:Ok P w base k T.J5 (Tj K jl)):Ok P w base (k+1) T.M4 (Tj K zH):=by
 refine T.M4.f.ok XE (λvs H Q E h=>?_) (λcdv A outer s H vs Q E hr h=>?_)
 ·obtain ⟨ds,d,u,⟨x,rfl,rfl⟩,_⟩:=h;exact u.length.symm
 have C:=XE.nd;obtain ⟨ds,d,u,⟨x,rfl,rfl⟩,post⟩:=h;obtain ⟨v0,rfl,h0⟩:=ji u;refine ⟨_,(aE (bQ (i:=1) C rfl (Or.inl rfl) (bY (aD (bA (aD (pv 0) (aD aF aC))) aC)))
 (aE (bQ (i:=2) C rfl (Or.inl rfl) aF)
 (aE (rh Qv (bR (pv 1) (λ_=>rfl)) (aE (gH (lJ PJ QM Q3 lD (pv 1)) (gF rfl (bN (a7 (i:=3) C rfl (Or.inl rfl)) (bN (a7 (i:=4) C rfl (Or.inr rfl)) eH))))
 (aE (yZ (i:=2) C rfl (Or.inl rfl) aF uN)
 (aE (bE (PW.pt (fH (aN kl (pv 2) (bT (v:=.int 40) rfl T.K4 ⟨_,rfl⟩) (aT _)) (fH (aN kl (pv 4) (bT (v:=.int 8) rfl T.Lh ⟨_,rfl⟩) (aT _)) (eR (cW (bR (pc (D:=T.Ma) Nq hr (aD (pv 3) aC)) (λ_=>rfl))))))) (aH (aP d8)) aQ)
 (aH (bP (fF PJ Ra Rw ki (pv 1) (aD (eV (own:=["within"]) (fr:=[4]) (N':=["within","deep"]) (kE (pc (D:=T.J5) Ki hr (aD (pv 3) aC))) rfl (by show dS ["thing","waiting","parts","part","deep"] (λx=>(aK oH).names.lookup x) _ _ _ _=true;decide +kernel) rfl (λ_ _ _ _ _=>(a7 (i:=0) (by show List.Nodup [("within":Str),("deep":Str)];decide +kernel) rfl (Or.inl rfl))) (λ_ _ _ _ _=>c7) (λ_ _ _ _ _=>(bA (aD (pv 0) (aD (bL cJ (pv 1) aF) aC))))) aC))))))))
 (aH (aP d8))))),?_⟩
 refine fR (zo (K:=K) (aB (bF (aB (aA h0) (aB aG aM))) aM) λg F H1 s1 X q1=>?_);have I:H g=none:=s1.free X;have Y:SJ H (upd H1 g (.lst F)):=s1.trans (aV X _)
 refine fR (DZ (eB (rX (λσ G=>∃ (st:List (D × Int)) (p:Int) (n:Nat) (xs:List V) (z3 z4:Option V),σ=[some v0,some (.ref g),some (.int p),z3,z4]/\G g=some (.lst xs)/\SI K G (st.reverse.map pr) xs/\SJ H G/\mz n st p=iW x/\0<=p/\p<=40/\(n:Int)=50 - p/\(xs.length:Int)<=1+3 * p)
  mu2 ?_ ?_ ?_)))
 ·refine ⟨[(x,1)],0,50,F,none,none,rfl,aI,(aV X _).SV q1,Y,rfl,by decide,by decide,by decide,?_⟩;rw [<- q1.length];simp
 ·rintro σ G ⟨st,p,n,xs,z3,z4,rfl,J,u,sG,lp,p0,p1,en,lx⟩;refine ⟨_,rfl,!xs.isEmpty,.inl ⟨xs,SR.of J,rfl⟩,?_⟩
  cases st with
  | nil =>
   have ex:=u.V1;subst ex;rw [M1 (by simp)];obtain ⟨m,rfl⟩:∃ m,n=m+1:=⟨n - 1,by lia⟩
   have j:iW x=true:=lp.symm;refine post _ _ sG ?_;rw [j];exact Dat.VY _
  | cons e st =>
   obtain ⟨y,t⟩:=e;rw [RD,P0] at u;obtain ⟨us,v,ex,hu,hv⟩:=sU u;subst ex;obtain ⟨a,ws,ev,hq,Z⟩:=hv.S9;obtain ⟨vy,vd,ew,hy,hdp⟩:=i5 Z;have edp:=hdp.SQ;subst edp ew ev;rw [Pk (by simp)];refine ⟨_,rfl,.inl ⟨rfl,_,SR.of J⟩,g,us++[.ref a],.ref a,rfl,rfl,J,(by simp),?_⟩;rw [Q4];have bt:S6 g G (upd G g (.lst us)):=S6.upd (SJ.refl G).but;have g2:gA K G (upd G g (.lst us)):=bt.grow J aI;refine ⟨a,[vy,.int t],rfl,bt.YD J hq,rfl,vy,_,rfl,.int t,_,rfl,rfl,?_⟩;have s2:SJ H (upd G g (.lst us)):=λb o L=>bt b o (aU L I) (sG b o L);have M:=Dat.mono g2 _ hy;have hu2:=SI.mono g2 _ hu;refine ⟨_,rfl,p,1,rfl,rfl,?_⟩;dsimp only;refine aR (K:=K) (b:=decide (40 < p+1) || (decide (8 < t) || !fM y)) ?_ (λc H3 B=>?_) (λc H3 B=>?_)
   ·exact dP (aJ (cQ (aA (K:=K) (Dat.SN (p+1))) aG)) λ_=>dP (aJ (cQ (aA (K:=K) (Dat.SN t)) aG)) λ_=>bZ (bO (bM (aB (aA M) aM) ⟨y,rfl,rfl⟩))
   ·refine post _ _ (s2.trans B) ?_;obtain ⟨m,rfl⟩:∃ m,n=m+1:=⟨n - 1,by lia⟩
    have j:iW x=false:=by rw [<- lp];show (if (decide (40 < p+1) || (decide (8 < t) || !fM y))=true then false else _)=false;rw [Pk c]
    rw [j];exact Dat.VY _
   ·obtain ⟨m,rfl⟩:∃ m,n=m+1:=⟨n - 1,by lia⟩
    have j:mz m (((dQ y).map λx=>(x,t+1)).reverse++st) (p+1)=iW x:=by
     rw [<- lp];show _=(if (decide (40 < p+1) || (decide (8 < t) || !fM y))=true then false else _)
     rw [M1 (by rw [c];exact Pp)]
    simp only [QI,decide_eq_false_iff_not,RU] at c;obtain ⟨c1,c2,c3⟩:=c;obtain ⟨kd,r,ey⟩:=qR c3;have few:=qH c3;have N:=B _ _ (show upd G g (.lst us) g=some (.lst us) from aI);refine ⟨_,rfl,.inl ⟨rfl,_,SR.of N⟩,?_⟩;refine oB (K:=K) (cs:=dQ y) (bM (R:=jl) (aB (aA (B.dat M)) aM) ⟨kd,r,by rw [ey],by rw [ey]⟩) (by lia) ((dQ y).map λz=>pr (z,t+1)) (Pf _) rfl (λH4 i z vz d s4 hz hi hvz=>?_) (λl ys O hl s5 YE S=>?_)
    ·rw [Pw,hz] at hi;cases hi;exact bF (aB (aA hvz) (aB (c8 (aA (Dat.SN t)) aG) aM))
    ·have U:=s5 _ _ N;have ly:ys.length=(dQ y).length:=by rw [<- S.length,Pf]
     have lu:us.length=st.length:=by rw [<- hu.length,Pf,Ql]
     rw [tB,R7] at lx;have b5:S6 g O (upd O g (.lst (us++ys))):=S6.upd (SJ.refl O).but;have g5:gA K O (upd O g (.lst (us++ys))):=b5.grow U aI;refine ⟨g,l,us,ys,rfl,rfl,U,YE,dB (by lia),?_⟩;refine ⟨⟨_,p+1,m,us++ys,_,_,rfl,aI,?_,?_,j,by lia,by lia,by lia,?_⟩,?_⟩
     ·rw [List.reverse_append,List.reverse_reverse,P0,Rc];exact SI.append (SI.mono g5 _ ((B.trans s5).SV hu2)) (SI.mono g5 _ S)
     ·exact λb o L=>b5 b o (aU L I) (s5 _ _ (B _ _ (s2 _ _ L)))
     ·rw [tB];lia
     ·show (50 - (p+1)).toNat < (50 - p).toNat;lia
 ·intro σ G Q1 Q2 hQ hc;obtain ⟨v,e,k',tr,q⟩:=hc;exact ⟨v,e,k',tr,hQ _ _ q⟩
theorem vt (T:Txt P w K mg) (e:Ok P w base k T.M4 (Tj K zH)):Ok P w base (k+1) T.Mz (Tj K λds d=>∃ x,ds=[x]/\iW x=true/\d=.SO):=by
 refine T.Mz.f.ok WK (λvs H Q E h=>?_) (λg A outer s H vs Q E i h=>?_)
 ·obtain ⟨ds,d,a,⟨x,rfl,_,rfl⟩,_⟩:=h;exact a.length.symm
 have n:=WK.nd;obtain ⟨ds,d,a,⟨x,rfl,j,rfl⟩,post⟩:=h;obtain ⟨o,rfl,l⟩:=ji a;refine ⟨_,(aH (bE (cW (bR (pc (D:=T.M4) e i (aD (pv 0) aC)) (λ_=>rfl))) (aH dF) aQ)),?_⟩;refine jk (b:=!iW x) (bZ (bO (bM (aB (aA l) aM) ⟨x,rfl,rfl⟩))) (λc m s1=>?_) (λc m s1=>?_)
 ·rw [j] at c;cases c
 ·exact post _ _ s1 Dat.X7
noncomputable def nR (n:Nat) (ds es:List D):Prop:=∃ t,ds=[toD t]/\UQ t/\a9 t<=n/\bB t<=200/\es=(bC t).map toD
theorem hU (t:Tr):bC t=t::(dR t).flatMap bC:=by cases t <;> simp [bC,dR]
variable {t x:Tr}
theorem Fb (h:UQ t) (e:x ∈ dR t):UQ x/\a9 x+1<=a9 t/\bB x+1<=bB t:=by
 cases t with
 | num n=>simp [dR] at e
 | arg n=>simp [dR] at e
 | two o a b =>
  simp only [dR,PB,Qa,Qz] at e;rcases e with rfl | rfl
  ·exact ⟨h.2.1,by simp only [a9];lia,by simp only [bB];lia⟩
  ·exact ⟨h.2.2,by simp only [a9];lia,by simp only [bB];lia⟩
 | pick a b c =>
  simp only [dR,PB,Qa,Qz] at e;rcases e with rfl | rfl | rfl
  ·exact ⟨h.1,by simp only [a9];lia,by simp only [bB];lia⟩
  ·exact ⟨h.2.1,by simp only [a9];lia,by simp only [bB];lia⟩
  ·exact ⟨h.2.2,by simp only [a9];lia,by simp only [bB];lia⟩
noncomputable def yb (t:Tr) (i:Nat):List Tr:=t::((dR t).take i).flatMap bC
variable {i:Nat}
theorem BV (h:(dR t)[i]?=some x):yb t (i+1)=yb t i++bC x:=by unfold yb;rw [Qq,h];simp
theorem Et (t:Tr):yb t (dR t).length=bC t:=by unfold yb;rw [QK,hU]
theorem Ga (t:Tr) (i:Nat):(yb t i).length<=bB t:=by
 rw [<- cE t,hU];unfold yb;rw [Pr,Pr]
 have h:((dR t).take i).flatMap bC++((dR t).drop i).flatMap bC=(dR t).flatMap bC:=by rw [<- List.flatMap_append,RI]
 have a:=P1 List.length h;rw [tB] at a;lia
theorem F7 (t:Tr):∃ a r,toD t=.tup (.str a::r):=by cases t <;> exact ⟨_,_,rfl⟩
variable {n:Nat}
theorem Bu (T:Txt P w K mg) (Ki:Ok P w base k T.J5 (Tj K jl)) (NI:Ok P w base k T.Mm (kL K (nR n))):Ok P w base (k+1) T.Mm (kL K (nR (n+1))):=by
 refine T.Mm.f.ok Yk (λvs H Q E h=>?_) (λcdv A outer s H vs Q E S h=>?_)
 ·obtain ⟨ds,es,I,⟨t,rfl,_⟩,_⟩:=h;exact I.length.symm
 have U:=Yk.nd;obtain ⟨ds,es,I,⟨t,rfl,X,hn,hz,rfl⟩,post⟩:=h;obtain ⟨v0,rfl,Y⟩:=ji I;refine ⟨_,(aE (bQ (i:=1) U rfl (Or.inl rfl) (bY (aD (pv 0) aC)))
 (aE (jK Qv rfl (kE (pc (D:=T.J5) Ki S (aD (pv 0) aC))) (a7 (i:=2) U rfl (Or.inl rfl)) (aH (bP (fF PJ Ra Rw ki (pv 1) (aD (pc (D:=T.Mm) NI S (aD (pv 2) aC)) aC)))))
 (aH (aP (pv 1))))),?_⟩
 refine fR (zo (K:=K) (aB (aA Y) aM) λc e H1 s1 J q1=>?_);have g:H c=none:=s1.free J;have j:SJ H (upd H1 c (.lst e)):=s1.trans (aV J _);obtain ⟨kd,r,Z⟩:=F7 t;refine eB (RE.use (bM (R:=jl) (d:=.tup (dQ (toD t))) (aB (aA (K:=K) (k:=0) (j.dat Y)) aM) ⟨kd,r,by rw [Z],by rw [Z]⟩) λv4 H4 L q4=>?_);rw [(nr t X).2] at q4;obtain ⟨a,vs,ea,hq,l⟩:=q4.S9;subst ea;have hl:=l.length;rw [Pf] at hl;refine ⟨a,rfl,⟨vs,hq⟩,Ab (xs:=vs) (λi σ G=>∃ (z:Option V) (ys:List V),σ=[some v0,some (.ref c),z]/\SJ H G/\Ti K G a vs/\SI K G ((dR t).map toD) vs/\G c=some (.lst ys)/\SI K G ((yb t i).map toD) ys) ?_ (λi σ G _ ⟨z,ys,_,_,p,_⟩=>p) ?_ ?_⟩
 ·exact ⟨none,e,rfl,j.trans L,hq,l,L _ _ aI,(show SI K H4 ([t].map toD) e from ((aV J _).trans L).SV q1)⟩
 ·rintro i vx σ G hi ⟨z,ys,rfl,M,m,N,C,q⟩;obtain ⟨dx,ex,hx⟩:=N.Wd hi;rw [Pw] at ex
  cases hk:(dR t)[i]? with
  | none=>rw [hk] at ex;cases ex
  | some x =>
   rw [hk] at ex;cases ex;obtain ⟨k1,k2,k3⟩:=Fb X (PM hk);refine ⟨_,rfl,.inl ⟨rfl,_,SR.of C⟩,_,rfl,[toD x],_,(SI.cons hx SI.nil:SI K G [toD x] [vx]),⟨x,rfl,k1,by lia,by lia,rfl⟩,λr us u v O _ y=>?_⟩;have B:=v _ _ C;have b6:S6 c u (upd u c (.lst (ys++us))):=S6.upd (SJ.refl u).but;have F:gA K u (upd u c (.lst (ys++us))):=b6.grow B aI;have ly:ys.length<=bB t:=by rw [<- q.length,Pf];exact Ga t i
   have lu:us.length=bB x:=by rw [<- y.length,Pf,cE]
   refine ⟨c,r,ys,us,rfl,rfl,B,O,dB (by lia),some vx,ys++us,rfl,λb o hb=>b6 b o (aU hb g) (v _ _ (M _ _ hb)),F.tup _ _ (v.YD m),SI.mono F _ (v.SV N),aI,?_⟩;rw [BV hk,P0];exact SI.append (SI.mono F _ (v.SV q)) (SI.mono F _ y)
 ·rintro σ G ⟨z,ys,rfl,M,m,N,C,q⟩;refine ⟨_,rfl,post c ys G M C g ?_⟩;rw [<- hl,Et] at q;exact q
noncomputable def rO (K:W.Frag) (n:Nat):Sp:=λvs H Q _=>∃ (a t:Addr) (ns:List Int) (room p q c:Int),vs=[.ref a,.ref t,.int room]/\Yw K H a ns/\H t=some (.lst [.int p,.int q,.int c])/\0<=p/\0<=c/\c<=60/\room<=n/\1<=n /\
 ∀ (v:V) (b:Hp) (X:Tr) (f q' e:Int),S6 t H b->b t=some (.lst [.int f,.int q',.int e])->0<=f->0<=e->e<=c->UQ X->((a9 X:Int)=1\/(a9 X:Int)<=room)->(bB X:Int)<=1+3 * (c - e)->Dat K b (toD X) v->Q v b
noncomputable def ya (Ts:List Tr):Nat:=(Ts.map bB).sum
theorem BQ (Ts:List Tr) (x:Tr):ya (Ts++[x])=ya Ts+bB x:=by simp [ya]
noncomputable def Gm:Tr->Prop
 | .num n=>0<=n/\n<=9999
 | .arg k=>0<=k/\k<=3
 | _=>False
theorem Fe (h:Gm x):UQ x/\a9 x=1/\bB x=1:=by
 cases x with
 | num n=>exact ⟨h,rfl,rfl⟩
 | arg n=>exact ⟨h,rfl,rfl⟩
 | two o a b=>exact h.elim
 | pick a b c=>exact h.elim
variable {nm:Str}
theorem Ei {Ts:List Tr} {room:Int} (m:2<=room) (ok:∀ x ∈ Ts,UQ x/\((a9 x:Int)=1\/(a9 x:Int)<=room - 1)) (h:(nm="pick"/\Ts.length=3)\/((nm="add"\/nm="sub"\/nm="mul"\/nm="less")/\Ts.length=2)) :
  ∃ X:Tr,toD X=.tup (.str nm::Ts.map toD)/\UQ X/\(a9 X:Int)<=room/\bB X=1+ya Ts:=by
 rcases h with ⟨rfl,e⟩ | ⟨j,e⟩
 ·match Ts,e with
  | [a,b,c],_ =>
   have f:=ok a (by simp);have g:=ok b (by simp);have l:=ok c (by simp);refine ⟨.pick a b c,rfl,⟨f.1,g.1,l.1⟩,?_,?_⟩
   ·simp only [a9];lia
   ·simp [bB,ya];lia
 ·match Ts,e with
  | [a,b],_ =>
   have f:=ok a (by simp);have g:=ok b (by simp);refine ⟨.two nm a b,rfl,⟨j,f.1,g.1⟩,?_,?_⟩
   ·simp only [a9];lia
   ·simp [bB,ya];lia
theorem ve (T:Txt P w K mg) (Kr:Ok P w base k T.Ka (rN K)) (Lf:Ok P w base k T.Kt (wc K)) (MN:Ok P w base k T.K0 (rO K n)):Ok P w base (k+1) T.K0 (rO K (n+1)):=by
 refine T.K0.f.ok WV (λvs H Q E h=>?_) (λcdv A outer s H vs Q E hr h=>?_)
 ·obtain ⟨a,t,ns,room,p,q,c,rfl,_⟩:=h;rfl
 have nd:=WV.nd;obtain ⟨a,t,ns,room,p,q,c,rfl,hS,hT,hp,hc,hc2,hroom,_,post⟩:=h;refine ⟨_,(aE (bQ (i:=3) nd rfl (Or.inl rfl) (bA (aD aO (aD (pc (D:=T.Ka) Kr hr (aD (pv 0) (aD (pv 1) (aD aF aC)))) aC))))
 (aE (bE (aN bV (pc (D:=T.Ka) Kr hr (aD (pv 0) (aD (pv 1) (aD aF aC)))) aF (aT _)) (aH (bQ (i:=3) nd rfl (Or.inl rfl) (bA (aD aO (aD (pc (D:=T.Kt) Lf hr (aD (pv 0) (aD (pv 1) (aD (bY (aD aF (aD aF (aD aF (aD aF (aD aF (aD aF (aD aF (aD aF aC))))))))) aC)))) aC))))) aQ)
 (aE (bE (PW.pt (fH (aN km (pv 2) aF (aT _)) (fH (aN km (aY bX (pv 1) aF) aF (aT _)) (eR (aN bV (pc (D:=T.Ka) Kr hr (aD (pv 0) (aD (pv 1) (aD aF aC)))) aF (aT _)))))) (aH (aP (pv 3))) aQ)
 (aE (Ax (pv 1) aF xg aF Hs nN)
 (aE (bQ (i:=4) nd rfl (Or.inl rfl) (pc (D:=T.Kt) Lf hr (aD (pv 0) (aD (pv 1) (aD (bY (aD aO (aD aO (aD aO (aD aO (aD aO (aD aO aC))))))) aC)))))
 (aE (bQ (i:=5) nd rfl (Or.inl rfl) (fG (aN bV (pv 4) aO (aT _)) aF aF))
 (aH (aP (bL Fl (bA (aD (pv 4) aC)) (eP dY rfl T.KN fP (aD (eV (own:=["_law_k"]) (fr:=[0,1,2]) (N':=["_law_k","_law_script","_law_town","_law_room"]) (ko rfl T.MH (aD (pv 5) aC)) rfl (by show dS ["_law_script","_law_town","_law_room","_law_leaf","_law_name","_law_many"] (λx=>(aK lQ).names.lookup x) _ _ _ _=true;decide +kernel) rfl (λ_ _ _ _ _=>(a7 (i:=0) (by show List.Nodup [("_law_k":Str),("_law_script":Str),("_law_town":Str),("_law_room":Str)];decide +kernel) rfl (Or.inl rfl))) (λ_ _ _ _ _=>c7) (λ_ _ _ _ _=>(pc (D:=T.K0) MN hr (aD (pv 1) (aD (pv 2) (aD (bL oy (pv 3) aF) aC)))))) aC))))))))))),?_⟩
 refine fR ⟨_,rfl,_,rfl,a,t,ns,4,p,q,[.int c],rfl,hS,hT,hp,by decide,by decide,λr1 H1 p1 q1 b1 t1 g1 r1a r1b=>⟨dB (by simp),λl1 U=>?_⟩⟩;have ne1:l1≠t:=λz=>by rw [z,t1] at U;cases U
 have b2:=b1.trans (aV U (.tup [.str "arg",.int r1])).but;have t2:upd H1 l1 (.tup [.str "arg",.int r1]) t=some (.lst [.int p1,.int q1,.int c]):=by rw [aS (PN ne1)];exact t1
 have d2:Dat K (upd H1 l1 (.tup [.str "arg",.int r1])) (toD (.arg r1)) (.ref l1):=Dat.tupI (Ti.of aI) (SI.cons (Dat.Th _) (SI.cons (Dat.SN _) SI.nil));refine pR (λσ G=>∃ (vL:V) (L:Tr) (p q:Int),σ=[some (.ref a),some (.ref t),some (.int room),some vL,none,none]/\S6 t H G/\G t=some (.lst [.int p,.int q,.int c])/\0<=p/\Gm L/\Dat K G (toD L) vL) ?_ (λj=>?_)
 case refine_2 =>
  refine ⟨_,rfl,_,rfl,a,t,ns,2,p1,q1,[.int c],rfl,hS.but b2 hT,t2,g1,by decide,by decide,λr3 H3 p3 q3 b3 N O r3a r3b=>?_⟩;refine ⟨rfl,_,rfl,?_⟩;refine sj (λcc=>?_) (λcc=>?_)
  ·refine ⟨_,rfl,_,rfl,dB (by decide),λl y=>?_⟩;have F:l≠t:=λz=>by rw [z,N] at y;cases y
   have b4:=(b2.trans b3).trans (aV y (.lst [.int 0,.int 1,.int 2,.int 5,.int 99,.int 100,.int 1234,.int 9999])).but;refine ⟨a,t,l,ns,_,p3,q3,[.int c],rfl,hS.but b4 hT,SR.of aI,F,by decide,by decide,(by rw [aS (PN F)];exact N),O,λi x H5 p5 q5 b5 t5 g5 hx=>⟨dB (by simp),λl6 Y=>?_⟩⟩;have ne6:l6≠t:=λz=>by rw [z,t5] at Y;cases Y
   obtain ⟨m,em,hm⟩:∃ m:Int,x=.int m/\0<=m/\m<=9999:=by have:=PM hx;simp only [PB,Qa,Qz] at this;rcases this with e | e | e | e | e | e | e | e <;> exact ⟨_,e,by decide,by decide⟩
   subst em;exact j _ _ ⟨.ref l6,.num m,p5,q5,rfl,(b4.trans b5).trans (aV Y _).but,(by rw [aS (PN ne6)];exact t5),g5,hm,Dat.tupI (Ti.of aI) (SI.cons (Dat.Th _) (SI.cons (Dat.SN _) SI.nil))⟩
  ·exact j _ _ ⟨.ref l1,.arg r1,p3,q3,rfl,b2.trans b3,N,O,⟨r1a,by lia⟩,Dat.mono (b3.grow t2 N) _ d2⟩
 rintro σ G ⟨vL,L,p,q,rfl,bG,tG,hp,hL,dL⟩;obtain ⟨okL,dpL,szL⟩:=Fe hL
 have I:∀ (C:Hp) (J q':Int),S6 t G C->C t=some (.lst [.int J,.int q',.int c])->0<=J->Q vL C:=λC J q' b' t' g' =>
  post vL C L J q' c (bG.trans b') t' g' hc (RP _) okL (.inl (by lia)) (by lia) (Dat.mono (b'.grow tG t') _ dL)
 refine eB ⟨_,rfl,room,2,rfl,rfl,_,rfl,?_⟩;refine sj (λc1=>?_) (λc1=>?_)
 ·exact ⟨_,rfl,I G p q (SJ.refl G).but tG hp⟩
 have c1':¬ room < 2:=Px (RY.mpr c1);refine ⟨_,rfl,t,_,2,_,rfl,rfl,SR.of tG,at2,c,1,rfl,rfl,_,rfl,?_⟩;refine sj (λc2=>?_) (λc2=>?_)
 ·exact ⟨_,rfl,I G p q (SJ.refl G).but tG hp⟩
 have c2':¬ c < 1:=Px (RY.mpr c2);refine ⟨_,rfl,_,rfl,a,t,ns,4,p,q,[.int c],rfl,hS.but bG hT,tG,hp,by decide,by decide,λr3 H3 p3 q3 b3 N O r3a r3b=>?_⟩;refine ⟨rfl,_,rfl,?_⟩;refine sj (λc3=>?_) (λc3=>?_)
 ·exact ⟨_,rfl,I H3 p3 q3 b3 N O⟩
 refine ⟨_,rfl,t,_,2,_,rfl,rfl,(by decide),SR.of N,rfl,c,1,rfl,rfl,t,_,2,2,rfl,rfl,N,ix2,?_⟩;have b4:S6 t H (upd H3 t (.lst [.int p3,.int q3,.int (c - 1)])):=S6.upd (bG.trans b3);refine ⟨_,rfl,_,rfl,dB (by decide),λl y=>?_⟩;have F:l≠t:=λz=>by rw [z,aI] at y;cases y
 have b5:=b4.trans (aV y (.lst [.str "add",.str "add",.str "sub",.str "mul",.str "less",.str "pick"])).but;refine ⟨a,t,l,ns,_,p3,q3,[.int (c - 1)],rfl,hS.but b5 hT,SR.of aI,F,by decide,by decide,(by rw [aS (PN F)];exact aI),O,λi x H5 p5 q5 b6 t5 g5 hx=>?_⟩;have bH:=b5.trans b6
 obtain ⟨nm,en,hnm⟩:∃ nm:Str,x=.str nm/\(nm="pick"\/(nm="add"\/nm="sub"\/nm="mul"\/nm="less")):=by
  have:=PM hx;simp only [PB,Qa,Qz] at this;rcases this with e | e | e | e | e | e
  ·exact ⟨_,e,.inr (.inl rfl)⟩
  ·exact ⟨_,e,.inr (.inl rfl)⟩
  ·exact ⟨_,e,.inr (.inr (.inl rfl))⟩
  ·exact ⟨_,e,.inr (.inr (.inr (.inl rfl)))⟩
  ·exact ⟨_,e,.inr (.inr (.inr (.inr rfl)))⟩
  ·exact ⟨_,e,.inl rfl⟩
 subst en
 obtain ⟨g,Y9,hif⟩:∃ g:Nat,((nm="pick"/\g=3)\/((nm="add"\/nm="sub"\/nm="mul"\/nm="less")/\g=2))/\∀ (A B:Prop),(A->g=3->False)->True:=by
  rcases hnm with h | h
  ·exact ⟨3,.inl ⟨h,rfl⟩,λ_ _ _=>trivial⟩
  ·exact ⟨2,.inr ⟨h,rfl⟩,λ_ _ _=>trivial⟩
 clear hif;dsimp only;refine pR (λσ G=>σ=[some (.ref a),some (.ref t),some (.int room),some vL,some (.str nm),some (.int g)]/\G=H5) ?_ (λj=>?_)
 case refine_2 =>
  refine ⟨_,rfl,rfl,_,rfl,?_⟩;refine sj (λcc=>?_) (λcc=>?_)
  ·have e:V.str nm=V.str "pick":=Pq cc;injection e with e;rcases Y9 with ⟨_,rfl⟩ | ⟨h,_⟩
   ·exact j _ _ ⟨rfl,rfl⟩
   ·subst e;exact absurd h (by decide +kernel)
  ·have e:¬ V.str nm=V.str "pick":=Px (RY.mpr cc);rcases Y9 with ⟨h,_⟩ | ⟨_,rfl⟩
   ·exact absurd (by rw [h]) e
   ·exact j _ _ ⟨rfl,rfl⟩
 rintro σ G ⟨rfl,rfl⟩;have many_le:2<=g/\g<=3:=by rcases Y9 with ⟨_,h⟩ | ⟨_,h⟩ <;> lia
 refine ⟨_,rfl,dB (by simp),λe he=>?_⟩;have nee:e≠t:=λz=>by rw [z,t5] at he;cases he
 have t6:upd G e (.tup [.str nm]) t=some (.lst [.int p5,.int q5,.int (c - 1)]):=by rw [aS (PN nee)];exact t5
 have b7:=bH.trans (aV he (.tup [.str nm])).but;dsimp only;refine iL ?_
 refine rp g (λR hR=>⟨_,rfl,hR⟩) (by lia) rfl
  (λl i C=>∃ (Ts:List Tr) (ys:List V) (J q' S:Int),S6 t (upd G e (.tup [.str nm])) C/\C t=some (.lst [.int J,.int q',.int S])/\0<=J/\0<=S/\S<=c - 1/\C l=some (.lst ys)/\Ts.length=i/\(∀ x ∈ Ts,UQ x/\((a9 x:Int)=1\/(a9 x:Int)<=room - 1))/\(ya Ts:Int)<=i+3 * (c - 1 - S)/\SI K C (Ts.map toD) ys) (λl y=>?_) (λl i C y hi pn=>?_) (λl C y pn=>?_)
 ·have nl:l≠t:=λz=>by rw [z,t6] at y;cases y
  exact ⟨[],[],p5,q5,c - 1,(aV y _).but,(by rw [aS (PN nl)];exact t6),g5,by lia,RP _,aI,rfl,(λx hx=>absurd hx (by simp)),by simp [ya],SI.nil⟩
 ·obtain ⟨Ts,ys,J,q',S,bt,tt,gp,gc,gc2,Z,lT,M,sm,dT⟩:=pn;have nl:l≠t:=λz=>by rw [z,t6] at y;cases y
  have ly:ys.length=i:=by rw [<- dT.length,Pf,lT]
  refine ⟨_,rfl,_,rfl,_,rfl,room,1,rfl,rfl,a,t,ns,room - 1,J,q',S,rfl,hS.but (b7.trans bt) hT,tt,gp,gc,by lia,by lia,by lia,λv G2 X p2 q2 c2 bb t2 g2 h2 h2' ZR dpX szX dX=>?_⟩;have hl2:=bb l _ nl Z;have g1:gA K C G2:=bb.grow tt t2;have O:gA K G2 (upd G2 l (.lst (ys++[v]))):=S6.grow (t:=l) (S6.upd (SJ.refl G2).but) hl2 aI;refine ⟨ys,hl2,cM (by lia),⟨_,rfl⟩,Ts++[X],ys++[v],p2,q2,c2,?_,?_,g2,h2,by lia,aI,by rw [tB,lT];rfl,?_,?_,?_⟩
  ·intro b o hb hbo;have nb:b≠l:=aU hbo y;rw [aS nb];exact bb b o hb (bt b o hb hbo)
  ·rw [aS (PN nl)];exact t2
  ·intro x hx;rcases Qc.mp hx with hx | hx
   ·exact M x hx
   ·rw [PU.mp hx];exact ⟨ZR,dpX⟩
  ·rw [BQ];lia
  ·rw [P0];exact SI.append (SI.mono O _ (SI.mono g1 _ dT)) (SI.cons (Dat.mono O _ dX) SI.nil)
 ·obtain ⟨Ts,ys,J,q',S,bt,tt,gp,gc,gc2,Z,lT,M,sm,dT⟩:=pn;have ly:ys.length=g:=by rw [<- dT.length,Pf,lT]
  refine ⟨l,ys,rfl,.inl ⟨SR.of Z,λu hu=>?_⟩⟩;have nu:u≠t:=λz=>by rw [z,tt] at hu;cases hu
  have se:Ti K (upd C u (.tup ys)) e [.str nm]:=(aV hu _).YD (bt.YD t6 (Ti.of aI));refine ⟨e,u,_,ys,rfl,rfl,se,Ti.of aI,(by simp),dB (by rw [R7];lia),λz=>?_,λ_ x hx=>?_⟩
  ·rw [z] at ly;simp at ly;lia
  ·obtain ⟨X,eX,ZR,dpX,szX⟩:=Ei (nm:=nm) (Ts:=Ts) (room:=room) (by lia) M (Y9.elim (λh=>.inl ⟨h.1,by lia⟩) (λh=>.inr ⟨h.1,by lia⟩));have nx:x≠t:=λz=>by rw [z,aS (PN nu),tt] at hx;cases hx
   have s8:=(aV hu (.tup ys)).trans (aV hx (.tup ([.str nm]++ys)));refine post _ _ X J q' S ((b7.trans bt).trans s8.but) (s8 _ _ tt) gp gc (by lia) ZR (.inr dpX) (by lia) ?_;rw [eX];exact Dat.tupI (Ti.of aI) (SI.cons (Dat.Th _) (s8.SV dT))
theorem jZ {b:Bool} (h:(!b)=true):b=false:=by cases b with | true=>cases h | false=>rfl
theorem gZ {b:Bool} (h:(!b)=false):b=true:=by cases b with | true=>rfl | false=>cases h
noncomputable def sgn (c:Nat):Bool:=(!decide (([c]:List Nat) < ("a":Str).cps.toList)) && !decide (("z":Str).cps.toList < ([c]:List Nat))
noncomputable def lE:D->Bool
 | .str x=>(decide (1<=(x.length:Int)) && decide ((x.length:Int)<=8)) && (x.cps.toList.map sgn).all id
 | _=>false
noncomputable def Gq:D->Prop
 | .str x=>x.length<=sizeLine
 | _=>True
noncomputable def B6 (ds:List D) (d:D):Prop:=∃ x,ds=[x]/\Gq x/\d=.bl (lE x)
theorem yG {x:D} (h:∀ y,x≠.str y):pB x "str"=false:=by
 cases x with
 | str y=>exact absurd rfl (h y)
 | _=>rfl
theorem C4 {x:D} (h:∀ y,x≠.str y):lE x=false:=by
 cases x with
 | str y=>exact absurd rfl (h y)
 | _=>rfl
theorem yQ (T:Txt P w K mg)  : Ok P w base (k+1) T.M0 (Tj K B6):=by
 refine T.M0.f.ok XF (λvs H Q E h=>?_) (λG A outer s H vs Q E J h=>?_)
 ·obtain ⟨ds,d,u,⟨x,rfl,_⟩,_⟩:=h;exact u.length.symm
 have L:=XF.nd;obtain ⟨ds,d,u,⟨x,rfl,z,rfl⟩,post⟩:=h;obtain ⟨M,rfl,o⟩:=ji u;refine ⟨_,(aE (bE (PW.pt (fH (cW (bR (aX (gC CP) rfl T.J6 cY (dE (pv 0) (dE (iB (v:=.ty "str") rfl T.OR Cj rfl) aC))) (λ_=>rfl))) (eR (cW (nE jV jV aF (aX um rfl T.J0 bU (aD (pv 0) aC)) (bT (v:=.int 8) rfl T.KF ⟨_,rfl⟩)))))) (aH (aP d8)) aQ)
 (aH (aP (aX (jC rfl) rfl T.Ny mN (aD (eV (own:=["sign"]) (fr:=[]) (N':=["sign"]) (HV (pv 0)) rfl (by show dS ["thing"] (λx=>(aK oG).names.lookup x) _ _ _ _=true;decide +kernel) rfl (λ_ _ _ _ _=>(a7 (i:=0) (by show List.Nodup [("sign":Str)];decide +kernel) rfl (Or.inl rfl))) (λ_ _ _ _ _=>c7) (λ_ _ _ _ _=>(xI Dp Dp aO (pv 0) aO))) aC))))),?_⟩
 by_cases C:∃ y,x=.str y
 ·obtain ⟨y,rfl⟩:=C;have z:y.length<=sizeLine:=z;refine aR (K:=K) (b:=!(decide (1<=(y.length:Int)) && decide ((y.length:Int)<=8))) ?_ (λc F s1=>?_) (λc F s1=>?_)
  ·exact RT.as (dP (bZ (bO (dC (aA o)))) λ_=>bZ (aJ (lK (p:=λi j=>decide (i<=j)) (r:=λi j=>decide (i<=j)) aG (FK (aA o) z) λ_=>aG))) rfl
  ·refine bJ (K:=K) (d:=.bl (lE (.str y))) ?_ λv g s q=>post v g (s1.trans s) q
   have e:lE (.str y)=false:=by show (_ && _)=false;have l:=jZ c;rw [l,Rn]
   rw [e];exact f7
  ·have l:=gZ c
   have N:y.cps.size<=8:=by rw [Pz] at l;have:=Pq l.2;have e:y.length=y.cps.size:=rfl;lia
   refine bJ (K:=K) (d:=.bl (lE (.str y))) ?_ λv g s q=>post v g (s1.trans s) q
   have e:lE (.str y)=(y.cps.toList.map sgn).all id:=by show (_ && _)=_;rw [l,QJ]
   rw [e];refine me (bs:=y.cps.toList.map sgn) (Ic (aA (s1.dat o)) (by lia) _ (by simp) rfl (λO i c d R I a=>?_));rw [Pw,Pw] at a;have B:y.cps.toList[i]?=some c:=by simpa using I
   rw [B] at a;cases a;refine RE.as (BD (p:=λi j=>!decide (j.cps.toList < i.cps.toList)) (q':=λi j=>!decide (j.cps.toList < i.cps.toList)) aL (aA (Dat.Th _)) λ_=>aL) rfl
 ·have m:∀ y,x≠.str y:=λy e=>C ⟨y,e⟩;refine aR (K:=K) (b:=true) ?_ (λc F s1=>?_) (λc=>nomatch c)
  ·exact RT.as (dP (b:=true) (c:=true) (RT.as (bZ (bO (dC (aA o)))) (by rw [yG m];rfl)) λc=>nomatch c) rfl
  ·refine bJ (K:=K) (d:=.bl (lE x)) ?_ λv g s q=>post v g (s1.trans s) q;rw [C4 m];exact f7
theorem GV:∀ p ∈ TM,∃ i,p.2=.flat (.int i):=by intro p a;simp only [TM,PB,Qa,Qz] at a;rcases a with rfl | rfl | rfl <;> exact ⟨_,rfl⟩
noncomputable def gL:D->Bool
 | .tup (.str k::r)=>decide ((r.length:Int)+1=j9 k TM 0) && (dM (r.getD 0 .SO) 0 1 && (!decide (k="gap") || dM (r.getD 1 .SO) 0 9999))
 | _=>false
theorem lq (k:Str) (r:List D):gL (.tup (.str k::r))=(decide ((r.length:Int)+1=j9 k TM 0) && (dM (r.getD 0 .SO) 0 1 && (!decide (k="gap") || dM (r.getD 1 .SO) 0 9999))):=rfl
noncomputable def Gd (ds:List D) (d:D):Prop:=∃ x,ds=[x]/\d=.bl (gL x)
theorem xn (k:Str):j9 k TM 0=0\/j9 k TM 0=2\/(k="gap"/\j9 k TM 0=3):=by
 unfold j9;by_cases a:k="hole"
 ·subst a;exact .inr (.inl rfl)
 by_cases b:k="gap"
 ·subst b;exact .inr (.inr ⟨rfl,rfl⟩)
 by_cases c:k="slot"
 ·subst c;exact .inr (.inl rfl)
 have e:KTD.datumAt k TM=none:=by simp [TM,KTD.datumAt,a,b,c]
 rw [e];exact .inl rfl
theorem Iy {x:D} (h:f9 x=false):gL x=false:=by
 unfold f9 at h;unfold gL;split at h
 ·cases h
 ·rename_i a
  first
   | rfl
   | (split
      ·rename_i k r;exact absurd rfl (a k r)
      ·rfl)
theorem yP (T:Txt P w K mg) (U:Ok P w base k T.KH (Tj K pJ)) (J:Ok P w base k T.JX (Tj K fW)):Ok P w base (k+1) T.MZ (Tj K Gd):=by
 refine T.MZ.f.ok XG (λvs H Q E h=>?_) (λV A outer s H vs Q E B h=>?_)
 ·obtain ⟨ds,d,C,⟨x,rfl,rfl⟩,_⟩:=h;exact C.length.symm
 have nd:=XG.nd;obtain ⟨ds,d,C,⟨x,rfl,rfl⟩,post⟩:=h;obtain ⟨L,rfl,o⟩:=ji C;refine ⟨_,(aE (bE (PW.pt (fH (cW (bR (pc (D:=T.KH) U B (aD (pv 0) aC)) (λ_=>rfl))) (eR (aN lI (aX aW rfl T.J0 bU (aD (pv 0) aC)) (tL (bT (v:=.ref T.Kk) rfl T.Ke rfl) (aY aZ (pv 0) aF) aF ⟨rfl,rfl,rfl,rfl⟩) (aT _))))) (aH (aP d8)) aQ)
 (aE (bE (cW (bR (pc (D:=T.JX) J B (aD (aY aZ (pv 0) aF) (aD aF (aD aF aC)))) (λ_=>rfl))) (aH (aP d8)) aQ)
 (aH (aP (Dt (eU lI (aY aZ (pv 0) aF) aO (aT _)) (jI (pc (D:=T.JX) J B (aD (aY aZ (pv 0) aF) (aD aF (aD (bT (v:=.int 9999) rfl T.LA ⟨_,rfl⟩) aC)))))))))),?_⟩
 cases p:f9 x with
 | false =>
  refine aR (K:=K) (b:=true) ?_ (λc M s1=>?_) (λc=>nomatch c)
  ·exact RT.as (dP (b:=true) (c:=true) (RT.as (bZ (bO (bM (aB (aA o) aM) ⟨x,rfl,rfl⟩))) (by rw [p];rfl)) λc=>nomatch c) rfl
  ·refine bJ (K:=K) (d:=.bl (gL x)) ?_ λv j s q=>post v j (s1.trans s) q;rw [Iy p];exact f7
 | true =>
  have l:=p;unfold f9 at l;split at l
  ·rename_i a r;have X:((((D.str a)::r).length:Nat):Int)=(r.length:Int)+1:=by rw [Pr];lia
   refine aR (K:=K) (b:=!decide ((r.length:Int)+1=j9 a TM 0)) ?_ (λc M s1=>?_) (λc M s1=>?_)
   ·have N:=kI (K:=K) (fL (aA (σ:=start ["thing"] [L]) (k:=0) o)) (tN (i:=0) T.J1 (a6 (k:=0) (aA (σ:=start ["thing"] [L]) (k:=0) o) aG rfl) aG GV);rw [X] at N;exact RT.as (dP (b:=false) (RT.as (bZ (bO (bM (aB (aA o) aM) ⟨_,rfl,rfl⟩))) (by rw [p];rfl)) λ_=>aJ N) (QE _)
   ·refine bJ (K:=K) (d:=.bl (gL (.tup (.str a::r)))) ?_ λv j s q=>post v j (s1.trans s) q
    have e:gL (.tup (.str a::r))=false:=by rw [lq];rw [show decide ((r.length:Int)+1=j9 a TM 0)=false from jZ c,Rn]
    rw [e];exact f7
   ·have F:decide ((r.length:Int)+1=j9 a TM 0)=true:=gZ c;have m:=Pq F;have O:=s1.dat o
    obtain ⟨y,g,G⟩:∃ y g,r=y::g:=by
     cases r with
     | nil=>rcases xn a with h | h | ⟨_,h⟩ <;> (rw [h] at m;simp at m)
     | cons y g=>exact ⟨y,g,rfl⟩
    subst G;refine aR (K:=K) (b:=!dM y 0 1) (bZ (bO (bM (R:=fW) (aB (a6 (k:=1) (aA O) aG rfl) (aB aG (aB aG aM))) ⟨y,0,1,rfl,rfl⟩))) (λI Y u=>?_) (λI Y u=>?_)
    ·refine bJ (K:=K) (d:=.bl (gL (.tup (.str a::y::g)))) ?_ λv j s q=>post v j (s1.trans (u.trans s)) q
     have e:gL (.tup (.str a::y::g))=false:=by rw [lq,F,QJ];show (dM y 0 1 && _)=false;rw [show dM y 0 1=false from jZ I,Rn]
     rw [e];exact f7
    ·refine bJ (K:=K) (d:=.bl (gL (.tup (.str a::y::g)))) ?_ λv j s q=>post v j (s1.trans (u.trans s)) q;have S:=u.dat O
     have e:gL (.tup (.str a::y::g))=(!decide (a="gap") || dM (g.getD 0 .SO) 0 9999):=by rw [lq,F,QJ];show (dM y 0 1 && (!decide (a="gap") || dM (g.getD 0 .SO) 0 9999))=_;rw [show dM y 0 1=true from gZ I,QJ]
     rw [e];refine AG (vM (a6 (k:=0) (aA S) aG rfl) aL) λZ=>?_;have hk:a="gap":=by simpa using Z
     obtain ⟨z,G⟩:∃ z,g=[z]:=by
      rcases xn a with h | h | ⟨_,h⟩
      ·rw [h] at m;simp at m;lia
      ·rw [hk] at h;exact absurd h (by decide +kernel)
      ·rw [h] at m
       match g,m with
       | [z],_=>exact ⟨z,rfl⟩
       | [],h=>simp at h
       | _::_::_,h=>simp at h;lia
     subst G;exact bM (E:=E0) (R:=fW) (aB (a6 (k:=2) (aA S) aG rfl) (aB aG (aB aG aM))) ⟨z,0,9999,rfl,rfl⟩
  ·cases l
noncomputable def m5:D->Bool
 | .tup (.str k::_)=>decide (k ∈ (["arg","pick"]:List Str))
 | _=>false
noncomputable def XT:Nat->D->Bool
 | 0,_=>false
 | n+1,d=>gL d || (fM d && (!m5 d && ((dQ d).map (XT n)).all id))
noncomputable def Rpp (n:Nat) (ds:List D) (d:D):Prop:=∃ x,ds=[x,.int (4 - (n:Int))]/\d=.bl (XT n x)
noncomputable def Gf:Nat->List D->D->Prop
 | 0=>λ_ _=>False
 | n+1=>Rpp n
theorem jG (T:Txt P w K mg) (O:Ok P w base k T.MZ (Tj K Gd)) (S:Ok P w base k T.Ma (Tj K B7)) (U:Ok P w base k T.J5 (Tj K jl)) (V:Ok P w base k T.J8 (Tj K (Gf n))):Ok P w base (k+1) T.J8 (Tj K (Rpp n)):=by
 refine T.J8.f.ok UR (λvs H Q E h=>?_) (λX A outer s H vs Q E y h=>?_)
 ·obtain ⟨ds,d,C,⟨x,rfl,rfl⟩,_⟩:=h;exact C.length.symm
 have nd:=UR.nd;obtain ⟨ds,d,C,⟨x,rfl,rfl⟩,post⟩:=h;obtain ⟨Y,v1,rfl,a,g⟩:=i5 C;refine ⟨_,(aE (bE (aN kl (pv 1) (bT (v:=.int 3) rfl T.J9 ⟨_,rfl⟩) (aT _)) (aH (aP d8)) aQ)
 (aE (bE (bR (pc (D:=T.MZ) O y (aD (pv 0) aC)) (λ_=>rfl)) (aH (aP d8)) aQ)
 (aE (bE (PW.pt (fH (cW (bR (pc (D:=T.Ma) S y (aD (pv 0) aC)) (λ_=>rfl))) (eR (aN eO (aY aZ (pv 0) aF) (bA (aD aO (aD aO aC))) (by with_unfolding_all rfl))))) (aH (aP d8)) aQ)
 (aH (aP (aX (jC rfl) rfl T.Ny mN (aD (eV (own:=["within"]) (fr:=[1]) (N':=["within","deep"]) (kE (pc (D:=T.J5) U y (aD (pv 0) aC))) rfl (by show dS ["thing","deep"] (λx=>(aK iE).names.lookup x) _ _ _ _=true;decide +kernel) rfl (λ_ _ _ _ _=>(a7 (i:=0) (by show List.Nodup [("within":Str),("deep":Str)];decide +kernel) rfl (Or.inl rfl))) (λ_ _ _ _ _=>c7) (λ_ _ _ _ _=>(pc (D:=T.J8) V y (aD (pv 0) (aD (bL cJ (pv 1) aF) aC))))) aC))))))),?_⟩
 cases n with
 | zero =>refine aR (K:=K) (b:=true) (RT.as (aJ (cQ (p:=λi j=>decide (j < i)) (aA g) aG)) rfl) (λc Z s1=>?_) (λc=>nomatch c);exact bJ (K:=K) (d:=.bl false) f7 λv l s q=>post v l (s1.trans s) q
 | succ n =>
  refine aR (K:=K) (b:=false) (RT.as (aJ (cQ (p:=λi j=>decide (j < i)) (aA g) aG)) (Po (by lia))) (λc=>nomatch c) (λc Z s1=>?_);have a:=s1.dat a;have g:=s1.dat g;refine aR (K:=K) (b:=gL x) (bO (bM (aB (aA a) aM) ⟨x,rfl,rfl⟩)) (λc L m=>?_) (λc L m=>?_)
  ·refine bJ (K:=K) (d:=.bl true) f7 λv l s q=>post v l (s1.trans (m.trans s)) ?_;have e:XT (n+1) x=true:=by unfold XT;rw [c];rfl
   rw [e];exact q
  have a:=m.dat a;have g:=m.dat g
  have F:XT (n+1) x=(fM x && (!m5 x && ((dQ x).map (XT n)).all id)):=by show (gL x || _)=_;rw [c,QE]
  cases o:fM x with
  | false =>refine aR (K:=K) (b:=true) (RT.as (dP (b:=true) (c:=true) (RT.as (bZ (bO (bM (aB (aA a) aM) ⟨x,rfl,rfl⟩))) (by rw [o];rfl)) λc=>nomatch c) rfl) (λc M u=>?_) (λc=>nomatch c);refine bJ (K:=K) (d:=.bl false) f7 λv l s q=>post v l (s1.trans (m.trans (u.trans s))) ?_;rw [F,o];exact q
  | true =>
   obtain ⟨N,r,B⟩:=qR o;have few:=qH o;have G:Dat K L (.tup (.str N::r)) Y:=by rw [<- B];exact a
   refine aR (K:=K) (b:=m5 x) (RT.as (dP (b:=false) (RT.as (bZ (bO (bM (aB (aA a) aM) ⟨x,rfl,rfl⟩))) (by rw [o];rfl)) λ_=>aJ (j7 (ys:=["arg","pick"]) (a6 (k:=0) (aA G) aG rfl) (bF (aB aL (aB aL aM))))) (by rw [B];exact QE _)) (λI M u=>?_) (λI M u=>?_)
   ·refine bJ (K:=K) (d:=.bl false) f7 λv l s q=>post v l (s1.trans (m.trans (u.trans s))) ?_;rw [F,o,I];exact q
   ·have g:=u.dat g;refine bJ (K:=K) (d:=.bl (((dQ x).map (XT n)).all id)) (me (rn (cs:=dQ x) (bM (R:=jl) (aB (aA (u.dat a)) aM) ⟨N,r,by rw [B],by rw [B]⟩) (by lia) _ (by simp) rfl (λH4 i z vz d s4 hz hi J=>?_))) λv l s q=>post v l (s1.trans (m.trans (u.trans s))) ?_
    ·rw [Pw,Pw,hz] at hi;cases hi;exact bM (E:=E0) (R:=Rpp n) (aB (aA J) (aB (RE.as (c8 (aA (s4.dat g)) aG) (P1 D.int (by lia:(4:Int) - ((n+1:Nat):Int)+1=4 - (n:Int)))) aM)) ⟨z,rfl,rfl⟩
    ·rw [F,o,I];exact q
noncomputable def nZ (k:Str):D->Bool
 | .tup (.str h::_)=>decide (h=k)
 | _=>false
noncomputable def d5:Nat->Str->D->List D
 | 0,_,_=>[]
 | n+1,k,d=>if nZ k d=true then [d] else (dQ d).flatMap (d5 n k)
noncomputable def kU (n:Nat) (ds es:List D):Prop:=∃ x k,ds=[x,.str k]/\n<=3/\XT n x=true/\es=d5 n k x
theorem xo (h:gL d=true):∃ k r,d=.tup (.str k::r):=by
 unfold gL at h;split at h
 ·exact ⟨_,_,rfl⟩
 ·cases h
variable {r:List D}
theorem C3 {k:Str} (h:gL (.tup (.str k::r))=true):k="hole"\/k="gap"\/k="slot":=by
 rw [lq,Pz] at h;have a:=Pq h.1;unfold j9 at a;by_cases b:k="hole"
 ·exact .inl b
 by_cases c:k="gap"
 ·exact .inr (.inl c)
 by_cases f:k="slot"
 ·exact .inr (.inr f)
 have e:KTD.datumAt k TM=none:=by simp [TM,KTD.datumAt,b,c,f]
 rw [e] at a;dsimp only at a;lia
theorem rT {k:Str} (h:k="hole"\/k="gap"\/k="slot"):KTD.inKeys k TB=false/\KTD.inKeys k TL=false:=by rcases h with rfl | rfl | rfl <;> decide +kernel
theorem Bj (h:gL d=true):dQ d=[]:=by obtain ⟨k,r,rfl⟩:=xo h;exact oh (rT (C3 h)).1
theorem yY (h:XT n d=true):∃ k r,d=.tup (.str k::r):=by
 cases n with
 | zero=>cases h
 | succ n =>
  have h':(gL d || (fM d && (!m5 d && ((dQ d).map (XT n)).all id)))=true:=h;rw [Bool.or_eq_true] at h';rcases h' with h' | h'
  ·exact xo h'
  ·rw [Pz] at h';exact qR h'.1
theorem vG (h:XT (n+1) d=true):(dQ d).length<=3/\∀ c ∈ dQ d,XT n c=true:=by
 have h':(gL d || (fM d && (!m5 d && ((dQ d).map (XT n)).all id)))=true:=h;rw [Bool.or_eq_true] at h';rcases h' with h' | h'
 ·rw [Bj h'];exact ⟨by simp,λc a=>absurd a (by simp)⟩
 ·rw [Pz,Pz] at h';refine ⟨qH h'.1,λc a=>?_⟩;have z:=QH.mp h'.2.2 (XT n c) (QB.mpr ⟨c,a,rfl⟩);exact z
theorem zZ {α β:Type} (f:α->List β) (m:Nat):∀ l:List α,(∀ x ∈ l,(f x).length<=m)->(l.flatMap f).length<=l.length * m
 | [],_=>by simp
 | x::l,h=>by have b:=h x (by simp);have c:=zZ f m l λy a=>h y (by simp [a]);rw [List.flatMap_cons,tB,Pr,Nat.succ_mul];lia
theorem qM (k:Str):∀ (n:Nat) (d:D),XT n d=true->(d5 n k d).length<=3 ^ n
 | 0,d,h=>by cases h
 | n+1,d,h=>by
  unfold d5;split
  ·have:1<=3 ^ (n+1):=Nat.one_le_iff_ne_zero.mpr (by simp);simpa using this
  ·obtain ⟨a,b⟩:=vG h;have z:=zZ (d5 n k) (3 ^ n) (dQ d) λc e=>qM k n c (b c e);have f:(dQ d).length * 3 ^ n<=3 * 3 ^ n:=Nat.mul_le_mul_right _ a;rw [Sf,Nat.mul_comm (3 ^ n) 3];lia
theorem p3 (h:n<=3):3 ^ n<=27:=by
 match n,h with
 | 0,_=>decide
 | 1,_=>decide
 | 2,_=>decide
 | 3,_=>decide
theorem xE (T:Txt P w K mg) (Ki:Ok P w base k T.J5 (Tj K jl)) (Mb:Ok P w base k T.KJ (kL K (kU n))):Ok P w base (k+1) T.KJ (kL K (kU (n+1))):=by
 refine T.KJ.f.ok Xj (λvs H Q E h=>?_) (λcdv A outer s H vs Q E hr h=>?_)
 ·obtain ⟨ds,es,S,⟨x,e,rfl,_⟩,_⟩:=h;exact S.length.symm
 have nd:=Xj.nd;obtain ⟨ds,es,S,⟨x,e,rfl,U,X,rfl⟩,post⟩:=h;obtain ⟨v0,v1,rfl,j,J⟩:=i5 S;refine ⟨_,(aE (bE (aN bV (aY aZ (pv 0) aF) (pv 1) (aT _)) (aH (aP (bY (aD (pv 0) aC)))) aQ)
 (aE (bQ (i:=2) nd rfl (Or.inl rfl) (bY aC))
 (aE (jK Qv rfl (kE (pc (D:=T.J5) Ki hr (aD (pv 0) aC))) (a7 (i:=3) nd rfl (Or.inl rfl)) (aH (bP (fF PJ Ra Rw ki (pv 2) (aD (pc (D:=T.KJ) Mb hr (aD (pv 3) (aD (pv 1) aC))) aC)))))
 (aH (aP (pv 2)))))),?_⟩
 obtain ⟨Y,r,L⟩:=yY X;have Z:Dat K H (.tup (.str Y::r)) v0:=by rw [<- L];exact j
 have eh:nZ e x=decide (Y=e):=by rw [L];rfl
 obtain ⟨few,kok⟩:=vG X;have cap:=qM e (n+1) x X;have cap3:=p3 U;refine aR (K:=K) (b:=nZ e x) (RT.as (aJ (bI (a6 (k:=0) (aA Z) aG rfl) (aA J))) eh.symm) (λc H1 s1=>?_) (λc H1 s1=>?_)
 ·refine jO ((iC (K:=K) (es:=[x]) (aB (aA (s1.dat j)) aM)).use λl ys H2 hl M hy hd2=>?_);refine post l ys H2 (s1.trans M) hy (s1.free hl) ?_;unfold d5;rw [Pk c];exact hd2
 have em:d5 (n+1) e x=(dQ x).flatMap (d5 n e):=by show (if nZ e x=true then _ else _)=_;rw [M1 (by rw [c];exact Pp)]
 rw [em] at cap post;have j:=s1.dat j;have J:=s1.dat J;have hk1:=J.S5;refine gY (K:=K) (es:=[]) (iC aM) λg ys0 H2 hw M hy0 hd0=>?_;have m:H g=none:=s1.free hw;refine eB (RE.use (bM (R:=jl) (d:=.tup (dQ x)) (aB (aA (K:=K) (k:=0) (M.dat j)) aM) ⟨Y,r,by rw [L],by rw [L]⟩) λv4 H4 s4 q4=>?_);obtain ⟨a,vs,ea,hq,q⟩:=q4.S9;subst ea;have hl:=q.length;refine ⟨a,rfl,⟨vs,hq⟩,Ab (xs:=vs) (λi σ G=>∃ (z:Option V) (ys:List V),σ=[some v0,some v1,some (.ref g),z]/\SJ H G/\Ti K G a vs/\SI K G (dQ x) vs/\G g=some (.lst ys)/\SI K G (((dQ x).take i).flatMap (d5 n e)) ys) ?_ (λi σ G _ ⟨z,ys,_,_,p,_⟩=>p) ?_ ?_⟩
 ·exact ⟨none,ys0,rfl,s1.trans (M.trans s4),hq,q,s4 _ _ hy0,s4.SV hd0⟩
 ·rintro i vx σ G hi ⟨z,ys,rfl,sG,u,Zh,N,v⟩;obtain ⟨y,ex,hx⟩:=Zh.Wd hi;have hpx:=kok y (PM ex);subst hk1;refine ⟨_,rfl,.inl ⟨rfl,_,SR.of N⟩,_,rfl,_,rfl,[y,.str e],_,(SI.cons hx (SI.cons (Dat.Th _) SI.nil):SI K G [y,.str e] [vx,.str e]),⟨y,e,rfl,by lia,hpx,rfl⟩,λr us B C hr5 _ F=>?_⟩;have I:=C _ _ N;have b6:S6 g B (upd B g (.lst (ys++us))):=S6.upd (SJ.refl B).but;have O:gA K B (upd B g (.lst (ys++us))):=b6.grow I aI
  have et:((dQ x).take (i+1)).flatMap (d5 n e)=((dQ x).take i).flatMap (d5 n e)++d5 n e y:=by rw [Qq,ex];simp
  have lt:(((dQ x).take (i+1)).flatMap (d5 n e)).length<=27:=by
   have e2:((dQ x).take (i+1)).flatMap (d5 n e)++((dQ x).drop (i+1)).flatMap (d5 n e)=(dQ x).flatMap (d5 n e):=by rw [<- List.flatMap_append,RI]
   have:=P1 List.length e2;rw [tB] at this;lia
  have ly:=v.length;have lu:=F.length;rw [et,tB] at lt;refine ⟨g,r,ys,us,rfl,rfl,I,hr5,dB (by lia),some vx,ys++us,rfl,λb o hb=>b6 b o (aU hb m) (C _ _ (sG _ _ hb)),O.tup _ _ (C.YD u),SI.mono O _ (C.SV Zh),aI,?_⟩;rw [et];exact SI.append (SI.mono O _ (C.SV v)) (SI.mono O _ F)
 ·rintro σ G ⟨z,ys,rfl,sG,u,Zh,N,v⟩;refine ⟨_,rfl,post g ys G sG N m ?_⟩;rw [<- hl,QK] at v;exact v
noncomputable def Io:D->D
 | .tup (_::y::_)=>y
 | _=>.SO
theorem yK {k:Str} (h:gL (.tup (.str k::r))=true):∃ i a,r=.int i::a:=by
 rw [lq,Pz,Pz] at h;have c:=h.2.1
 cases r with
 | nil=>cases c
 | cons y a =>
  have b:dM y 0 1=true:=c
  cases y with
  | int i=>exact ⟨i,a,rfl⟩
  | _=>cases b
theorem lA {k:Str} (hk:k="hole"\/k="gap"\/k="slot"):∀ (n:Nat) (x m:D),XT n x=true->m ∈ d5 n k x->∃ i r,m=.tup (.str k::.int i::r)
 | 0,x,m,h,_=>by cases h
 | n+1,x,m,h,a=>by
  unfold d5 at a;split at a
  ·rename_i g;have e:m=x:=by simpa using a
   subst e;obtain ⟨b,r,rfl⟩:=yY h;have j:b=k:=Pq g;subst j;have h':(gL (.tup (.str b::r)) || (fM (.tup (.str b::r)) && _))=true:=h;rw [Bool.or_eq_true] at h';rcases h' with h' | h'
   ·obtain ⟨i,l,rfl⟩:=yK h';exact ⟨i,l,rfl⟩
   ·rw [Pz] at h';have z:=h'.1;rw [qP (rT hk).2,(rT hk).1,Rn] at z;cases z
  ·obtain ⟨c,o,f⟩:=List.mem_flatMap.mp a;exact lA hk n c m ((vG h).2 c o) f
noncomputable def Fh (k:Str) (x:D):Bool:=Tf ((d5 3 k x).map Io) ((List.range (d5 3 k x).length).map λi:Nat=>D.int i)
noncomputable def GP (ds:List D) (d:D):Prop:=∃ x k,ds=[x,.str k]/\XT 3 x=true/\(k="hole"\/k="gap"\/k="slot")/\d=.bl (Fh k x)
variable {σ:L2.St} {l:Addr} {ys:List V}
theorem pQ {K:W.Frag} {k:Nat} (a:H l=some (.lst ys)) (e:σ[k]?=some (some (.ref l)):=by rfl):RE K (XA (λxs H Q=>∃ p ys,xs=[.ref p]/\(SR K H p ys\/Ti K H p ys)/\Q (.int ys.length) H) (bW (fT k) dW)) σ H (.int ys.length):=λb s Q q =>
 ⟨.ref l,e,l,ys,rfl,.inl (SR.of (s _ _ a)),q _ _ (SJ.refl _) (Dat.SN _)⟩
theorem qO {l:List D} (h:∀ d ∈ l,∃ i,d=.int i):Tn l=true/\SY l=0:=by
 induction l with
 | nil=>exact ⟨by unfold Tn;rfl,by unfold SY;rfl⟩
 | cons d l a =>
  obtain ⟨i,rfl⟩:=h d (by simp);obtain ⟨b,c⟩:=a λd e=>h d (by simp [e]);refine ⟨?_,?_⟩
  ·unfold Tn;rw [b];unfold UM;rfl
  ·unfold SY;rw [c];unfold gT;rfl
theorem qX (T:Txt P w K mg) (L:Ok P w base k T.KJ (kL K (kU 3))):Ok P w base (k+1) T.LJ (Tj K GP):=by
 refine T.LJ.f.ok V2 (λvs H Q E h=>?_) (λM A outer s H vs Q E C h=>?_)
 ·obtain ⟨ds,d,p,⟨x,b,rfl,_⟩,_⟩:=h;exact p.length.symm
 have N:=V2.nd;obtain ⟨ds,d,p,⟨x,b,rfl,o,hk,rfl⟩,post⟩:=h;obtain ⟨v0,v1,rfl,O,S⟩:=i5 p;refine ⟨_,(aE (jL (i:=2) (own:=["mark"]) (fr:=[]) (N':=["mark"]) (gJ (pc (D:=T.KJ) L C (aD (pv 0) (aD (pv 1) aC)))) rfl (by show dS ["pattern","kind","numbers"] (λx=>(aK j8).names.lookup x) _ _ _ _=true;decide +kernel) rfl (λ_ _ _ _ _=>(a7 (i:=0) (by show List.Nodup [("mark":Str)];decide +kernel) rfl (Or.inl rfl))) (λ_ _ _ _ _=>c7) (λ_ _ _ _ _=>(aY (r:=sD K) aZ (pv 0) aF)) N rfl rfl rfl)
 (aH (aP (eU (vA C) (pv 2) (eP (r9 rfl) rfl T.NL pK (aD (eP Cp rfl T.MH Ci (aD (aX aW rfl T.J0 bU (aD (pv 2) aC)) aC)) aC)) (aT _))))),?_⟩
 have e:=qM b 3 x o;refine gY (K:=K) (es:=(d5 3 b x).map Io) (FF (cs:=d5 3 b x) (nG (R:=kU 3) (aB (aA O) (aB (aA S) aM)) ⟨x,b,rfl,by decide,o,rfl⟩) (Qf e (by decide)) _ (by simp) rfl (λH1 i c v d s1 F hi U=>?_)) λl ys H2 hl X G g=>?_
 ·rw [Pw,F] at hi;cases hi;obtain ⟨j,r,rfl⟩:=lA hk 3 x c o (PM F);exact a6 (k:=1) (aA U) aG rfl
 have q:=g.length;rw [Pf] at q;refine ⟨_,rfl,(vI (K:=K) (n:=ys.length) (pQ (k:=2) G) (by rw [<- q];exact Qf e (by decide))).use λY u H3 hl2 y z B=>?_⟩
 have I:∀ d ∈ (d5 3 b x).map Io,∃ i,d=.int i:=λd a=>by obtain ⟨m,J,rfl⟩:=QB.mp a;obtain ⟨j,r,rfl⟩:=lA hk 3 x m o J;exact ⟨j,rfl⟩
 have Z:∀ d ∈ (List.range ys.length).map (λi:Nat=>D.int i),∃ i,d=.int i:=λd a=>by obtain ⟨m,J,rfl⟩:=QB.mp a;exact ⟨_,rfl⟩
 refine ⟨l,Y,ys,u,_,_,rfl,rfl,SR.of (y _ _ G),SR.of z,y.SV g,B,(qO I).1,(qO Z).1,by rw [(qO I).2];decide,?_⟩;refine post _ _ (X.trans y) ?_;unfold Fh;rw [q];exact Dat.VY _
noncomputable def vE (x:D):Bool:=XT 3 x && (!nZ "hole" x && ((["hole","gap","slot"]:List Str).map λk=>Fh k x).all id)
noncomputable def GQ (ds:List D) (d:D):Prop:=∃ x,ds=[x]/\d=.bl (vE x)
theorem sy (T:Txt P w K mg) (y:Ok P w base k T.J8 (Tj K (Rpp 3))) (z:Ok P w base k T.LJ (Tj K GP)):Ok P w base (k+1) T.L6 (Tj K GQ):=by
 refine T.L6.f.ok Wf (λvs H Q E h=>?_) (λB A outer s H vs Q E o h=>?_)
 ·obtain ⟨ds,d,j,⟨x,rfl,rfl⟩,_⟩:=h;exact j.length.symm
 have L:=Wf.nd;obtain ⟨ds,d,j,⟨x,rfl,rfl⟩,post⟩:=h;obtain ⟨C,rfl,g⟩:=ji j;refine ⟨_,(aE (bE (PW.pt (fH (cW (bR (pc (D:=T.J8) y o (aD (pv 0) (aD aF aC))) (λ_=>rfl))) (eR (aN bV (aY aZ (pv 0) aF) aO (aT _))))) (aH (aP d8)) aQ)
 (aH (aP (aX (jC rfl) rfl T.Ny mN (aD (eV (own:=["kind"]) (fr:=[0]) (N':=["kind","thing"]) (HW (bT (v:=.ref T.Kk) rfl T.Ke rfl)) rfl (by show dS ["thing"] (λx=>(aK kK).names.lookup x) _ _ _ _=true;decide +kernel) rfl (λ_ _ _ _ _=>(a7 (i:=0) (by show List.Nodup [("kind":Str),("thing":Str)];decide +kernel) rfl (Or.inl rfl))) (λ_ _ _ _ _=>c7) (λ_ _ _ _ _=>(pc (D:=T.LJ) z o (aD (pv 1) (aD (pv 0) aC))))) aC))))),?_⟩
 cases a:XT 3 x with
 | false =>refine aR (K:=K) (b:=true) (RT.as (dP (b:=true) (c:=true) (RT.as (bZ (bO (bM (R:=Rpp 3) (aB (aA g) (aB aG aM)) ⟨x,rfl,rfl⟩))) (by rw [a];rfl)) λc=>nomatch c) rfl) (λc M F=>?_) (λc=>nomatch c);refine bJ (K:=K) (d:=.bl false) f7 λv e s q=>post v e (F.trans s) ?_;unfold vE;rw [a];exact q
 | true =>
  obtain ⟨G,r,p⟩:=yY a;have m:Dat K H (.tup (.str G::r)) C:=by rw [<- p];exact g
  refine aR (K:=K) (b:=nZ "hole" x) (RT.as (dP (b:=false) (RT.as (bZ (bO (bM (R:=Rpp 3) (aB (aA g) (aB aG aM)) ⟨x,rfl,rfl⟩))) (by rw [a];rfl)) λ_=>aJ (bI (a6 (k:=0) (aA m) aG rfl) aL)) (by rw [p];exact QE _)) (λc I s1=>?_) (λc I s1=>?_)
  ·refine bJ (K:=K) (d:=.bl false) f7 λv e s q=>post v e (s1.trans s) ?_;unfold vE;rw [a,c];exact q
  ·refine bJ (K:=K) (d:=.bl (((["hole","gap","slot"]:List Str).map λk=>Fh k x).all id)) (me (Ie T.MQ (by decide) _ rfl rfl (λN i u d J hk hi=>?_))) λv e s q=>post v e (s1.trans s) ?_
   ·rw [Pw,Pw,hk] at hi;cases hi;refine bM (E:=E0) (R:=GP) (aB (aA (J.dat (s1.dat g))) (aB (aA (Dat.Th u)) aM)) ⟨x,u,rfl,a,?_,rfl⟩;have:=PM hk;simpa using this
   ·unfold vE;rw [a,c];exact q
noncomputable def t7 (k:Str) (T:List (Str × KTD.Dat)):Str:=match KTD.datumAt k T with | some (.flat (.str z))=>z | _=>""
theorem GT {k:Str} (h:KTD.inKeys k TF=true):KTD.datumAt k TF=some (.flat (.str (t7 k TF))):=by
 unfold t7;by_cases a:k="low"
 ·subst a;rfl
 by_cases b:k="high"
 ·subst b;rfl
 by_cases c:k="arg"
 ·subst c;rfl
 have e:KTD.inKeys k TF=false:=by simp [TF,KTD.inKeys,a,b,c]
 rw [e] at h;cases h
noncomputable def qu (p:D):D->Bool
 | .tup (.str k::r)=>decide ((r.length:Int)+1=2) && (KTD.inKeys k TF && dM (r.getD 0 .SO) 0 (((d5 3 (t7 k TF) p).length:Int) - 1))
 | _=>false
theorem wV (p:D) (k:Str) (r:List D):qu p (.tup (.str k::r))=(decide ((r.length:Int)+1=2) && (KTD.inKeys k TF && dM (r.getD 0 .SO) 0 (((d5 3 (t7 k TF) p).length:Int) - 1))):=rfl
noncomputable def B4 (ds:List D) (d:D):Prop:=∃ x p,ds=[x,p]/\XT 3 p=true/\d=.bl (qu p x)
theorem EV {p x:D} (h:f9 x=false):qu p x=false:=by
 unfold f9 at h;unfold qu;split at h
 ·cases h
 ·rename_i a
  first
   | rfl
   | (split
      ·rename_i k r;exact absurd rfl (a k r)
      ·rfl)
theorem sv (T:Txt P w K mg) (J:Ok P w base k T.KH (Tj K pJ)) (L:Ok P w base k T.KJ (kL K (kU 3))) (M:Ok P w base k T.JX (Tj K fW)):Ok P w base (k+1) T.L5 (Tj K B4):=by
 refine T.L5.f.ok Wg (λvs H Q E h=>?_) (λN A outer s H vs Q E u h=>?_)
 ·obtain ⟨ds,d,z,⟨x,p,rfl,_⟩,_⟩:=h;exact z.length.symm
 have nd:=Wg.nd;obtain ⟨ds,d,z,⟨x,p,rfl,O,rfl⟩,post⟩:=h;obtain ⟨S,U,rfl,a,B⟩:=i5 z;refine ⟨_,(aE (bE (PW.pt (fH (cW (bR (pc (D:=T.KH) J u (aD (pv 0) aC)) (λ_=>rfl))) (fH (aN lI (aX aW rfl T.J0 bU (aD (pv 0) aC)) aF (aT _)) (eR (aN xG (aY aZ (pv 0) aF) (bT (v:=.ref T.K7) rfl T.Ku rfl) (by with_unfolding_all rfl)))))) (aH (aP d8)) aQ)
 (aH (aP (pc (D:=T.JX) M u (aD (aY aZ (pv 0) aF) (aD aF (aD (bL oy (aX aW rfl T.J0 bU (aD (pc (D:=T.KJ) L u (aD (pv 1) (aD (aY E9 (bT (v:=.ref T.K7) rfl T.Ku rfl) (aY aZ (pv 0) aF)) aC))) aC)) aF) aC))))))),?_⟩
 cases o:f9 x with
 | false =>
  refine aR (K:=K) (b:=true) ?_ (λc C s1=>?_) (λc=>nomatch c)
  ·exact RT.as (dP (b:=true) (c:=true) (RT.as (bZ (bO (bM (aB (aA a) aM) ⟨x,rfl,rfl⟩))) (by rw [o];rfl)) λc=>nomatch c) rfl
  ·refine bJ (K:=K) (d:=.bl (qu p x)) ?_ λv m s q=>post v m (s1.trans s) q;rw [EV o];exact f7
 | true =>
  have g:=o;unfold f9 at g;split at g
  ·rename_i j r;have X:((((D.str j)::r).length:Nat):Int)=(r.length:Int)+1:=by rw [Pr];lia
   have F:=kI (K:=K) (fL (aA (σ:=start ["thing","pattern"] [S,U]) (k:=0) a)) (aG (i:=2));rw [X] at F;refine aR (K:=K) (b:=!decide ((r.length:Int)+1=2) || !KTD.inKeys j TF) (RT.as (dP (b:=false) (RT.as (bZ (bO (bM (aB (aA a) aM) ⟨_,rfl,rfl⟩))) (by rw [o];rfl)) λ_=>dP (aJ F) λ_=>aJ (xU (a6 (k:=0) (aA a) aG rfl) T.Kv)) (QE _)) (λc C s1=>?_) (λc C s1=>?_)
   ·refine bJ (K:=K) (d:=.bl false) f7 λv m s q=>post v m (s1.trans s) ?_
    have e:qu p (.tup (.str j::r))=false:=by
     rw [wV]
     cases Y:decide ((r.length:Int)+1=2) with
     | false=>rfl
     | true =>rw [Y] at c;have Z:KTD.inKeys j TF=false:=jZ c;rw [Z];rfl
    rw [e];exact q
   ·rw [QI] at c;have G:=gZ c.1;have I:=gZ c.2
    obtain ⟨y,er⟩:∃ y,r=[y]:=by
     match r,Pq G with
     | [],h=>simp at h
     | [y],_=>exact ⟨y,rfl⟩
     | _::_::_,h=>simp at h;lia
    subst er;have a:=s1.dat a;have B:=s1.dat B;refine bJ (K:=K) (d:=.bl (dM y 0 (((d5 3 (t7 j TF) p).length:Int) - 1))) (bM (R:=fW) (aB (a6 (k:=1) (aA a) aG rfl) (aB aG (aB (vN (FJ (nG (R:=kU 3) (aB (aA B) (aB (BF (a6 (k:=0) (aA a) aG rfl) T.Kv (by rfl) (GT I)) aM)) ⟨p,t7 j TF,rfl,by decide,O,rfl⟩)) aG) aM))) ⟨y,0,_,rfl,rfl⟩) λv m s q=>post v m (s1.trans s) ?_;rw [wV,G,I];exact q
  ·cases g
noncomputable def wM (p x:D):Bool:=dM x 0 99 || qu p x
noncomputable def B3 (ds:List D) (d:D):Prop:=∃ x p,ds=[x,p]/\XT 3 p=true/\d=.bl (wM p x)
theorem yN (T:Txt P w K mg) (e:Ok P w base k T.JX (Tj K fW)) (g:Ok P w base k T.L5 (Tj K B4)):Ok P w base (k+1) T.MY (Tj K B3):=by
 refine T.MY.f.ok XH (λvs H Q E h=>?_) (λj A outer s H vs Q E b h=>?_)
 ·obtain ⟨ds,d,a,⟨x,p,rfl,_⟩,_⟩:=h;exact a.length.symm
 have q:=XH.nd;obtain ⟨ds,d,a,⟨x,p,rfl,m,rfl⟩,post⟩:=h;obtain ⟨u,y,rfl,c,o⟩:=i5 a;refine ⟨_,(aH (aP (Dt (pc (D:=T.JX) e b (aD (pv 0) (aD aF (aD (bT (v:=.int 99) rfl T.KG ⟨_,rfl⟩) aC)))) (jI (pc (D:=T.L5) g b (aD (pv 0) (aD (pv 1) aC))))))),?_⟩;exact bJ (K:=K) (d:=.bl (wM p x)) (AG (bM (R:=fW) (aB (aA c) (aB aG (aB aG aM))) ⟨x,0,99,rfl,rfl⟩) λ_=>bM (R:=B4) (aB (aA c) (aB (aA o) aM)) ⟨x,p,rfl,m,rfl⟩) post
noncomputable def tD (c:Int):Option (Str × Nat):=match INS[c.toNat]? with
 | some (.tup [.str nm,.int m])=>some (nm,m.toNat)
 | _=>none
variable {c:Int}
theorem Hq {m:Nat} (h:tD c=some (nm,m)):INS[c.toNat]?=some (.tup [.str nm,.int (m:Int)])/\c.toNat < 17:=by
 unfold tD at h
 have a:c.toNat < 17:=by
  by_cases b:c.toNat < 17
  ·exact b
  ·rw [RH (by show (17:Nat)<=c.toNat;lia)] at h;cases h
 refine ⟨?_,a⟩
 have all:∀ i:Nat,i < 17->∀ nm m,(match INS[i]? with | some (.tup [.str nm,.int m])=>some (nm,m.toNat) | _=>none)=some (nm,m)->INS[i]?=some (.tup [.str nm,.int (m:Int)]):=by
  intro i hi nm m e
  match i,hi with
  | 0,_=>cases e;rfl
  | 1,_=>cases e;rfl
  | 2,_=>cases e;rfl
  | 3,_=>cases e;rfl
  | 4,_=>cases e;rfl
  | 5,_=>cases e;rfl
  | 6,_=>cases e;rfl
  | 7,_=>cases e;rfl
  | 8,_=>cases e;rfl
  | 9,_=>cases e;rfl
  | 10,_=>cases e;rfl
  | 11,_=>cases e;rfl
  | 12,_=>cases e;rfl
  | 13,_=>cases e;rfl
  | 14,_=>cases e;rfl
  | 15,_=>cases e;rfl
  | 16,_=>cases e;rfl
  | n+17,h=>lia
 exact all c.toNat a nm m h
noncomputable def ky (cells:List D) (p m:Nat):List D:=(cells.drop (p+1)).take m
noncomputable def B5 (ds:List D) (d:D):Prop:=∃ (cells:List D) (p:Nat) (c:Int) (nm:Str) (m:Nat),ds=[.tup cells,.int p]/\cells[p]?=some (.int c)/\0<=c/\tD c=some (nm,m)/\(ky cells p m).length=m/\d=.tup [.str nm,.tup (ky cells p m)]
theorem nz (T:Txt P w K mg)  : Ok P w base (k+1) T.JY (Tj K B5):=by
 refine T.JY.f.ok Tv (λvs H Q E h=>?_) (λI A outer s H vs Q E U h=>?_)
 ·obtain ⟨ds,d,o,⟨cells,p,c,nm,m,rfl,_⟩,_⟩:=h;exact o.length.symm
 have u:=Tv.nd;obtain ⟨ds,d,o,⟨cells,p,c,nm,m,rfl,y,X,hi,J,rfl⟩,post⟩:=h;obtain ⟨Y,Z,rfl,g,a⟩:=i5 o;refine ⟨_,(aE (bE (PW.pt (fH (aN tH (pv 1) (aX aW rfl T.J0 bU (aD (pv 0) aC)) (aT _)) (eR (aN tH (aY aZ (pv 0) (pv 1)) (aX aW rfl T.J0 bU (aD (bT (v:=.ref T.Kj) rfl T.J7 rfl) aC)) (aT _))))) (aH dF) aQ)
 (aE (gH (aY aZ (bT (v:=.ref T.Kj) rfl T.J7 rfl) (aY aZ (pv 0) (pv 1))) (gF rfl (bN (a7 (i:=2) u rfl (Or.inl rfl)) (bN (a7 (i:=3) u rfl (Or.inl rfl)) eH))))
 (aE (bQ (i:=4) u rfl (Or.inl rfl) (eP dY rfl T.KN fP (aD (jJ rL (pv 0) (iY (bL cJ (pv 1) aF)) (iY (bL cJ (bL cJ (pv 1) aF) (pv 3)))) aC)))
 (aE (bE (aN km (aX aW rfl T.J0 bU (aD (pv 4) aC)) (pv 3) (aT _)) (aH dF) aQ)
 (aH (aP (bA (aD (pv 2) (aD (pv 4) aC))))))))),?_⟩
 obtain ⟨hi,L⟩:=Hq hi;have hp:p < cells.length:=(P5.mp y).1;have M:c=((c.toNat:Nat):Int):=by lia
 refine aR (K:=K) (b:=false) (RT.as (dP (b:=false) (c:=false) (RT.as (aJ (cQ (p:=λi j=>decide (j<=i)) (aA a) (fL (aA g)))) (Po (by lia))) λ_=>RT.as (aJ (cQ (p:=λi j=>decide (j<=i)) (a6 (k:=p) (aA g) (aA a) y) (fL (lN T.KS)))) (Po (by show ¬ (17:Int)<=c;lia))) rfl) (λc=>nomatch c) (λ_ H1 s1=>?_);have g:=s1.dat g;have a:=s1.dat a;refine jX (K:=K) (d:=.str nm) (e:=.int m) (a6 (k:=c.toNat) (lN T.KS) (RE.as (a6 (k:=p) (aA g) (aA a) y) (P1 D.int M)) hi) λv2 v3 H2 z N F=>?_;have g:=z.dat g;have a:=z.dat a;have O:(p:Int)+1=((p+1:Nat):Int):=by lia
 have R:(p:Int)+1+(m:Int)=((p+1+m:Nat):Int):=by lia
 refine eJ (K:=K) (d:=.tup (ky cells p m)) (RE.as (BJ (Ig (lo:=p+1) (hi:=p+1+m) (aA g) (RE.as (c8 (aA a) aG) (P1 D.int O)) (RE.as (c8 (c8 (aA a) aG) (aA F)) (P1 D.int R)) (by lia) (by lia))) (by unfold ky;rw [show p+1+m - (p+1)=m by lia])) λv4 H3 B G=>?_;refine aR (K:=K) (b:=false) (RT.as (aJ (cQ (p:=λi j=>decide (i < j)) (fL (aA G)) (aA (B.dat F)))) (Po (by rw [J];lia))) (λc=>nomatch c) (λ_ H4 C=>?_);exact bJ (K:=K) (d:=.tup [.str nm,.tup (ky cells p m)]) (bF (aB (aA (C.dat (B.dat N))) (aB (aA (C.dat G)) aM))) λv S s q=>post v S (s1.trans (z.trans (B.trans (C.trans s)))) q
noncomputable abbrev SS:List Str:=["put","far","load","add","sub","mul","less","more","twice","about"]
noncomputable def IU (a:Nat->Option Bool) (b:D) (cells:List D) (p:Nat):D->Option Bool
 | .int c=>(match tD c with
  | some (nm,m)=>if (ky cells p m).length=m then (if (!decide (nm ∈ SS) || !((ky cells p m).map (wM b)).all id)=true then some false else a (p+1+m)) else none
  | none=>none)
 | _=>none
noncomputable def p7:Nat->D->List D->Nat->Option Bool
 | 0,_,_,_=>none
 | n+1,a,cells,p=>match cells[p]? with
  | none=>some true
  | some x=>if dM x 0 99=false then some false else IU (p7 n a cells) a cells p x
noncomputable def GJ (ds:List D) (d:D):Prop:=∃ (cells:List D) (a:D) (b:Bool),ds=[.tup cells,a]/\XT 3 a=true/\cells.length<=100/\p7 (cells.length+1) a cells 0=some b/\d=.bl b
noncomputable def JR (σ:L2.St) (_:Hp):Nat:=match σ[2]? with
 | some (some (V.int p))=>(200 - p).toNat
 | _=>0
variable {cells:List D} {p:Nat}
theorem GY {m:Nat}:(ky cells p m).length<=cells.length:=by unfold ky;rw [Qh,Q7];lia
theorem EG {m:Nat} (h:(ky cells p m).length=m) (a:p < cells.length):p+1+m<=cells.length:=by unfold ky at h;rw [Qh,Q7] at h;lia
theorem mn (T:Txt P w K mg) (JZ:Ok P w base k T.JX (Tj K fW)) (Kw:Ok P w base k T.JY (Tj K B5)) (OE:Ok P w base k T.MY (Tj K B3)):Ok P w base (k+1) T.KI (Tj K GJ):=by
 refine T.KI.f.ok UN (λvs H Q E h=>?_) (λcdv A outer s H vs Q E S h=>?_)
 ·obtain ⟨ds,d,U,⟨cells,g,I,rfl,_⟩,_⟩:=h;exact U.length.symm
 have M:=UN.nd;obtain ⟨ds,d,U,⟨cells,g,I,rfl,hp,hl,X,rfl⟩,post⟩:=h;obtain ⟨v0,v1,rfl,h0,h1⟩:=i5 U;refine ⟨_,(aE (bQ (i:=2) M rfl (Or.inl rfl) aF)
 (aE (rh Qv (aN km (pv 2) (aX aW rfl T.J0 bU (aD (pv 0) aC)) (aT _)) (aE (bE (cW (bR (pc (D:=T.JX) JZ S (aD (aY aZ (pv 0) (pv 2)) (aD aF (aD (bT (v:=.int 99) rfl T.KG ⟨_,rfl⟩) aC)))) (λ_=>rfl))) (aH (aP d8)) aQ)
 (aE (FB (aH (gH (pc (D:=T.JY) Kw S (aD (pv 0) (aD (pv 2) aC))) (gF rfl (bN (a7 (i:=3) M rfl (Or.inl rfl)) (bN (a7 (i:=4) M rfl (Or.inl rfl)) eH))))))
 (aE (bE (PW.pt (fH (aN nD (pv 3) (bT (v:=.ref T.MG) rfl T.LB rfl) (by with_unfolding_all rfl)) (eR (cW (bR (aX (jC rfl) rfl T.Ny mN (aD (eV (own:=["cell"]) (fr:=[1]) (N':=["cell","pattern"]) (kE (pv 4)) rfl (by show dS ["cells","pattern","place","name","behind"] (λx=>(aK hV).names.lookup x) _ _ _ _=true;decide +kernel) rfl (λ_ _ _ _ _=>(a7 (i:=0) (by show List.Nodup [("cell":Str),("pattern":Str)];decide +kernel) rfl (Or.inl rfl))) (λ_ _ _ _ _=>c7) (λ_ _ _ _ _=>(pc (D:=T.MY) OE S (aD (pv 0) (aD (pv 1) aC))))) aC)) (λ_=>rfl)))))) (aH (aP d8)) aQ)
 (aH (yZ (i:=2) M rfl (Or.inl rfl) (bL cJ aF (aX aW rfl T.J0 bU (aD (pv 4) aC))) uN))))))
 (aH (aP d8)))),?_⟩
 refine fR (DZ (eB (rX (λσ G=>∃ (p n:Nat) (z3 z4:Option V),σ=[some v0,some v1,some (.int p),z3,z4]/\SJ H G/\p7 n g cells p=some I/\p<=cells.length) JR ?_ ?_ ?_)))
 ·exact ⟨0,_,none,none,rfl,SJ.refl _,X,QA _⟩
 ·rintro σ G ⟨p,n,z3,z4,rfl,B,N,hpl⟩;have o:=B.dat h0;have u:=B.dat h1;refine RT.use (b:=decide ((p:Int) < (cells.length:Int))) (aJ (cQ (p:=λi j=>decide (i < j)) (aA (K:=K) (Dat.SN (p:Int))) (fL (aA o)))) λG1 s1=>?_
  obtain ⟨n,rfl⟩:∃ m,n=m+1:=by
   cases n with
   | zero=>cases N
   | succ m=>exact ⟨m,rfl⟩
  by_cases J:p < cells.length
  ·rw [Py (by lia:(p:Int) < (cells.length:Int))];refine j4 ?_;have O:cells[p]?=some cells[p]:=Pg J;generalize cells[p]=x at O
   have a:(if dM x 0 99=false then some false else IU (p7 n g cells) g cells p x)=some I:=by have e:p7 (n+1) g cells p=some I:=N;unfold p7 at e;rw [O] at e;exact e
   have o:=s1.dat o;have u:=s1.dat u;refine aR (K:=K) (b:=!dM x 0 99) (bZ (bO (bM (R:=fW) (aB (a6 (k:=p) (aA o) (aA (Dat.SN (p:Int))) O) (aB aG (aB aG aM))) ⟨x,0,99,rfl,rfl⟩))) (λY G2 C=>?_) (λY G2 C=>?_)
   ·rw [Pk (jZ Y)] at a;cases a;exact post _ _ (B.trans (s1.trans C)) (Dat.VY _)
   ·have cw:=gZ Y;rw [M1 (by rw [cw];exact λz=>nomatch z)] at a
    cases x with
    | int c =>
     have a:(match tD c with
      | some (nm,m)=>if (ky cells p m).length=m then (if (!decide (nm ∈ SS) || !((ky cells p m).map (wM g)).all id)=true then some false else p7 n g cells (p+1+m)) else none
      | none=>none)=some I:=a
     have c0:0<=c:=by have z:(decide (0<=c) && decide (c<=99))=true:=cw;rw [Pz] at z;exact Pq z.1
     cases y:tD c with
     | none=>rw [y] at a;cases a
     | some nm =>
      obtain ⟨nm,m⟩:=nm;rw [y] at a;dsimp only at a;by_cases L:(ky cells p m).length=m
      ·rw [Pk L] at a;have o:=C.dat o;have u:=C.dat u;refine jX (K:=K) (d:=.str nm) (e:=.tup (ky cells p m)) (bM (R:=B5) (aB (aA o) (aB (aA (Dat.SN (p:Int))) aM)) ⟨cells,p,c,nm,m,rfl,O,c0,y,L,rfl⟩) λv3 v4 G3 Z g3 g4=>?_;have u:=Z.dat u;have lb:=GY (cells:=cells) (p:=p) (m:=m);refine aR (K:=K) (b:=!decide (nm ∈ SS) || !((ky cells p m).map (wM g)).all id) (dP (aJ (BI (ys:=SS) (aA g3) (lN T.NJ))) λ_=>bZ (bO (me (rn (aA g4) (by lia) _ (by simp) rfl (λG4 i z vz d F hz hi hvz=>?_))))) (λc2 G4 F=>?_) (λc2 G4 F=>?_)
       ·rw [Pw,Pw,hz] at hi;cases hi;exact bM (E:=E0) (R:=B3) (aB (aA hvz) (aB (aA (F.dat u)) aM)) ⟨z,g,rfl,hp,rfl⟩
       ·rw [Pk c2] at a;cases a;exact post _ _ (B.trans (s1.trans (C.trans (Z.trans F)))) (Dat.VY _)
       ·rw [M1 (by rw [c2];exact Pp)] at a;refine ⟨_,rfl,RE.use (c8 (K:=K) aG (fL (aA (F.dat g4)))) λv5 G5 s5 q5=>?_⟩;refine ⟨p,1+((ky cells p m).length:Int),rfl,q5.SQ,?_⟩;have ep:(p:Int)+(1+((ky cells p m).length:Int))=((p+1+m:Nat):Int):=by rw [L];lia
        have he:=EG L J;refine ⟨⟨p+1+m,n,some v3,some v4,by rw [<- ep];rfl,B.trans (s1.trans (C.trans (Z.trans (F.trans s5)))),a,he⟩,?_⟩;show (200 - ((p:Int)+(1+((ky cells p m).length:Int)))).toNat < (200 - (p:Int)).toNat;lia
      ·rw [M1 L] at a;cases a
    | _=>cases a
  ·rw [Po (by lia:¬ (p:Int) < (cells.length:Int))];refine j0 ?_
   have e:p7 (n+1) g cells p=some true:=by unfold p7;rw [RH (by lia)]
   rw [e] at N;cases N;exact post _ _ (B.trans s1) (Dat.VY _)
 ·intro σ G Q1 Q2 hQ hc;obtain ⟨v,e,v',e',p,ys,e2,hq,i,j,e3,e4,b,e5,q⟩:=hc;exact ⟨v,e,v',e',p,ys,e2,hq,i,j,e3,e4,b,e5,hQ _ _ q⟩
noncomputable def yF:D->Bool
 | .str x=>decide (x="pick")
 | _=>false
noncomputable def csD (a:D):D->Option Bool
 | .tup l=>if (decide (1<=(l.length:Int)) && decide ((l.length:Int)<=12))=false then some false else p7 (l.length+1) a l 0
 | _=>some false
noncomputable def rb:D->Option Bool
 | .tup [nm,a,cs]=>if (!lE nm || (yF nm || !vE a))=true then some false else csD a cs
 | _=>some false
noncomputable def JT:D->Prop
 | .tup (nm::_)=>Gq nm
 | _=>True
noncomputable def ym (ds:List D) (d:D):Prop:=∃ (x:D) (b:Bool),ds=[x]/\JT x/\rb x=some b/\d=.bl b
variable {te:TE} {us:TS} {En:kx} {j:Nat} {e:D}
theorem vU {K:W.Frag} {l:Nat} {f:D} (h:RE K te σ H (.tup [d,e,f])) (q:∀ v w x b,SJ H b->Dat K b d v->Dat K b e w->Dat K b f x->us En (((σ.set i (some v)).set j (some w)).set l (some x)) b) :
  lX (rQ te (A7 K 3 (mw (d6 i) (mw (d6 j) (mw (d6 l) CD))))) us En σ H :=
 h.use λx g s1 m=>by obtain ⟨a,vs,o,s,u⟩:=m.S9;obtain ⟨v,w,x,y,z,A,B⟩:=sT u;subst o y;exact ⟨a,_,rfl,s,rfl,v,_,rfl,w,_,rfl,x,_,rfl,rfl,q v w x g s1 z A B⟩
theorem qG {x:D} (h:∀ y,x≠.tup y):pB x "tuple"=false:=by
 cases x with
 | tup y=>exact absurd rfl (h y)
 | _=>rfl
theorem DA {x:D} (h:∀ a b c,x≠.tup [a,b,c]):rb x=some false:=by
 unfold rb;split
 ·rename_i a b c;exact absurd rfl (h a b c)
 ·rfl
theorem HI {x:D} (h:vE x=true):XT 3 x=true:=by unfold vE at h;rw [Pz] at h;exact h.1
theorem C5 {x:D} (h:lE x=true):∃ y,x=.str y:=by
 cases x with
 | str y=>exact ⟨y,rfl⟩
 | _=>cases h
theorem xC (T:Txt P w K mg) (OG:Ok P w base k T.M0 (Tj K B6)) (N0:Ok P w base k T.L6 (Tj K GQ)) (Nc:Ok P w base k T.KI (Tj K GJ)):Ok P w base (k+1) T.MK (Tj K ym):=by
 refine T.MK.f.ok Xk (λvs H Q E h=>?_) (λcdv A outer s H vs Q E O h=>?_)
 ·obtain ⟨ds,d,S,⟨x,F,rfl,_⟩,_⟩:=h;exact S.length.symm
 have U:=Xk.nd;obtain ⟨ds,d,S,⟨x,F,rfl,X,B,rfl⟩,post⟩:=h;obtain ⟨v0,rfl,G⟩:=ji S;refine ⟨_,(aE (bE (PW.pt (fH (cW (bR (aX (gC ng) rfl T.J6 cY (dE (pv 0) (dE (iB (v:=.ty "tuple") rfl T.KN fP rfl) aC))) (λ_=>rfl))) (eR (aN lI (aX aW rfl T.J0 bU (aD (pv 0) aC)) aF (aT _))))) (aH (aP d8)) aQ)
 (aE (gH (pv 0) (gF rfl (bN (a7 (i:=1) U rfl (Or.inl rfl)) (bN (a7 (i:=2) U rfl (Or.inl rfl)) (bN (a7 (i:=3) U rfl (Or.inl rfl)) eH)))))
 (aE (bE (PW.pt (fH (cW (bR (pc (D:=T.M0) OG O (aD (pv 1) aC)) (λ_=>rfl))) (fH (aN bV (pv 1) aO (aT _)) (eR (cW (bR (pc (D:=T.L6) N0 O (aD (pv 2) aC)) (λ_=>rfl))))))) (aH (aP d8)) aQ)
 (aE (bE (PW.pt (fH (cW (bR (aX (gC ng) rfl T.J6 cY (dE (pv 3) (dE (iB (v:=.ty "tuple") rfl T.KN fP rfl) aC))) (λ_=>rfl))) (eR (cW (nE jV jV aF (aX aW rfl T.J0 bU (aD (pv 3) aC)) (bT (v:=.int 12) rfl T.Kb ⟨_,rfl⟩)))))) (aH (aP d8)) aQ)
 (aH (aP (pc (D:=T.KI) Nc O (aD (pv 3) (aD (pv 2) aC))))))))),?_⟩
 by_cases o:∃ a b c,x=.tup [a,b,c]
 ·obtain ⟨nm,g,cs,rfl⟩:=o;refine aR (K:=K) (b:=false) (RT.as (dP (b:=false) (c:=false) (RT.as (bZ (bO (dC (aA G)))) rfl) λ_=>RT.as (aJ (kI (fL (aA G)) aG)) rfl) rfl) (λc=>nomatch c) (λ_ H1 s1=>?_);refine vU (K:=K) (d:=nm) (e:=g) (f:=cs) (aA (s1.dat G)) λv1 v2 v3 H2 s2 h1 M o=>?_;have m:(if (!lE nm || (yF nm || !vE g))=true then some false else csD g cs)=some F:=B;refine aR (K:=K) (b:=!lE nm || (yF nm || !vE g)) (dP (bZ (bO (bM (R:=B6) (aB (aA h1) aM) ⟨nm,rfl,X,rfl⟩))) λc=>dP ?_ λ_=>bZ (bO (bM (R:=GQ) (aB (aA M) aM) ⟨g,rfl,rfl⟩))) (λc H3 I=>?_) (λc H3 I=>?_)
  ·obtain ⟨y,rfl⟩:=C5 (gZ c);exact aJ (bI (aA h1) aL)
  ·rw [Pk c] at m;cases m;exact bJ (K:=K) (d:=.bl false) f7 λv u s q=>post v u (s1.trans (s2.trans (I.trans s))) q
  ·rw [M1 (by rw [c];exact Pp)] at m;rw [QI,QI] at c;have hp:=HI (gZ c.2.2);have M:=I.dat M;have o:=I.dat o;have Y:=s1.trans (s2.trans I);by_cases hc:∃ l,cs=.tup l
   ·obtain ⟨l,rfl⟩:=hc;have m:(if (decide (1<=(l.length:Int)) && decide ((l.length:Int)<=12))=false then some false else p7 (l.length+1) g l 0)=some F:=m;refine aR (K:=K) (b:=!(decide (1<=(l.length:Int)) && decide ((l.length:Int)<=12))) (RT.as (dP (b:=false) (RT.as (bZ (bO (dC (aA o)))) rfl) λ_=>bZ (aJ (lK (p:=λi j=>decide (i<=j)) (r:=λi j=>decide (i<=j)) aG (fL (aA o)) λ_=>aG))) (QE _)) (λN H4 C=>?_) (λN H4 C=>?_)
    ·rw [Pk (jZ N)] at m;cases m;exact bJ (K:=K) (d:=.bl false) f7 λv u s q=>post v u (Y.trans (C.trans s)) q
    ·have Z:=gZ N;rw [M1 (by rw [Z];exact λz=>nomatch z)] at m;rw [Pz] at Z;have l12:=Pq Z.2;exact bJ (K:=K) (d:=.bl F) (bM (R:=GJ) (aB (aA (C.dat o)) (aB (aA (C.dat M)) aM)) ⟨l,g,F,rfl,hp,by lia,m,rfl⟩) λv u s q=>post v u (Y.trans (C.trans s)) q
   ·have J:∀ y,cs≠.tup y:=λy e=>hc ⟨y,e⟩
    have e:F=false:=by
     cases cs with
     | tup y=>exact absurd rfl (J y)
     | _=>cases m;rfl
    refine aR (K:=K) (b:=true) (RT.as (dP (b:=true) (c:=true) (RT.as (bZ (bO (dC (aA o)))) (by rw [qG J];rfl)) λc=>nomatch c) rfl) (λN H4 C=>?_) (λc=>nomatch c);rw [e] at post;exact bJ (K:=K) (d:=.bl false) f7 λv u s q=>post v u (Y.trans (C.trans s)) q
 ·have L:∀ a b c,x≠.tup [a,b,c]:=λa b c e=>o ⟨a,b,c,e⟩;rw [DA L] at B;cases B;refine aR (K:=K) (b:=true) ?_ (λc H1 s1=>?_) (λc=>nomatch c)
  ·by_cases ht:∃ l,x=.tup l
   ·obtain ⟨l,rfl⟩:=ht;refine RT.as (dP (b:=false) (c:=true) (RT.as (bZ (bO (dC (aA G)))) rfl) λ_=>RT.as (aJ (kI (fL (aA G)) aG)) ?_) rfl
    have:¬ (l.length:Int)=3:=λe=>by
     match l,e with
     | [a,b,c],_=>exact L a b c rfl
     | [],h=>simp at h
     | [_],h=>simp at h
     | [_,_],h=>simp at h
     | _::_::_::_::_,h=>simp at h;lia
    rw [Po this];rfl
   ·have ht':∀ y,x≠.tup y:=λy e=>ht ⟨y,e⟩;exact RT.as (dP (b:=true) (c:=true) (RT.as (bZ (bO (dC (aA G)))) (by rw [qG ht'];rfl)) λc=>nomatch c) rfl
  ·exact bJ (K:=K) (d:=.bl false) f7 λv u s q=>post v u (s1.trans s) q
variable {Wo:List V} {E:XK} {tA:TA} {Q:VK}
theorem mT {sp:Sp} (h:tA σ H λvs a=>sp (vs++Wo) a Q E):kr sp Wo E tA σ H Q:=h
theorem gS {Q:List V->Hp->Prop} (h:te σ H λx a=>tA σ a λxs b=>Q (x::xs) b):bW te tA σ H Q:=h
inductive Pa where
 | hole (i:Int)
 | gap (i m:Int)
 | slot (i:Int)
 | num (n:Int)
 | two (o:Str) (a b:Pa)
noncomputable def Xu:Pa->D
 | .hole i=>.tup [.str "hole",.int i]
 | .gap i m=>.tup [.str "gap",.int i,.int m]
 | .slot i=>.tup [.str "slot",.int i]
 | .num n=>.tup [.str "num",.int n]
 | .two o a b=>.tup [.str o,Xu a,Xu b]
noncomputable abbrev ZS (o:Str):Prop:=o="add"\/o="sub"\/o="mul"\/o="less"
noncomputable def yL:Pa->Prop
 | .num n=>0<=n/\n<=9999
 | .two o a b=>ZS o/\yL a/\yL b
 | _=>True
noncomputable def eK:Pa->Nat
 | .two _ a b=>max (eK a) (eK b)+1
 | _=>1
theorem nW (p:Pa):1<=eK p:=by cases p <;> simp [eK]
noncomputable abbrev Vg:Type:=List Tr × List Int × List Int
noncomputable def Hf (f g:Vg):Vg:=(f.1++g.1,f.2.1++g.2.1,f.2.2++g.2.2)
noncomputable def cO:Pa->Tr->Option Vg
 | .hole _,t=>some ([t],[],[])
 | .gap _ m,.num n=>if n<=m then some ([],[n],[]) else none
 | .gap _ _,_=>none
 | .slot _,.arg k=>some ([],[],[k])
 | .slot _,_=>none
 | .num n,.num m=>if m=n then some ([],[],[]) else none
 | .num _,_=>none
 | .two o a b,.two h x y=>if h=o then (match cO a x,cO b y with
  | some f,some g=>some (Hf f g)
  | _,_=>none) else none
 | .two _ _ _,_=>none
noncomputable def JL:Pa->Bool
 | .hole _=>true
 | .gap _ _=>true
 | .slot _=>true
 | _=>false
theorem CN (t:Tr) (g:UQ t):∃ f r,toD t=.tup (.str f::r)/\(f="num"↔∃ n,t=.num n)/\(f="arg"↔∃ n,t=.arg n):=by
 cases t with
 | num n=>exact ⟨_,_,rfl,⟨λ_=>⟨n,rfl⟩,λ_=>rfl⟩,⟨λe=>absurd e (by decide +kernel),λ⟨m,e⟩=>nomatch e⟩⟩
 | arg n=>exact ⟨_,_,rfl,⟨λe=>absurd e (by decide +kernel),λ⟨m,e⟩=>nomatch e⟩,⟨λ_=>⟨n,rfl⟩,λ_=>rfl⟩⟩
 | two o a b =>
  have h:o="add"\/o="sub"\/o="mul"\/o="less":=g.1;refine ⟨_,_,rfl,⟨λe=>?_,λ⟨m,e⟩=>nomatch e⟩,⟨λe=>?_,λ⟨m,e⟩=>nomatch e⟩⟩
  ·subst e;exact absurd h (by decide +kernel)
  ·subst e;exact absurd h (by decide +kernel)
 | pick a b c=>exact ⟨_,_,rfl,⟨λe=>absurd e (by decide +kernel),λ⟨m,e⟩=>nomatch e⟩,⟨λe=>absurd e (by decide +kernel),λ⟨m,e⟩=>nomatch e⟩⟩
noncomputable def mZ (ds:List D) (d:D):Prop:=∃ p t,ds=[Xu p,toD t]/\JL p=true/\UQ t/\d=.bl (cO p t).isSome
theorem xf {i m:Int} (h:∀ n,t≠.num n):cO (.gap i m) t=none:=by
 cases t with
 | num n=>exact absurd rfl (h n)
 | _=>rfl
theorem tY {i:Int} (h:∀ n,t≠.arg n):cO (.slot i) t=none:=by
 cases t with
 | arg n=>exact absurd rfl (h n)
 | _=>rfl
theorem oo (T:Txt P w K mg)  : Ok P w base (k+1) T.Lc (Tj K mZ):=by
 refine T.Lc.f.ok Vk (λvs H Q E h=>?_) (λS A outer s H vs Q E Y h=>?_)
 ·obtain ⟨ds,d,G,⟨p,t,rfl,_⟩,_⟩:=h;exact G.length.symm
 have Z:=Vk.nd;obtain ⟨ds,d,G,⟨p,t,rfl,L,U,rfl⟩,post⟩:=h;obtain ⟨I,M,rfl,g,B⟩:=i5 G;refine ⟨_,(aE (bE (aN bV (aY aZ (pv 0) aF) aO (aT _)) (aH (aP (jH (eU bV (aY aZ (pv 1) aF) aO (aT _)) (jI (eU jV (aY aZ (pv 1) aF) (aY aZ (pv 0) aF) (aT _)))))) aQ)
 (aH (aP (Dt (eU bV (aY aZ (pv 0) aF) aO (aT _)) (jI (eU bV (aY aZ (pv 1) aF) aO (aT _))))))),?_⟩
 obtain ⟨N,r,X,C,u⟩:=CN t U;have O:Dat K H (.tup (.str N::r)) M:=by rw [<- X];exact B
 cases p with
 | hole i =>have g:Dat K H (.tup [.str "hole",.int i]) I:=g;refine aR (K:=K) (b:=false) (RT.as (aJ (bI (a6 (k:=0) (aA g) aG rfl) aL)) (Po (by decide +kernel))) (λc=>nomatch c) (λ_ R s1=>?_);exact bJ (K:=K) (d:=.bl true) (RE.as (AG (b:=true) (c:=true) (RE.as (bI (a6 (k:=0) (aA (s1.dat g)) aG rfl) aL) (P1 D.bl (Py rfl))) λc=>nomatch c) rfl) λv y s q=>post v y (s1.trans s) q
 | gap i m =>
  have g:Dat K H (.tup [.str "gap",.int i,.int m]) I:=g;refine aR (K:=K) (b:=true) (RT.as (aJ (bI (a6 (k:=0) (aA g) aG rfl) aL)) (Py rfl)) (λ_ R s1=>?_) (λc=>nomatch c);by_cases J:∃ n,t=.num n
  ·obtain ⟨n,rfl⟩:=J;have B:Dat K H (.tup [.str "num",.int n]) M:=B;refine bJ (K:=K) (d:=.bl (decide (n<=m))) (RE.as (eT (b:=true) (RE.as (bI (a6 (k:=0) (aA (s1.dat B)) aG rfl) aL) (P1 D.bl (Py rfl))) λ_=>cQ (p:=λi j=>decide (i<=j)) (a6 (k:=1) (aA (s1.dat B)) aG rfl) (a6 (k:=2) (aA (s1.dat g)) aG rfl)) rfl) λv y s q=>post v y (s1.trans s) ?_
   have e:(cO (.gap i m) (.num n)).isSome=decide (n<=m):=by
    show (if n<=m then some _ else none).isSome=_;by_cases z:n<=m
    ·rw [Pk z,Py z];rfl
    ·rw [M1 z,Po z];rfl
   rw [e];exact q
  ·refine bJ (K:=K) (d:=.bl false) (RE.as (eT (b:=false) (c:=true) (RE.as (bI (a6 (k:=0) (aA (s1.dat O)) aG rfl) aL) (P1 D.bl (Po (λe=>J (C.mp e))))) λc=>nomatch c) rfl) λv y s q=>post v y (s1.trans s) ?_;rw [xf λn e=>J ⟨n,e⟩];exact q
 | slot i =>
  have g:Dat K H (.tup [.str "slot",.int i]) I:=g;refine aR (K:=K) (b:=false) (RT.as (aJ (bI (a6 (k:=0) (aA g) aG rfl) aL)) (Po (by decide +kernel))) (λc=>nomatch c) (λ_ R s1=>?_);refine bJ (K:=K) (d:=.bl (decide (N="arg"))) (RE.as (AG (b:=false) (RE.as (bI (a6 (k:=0) (aA (s1.dat g)) aG rfl) aL) (P1 D.bl (Po (by decide +kernel)))) λ_=>bI (a6 (k:=0) (aA (s1.dat O)) aG rfl) aL) (P1 D.bl (QE _))) λv y s q=>post v y (s1.trans s) ?_;by_cases F:∃ n,t=.arg n
  ·rw [Py (u.mpr F)] at q;obtain ⟨n,rfl⟩:=F;exact q
  ·rw [Po (λe=>F (u.mp e))] at q;rw [tY λn e=>F ⟨n,e⟩];exact q
 | num n=>cases L
 | two o a b=>cases L
noncomputable def mK (K:W.Frag) (o:Addr->Addr->Addr->HO) (n:Nat):Sp:=λvs H Q _=>∃ (p:Pa) (t:Tr) (z A:V) (f h m q:Addr) (a b c:List V),vs=[z,A,.ref f]/\yL p/\UQ t/\a9 t<=8/\eK p<=n/\n<=3/\Dat K H (Xu p) z/\Dat K H (toD t) A /\
 H f=some (o h m q)/\f≠h/\f≠m/\f≠q/\X8 h m q H a b c/\a.length+2 ^ n<=100/\b.length+2 ^ n<=100/\c.length+2 ^ n<=100 /\
 ∀ (g:Hp) (u v y:List V),Wq h m q H g->X8 h m q g (a++u) (b++v) (c++y)->u.length<=2 ^ n->v.length<=2 ^ n->y.length<=2 ^ n ->
  (∀ s:Vg,cO p t=some s->SI K g (s.1.map toD) u/\SI K g (s.2.1.map D.int) v/\SI K g (s.2.2.map D.int) y)->Q (.bl (cO p t).isSome) g
noncomputable def oD (a b f:Addr):HO:=.dK [(Sum.inr "hole",.ref a),(Sum.inr "gap",.ref b),(Sum.inr "slot",.ref f)]
theorem Ao (a b f:Addr):mY ([(Sum.inr "hole",V.ref a),(Sum.inr "gap",.ref b),(Sum.inr "slot",.ref f)]:List (Key × V)) (Sum.inr "hole")=some (.ref a):=rfl
theorem Dl (b a f:Addr):mY ([(Sum.inr "hole",V.ref b),(Sum.inr "gap",.ref a),(Sum.inr "slot",.ref f)]:List (Key × V)) (Sum.inr "gap")=some (.ref a):=rfl
theorem Ap (b f a:Addr):mY ([(Sum.inr "hole",V.ref b),(Sum.inr "gap",.ref f),(Sum.inr "slot",.ref a)]:List (Key × V)) (Sum.inr "slot")=some (.ref a):=rfl
variable {v:V}
theorem CG {f:Addr} {a:List (Key × V)} {x:Str} (h:H f=some (.dK a)) (e:mY a (Sum.inr x)=some v):Yt H f (.str x) (some v):=by have g:=Yt.k (k:=Sum.inr x) h;rw [e] at g;exact g
theorem rS {k:Str} (h:k="hole"\/k="gap"\/k="slot"):KTD.inKeys k TM=true:=by rcases h with rfl | rfl | rfl <;> decide +kernel
variable {o:Str}
theorem EF (h:ZS o):KTD.inKeys o TM=false/\¬ o="num":=by rcases h with rfl | rfl | rfl | rfl <;> decide +kernel
theorem DC (n:Nat):1<=2 ^ n:=Nat.one_le_iff_ne_zero.mpr (by simp)
theorem oA {α:Type} {x y:List α} (a:x.length<=2 ^ n) (b:y.length<=2 ^ n):(x++y).length<=2 ^ (n+1):=by rw [tB,Sf];lia
variable {y:Tr}
theorem fC {m:Str} {a b:Pa} {s:Vg} (h:cO (.two o a b) (.two m x y)=some s):m=o/\∃ f g,cO a x=some f/\cO b y=some g/\s=Hf f g:=by
 unfold cO at h;by_cases e:m=o
 ·rw [Pk e] at h
  cases q:cO a x with
  | none=>rw [q] at h;cases h
  | some f =>
   cases u:cO b y with
   | none=>rw [q,u] at h;cases h
   | some g =>rw [q,u] at h;cases h;exact ⟨e,f,g,rfl,rfl,rfl⟩
 ·rw [M1 e] at h;cases h
theorem jU {a b:Pa} (h:cO a x=none):cO (.two o a b) (.two o x y)=none:=by unfold cO;rw [Pk rfl,h]
theorem qx {a b:Pa} {f:Vg} (h:cO a x=some f):(cO (.two o a b) (.two o x y)).isSome=(cO b y).isSome:=by show (if o=o then _ else none:Option Vg).isSome=_;rw [Pk rfl,h];cases cO b y <;> rfl
variable {kd:Str}
theorem wY {a b:Pa} (m:ZS o) (f:toD t=.tup (.str kd::r)) (h:¬ kd=o):cO (.two o a b) t=none:=by
 cases t with
 | two g x y =>unfold cO;rw [M1];intro e;apply h;have z:toD (.two g x y)=.tup [.str g,toD x,toD y]:=rfl;rw [z] at f;injection f with f;injection f with f _;injection f with f;rw [<- f,e]
 | _=>rfl
theorem xh (b:ZS o) (a:toD t=.tup (.str kd::r)) (h:kd=o):∃ x y,t=.two o x y:=by
 subst h
 cases t with
 | two f x y =>have z:toD (.two f x y)=.tup [.str f,toD x,toD y]:=rfl;rw [z] at a;injection a with a;injection a with a _;injection a with a;subst a;exact ⟨x,y,rfl⟩
 | num n =>have z:toD (.num n)=.tup [.str "num",.int n]:=rfl;rw [z] at a;injection a with a;injection a with a _;injection a with a;subst a;exact absurd b (by decide +kernel)
 | arg n =>have z:toD (.arg n)=.tup [.str "arg",.int n]:=rfl;rw [z] at a;injection a with a;injection a with a _;injection a with a;subst a;exact absurd b (by decide +kernel)
 | pick x y u =>have z:toD (.pick x y u)=.tup [.str "pick",toD x,toD y,toD u]:=rfl;rw [z] at a;injection a with a;injection a with a _;injection a with a;subst a;exact absurd b (by decide +kernel)
theorem Am {o:Addr->Addr->Addr->HO} (vs:List V) (H:Hp) (Q:VK) (E:XK):¬ mK K o 0 vs H Q E:=λ⟨p,_,_,_,_,_,_,_,_,_,_,_,_,_,_,h,_⟩=>by have:=nW p;lia
theorem yT (T:Txt P w K mg) (NB:Ok P w base k T.Lc (Tj K mZ)) (MU:Ok P w base k T.Ln (mK K oD n)):Ok P w base (k+1) T.Ln (mK K oD (n+1)):=by
 refine T.Ln.f.ok XI (λvs H Q E h=>?_) (λcdv A outer s H vs Q E hr h=>?_)
 ·obtain ⟨p,t,v0,v1,f,S,U,X,a,b,c,rfl,_⟩:=h;rfl
 have nd:=XI.nd;obtain ⟨p,t,v0,v1,f,S,U,X,a,b,c,rfl,W3,Vo,XU,hn,hn3,F,I,hf,f0,f1,f2,O,la,lb,lc,post⟩:=h;refine ⟨_,(aE (bQ (i:=3) nd rfl (Or.inl rfl) (aY aZ (pv 0) aF))
 (aE (bE (aN nC (pv 3) (bT (v:=.ref T.Kk) rfl T.Ke rfl) (by with_unfolding_all rfl)) (aE (bE (cW (bR (pc (D:=T.Lc) NB hr (aD (pv 0) (aD (pv 1) aC))) (λ_=>rfl))) (aH (aP d8)) aQ)
 (aE (bP (fF PJ P7 P9 cC (pN (Ag hr) (pv 2) (pv 3) (λ_ _=>rfl)) (aD (fG (aN bV (pv 3) aO (aT _)) (pv 1) (aY aZ (pv 1) aF)) aC)))
 (aH (aP d8)))) aQ)
 (aE (bE (aN lI (aY aZ (pv 1) aF) (pv 3) (aT _)) (aH (aP d8)) aQ)
 (aE (bE (aN bV (pv 3) aO (aT _)) (aH (aP (eU bV (aY aZ (pv 1) aF) (aY aZ (pv 0) aF) (aT _)))) aQ)
 (aH (aP (jH (pc (D:=T.Ln) MU hr (aD (aY aZ (pv 0) aF) (aD (aY aZ (pv 1) aF) (aD (pv 2) aC)))) (jI (pc (D:=T.Ln) MU hr (aD (aY aZ (pv 0) aF) (aD (aY aZ (pv 1) aF) (aD (pv 2) aC)))))))))))),?_⟩
 obtain ⟨kd,r,ek,hnum,harg⟩:=CN t Vo;have hf':∀ {G:Hp},Wq S U X H G->G f=some (oD S U X):=λbb=>bb _ _ f0 f1 f2 hf;have p1:=DC (n+1);have p2:2 ^ (n+1)=2 * 2 ^ n:=by rw [Sf,Nat.mul_comm]
 cases p with
 | hole i =>have F:Dat K H (.tup [.str "hole",.int i]) v0:=F;refine eJ (K:=K) (d:=.str "hole") (a6 (k:=0) (aA F) aG rfl) λv3 H1 s1 L=>?_;have ev:=L.S5;subst ev;refine aR (K:=K) (b:=true) (RT.as (aJ (i9 (aA L) T.J1)) (rS (.inl rfl))) (λ_ H2 N=>?_) (λc=>nomatch c);have q:=s1.trans N;refine aR (K:=K) (b:=!true) (bZ (bO (bM (R:=mZ) (d:=.bl true) (aB (aA (q.dat F)) (aB (aA (q.dat I)) aM)) ⟨.hole i,t,rfl,rfl,Vo,rfl⟩))) (λc=>nomatch c) (λ_ H3 J=>?_);have B:=q.trans J;refine eB ⟨_,rfl,_,rfl,f,.ref S,rfl,CG (B _ _ hf) (Ao S U X),.inl ⟨rfl,_,SR.of (B _ _ O.h0)⟩,?_⟩;refine RE.use (K:=K) (d:=toD t) (mC (b:=true) (RT.as (aJ (K:=K) (bI (aA (Dat.Th "hole")) aL)) (Py rfl)) (λ_=>aA (B.dat I)) (λc=>nomatch c)) λy H4 s4 q4=>?_;have u:=B.trans s4;have Y:=O.same u;refine ⟨S,a,y,rfl,rfl,Y.h0,cM (by lia),?_⟩;obtain ⟨t5,b5⟩:=Y.p0 (v:=y);refine post _ [y] [] [] (u.Vi.trans b5) t5 (by simpa using p1) (by simp) (by simp) λZ e=>?_;cases e;exact ⟨SI.cons (Dat.mono (b5.grow Y t5) _ q4) SI.nil,SI.nil,SI.nil⟩
 | gap i m =>
  have F:Dat K H (.tup [.str "gap",.int i,.int m]) v0:=F;refine eJ (K:=K) (d:=.str "gap") (a6 (k:=0) (aA F) aG rfl) λv3 H1 s1 L=>?_;have ev:=L.S5;subst ev;refine aR (K:=K) (b:=true) (RT.as (aJ (i9 (aA L) T.J1)) (rS (.inr (.inl rfl)))) (λ_ H2 N=>?_) (λc=>nomatch c);have q:=s1.trans N;refine aR (K:=K) (b:=!(cO (.gap i m) t).isSome) (bZ (bO (bM (R:=mZ) (aB (aA (q.dat F)) (aB (aA (q.dat I)) aM)) ⟨.gap i m,t,rfl,rfl,Vo,rfl⟩))) (λcN H3 J=>?_) (λcS H3 J=>?_)
  ·have B:=q.trans J;have e:(cO (.gap i m) t).isSome=false:=jZ cN;refine bJ (K:=K) (d:=.bl false) f7 λv H' s qq=>?_;rw [qq.VZ,<- e];have u:=B.trans s;exact post _ [] [] [] u.Vi (O.same u).nil (by simp) (by simp) (by simp) λZ z=>by rw [z] at e;cases e
  ·have B:=q.trans J
   obtain ⟨C,rfl⟩:∃ C,t=.num C:=by
    have cS':=gZ cS
    cases t with
    | num C=>exact ⟨C,rfl⟩
    | _=>cases cS'
   have I:Dat K H (.tup [.str "num",.int C]) v1:=I;refine eB ⟨_,rfl,_,rfl,f,.ref U,rfl,CG (B _ _ hf) (Dl S U X),.inl ⟨rfl,_,SR.of (B _ _ O.h1)⟩,?_⟩;refine RE.use (K:=K) (d:=.int C) (mC (b:=false) (RT.as (aJ (K:=K) (bI (aA (Dat.Th "gap")) aL)) (Po (by decide +kernel))) (λc=>nomatch c) (λ_=>a6 (k:=1) (aA (B.dat I)) aG rfl)) λy H4 s4 q4=>?_;have u:=B.trans s4;have Y:=O.same u;refine ⟨U,b,y,rfl,rfl,Y.h1,cM (by lia),?_⟩;obtain ⟨t5,b5⟩:=Y.p1 (v:=y);have e:=gZ cS;show Q (.bl true) _;rw [<- e];refine post _ [] [y] [] (u.Vi.trans b5) t5 (by simp) (by simpa using p1) (by simp) λZ z=>?_;have z':(if C<=m then some ([],[C],[]) else none:Option Vg)=some Z:=z;by_cases hm:C<=m
   ·rw [Pk hm] at z';cases z';exact ⟨SI.nil,SI.cons (Dat.mono (b5.grow Y t5) _ q4) SI.nil,SI.nil⟩
   ·rw [M1 hm] at z';cases z'
 | slot i =>
  have F:Dat K H (.tup [.str "slot",.int i]) v0:=F;refine eJ (K:=K) (d:=.str "slot") (a6 (k:=0) (aA F) aG rfl) λv3 H1 s1 L=>?_;have ev:=L.S5;subst ev;refine aR (K:=K) (b:=true) (RT.as (aJ (i9 (aA L) T.J1)) (rS (.inr (.inr rfl)))) (λ_ H2 N=>?_) (λc=>nomatch c);have q:=s1.trans N;refine aR (K:=K) (b:=!(cO (.slot i) t).isSome) (bZ (bO (bM (R:=mZ) (aB (aA (q.dat F)) (aB (aA (q.dat I)) aM)) ⟨.slot i,t,rfl,rfl,Vo,rfl⟩))) (λcN H3 J=>?_) (λcS H3 J=>?_)
  ·have B:=q.trans J;have e:(cO (.slot i) t).isSome=false:=jZ cN;refine bJ (K:=K) (d:=.bl false) f7 λv H' s qq=>?_;rw [qq.VZ,<- e];have u:=B.trans s;exact post _ [] [] [] u.Vi (O.same u).nil (by simp) (by simp) (by simp) λZ z=>by rw [z] at e;cases e
  ·have B:=q.trans J
   obtain ⟨C,rfl⟩:∃ C,t=.arg C:=by
    have cS':=gZ cS
    cases t with
    | arg C=>exact ⟨C,rfl⟩
    | _=>cases cS'
   have I:Dat K H (.tup [.str "arg",.int C]) v1:=I;refine eB ⟨_,rfl,_,rfl,f,.ref X,rfl,CG (B _ _ hf) (Ap S U X),.inl ⟨rfl,_,SR.of (B _ _ O.h2)⟩,?_⟩;refine RE.use (K:=K) (d:=.int C) (mC (b:=false) (RT.as (aJ (K:=K) (bI (aA (Dat.Th "slot")) aL)) (Po (by decide +kernel))) (λc=>nomatch c) (λ_=>a6 (k:=1) (aA (B.dat I)) aG rfl)) λy H4 s4 q4=>?_;have u:=B.trans s4;have Y:=O.same u;refine ⟨X,c,y,rfl,rfl,Y.h2,cM (by lia),?_⟩;obtain ⟨t5,b5⟩:=Y.p2 (v:=y);have e:=gZ cS;show Q (.bl true) _;rw [<- e];refine post _ [] [] [y] (u.Vi.trans b5) t5 (by simp) (by simp) (by simpa using p1) λZ z=>?_;cases z;exact ⟨SI.nil,SI.nil,SI.cons (Dat.mono (b5.grow Y t5) _ q4) SI.nil⟩
 | num m =>
  have F:Dat K H (.tup [.str "num",.int m]) v0:=F;have Y5:Dat K H (.tup (.str kd::r)) v1:=by rw [<- ek];exact I
  refine eJ (K:=K) (d:=.str "num") (a6 (k:=0) (aA F) aG rfl) λv3 H1 s1 L=>?_;refine aR (K:=K) (b:=false) (RT.as (aJ (i9 (aA L) T.J1)) (by decide +kernel)) (λc=>nomatch c) (λ_ H2 N=>?_);have q:=s1.trans N;refine aR (K:=K) (b:=!decide (kd="num")) (aJ (vM (a6 (k:=0) (aA (q.dat Y5)) aG rfl) (aA (N.dat L)))) (λcN H3 J=>?_) (λcS H3 J=>?_)
  ·have B:=q.trans J;have hne:¬ kd="num":=Px (jZ cN)
   have e:cO (.num m) t=none:=by
    cases t with
    | num n=>exact absurd (hnum.mpr ⟨n,rfl⟩) hne
    | _=>rfl
   refine bJ (K:=K) (d:=.bl false) f7 λv H' s qq=>?_;rw [qq.VZ];have u:=B.trans s;have M:=post _ [] [] [] u.Vi (O.same u).nil (by simp) (by simp) (by simp) λZ z=>by rw [e] at z;cases z
   rw [e] at M;exact M
  ·have B:=q.trans J;obtain ⟨C,rfl⟩:=hnum.mp (Pq (gZ cS));have I:Dat K H (.tup [.str "num",.int C]) v1:=I;refine aR (K:=K) (b:=true) (RT.as (aJ (bI (aA ((N.trans J).dat L)) aL)) (Py rfl)) (λ_ H4 s4=>?_) (λc=>nomatch c);have u:=B.trans s4;refine bJ (K:=K) (d:=.bl (decide (C=m))) (mV (a6 (k:=1) (aA (u.dat I)) aG rfl) (a6 (k:=1) (aA (u.dat F)) aG rfl)) λv H' s qq=>?_;rw [qq.VZ];have Zm:=u.trans s
   have M:=post _ [] [] [] Zm.Vi (O.same Zm).nil (by simp) (by simp) (by simp) λZ z=>by
    have z':(if C=m then some ([],[],[]) else none:Option Vg)=some Z:=z;by_cases hm:C=m
    ·rw [Pk hm] at z';cases z';exact ⟨SI.nil,SI.nil,SI.nil⟩
    ·rw [M1 hm] at z';cases z'
   have e:(cO (.num m) (.num C)).isSome=decide (C=m):=by
    show (if C=m then some _ else none:Option Vg).isSome=_;by_cases hm:C=m
    ·rw [Pk hm,Py hm];rfl
    ·rw [M1 hm,Po hm];rfl
   rw [e] at M;exact M
 | two o pa pb =>
  have F:Dat K H (.tup [.str o,Xu pa,Xu pb]) v0:=F;have Y5:Dat K H (.tup (.str kd::r)) v1:=by rw [<- ek];exact I
  obtain ⟨b1,b2⟩:=EF W3.1;refine eJ (K:=K) (d:=.str o) (a6 (k:=0) (aA F) aG rfl) λv3 H1 s1 L=>?_;refine aR (K:=K) (b:=false) (RT.as (aJ (i9 (aA L) T.J1)) b1) (λc=>nomatch c) (λ_ H2 N=>?_);have q:=s1.trans N;refine aR (K:=K) (b:=!decide (kd=o)) (aJ (vM (a6 (k:=0) (aA (q.dat Y5)) aG rfl) (aA (N.dat L)))) (λcN H3 J=>?_) (λcS H3 J=>?_)
  ·have B:=q.trans J;have e:=wY (a:=pa) (b:=pb) W3.1 ek (Px (jZ cN));refine bJ (K:=K) (d:=.bl false) f7 λv H' s qq=>?_;rw [qq.VZ];have u:=B.trans s;have M:=post _ [] [] [] u.Vi (O.same u).nil (by simp) (by simp) (by simp) λZ z=>by rw [e] at z;cases z
   rw [e] at M;exact M
  ·have B:=q.trans J;obtain ⟨x,y,rfl⟩:=xh W3.1 ek (Pq (gZ cS));have I:Dat K H (.tup [.str o,toD x,toD y]) v1:=I;refine aR (K:=K) (b:=false) (RT.as (aJ (bI (aA ((N.trans J).dat L)) aL)) (Po b2)) (λc=>nomatch c) (λ_ H4 s4=>?_);have u:=B.trans s4;have dpa:eK pa<=n:=by simp only [eK] at hn;lia
   have dpb:eK pb<=n:=by simp only [eK] at hn;lia
   have dpx:a9 x<=8:=by simp only [a9] at XU;lia
   have dpy:a9 y<=8:=by simp only [a9] at XU;lia
   refine RE.use (K:=K) (d:=Xu pa) (a6 (k:=1) (aA (u.dat F)) aG rfl) λw0 H5 s5 q5=>?_;refine RE.use (K:=K) (d:=toD x) (a6 (k:=1) (aA ((u.trans s5).dat I)) aG rfl) λw1 H6 s6 q6=>?_;have YH:=u.trans (s5.trans s6);have ZG:=O.same YH;refine ⟨_,rfl,pa,x,w0,w1,f,S,U,X,a,b,c,rfl,W3.2.1,Vo.2.1,dpx,dpa,by lia,s6.dat q5,q6,YH _ _ hf,f0,f1,f2,ZG,by lia,by lia,by lia,λH7 a1 b1' c1 bb7 YQ ka kb kc d7=>?_⟩;refine ⟨_,rfl,?_⟩
   have n8:2 ^ n<=8:=by
    have:n<=3:=by lia
    match n,this with
    | 0,_=>decide
    | 1,_=>decide
    | 2,_=>decide
    | 3,_=>decide
   have g67:gA K H6 H7:=bb7.grow ZG YQ;have YR:Wq S U X H H7:=YH.Vi.trans bb7
   cases Zi:cO pa x with
   | none =>
    refine j0 ?_;have M:=post H7 a1 b1' c1 YR YQ (Qf ka (QC (by decide) (by lia))) (Qf kb (QC (by decide) (by lia))) (Qf kc (QC (by decide) (by lia))) λZ z=>by rw [jU Zi] at z;cases z
    rw [jU Zi] at M;exact M
   | some fa =>
    refine j4 ?_;obtain ⟨da,db,dc⟩:=d7 fa Zi;refine mT (gS (RE.use (K:=K) (d:=Xu pb) (a6 (k:=2) (aA (Dat.mono g67 _ (YH.dat F))) aG rfl) λw2 H8 s8 q8=>?_));refine gS (RE.use (K:=K) (d:=toD y) (a6 (k:=2) (aA (s8.dat (Dat.mono g67 _ (YH.dat I)))) aG rfl) λw3 H9 s9 q9=>?_);have Zj:=s8.trans s9;have ZH:=YQ.same Zj;refine ⟨_,rfl,pb,y,w2,w3,f,S,U,X,a++a1,b++b1',c++c1,rfl,W3.2.2,Vo.2.2,dpy,dpb,by lia,s9.dat q8,q9,Zj _ _ (hf' YR),f0,f1,f2,ZH,by rw [tB];lia,by rw [tB];lia,by rw [tB];lia,λH10 a2 b2' c2 ZI XW ma mb mc d10=>?_⟩;have g:=ZI.grow (K:=K) ZH XW;rw [Qd,Qd,Qd] at XW
    have M:=post H10 (a1++a2) (b1'++b2') (c1++c2) (YR.trans (Zj.Vi.trans ZI)) XW (oA ka ma) (oA kb mb) (oA kc mc) λZ z=>by
     obtain ⟨_,f',g',e1,e2,e3⟩:=fC z;rw [Zi] at e1;cases e1;obtain ⟨da2,db2,dc2⟩:=d10 g' e2;subst e3;refine ⟨?_,?_,?_⟩
     ·show SI K H10 ((fa.1++g'.1).map toD) _;rw [P0];exact SI.append (SI.mono g _ (Zj.SV da)) da2
     ·show SI K H10 ((fa.2.1++g'.2.1).map D.int) _;rw [P0];exact SI.append (SI.mono g _ (Zj.SV db)) db2
     ·show SI K H10 ((fa.2.2++g'.2.2).map D.int) _;rw [P0];exact SI.append (SI.mono g _ (Zj.SV dc)) dc2
    rw [qx Zi] at M;exact M
noncomputable def fdD:Option Vg->D
 | none=>.SO
 | some f=>.tup [.tup (f.1.map toD),.tup (f.2.1.map D.int),.tup (f.2.2.map D.int)]
noncomputable def pX (ds:List D) (d:D):Prop:=∃ nm p cs t,ds=[.tup [nm,Xu p,cs],toD t]/\yL p/\UQ t/\a9 t<=8/\eK p<=3/\d=fdD (cO p t)
theorem HB (x y z:V):oi [] ([(Sum.inr (Str.ofString "hole"),x),(Sum.inr (Str.ofString "gap"),y),(Sum.inr (Str.ofString "slot"),z)]:List (Key × V))=[(Sum.inr (Str.ofString "hole"),x),(Sum.inr (Str.ofString "gap"),y),(Sum.inr (Str.ofString "slot"),z)]:=rfl
theorem Ji {K:W.Frag} {ts:TS} (h:te σ H λx a=>∃ k,yn K x a k/\if (!k)=true then ts { En with nx:=us En } σ a else us En σ a):lX (F5 (Iu (λσ H Q=>te σ H λx a=>∃ k,yn K x a k/\Q k a)) ts AO) us En σ H:=h
theorem xB (T:Txt P w K mg) (MU:Ok P w base k T.Ln (mK K oD 3)):Ok P w base (k+1) T.LG (Tj K pX):=by
 refine T.LG.f.ok Xm (λvs H Q E h=>?_) (λcdv A outer s H vs Q E hr h=>?_)
 ·obtain ⟨ds,d,hd,⟨nm,p,cs,t,rfl,_⟩,_⟩:=h;exact hd.length.symm
 have nd:=Xm.nd;obtain ⟨ds,d,hd,⟨nm,p,cs,t,rfl,W3,Vo,XU,dpp,rfl⟩,post⟩:=h;obtain ⟨v0,v1,rfl,h0,h1⟩:=i5 hd;refine' ⟨_,?XX,?Za⟩
 case' XX=>refine' aE ?a ?b
 case' a=>refine' bQ (i:=2) ?c ?d ?e ?f
 case c=>exact nd
 case d=>exact rfl
 case e=>exact Or.inl rfl
 case' f=>refine' Fo ?g ?h ?i ?j ?k
 case' g=>refine' rf ?l ?m ?n
 case l=>exact aO
 case m=>exact (bY aC)
 case' n=>refine' rf ?o ?p ?q
 case o=>exact aO
 case p=>exact (bY aC)
 case' q=>refine' rf ?r ?s ?t
 case r=>exact aO
 case s=>exact (bY aC)
 case t=>exact FA
 case h=>exact rfl
 case i=>exact rfl
 case j=>simp
 case k=>decide
 case' b=>refine' aE ?u ?v
 case' u=>refine' bE ?w ?x ?y
 case w=>exact (cW (bR (pc (D:=T.Ln) MU hr (aD (aY aZ (pv 0) aF) (aD (pv 1) (aD (pv 2) aC)))) (λ_=>rfl)))
 case' x=>refine' aH ?z
 case z=>exact (aP gR)
 case y=>exact aQ
 case' v=>refine' aH ?aa
 case aa=>exact (aP (bA (aD (eP dY rfl T.KN fP (aD (pN (Ag hr) (pv 2) aO (λ_ _=>rfl)) aC)) (aD (eP dY rfl T.KN fP (aD (pN (Ag hr) (pv 2) aO (λ_ _=>rfl)) aC)) (aD (eP dY rfl T.KN fP (aD (pN (Ag hr) (pv 2) aO (λ_ _=>rfl)) aC)) aC)))))
 refine fR (λf hf=>⟨dB (by decide),λB O=>⟨dB (by decide),λC F=>⟨dB (by decide),λI hl2=>⟨?_,[(Sum.inr "hole",.ref B),(Sum.inr "gap",.ref C),(Sum.inr "slot",.ref I)],rfl,by simp,?_⟩⟩⟩⟩)
 ·rw [aS (aU (by rw [aS (aU (by rw [aS (aU aI O)];exact aI) F),aS (aU aI O)];exact aI) hl2),aS (aU (by rw [aS (aU aI O)];exact aI) F),aS (aU aI O)];exact aI
 rw [HB];have J:f≠B:=aU aI O;have L:f≠C:=aU (by rw [aS J];exact aI) F;have ZT:B≠C:=aU aI F;have N:f≠I:=aU (by rw [aS L,aS J];exact aI) hl2;have R:B≠I:=aU (by rw [aS ZT];exact aI) hl2;have S:C≠I:=aU aI hl2;generalize hG:upd (upd (upd (upd (upd H f (.dK [])) B (.lst [])) C (.lst [])) I (.lst [])) f (.dK [(Sum.inr "hole",V.ref B),(Sum.inr "gap",.ref C),(Sum.inr "slot",.ref I)])=G;have gf:G f=some (oD B C I):=by rw [<- hG];exact aI
 have W7:X8 B C I G [] [] []:=by
  rw [<- hG];refine ⟨?_,?_,?_,ZT,R,S⟩
  ·rw [aS (PN J),aS R,aS ZT];exact aI
  ·rw [aS (PN L),aS S];exact aI
  ·rw [aS (PN N)];exact aI
 have sG:SJ H G:=λx o M=>by have zf:=aU M hf;have z0:x≠B:=aU (by rw [aS zf];exact M) O;have z1:x≠C:=aU (by rw [aS z0,aS zf];exact M) F;have z2:x≠I:=aU (by rw [aS z1,aS z0,aS zf];exact M) hl2;rw [<- hG,aS zf,aS z2,aS z1,aS z0,aS zf];exact M
 have U:H B=none:=by rw [aS (PN J)] at O;exact O
 have X:H C=none:=by rw [aS (PN ZT),aS (PN L)] at F;exact F
 have Y:H I=none:=by rw [aS (PN S),aS (PN R),aS (PN N)] at hl2;exact hl2
 refine Ji (K:=K) (mT (gS (RE.use (K:=K) (d:=Xu p) (a6 (k:=1) (aA (sG.dat h0)) aG rfl) λw0 G1 s1 q0=>?_)));refine ⟨_,rfl,_,rfl,p,t,w0,v1,f,B,C,I,[],[],[],rfl,W3,Vo,XU,dpp,by decide,q0,(sG.trans s1).dat h1,s1 _ _ gf,J,L,N,W7.same s1,by decide,by decide,by decide,λH' a' b' c' bb YS _ _ _ dd=>⟨_,rfl,?_⟩⟩;have sm:SJ H H':=λx o M=>bb x o (aU M U) (aU M X) (aU M Y) (s1 _ _ (sG _ _ M))
 cases Yr:cO p t with
 | none =>refine j4 ?_;rw [Yr] at post;exact post _ _ sm Dat.X7
 | some fd =>refine j0 ?_;obtain ⟨d0,d1,d2⟩:=dd fd Yr;have Z:H' f=some (.dK [(Sum.inr "hole",V.ref B),(Sum.inr "gap",.ref C),(Sum.inr "slot",.ref I)]):=bb _ _ J L N (s1 _ _ gf);rw [Yr] at post;exact bJ (K:=K) (d:=fdD (some fd)) (bF (aB (oE Z (Ao B C I) YS.h0 d0) (aB (oE Z (Dl B C I) YS.h1 d1) (aB (oE Z (Ap B C I) YS.h2 d2) aM)))) λv T5 s qq=>post v T5 (sm.trans s) qq
noncomputable abbrev Ge (ds:List D) (d:D):Prop:=∃ x,ds=[x]/\iW x=true/\d=.SO
noncomputable abbrev LPD:List D:=[.tup [.str "inc",.tup [.str "add",.tup [.str "hole",.int 0],.tup [.str "num",.int 1]],.tup [.int 12,.int 1]],
 .tup [.str "both",.tup [.str "add",.tup [.str "slot",.int 0],.tup [.str "slot",.int 1]],.tup [.int 3,.tup [.str "arg",.int 0],.int 3,.tup [.str "arg",.int 1],.int 4]],
 .tup [.str "twofold",.tup [.str "mul",.tup [.str "hole",.int 0],.tup [.str "num",.int 2]],.tup [.int 13,.int 4]],
 .tup [.str "fewer",.tup [.str "sub",.tup [.str "hole",.int 0],.tup [.str "gap",.int 0,.int 99]],.tup [.int 1,.tup [.str "low",.int 0],.int 5]],
 .tup [.str "addmul",.tup [.str "add",.tup [.str "mul",.tup [.str "hole",.int 0],.tup [.str "hole",.int 1]],.tup [.str "gap",.int 0,.int 99]],.tup [.int 6,.int 12,.tup [.str "low",.int 0]]],
 .tup [.str "turned",.tup [.str "less",.tup [.str "gap",.int 0,.int 99],.tup [.str "hole",.int 0]],.tup [.int 1,.tup [.str "low",.int 0],.int 14,.int 7]],
 .tup [.str "far",.tup [.str "add",.tup [.str "hole",.int 0],.tup [.str "gap",.int 0,.int 9999]],.tup [.int 2,.tup [.str "low",.int 0],.tup [.str "high",.int 0],.int 4]],
 .tup [.str "pair",.tup [.str "sub",.tup [.str "gap",.int 0,.int 99],.tup [.str "gap",.int 1,.int 99]],.tup [.int 1,.tup [.str "low",.int 0],.int 1,.tup [.str "low",.int 1],.int 5]]]
theorem qV (T:Txt P w K mg)  : Ok P w base (k+1) T.KM (kL K λds es=>ds=[]/\es=LPD):=by
 refine T.KM.f.ok V7 (λvs H Q E h=>?_) (λcdv A outer s H vs Q E hr h=>?_)
 ·obtain ⟨ds,es,hd,⟨rfl,rfl⟩,_⟩:=h;exact hd.length.symm
 have G:=V7.nd;obtain ⟨ds,es,hd,⟨rfl,rfl⟩,post⟩:=h;have ez:=hd.V1;subst ez;refine' ⟨_,?XX,?Za⟩
 case' XX=>refine' aE ?a ?b
 case' a=>refine' gH ?c ?d ?e ?f
 case' c=>refine' bA ?g
 case' g=>refine' aD ?h ?i
 case h=>exact (bA (aD aO (aD aF aC)))
 case' i=>refine' aD ?j ?k
 case j=>exact (bA (aD aO (aD aF aC)))
 case' k=>refine' aD ?l ?m
 case l=>exact (bA (aD aO (aD aF (aD aF aC))))
 case m=>exact aC
 case d=>exact (gF rfl (bN (a7 (i:=0) G rfl (Or.inl rfl)) (bN (a7 (i:=1) G rfl (Or.inl rfl)) (bN (a7 (i:=2) G rfl (Or.inl rfl)) eH))))
 case e=>rfl
 case f=>kernel_rfl
 case' b=>refine' aE ?n ?o
 case' n=>refine' bQ (i:=3) ?p ?q ?r ?s
 case p=>exact G
 case q=>exact rfl
 case r=>exact Or.inl rfl
 case' s=>refine' bY ?t
 case' t=>refine' aD ?u ?v
 case' u=>refine' bA ?w
 case' w=>refine' aD ?x ?y
 case x=>exact aO
 case' y=>refine' aD ?z ?aa
 case' z=>refine' bA ?ab
 case' ab=>refine' aD ?ac ?ad
 case ac=>exact aO
 case' ad=>refine' aD ?ae ?af
 case ae=>exact (pv 0)
 case' af=>refine' aD ?ag ?ah
 case ag=>exact (bA (aD aO (aD aF aC)))
 case ah=>exact aC
 case' aa=>refine' aD ?ai ?aj
 case ai=>exact (bA (aD aF (aD aF aC)))
 case aj=>exact aC
 case v=>exact aC
 case' o=>refine' aE ?ak ?al
 case' ak=>refine' bP ?am
 case' am=>refine' fF ?an ?ao ?ap ?aq ?ar ?au
 case an=>exact PJ
 case ao=>exact P7
 case ap=>exact P9
 case aq=>exact cC
 case ar=>exact (pv 3)
 case' au=>refine' aD ?av ?aw
 case' av=>refine' bA ?ax
 case' ax=>refine' aD ?ay ?az
 case ay=>exact aO
 case' az=>refine' aD ?ba ?bb
 case' ba=>refine' bA ?bc
 case' bc=>refine' aD ?bd ?be
 case bd=>exact aO
 case' be=>refine' aD ?bf ?bg
 case bf=>exact (bA (aD aO (aD aF aC)))
 case' bg=>refine' aD ?bh ?bi
 case bh=>exact (bA (aD aO (aD aF aC)))
 case bi=>exact aC
 case' bb=>refine' aD ?bj ?bk
 case' bj=>refine' bA ?bl
 case' bl=>refine' aD ?bm ?bn
 case bm=>exact aF
 case' bn=>refine' aD ?bo ?bp
 case bo=>exact (bA (aD aO (aD aF aC)))
 case' bp=>refine' aD ?bq ?br
 case bq=>exact aF
 case' br=>refine' aD ?bs ?bt
 case bs=>exact (bA (aD aO (aD aF aC)))
 case' bt=>refine' aD ?bu ?bv
 case bu=>exact aF
 case bv=>exact aC
 case bk=>exact aC
 case aw=>exact aC
 case' al=>refine' aE ?bw ?bx
 case' bw=>refine' bP ?bz
 case' bz=>refine' fF ?ca ?cb ?cc ?cd ?ce ?cf
 case ca=>exact PJ
 case cb=>exact P7
 case cc=>exact P9
 case cd=>exact cC
 case ce=>exact (pv 3)
 case' cf=>refine' aD ?cg ?ch
 case' cg=>refine' bA ?ci
 case' ci=>refine' aD ?cj ?ck
 case cj=>exact aO
 case' ck=>refine' aD ?cl ?cm
 case' cl=>refine' bA ?cn
 case' cn=>refine' aD ?co ?cp
 case co=>exact aO
 case' cp=>refine' aD ?cq ?cr
 case cq=>exact (pv 0)
 case' cr=>refine' aD ?cs ?ct
 case cs=>exact (bA (aD aO (aD aF aC)))
 case ct=>exact aC
 case' cm=>refine' aD ?cu ?cv
 case cu=>exact (bA (aD aF (aD aF aC)))
 case cv=>exact aC
 case ch=>exact aC
 case' bx=>refine' aE ?cw ?cx
 case' cw=>refine' bP ?cy
 case' cy=>refine' fF ?cz ?da ?db ?dc ?dd ?de
 case cz=>exact PJ
 case da=>exact P7
 case db=>exact P9
 case dc=>exact cC
 case dd=>exact (pv 3)
 case' de=>refine' aD ?df ?dg
 case' df=>refine' bA ?dh
 case' dh=>refine' aD ?di ?dj
 case di=>exact aO
 case' dj=>refine' aD ?dk ?dl
 case dk=>exact (bA (aD aO (aD (pv 0) (aD (pv 2) aC))))
 case' dl=>refine' aD ?dm ?dn
 case' dm=>refine' bA ?dp
 case' dp=>refine' aD ?dq ?dr
 case dq=>exact aF
 case' dr=>refine' aD ?ds ?dt
 case ds=>exact (bA (aD aO (aD aF aC)))
 case' dt=>refine' aD ?du ?dv
 case du=>exact aF
 case dv=>exact aC
 case dn=>exact aC
 case dg=>exact aC
 case' cx=>refine' aE ?dw ?dx
 case' dw=>refine' bP ?dy
 case' dy=>refine' fF ?dz ?ea ?eb ?ec ?ed ?ee
 case dz=>exact PJ
 case ea=>exact P7
 case eb=>exact P9
 case ec=>exact cC
 case ed=>exact (pv 3)
 case' ee=>refine' aD ?ef ?eg
 case' ef=>refine' bA ?eh
 case' eh=>refine' aD ?ei ?ej
 case ei=>exact aO
 case' ej=>refine' aD ?ek ?el
 case' ek=>refine' bA ?em
 case' em=>refine' aD ?en ?eo
 case en=>exact aO
 case' eo=>refine' aD ?ep ?eq
 case ep=>exact (bA (aD aO (aD (pv 0) (aD (pv 1) aC))))
 case' eq=>refine' aD ?er ?es
 case er=>exact (pv 2)
 case es=>exact aC
 case' el=>refine' aD ?et ?eu
 case' et=>refine' bA ?ev
 case' ev=>refine' aD ?ew ?ex
 case ew=>exact aF
 case' ex=>refine' aD ?ey ?ez
 case ey=>exact aF
 case' ez=>refine' aD ?fa ?fb
 case fa=>exact (bA (aD aO (aD aF aC)))
 case fb=>exact aC
 case eu=>exact aC
 case eg=>exact aC
 case' dx=>refine' aE ?fc ?fd
 case' fc=>refine' bP ?fe
 case' fe=>refine' fF ?ff ?fg ?fh ?fi ?fj ?fk
 case ff=>exact PJ
 case fg=>exact P7
 case fh=>exact P9
 case fi=>exact cC
 case fj=>exact (pv 3)
 case' fk=>refine' aD ?fl ?fm
 case' fl=>refine' bA ?fn
 case' fn=>refine' aD ?fo ?fp
 case fo=>exact aO
 case' fp=>refine' aD ?fq ?fr
 case fq=>exact (bA (aD aO (aD (pv 2) (aD (pv 0) aC))))
 case' fr=>refine' aD ?fs ?ft
 case' fs=>refine' bA ?fu
 case' fu=>refine' aD ?fv ?fw
 case fv=>exact aF
 case' fw=>refine' aD ?fx ?fy
 case fx=>exact (bA (aD aO (aD aF aC)))
 case' fy=>refine' aD ?fz ?ga
 case fz=>exact aF
 case' ga=>refine' aD ?gb ?gc
 case gb=>exact aF
 case gc=>exact aC
 case ft=>exact aC
 case fm=>exact aC
 case' fd=>refine' aE ?gd ?ge
 case' gd=>refine' bP ?gf
 case' gf=>refine' fF ?gg ?gh ?gi ?gj ?gk ?gl
 case gg=>exact PJ
 case gh=>exact P7
 case gi=>exact P9
 case gj=>exact cC
 case gk=>exact (pv 3)
 case' gl=>refine' aD ?gm ?gn
 case' gm=>refine' bA ?go
 case' go=>refine' aD ?gp ?gq
 case gp=>exact aO
 case' gq=>refine' aD ?gr ?gs
 case' gr=>refine' bA ?gt
 case' gt=>refine' aD ?gu ?gv
 case gu=>exact aO
 case' gv=>refine' aD ?gw ?gx
 case gw=>exact (pv 0)
 case' gx=>refine' aD ?gy ?gz
 case gy=>exact (bA (aD aO (aD aF (aD aF aC))))
 case gz=>exact aC
 case' gs=>refine' aD ?ha ?hb
 case' ha=>refine' bA ?hc
 case' hc=>refine' aD ?hd ?he
 case hd=>exact aF
 case' he=>refine' aD ?hf ?hg
 case hf=>exact (bA (aD aO (aD aF aC)))
 case' hg=>refine' aD ?hh ?hi
 case hh=>exact (bA (aD aO (aD aF aC)))
 case' hi=>refine' aD ?hj ?hk
 case hj=>exact aF
 case hk=>exact aC
 case hb=>exact aC
 case gn=>exact aC
 case' ge=>refine' aE ?hl ?hm
 case' hl=>refine' bP ?hn
 case' hn=>refine' fF ?ho ?hp ?hq ?hr ?hs ?ht
 case ho=>exact PJ
 case hp=>exact P7
 case hq=>exact P9
 case hr=>exact cC
 case hs=>exact (pv 3)
 case' ht=>refine' aD ?hu ?hv
 case' hu=>refine' bA ?hw
 case' hw=>refine' aD ?hx ?hy
 case hx=>exact aO
 case' hy=>refine' aD ?hz ?ia
 case' hz=>refine' bA ?ib
 case' ib=>refine' aD ?ic ?id
 case ic=>exact aO
 case' id=>refine' aD ?ie ?ig
 case ie=>exact (bA (aD aO (aD aF (aD aF aC))))
 case' ig=>refine' aD ?ih ?ii
 case ih=>exact (bA (aD aO (aD aF (aD aF aC))))
 case ii=>exact aC
 case' ia=>refine' aD ?ij ?ik
 case' ij=>refine' bA ?il
 case' il=>refine' aD ?im ?io
 case im=>exact aF
 case' io=>refine' aD ?ip ?iq
 case ip=>exact (bA (aD aO (aD aF aC)))
 case' iq=>refine' aD ?ir ?it
 case ir=>exact aF
 case' it=>refine' aD ?iu ?iv
 case iu=>exact (bA (aD aO (aD aF aC)))
 case' iv=>refine' aD ?iw ?ix
 case iw=>exact aF
 case ix=>exact aC
 case ik=>exact aC
 case hv=>exact aC
 case' hm=>refine' aH ?iy
 case iy=>exact (aP (pv 3))
 refine vU (K:=K) (d:=.tup [.str "hole",.int 0]) (e:=.tup [.str "hole",.int 1]) (f:=.tup [.str "gap",.int 0,.int 99]) (bF (aB (bF (aB aL (aB aG aM))) (aB (bF (aB aL (aB aG aM))) (aB (bF (aB aL (aB aG (aB aG aM)))) aM)))) λvh vo vg H1 s1 dh B dg=>?_;refine gY (K:=K) (iC (aB (bF (aB aL (aB (bF (aB aL (aB (aA dh) (aB (bF (aB aL (aB aG aM))) aM)))) (aB (bF (aB aG (aB aG aM))) aM)))) aM)) λU x0 G0 hb I h0 e0=>?_;have C:H U=none:=s1.free hb;have dh:=I.dat dh;have B:=I.dat B;have dg:=I.dat dg;have X:S6 U H G0:=(s1.trans I).but;have l0:=e0.length;simp only [Pr,Qm,tB] at l0;refine iZ (K:=K) (bF (aB aL (aB (bF (aB aL (aB (bF (aB aL (aB aG aM))) (aB (bF (aB aL (aB aG aM))) aM)))) (aB (bF (aB aG (aB (bF (aB aL (aB aG aM))) (aB aG (aB (bF (aB aL (aB aG aM))) (aB aG aM)))))) aM)))) h0 (by first | lia | (simp only [tB,Pr,Qm];lia)) λy1 G1 b1 Y Y4=>?_;have J:gA K _ G1:=b1.grow h0 Y;have dh:=Dat.mono J _ dh;have B:=Dat.mono J _ B;have dg:=Dat.mono J _ dg;have e1:=SI.append (SI.mono J _ e0) (SI.cons Y4 SI.nil);have l1:=e1.length;have Z:=X.trans b1;simp only [Pr,Qm,tB] at l1;refine iZ (K:=K) (bF (aB aL (aB (bF (aB aL (aB (aA dh) (aB (bF (aB aL (aB aG aM))) aM)))) (aB (bF (aB aG (aB aG aM))) aM)))) Y (by first | lia | (simp only [tB,Pr,Qm];lia)) λy2 G2 b2 h2 e2'=>?_;have L:gA K _ G2:=b2.grow Y h2;have dh:=Dat.mono L _ dh;have B:=Dat.mono L _ B;have dg:=Dat.mono L _ dg;have e2:=SI.append (SI.mono L _ e1) (SI.cons e2' SI.nil);have l2:=e2.length;have bb2:=Z.trans b2;simp only [Pr,Qm,tB] at l2;refine iZ (K:=K) (bF (aB aL (aB (bF (aB aL (aB (aA dh) (aB (aA dg) aM)))) (aB (bF (aB aG (aB (bF (aB aL (aB aG aM))) (aB aG aM)))) aM)))) h2 (by first | lia | (simp only [tB,Pr,Qm];lia)) λy3 G3 b3 h3 e3'=>?_;have M:gA K _ G3:=b3.grow h2 h3;have dh:=Dat.mono M _ dh;have B:=Dat.mono M _ B;have dg:=Dat.mono M _ dg;have e3:=SI.append (SI.mono M _ e2) (SI.cons e3' SI.nil);have l3:=e3.length;have bb3:=bb2.trans b3;simp only [Pr,Qm,tB] at l3;refine iZ (K:=K) (bF (aB aL (aB (bF (aB aL (aB (bF (aB aL (aB (aA dh) (aB (aA B) aM)))) (aB (aA dg) aM)))) (aB (bF (aB aG (aB aG (aB (bF (aB aL (aB aG aM))) aM)))) aM)))) h3 (by first | lia | (simp only [tB,Pr,Qm];lia)) λy4 G4 b4 h4 e4'=>?_;have N:gA K _ G4:=b4.grow h3 h4;have dh:=Dat.mono N _ dh;have B:=Dat.mono N _ B;have dg:=Dat.mono N _ dg;have e4:=SI.append (SI.mono N _ e3) (SI.cons e4' SI.nil);have l4:=e4.length;have bb4:=bb3.trans b4;simp only [Pr,Qm,tB] at l4;refine iZ (K:=K) (bF (aB aL (aB (bF (aB aL (aB (aA dg) (aB (aA dh) aM)))) (aB (bF (aB aG (aB (bF (aB aL (aB aG aM))) (aB aG (aB aG aM))))) aM)))) h4 (by first | lia | (simp only [tB,Pr,Qm];lia)) λy5 G5 b5 h5 e5'=>?_;have O:gA K _ G5:=b5.grow h4 h5;have dh:=Dat.mono O _ dh;have B:=Dat.mono O _ B;have dg:=Dat.mono O _ dg;have e5:=SI.append (SI.mono O _ e4) (SI.cons e5' SI.nil);have l5:=e5.length;have bb5:=bb4.trans b5;simp only [Pr,Qm,tB] at l5;refine iZ (K:=K) (bF (aB aL (aB (bF (aB aL (aB (aA dh) (aB (bF (aB aL (aB aG (aB aG aM)))) aM)))) (aB (bF (aB aG (aB (bF (aB aL (aB aG aM))) (aB (bF (aB aL (aB aG aM))) (aB aG aM))))) aM)))) h5 (by first | lia | (simp only [tB,Pr,Qm];lia)) λy6 G6 b6 h6 e6'=>?_;have R:gA K _ G6:=b6.grow h5 h6;have dh:=Dat.mono R _ dh;have B:=Dat.mono R _ B;have dg:=Dat.mono R _ dg;have e6:=SI.append (SI.mono R _ e5) (SI.cons e6' SI.nil);have l6:=e6.length;have bb6:=bb5.trans b6;simp only [Pr,Qm,tB] at l6;refine iZ (K:=K) (bF (aB aL (aB (bF (aB aL (aB (bF (aB aL (aB aG (aB aG aM)))) (aB (bF (aB aL (aB aG (aB aG aM)))) aM)))) (aB (bF (aB aG (aB (bF (aB aL (aB aG aM))) (aB aG (aB (bF (aB aL (aB aG aM))) (aB aG aM)))))) aM)))) h6 (by first | lia | (simp only [tB,Pr,Qm];lia)) λy7 G7 b7 h7 e7'=>?_;have S:gA K _ G7:=b7.grow h6 h7;have dh:=Dat.mono S _ dh;have B:=Dat.mono S _ B;have dg:=Dat.mono S _ dg;have e7:=SI.append (SI.mono S _ e6) (SI.cons e7' SI.nil);have l7:=e7.length;have bb7:=bb6.trans b7;have sm:SJ H G7:=λb o F=>bb7 b o (aU F C) F;exact ⟨_,rfl,post U _ G7 sm h7 C e7⟩
structure Pc where
 nm:Str
 pt:Pa
 cs:List D
noncomputable def VF (p:Pc):D:=.tup [.str p.nm,Xu p.pt,.tup p.cs]
noncomputable def fY:Pa->Bool
 | .hole _=>false
 | _=>true
structure Fj (p:Pc):Prop where
 nm:p.nm≠"pick"
 ok:yL p.pt
 dp:eK p.pt<=3
 cs:p.cs.length<=12
 nh:fY p.pt=true
structure Wy where
 nm:Str
 cs:List D
 ts:List Tr
noncomputable def wyD (w:Wy):D:=.tup [.str w.nm,.tup w.cs,.tup (w.ts.map toD)]
noncomputable def iN (t:Tr) (p:Pc):Option Wy:=(cO p.pt t).map λf=>⟨p.nm,p.cs,f.1⟩
noncomputable def xj:Tr->Bool
 | .pick _ _ _=>true
 | _=>false
noncomputable def iT (ps:List Pc) (t:Tr):List Wy:=if xj t=true then [⟨"pick",[],dR t⟩] else ps.filterMap (iN t)
noncomputable def fN (b f a:Int):List Int:=if a<=9 then [b,a] else [f,a % 100,a / 100]
noncomputable def fU (a:Int):Int:=if a<=9 then 2 else 3
theorem i7 (b f a:Int):((fN b f a).length:Int)=fU a:=by unfold fN fU;split <;> rfl
theorem Aj {a b:Int} (h:a<=b):fU a<=fU b:=by unfold fU;split <;> split <;> lia
theorem CU (a:Int):2<=fU a/\fU a<=3:=by unfold fU;split <;> lia
noncomputable def ra (y z:Int):Int:=fU (y+fU z)+fU z
theorem Dy {a b d:Int} (h:a<=b) (h':c<=d):ra a c<=ra b d:=by unfold ra;have f:=Aj h';have g:=Aj (show a+fU c<=b+fU d by lia);lia
noncomputable def pH (w:Wy) (a:List Int):Int:=if w.nm="pick" then ra (a.getD 1 0) (a.getD 2 0) else (w.cs.length:Int)
noncomputable def dD (w:Wy) (a:List Int):Int:=pH w a+a.sum
noncomputable abbrev Wn:Type:=Option (Int × D)
noncomputable def bD:Wn->D
 | none=>.SO
 | some b=>.tup [.int b.1,b.2]
noncomputable def fK:List Wn->Option (List (Int × D))
 | []=>some []
 | none::_=>none
 | some b::r=>(fK r).map (b::·)
noncomputable def ZU (nm:Str) (bs:List (Int × D)):D:=.tup [.str nm,.tup (bs.map (·.2))]
noncomputable def jB (a:Wn) (l:Int) (c:D):Wn:=match a with
 | none=>some (l,c)
 | some b=>if l < b.1 then some (l,c) else some b
noncomputable def x8 (a:Wn) (w:Wy):Option (List (Int × D))->Wn
 | none=>a
 | some bs=>jB a (dD w (bs.map (·.1))) (ZU w.nm bs)
noncomputable def iF (f:Tr->Wn) (a:Wn) (w:Wy):Wn:=x8 a w (fK (w.ts.map f))
noncomputable def mM (ps:List Pc) (f:Tr->Wn) (t:Tr):Wn:=(iT ps t).foldl (iF f) none
noncomputable def m6 (ps:List Pc):Nat->Tr->Wn
 | 0,_=>none
 | n+1,t=>mM ps (m6 ps n) t
noncomputable def bS (ps:List Pc) (t:Tr):Wn:=m6 ps (bB t) t
theorem tX (t:Tr):1<=bB t:=by cases t <;> simp [bB]
theorem uB:∀ (p:Pa) (t:Tr) (f:Vg),cO p t=some f->∀ x ∈ f.1,x ∈ bC t
 | .hole i,t,f,h,x,hx=>by cases h;simp at hx;rw [hx,hU];exact P4
 | .gap i m,t,f,h,x,hx=>by
  cases t with
  | num n =>
   have h':(if n<=m then some ([],[n],[]) else none:Option Vg)=some f:=h;by_cases z:n<=m
   ·rw [Pk z] at h';cases h';simp at hx
   ·rw [M1 z] at h';cases h'
  | _=>cases h
 | .slot i,t,f,h,x,hx=>by
  cases t with
  | arg n=>cases h;simp at hx
  | _=>cases h
 | .num m,t,f,h,x,hx=>by
  cases t with
  | num n =>
   have h':(if n=m then some ([],[],[]) else none:Option Vg)=some f:=h;by_cases z:n=m
   ·rw [Pk z] at h';cases h';simp at hx
   ·rw [M1 z] at h';cases h'
  | _=>cases h
 | .two o a b,t,f,h,x,hx=>by
  cases t with
  | two F u v =>
   obtain ⟨_,q,s,A,B,C⟩:=fC h;subst C;have g:x ∈ q.1++s.1:=hx;simp only [bC,PB,Qc];rcases Qc.mp g with hx | hx
   ·exact .inr (.inl (uB a u q A x hx))
   ·exact .inr (.inr (uB b v s B x hx))
  | _=>cases h
theorem k8 {p:Pa} {f:Vg} (A:fY p=true) (h:cO p t=some f):∀ x ∈ f.1,x ∈ (dR t).flatMap bC:=by
 intro x hx
 cases p with
 | hole i=>cases A
 | gap i m =>
  cases t with
  | num n =>
   have h':(if n<=m then some ([],[n],[]) else none:Option Vg)=some f:=h;by_cases z:n<=m
   ·rw [Pk z] at h';cases h';simp at hx
   ·rw [M1 z] at h';cases h'
  | _=>cases h
 | slot i =>
  cases t with
  | arg n=>cases h;simp at hx
  | _=>cases h
 | num m =>
  cases t with
  | num n =>
   have h':(if n=m then some ([],[],[]) else none:Option Vg)=some f:=h;by_cases z:n=m
   ·rw [Pk z] at h';cases h';simp at hx
   ·rw [M1 z] at h';cases h'
  | _=>cases h
 | two o a b =>
  cases t with
  | two G u v =>
   obtain ⟨_,q,s,B,C,F⟩:=fC h;subst F;have g:x ∈ q.1++s.1:=hx;simp only [dR,List.flatMap_cons,List.flatMap_nil,PR,Qc];rcases Qc.mp g with hx | hx
   ·exact .inl (uB a u q B x hx)
   ·exact .inr (uB b v s C x hx)
  | _=>cases h
theorem BM (t:Tr):t ∈ bC t:=by rw [hU];exact P4
variable {ps:List Pc}
theorem pU (g:∀ p ∈ ps,fY p.pt=true) {w:Wy} (b:w ∈ iT ps t):∀ x ∈ w.ts,x ∈ (dR t).flatMap bC:=by
 unfold iT at b;split at b
 ·rw [PU.mp b];intro x h;exact List.mem_flatMap.mpr ⟨x,h,BM x⟩
 ·obtain ⟨p,m,a⟩:=Q8.mp b;unfold iN at a
  cases e:cO p.pt t with
  | none=>rw [e] at a;cases a
  | some f =>rw [e] at a;cases a;exact k8 (g p m) e
theorem gD:∀ (t x:Tr),x ∈ bC t->bB x<=bB t/\a9 x<=a9 t
 | .num n,x,h=>by
  have e:x=.num n:=by simpa [bC] using h
  subst e;exact ⟨Pu _,Pu _⟩
 | .arg n,x,h=>by
  have e:x=.arg n:=by simpa [bC] using h
  subst e;exact ⟨Pu _,Pu _⟩
 | .two o a b,x,h=>by
  simp only [bC,PB,Qc] at h;rcases h with rfl | h | h
  ·exact ⟨Pu _,Pu _⟩
  ·have:=gD a x h;simp only [bB,a9];lia
  ·have:=gD b x h;simp only [bB,a9];lia
 | .pick a b c,x,h=>by
  simp only [bC,PB,Qc] at h;rcases h with rfl | (h | h) | h
  ·exact ⟨Pu _,Pu _⟩
  ·have:=gD a x h;simp only [bB,a9];lia
  ·have:=gD b x h;simp only [bB,a9];lia
  ·have:=gD c x h;simp only [bB,a9];lia
theorem iA:∀ (t x:Tr),UQ t->x ∈ bC t->UQ x
 | .num n,x,k,h=>by
  have e:x=.num n:=by simpa [bC] using h
  subst e;exact k
 | .arg n,x,k,h=>by
  have e:x=.arg n:=by simpa [bC] using h
  subst e;exact k
 | .two o a b,x,k,h=>by
  simp only [bC,PB,Qc] at h;rcases h with rfl | h | h
  ·exact k
  ·exact iA a x k.2.1 h
  ·exact iA b x k.2.2 h
 | .pick a b c,x,k,h=>by
  simp only [bC,PB,Qc] at h;rcases h with rfl | (h | h) | h
  ·exact k
  ·exact iA a x k.1 h
  ·exact iA b x k.2.1 h
  ·exact iA c x k.2.2 h
theorem Bd (h:x ∈ dR t):bB x < bB t/\a9 x < a9 t:=by
 cases t with
 | num n=>simp [dR] at h
 | arg n=>simp [dR] at h
 | two o a b =>simp only [dR,PB,Qa,Qz] at h;simp only [bB,a9];rcases h with rfl | rfl <;> lia
 | pick a b c =>simp only [dR,PB,Qa,Qz] at h;simp only [bB,a9];rcases h with rfl | rfl | rfl <;> lia
theorem iR (h:x ∈ (dR t).flatMap bC):bB x < bB t/\a9 x < a9 t:=by obtain ⟨k,a,b⟩:=List.mem_flatMap.mp h;have:=Bd a;have:=gD k x b;lia
theorem mj (h:x ∈ (dR t).flatMap bC):x ∈ bC t:=by rw [hU];exact PV _ h
variable {f g:Tr->Wn}
theorem zy {w:Wy} (h:∀ x ∈ w.ts,f x=g x) (b:Wn):iF f b w=iF g b w:=by unfold iF;rw [List.map_congr_left h]
theorem mQ:∀ (a:List Wy) (b:Wn),(∀ w ∈ a,∀ x ∈ w.ts,f x=g x)->a.foldl (iF f) b=a.foldl (iF g) b
 | [],_,_=>rfl
 | w::a,b,h=>by rw [Rh,Rh,zy (h w P4)];exact mQ a _ λm q=>h m (PV _ q)
theorem oQ (a:∀ p ∈ ps,fY p.pt=true):∀ (n:Nat) (t:Tr),bB t<=n->m6 ps (n+1) t=m6 ps n t
 | 0,t,h=>by have:=tX t;lia
 | n+1,t,h=>by show mM ps (m6 ps (n+1)) t=mM ps (m6 ps n) t;refine mQ _ _ λw b x m=>oQ a n x ?_;have:=iR (pU a b x m);lia
theorem qg (a:∀ p ∈ ps,fY p.pt=true):∀ {n:Nat},bB t<=n->m6 ps n t=bS ps t:=by
 intro n
 induction n with
 | zero=>intro h;have:=tX t;lia
 | succ n b =>
  intro h;by_cases e:bB t=n+1
  ·unfold bS;rw [e]
  ·rw [oQ a n t (by lia)];exact b (by lia)
theorem m7 (a:∀ p ∈ ps,fY p.pt=true) (t:Tr):bS ps t=mM ps (bS ps) t:=by rw [<- qg a (RZ (bB t))];show mM ps (m6 ps (bB t)) t=_;refine mQ _ _ λw b x h=>qg a ?_;exact QO (iR (pU a b x h)).1
inductive Vp {α β:Type} (R:α->β->Prop):List α->List β->Prop
 | nil:Vp R [] []
 | cons {a b as bs}:R a b->Vp R as bs->Vp R (a::as) (b::bs)
theorem Vp.mono {α β:Type} {R S:α->β->Prop} (h:∀ a b,R a b->S a b):∀ {as:List α} {bs:List β},Vp R as bs->Vp S as bs:=by
 intro as bs q
 induction q with
 | nil=>exact .nil
 | cons r _ m=>exact .cons (h _ _ r) m
noncomputable def ug (ps:List Pc):Nat->Tr->Int->Prop
 | 0,_,_=>False
 | n+1,t,m=>∃ w ∈ iT ps t,∃ a,Vp (ug ps n) w.ts a/\m=dD w a
noncomputable def UU (S:Int->Prop):Wn->Prop
 | none=>∀ m,¬ S m
 | some x=>S x.1/\∀ m,S m->x.1<=m
theorem Ip:∀ {as bs:List Int},Vp (λa b=>a<=b) as bs->as.sum<=bs.sum:=by
 intro as bs h
 induction h with
 | nil=>exact RP _
 | cons r _ m=>simp only [List.sum_cons];lia
theorem Ac:∀ {as bs:List Int},Vp (λa b=>a<=b) as bs->∀ i,as.getD i 0<=bs.getD i 0:=by
 intro as bs h
 induction h with
 | nil=>intro i;exact RP _
 | cons r _ m =>
  intro i
  cases i with
  | zero=>simpa using r
  | succ i=>simpa using m i
theorem C0 (w:Wy) {as bs:List Int} (h:Vp (λa b=>a<=b) as bs):dD w as<=dD w bs:=by
 unfold dD pH;have m:=Ip h;split
 ·have:=Dy (Ac h 1) (Ac h 2);lia
 ·lia
theorem sM {C:Tr->Int->Prop} (m:∀ t,UU (C t) (f t)):∀ {ts:List Tr},fK (ts.map f)=none->∀ a,¬ Vp C ts a
 | [],h,a=>by cases h
 | t::ts,h,a=>by
  intro q
  cases q with
  | cons r q =>
   cases e:f t with
   | none =>have z:=m t;rw [e] at z;exact z _ r
   | some b =>
    rw [PD,e] at h;have h':(fK (ts.map f)).map (b::·)=none:=h
    cases s:fK (ts.map f) with
    | none=>exact sM m s _ q
    | some r=>rw [s] at h';cases h'
theorem sN {C:Tr->Int->Prop} (u:∀ t,UU (C t) (f t)):∀ {ts:List Tr} {bs:List (Int × D)},fK (ts.map f)=some bs->Vp C ts (bs.map (·.1))/\∀ m,Vp C ts m->Vp (λa b=>a<=b) (bs.map (·.1)) m
 | [],bs,h=>by cases h;exact ⟨.nil,λm q=>by cases q;exact .nil⟩
 | t::ts,bs,h=>by
  cases e:f t with
  | none=>rw [PD,e] at h;cases h
  | some b =>
   rw [PD,e] at h;have h':(fK (ts.map f)).map (b::·)=some bs:=h
   cases s:fK (ts.map f) with
   | none=>rw [s] at h';cases h'
   | some r =>
    rw [s] at h';cases h';obtain ⟨A,B⟩:=sN u s;have z:=u t;rw [e] at z;refine ⟨.cons z.1 A,λm q=>?_⟩
    cases q with
    | cons F G=>exact .cons (z.2 _ F) (B _ G)
theorem zz {C:Tr->Int->Prop} (A:∀ t,UU (C t) (f t)) {S:Int->Prop} {b:Wn} (w:Wy) (h:UU S b):UU (λm=>S m\/∃ a,Vp C w.ts a/\m=dD w a) (iF f b w):=by
 unfold iF
 cases e:fK (w.ts.map f) with
 | none =>
  have B:=sM A e
  cases b with
  | none=>exact λm z=>z.elim (h m) λ⟨a,q,_⟩=>B a q
  | some x=>exact ⟨.inl h.1,λm z=>z.elim (h.2 m) λ⟨a,q,_⟩=>absurd q (B a)⟩
 | some bs =>
  obtain ⟨F,G⟩:=sN A e;have lo:∀ a,Vp C w.ts a->dD w (bs.map (·.1))<=dD w a:=λa q=>C0 w (G a q);show UU _ (jB b _ _);unfold jB
  cases b with
  | none=>exact ⟨.inr ⟨_,F,rfl⟩,λm z=>z.elim (λq=>absurd q (h m)) λ⟨a,q,s⟩=>by rw [s];exact lo a q⟩
  | some x =>
   dsimp only;split
   ·rename_i u;exact ⟨.inr ⟨_,F,rfl⟩,λm z=>z.elim (λq=>Int.le_of_lt (Int.lt_of_lt_of_le u (h.2 m q))) λ⟨a,q,s⟩=>by rw [s];exact lo a q⟩
   ·rename_i I;exact ⟨.inl h.1,λm z=>z.elim (h.2 m) λ⟨a,q,s⟩=>by rw [s];have:=lo a q;lia⟩
theorem UU.iff {S T:Int->Prop} {b:Wn} (h:UU S b) (e:∀ m,S m↔T m):UU T b:=by have z:S=T:=funext λm=>propext (e m);rw [<- z];exact h
theorem qz {C:Tr->Int->Prop} (u:∀ t,UU (C t) (f t)):∀ (a:List Wy) (S:Int->Prop) (b:Wn),UU S b->UU (λm=>S m\/∃ w ∈ a,∃ z,Vp C w.ts z/\m=dD w z) (a.foldl (iF f) b)
 | [],S,b,h=>h.iff λm=>⟨λq=>.inl q,λq=>q.elim id λ⟨w,hw,_⟩=>absurd hw (by simp)⟩
 | w::a,S,b,h=>by
  rw [Rh];refine (qz u a _ _ (zz u w h)).iff λm=>⟨λq=>?_,λq=>?_⟩
  ·rcases q with (q | q) | ⟨s,hw,q⟩
   ·exact .inl q
   ·exact .inr ⟨w,P4,q⟩
   ·exact .inr ⟨s,PV _ hw,q⟩
  ·rcases q with q | ⟨s,hw,q⟩
   ·exact .inl (.inl q)
   ·rcases PB.mp hw with rfl | hw
    ·exact .inl (.inr q)
    ·exact .inr ⟨s,hw,q⟩
theorem qh (ps:List Pc):∀ (n:Nat) (t:Tr),UU (ug ps n t) (m6 ps n t)
 | 0,t=>λm h=>h
 | n+1,t=>(qz (qh ps n) (iT ps t) (λ_=>False) none (λm h=>h)).iff λm=>⟨λq=>q.elim False.elim id,λq=>.inr q⟩
theorem wQ:∀ (n:Nat) (t:Tr) (m:Int),ug ps n t m->ug ps (n+1) t m
 | 0,t,m,h=>h.elim
 | n+1,t,m,⟨w,a,b,q,e⟩=>⟨w,a,b,q.mono (wQ n),e⟩
theorem uw {k:Nat} (h:n<=k) {m:Int} (q:ug ps n t m):ug ps k t m:=by
 induction h with
 | refl=>exact q
 | step _ a=>exact wQ _ _ _ a
noncomputable def YI (ps:List Pc) (t:Tr) (m:Int):Prop:=∃ n,ug ps n t m
theorem IY (b:∀ p ∈ ps,fY p.pt=true) (t:Tr):UU (YI ps t) (bS ps t):=by
 have a:∀ n,UU (ug ps (max n (bB t)) t) (bS ps t):=λn=>by have:=qh ps (max n (bB t)) t;rw [qg b (Nat.le_max_right _ _)] at this;exact this
 cases e:bS ps t with
 | none =>rintro m ⟨n,q⟩;have k:=a n;rw [e] at k;exact k m (uw (Sd _ _) q)
 | some x =>
  refine ⟨?_,?_⟩
  ·have k:=a 0;rw [e] at k;exact ⟨_,k.1⟩
  ·rintro m ⟨n,q⟩;have k:=a n;rw [e] at k;exact k.2 m (uw (Sd _ _) q)
theorem Hh:∀ {ts:List Tr} {a:List Int},Vp (YI ps) ts a->∃ n,Vp (ug ps n) ts a:=by
 intro ts a h
 induction h with
 | nil=>exact ⟨0,.nil⟩
 | cons r _ b =>obtain ⟨m,q⟩:=r;obtain ⟨s,u⟩:=b;exact ⟨max m s,.cons (uw (Sd _ _) q) (u.mono λ_ _=>uw (Nat.le_max_right _ _))⟩
theorem YI.intro {w:Wy} {a:List Int} (b:w ∈ iT ps t) (h:Vp (YI ps) w.ts a):YI ps t (dD w a):=by obtain ⟨n,q⟩:=Hh h;exact ⟨n+1,w,b,a,q,rfl⟩
theorem wz {p:Pc} {f:Vg} (a:p ∈ ps) (b:xj t=false) (h:cO p.pt t=some f):(⟨p.nm,p.cs,f.1⟩:Wy) ∈ iT ps t:=by unfold iT;rw [M1 (by rw [b];exact Pp)];exact Q8.mpr ⟨p,a,by unfold iN;rw [h];rfl⟩
theorem yh {a b c:Tr}:iT ps (.pick a b c)=[⟨"pick",[],[a,b,c]⟩]:=rfl
noncomputable def iO:Pa->Nat
 | .hole _=>1
 | .two _ a b=>iO a+iO b
 | _=>0
theorem lZ:∀ (p:Pa) (t:Tr) (f:Vg),cO p t=some f->f.1.length=iO p
 | .hole i,t,f,h=>by cases h;rfl
 | .gap i m,t,f,h=>by
  cases t with
  | num n =>
   have h':(if n<=m then some ([],[n],[]) else none:Option Vg)=some f:=h;by_cases z:n<=m
   ·rw [Pk z] at h';cases h';rfl
   ·rw [M1 z] at h';cases h'
  | _=>cases h
 | .slot i,t,f,h=>by
  cases t with
  | arg n=>cases h;rfl
  | _=>cases h
 | .num m,t,f,h=>by
  cases t with
  | num n =>
   have h':(if n=m then some ([],[],[]) else none:Option Vg)=some f:=h;by_cases z:n=m
   ·rw [Pk z] at h';cases h';rfl
   ·rw [M1 z] at h';cases h'
  | _=>cases h
 | .two o a b,t,f,h=>by
  cases t with
  | two F u v =>obtain ⟨_,q,s,A,B,C⟩:=fC h;subst C;show (q.1++s.1).length=iO a+iO b;rw [tB,lZ a u q A,lZ b v s B]
  | _=>cases h
noncomputable abbrev JH:Pc:=⟨"add",.two "add" (.hole 0) (.hole 1),[.int 4]⟩
noncomputable abbrev BP:List Pc:=[⟨"one",.gap 0 99,[.int 1,.tup [.str "low",.int 0]]⟩,⟨"two",.gap 0 9999,[.int 2,.tup [.str "low",.int 0],.tup [.str "high",.int 0]]⟩,⟨"slot",.slot 0,[.int 3,.tup [.str "arg",.int 0]]⟩,
 JH,⟨"sub",.two "sub" (.hole 0) (.hole 1),[.int 5]⟩,⟨"mul",.two "mul" (.hole 0) (.hole 1),[.int 6]⟩,⟨"less",.two "less" (.hole 0) (.hole 1),[.int 7]⟩,⟨"more",.two "add" (.hole 0) (.gap 0 99),[.int 12,.tup [.str "low",.int 0]]⟩]
theorem Hl (o:Str) (x y:Tr):cO (.two o (.hole 0) (.hole 1)) (.two o x y)=some ([x,y],[],[]):=by show (if o=o then _ else _)=_;rw [Pk rfl];rfl
theorem Dr (h:ZS o):∃ c:D,(⟨o,.two o (.hole 0) (.hole 1),[c]⟩:Pc) ∈ BP:=by
 rcases h with rfl | rfl | rfl | rfl
 ·exact ⟨.int 4,by simp [BP]⟩
 ·exact ⟨.int 5,by simp [BP]⟩
 ·exact ⟨.int 6,by simp [BP]⟩
 ·exact ⟨.int 7,by simp [BP]⟩
theorem Dn (h:ZS o):¬ o="pick":=by rcases h with rfl | rfl | rfl | rfl <;> decide +kernel
theorem EJ (a:∀ p ∈ BP,p ∈ ps) (h:ZS o) {m n:Int} (b:YI ps x m) (s:YI ps y n):YI ps (.two o x y) (m+n+1):=by
 obtain ⟨c,u⟩:=Dr h;have q:=YI.intro (wz (t:=.two o x y) (a _ u) rfl (Hl o x y)) (.cons b (.cons s .nil))
 have e:dD ⟨o,[c],[x,y]⟩ [m,n]=m+n+1:=by unfold dD pH;rw [M1 (Dn h)];simp;lia
 rw [<- e];exact q
theorem ke (q:∀ p ∈ BP,p ∈ ps):∀ t:Tr,UQ t->∃ m,YI ps t m
 | .num n,h=>by
  have e:cO (.gap 0 9999) (.num n)=some ([],[n],[]):=by show (if n<=9999 then _ else _)=_;rw [Pk h.2]
  exact ⟨_,YI.intro (wz (t:=.num n) (p:=⟨"two",.gap 0 9999,[.int 2,.tup [.str "low",.int 0],.tup [.str "high",.int 0]]⟩) (q _ (by simp [BP])) rfl e) .nil⟩
 | .arg k,h=>⟨_,YI.intro (wz (t:=.arg k) (p:=⟨"slot",.slot 0,[.int 3,.tup [.str "arg",.int 0]]⟩) (f:=([],[],[k])) (q _ (by simp [BP])) rfl rfl) .nil⟩
 | .two o a b,h=>by obtain ⟨m,s⟩:=ke q a h.2.1;obtain ⟨n,u⟩:=ke q b h.2.2;exact ⟨_,EJ q h.1 s u⟩
 | .pick a b c,h=>by obtain ⟨m,s⟩:=ke q a h.1;obtain ⟨n,u⟩:=ke q b h.2.1;obtain ⟨l,z⟩:=ke q c h.2.2;exact ⟨_,YI.intro (w:=⟨"pick",[],[a,b,c]⟩) (by rw [yh];exact PU.mpr rfl) (.cons s (.cons u (.cons z .nil)))⟩
theorem AU (a:∀ p ∈ ps,fY p.pt=true) (h:∃ m,YI ps t m):∃ b,bS ps t=some b/\YI ps t b.1/\∀ m,YI ps t m->b.1<=m:=by
 have z:=IY a t
 cases e:bS ps t with
 | none=>rw [e] at z;obtain ⟨m,q⟩:=h;exact absurd q (z m)
 | some b=>rw [e] at z;exact ⟨b,rfl,z.1,z.2⟩
noncomputable def zI (ds es:List D):Prop:=∃ m n f,ds=[.int m,.tup [.int n,.int f]]/\es=(fN n f m).map D.int
theorem Jj (h:tA σ H λxs a=>xs.length<=sizeLine/\∀ p,a p=none->Q (.ref p) (upd a p (.tup xs))):zB tA σ H Q:=h
theorem mi (h:En.nx σ H):AO En σ H:=h
theorem FU (h:En.ct σ H):GD En σ H:=h
variable {G:Hp} {xs:List V}
theorem vR (h:RE K te σ G d) (s:G l=some (.lst xs)) (B:xs.length<=900)
  (q:∀ y m,S6 l G m->m l=some (.lst (xs++[y]))->Dat K m d y->En.nx σ m) (z:σ[j]?=some (some (.ref l)):=by rfl):rR (Z6 K "list" kH (fT j) (bW te dW)) En σ G:=by
 refine ⟨_,z,.inl ⟨rfl,_,SR.of s⟩,h.use λy u s1 A=>?_⟩;have a:=s1 _ _ s;refine ⟨l,xs,y,rfl,rfl,a,cM (by lia),?_⟩;have b:S6 l u (upd u l (.lst (xs++[y]))):=S6.upd (SJ.refl _).but;exact q y _ (s1.but.trans b) aI (Dat.mono (b.grow a aI) _ A)
theorem vT {k:Nat} (h:RE K te σ H d) (q:∀ v a,SJ H a->Dat K a d v->En.nx (σ.set k (some v)) a):rQ te (d6 k) En σ H:=h.use q
theorem vj (T:Txt P w K mg)  : Ok P w base (k+1) T.L1 (kL K zI):=by
 refine T.L1.f.ok WL (λvs H Q E h=>?_) (λI A outer s H vs Q E O h=>?_)
 ·obtain ⟨ds,d,q,⟨m,n,f,rfl,_⟩,_⟩:=h;exact q.length.symm
 have F:=WL.nd;obtain ⟨ds,es,q,⟨m,n,f,rfl,rfl⟩,post⟩:=h;obtain ⟨R,S,rfl,u,J⟩:=i5 q;refine ⟨_,(aE (gH (pv 1) (gF rfl (bN (a7 (i:=2) F rfl (Or.inl rfl)) (bN (a7 (i:=3) F rfl (Or.inl rfl)) eH))))
 (aE (bE (aN jV (pv 0) (bT (v:=.int 9) rfl T.Lj ⟨_,rfl⟩) (aT _)) (aH (aP (bY (aD (pv 2) (aD (pv 0) aC))))) aQ)
 (aH (aP (bY (aD (pv 3) (aD (bL eZ (pv 0) aF) (aD (bL nB (pv 0) aF) aC)))))))),?_⟩
 refine jX (K:=K) (aA J) λv w U s1 L M=>?_;have u:=s1.dat u;refine aR (K:=K) (b:=decide (m<=9)) (aJ (cQ (p:=λi j=>decide (i<=j)) (aA u) aG)) (λc N a=>?_) (λc N a=>?_)
 ·have e:fN n f m=[n,m]:=by unfold fN;rw [Pk (Pq c)]
  rw [e] at post;exact jO (RC.use (K:=K) (iC (aB (aA (a.dat L)) (aB (aA (a.dat u)) aM))) λl ys z B s C q=>post l ys z (s1.trans (a.trans s)) C ((s1.trans a).free B) q)
 ·have e:fN n f m=[f,m % 100,m / 100]:=by unfold fN;rw [M1 (Px c)]
  rw [e] at post;exact jO (RC.use (K:=K) (iC (aB (aA (a.dat M)) (aB (jN (aA (a.dat u)) aG (by decide)) (aB (AE (aA (a.dat u)) aG ⟨by decide,by decide⟩) aM)))) λl ys z B s C q=>post l ys z (s1.trans (a.trans s)) C ((s1.trans a).free B) q)
noncomputable def vZ (K:W.Frag):Sp:=λvs H Q _=>∃ y z:Int,vs=[.int y,.int z]/\∀ (p a b:Addr) (us m:List V) (h:Hp),SJ H h->Ti K h p [.ref a,.ref b]->h a=some (.lst us)->h b=some (.lst m)->H a=none->H b=none->a≠b ->
 SI K h ((fN 10 11 (y+fU z)).map D.int) us->SI K h ((fN 8 9 z).map D.int) m->Q (.ref p) h
theorem om (T:Txt P w K mg) (F:Ok P w base k T.L1 (kL K zI)):Ok P w base (k+1) T.Kq (vZ K):=by
 refine T.Kq.f.ok Vl (λvs H Q E h=>?_) (λU A outer s H vs Q E I h=>?_)
 ·obtain ⟨y,z,rfl,_⟩:=h;rfl
 have J:=Vl.nd;obtain ⟨y,z,rfl,post⟩:=h;refine ⟨_,(aE (bQ (i:=2) J rfl (Or.inl rfl) (pc (D:=T.L1) F I (aD (pv 1) (aD (bT (v:=.ref T.Nj) rfl T.ME rfl) aC))))
 (aE (bQ (i:=3) J rfl (Or.inl rfl) (pc (D:=T.L1) F I (aD (bL cJ (pv 0) (aX aW rfl T.J0 bU (aD (pv 2) aC))) (aD (bT (v:=.ref T.ND) rfl T.MV rfl) aC))))
 (aH (aP (bA (aD (pv 3) (aD (pv 2) aC))))))),?_⟩
 refine gY (K:=K) (nG (R:=zI) (aB (aA (k:=1) (Dat.SN z)) (aB (lN T.Om) aM)) ⟨z,8,9,rfl,rfl⟩) λb L H1 X s1 q M=>?_;have Y:(L.length:Int)=fU z:=by rw [<- M.length,Pf,i7]
 have N:=pQ (K:=K) (σ:=(start ["second","third","behind","ahead"] [.int y,.int z]).set 2 (some (.ref b))) (k:=2) q;rw [Y] at N;refine gY (K:=K) (nG (R:=zI) (aB (c8 (aA (k:=0) (Dat.SN y)) N) (aB (lN T.Oz) aM)) ⟨_,10,11,rfl,rfl⟩) λa us O S u B Z=>?_;refine jO (Jj ⟨_,rfl,_,rfl,dB (by simp),λp hp=>?_⟩);have m:SJ O (upd O p (.tup [.ref a,.ref b])):=aV hp _;have C:a≠b:=PN (aU q S);exact post p a b us L _ (s1.trans (u.trans m)) (Ti.of aI) (m _ _ B) (m _ _ (u _ _ q)) (s1.free S) X C (m.SV Z) ((u.trans m).SV M)
theorem tM (h:o="num"\/o="arg"\/ZS o):decide (o=("pick":Str))=false/\o≠"call":=by rcases h with rfl | rfl | rfl | rfl | rfl | rfl <;> exact ⟨by decide +kernel,by decide +kernel⟩
theorem Ae (t:Tr) (h:UQ t):∃ kd r,toD t=.tup (.str kd::r)/\decide (kd="pick")=xj t/\kd≠"call"/\(xj t=true->r=(dR t).map toD):=by
 cases t with
 | num n=>exact ⟨_,_,rfl,(tM (.inl rfl)).1,(tM (.inl rfl)).2,λz=>nomatch z⟩
 | arg n=>exact ⟨_,_,rfl,(tM (.inr (.inl rfl))).1,(tM (.inr (.inl rfl))).2,λz=>nomatch z⟩
 | two o a b=>exact ⟨_,_,rfl,(tM (.inr (.inr h.1))).1,(tM (.inr (.inr h.1))).2,λz=>nomatch z⟩
 | pick a b c=>exact ⟨_,_,rfl,Py rfl,by decide +kernel,λ_=>rfl⟩
structure lH (ps:List Pc):Prop where
 ok:∀ p ∈ ps,Fj p
 few:ps.length<=100
noncomputable def Cb (as:List Ar) (es:List D):Prop:=∃ ps t,as=[.d (toD t),.l (ps.map VF)]/\lH ps/\UQ t/\a9 t<=8/\es=(iT ps t).map wyD
theorem CA (f:Vg):fdD (some f)=.tup [.tup (f.1.map toD),.tup (f.2.1.map D.int),.tup (f.2.2.map D.int)]:=rfl
theorem yV (T:Txt P w K mg) (Nd:Ok P w base k T.LG (Tj K pX)):Ok P w base (k+1) T.M9 (lV K Cb):=by
 refine T.M9.f.ok XJ (λvs H Q E h=>?_) (λcdv A outer s H vs Q E hr h=>?_)
 ·obtain ⟨as,d,B,⟨ps,t,rfl,_⟩,_⟩:=h;exact B.length.symm
 have nd:=XJ.nd;obtain ⟨as,es,B,⟨ps,t,rfl,Wr,Vo,XU,rfl⟩,post⟩:=h;obtain ⟨v0,v1,rfl,Z,h1⟩:=yp B;have Z:Dat K H (toD t) v0:=Z;have h1:LD K H (ps.map VF) v1:=h1;refine ⟨_,(aE (bE (aN bV (aY aZ (pv 0) aF) aO (aT _)) (aH (aP (bY (aD (bA (aD aO (aD (bA aC) (aD (jJ rL (pv 0) (iY aF) pO) aC)))) aC)))) aQ)
 (aE (bQ (i:=2) nd rfl (Or.inl rfl) (bY aC))
 (aE (jK Qv rfl (gJ (pv 1)) (a7 (i:=3) nd rfl (Or.inl rfl)) (aE (bQ (i:=4) nd rfl (Or.inl rfl) (pc (D:=T.LG) Nd hr (aD (pv 3) (aD (pv 0) aC))))
 (aH (bE (aN Fn (pv 4) gR (aT _)) (aH (bP (fF PJ P7 P9 cC (pv 2) (aD (bA (aD (aY aZ (pv 3) aF) (aD (aY aZ (pv 3) aF) (aD (aY aZ (pv 4) aF) aC)))) aC)))) aQ))))
 (aH (aP (pv 2)))))),?_⟩
 obtain ⟨kd,r,ek,hpk,_,Yz⟩:=Ae t Vo;have C:Dat K H (.tup (.str kd::r)) v0:=by rw [<- ek];exact Z
 refine aR (K:=K) (b:=xj t) (RT.as (aJ (bI (a6 (k:=0) (aA C) aG rfl) aL)) hpk) (λc H1 s1=>?_) (λc H1 s1=>?_)
 ·have e:(iT ps t).map wyD=[.tup [.str "pick",.tup [],.tup r]]:=by
   unfold iT;rw [Pk c,Yz c];rfl
  rw [e] at post;exact jO (RC.use (K:=K) (iC (aB (bF (aB aL (aB (bF aM) (aB (mh (aA (s1.dat C))) aM)))) aM)) λl ys H' hl s hy B=>post l ys H' (s1.trans s) hy (s1.free hl) B)
 have ew:iT ps t=ps.filterMap (iN t):=by unfold iT;rw [M1 (by rw [c];exact Pp)]
 rw [ew] at post;refine fR ⟨dB (by decide),λF I=>?_⟩;have q:SJ H1 (upd H1 F (.lst [])):=aV I _;have J:=s1.trans q;obtain ⟨a,vs,rfl,ha,L⟩:=h1;have la:=L.length;rw [Pf] at la;have hps:=Wr.few;have M:H F=none:=s1.free I;refine eB ⟨_,rfl,a,rfl,⟨vs,(J.VI ha).WC⟩,qA (xs:=vs) (λi σ G=>∃ (z3 z4:Option V) (ys:List V),σ=[some v0,some (.ref a),some (.ref F),z3,z4]/\SJ H G/\G F=some (.lst ys)/\SI K G (((ps.take i).filterMap (iN t)).map wyD) ys) ?_ (λi σ G _ ⟨_,_,_,_,p,_⟩=>(p.VI ha).WC) ?_ ?_⟩
 ·exact ⟨none,none,[],rfl,J,aI,by rw [QW];exact SI.nil⟩
 ·rintro i vx σ G hi ⟨z3,z4,ys,rfl,u,YG,z⟩;obtain ⟨dx,ex,N⟩:=(u.SV L).Wd hi;rw [Pw] at ex
  cases hp:ps[i]? with
  | none=>rw [hp] at ex;cases ex
  | some p =>
   rw [hp] at ex;cases ex;have W3:=Wr.ok p (PM hp);have et:ps.take (i+1)=ps.take i++[p]:=by rw [Qq,hp];rfl
   have lys:ys.length<=100:=by have l1:=z.length;rw [Pf] at l1;have l2:=RV (iN t) (ps.take i);rw [Qh] at l2;lia
   refine kJ ?_;dsimp only;refine eJ (K:=K) (d:=fdD (cO p.pt t)) (bM (R:=pX) (aB (aA (k:=3) N) (aB (aA (k:=0) (u.dat Z)) aM)) ⟨.str p.nm,p.pt,.tup p.cs,t,rfl,W3.ok,Vo,XU,W3.dp,rfl⟩) λvf G2 q O=>?_;have S:=q _ _ YG
   cases Yr:cO p.pt t with
   | none =>
    have eW:iN t p=none:=by unfold iN;rw [Yr];rfl
    rw [Yr] at O;refine jk (b:=false) (aJ (AF (K:=K) (aA (k:=4) O))) (λc=>nomatch c) (λ_ G3 m=>mi ?_);refine ⟨_,_,ys,rfl,u.trans (q.trans m),m _ _ S,?_⟩;rw [et,QY];simp only [Q5,Sw,eW,PR];exact (q.trans m).SV z
   | some f =>
    have eW:iN t p=some ⟨p.nm,p.cs,f.1⟩:=by unfold iN;rw [Yr];rfl
    rw [Yr,CA] at O;refine jk (b:=true) (aJ (AF (K:=K) (aA (k:=4) O))) (λ_ G3 m=>?_) (λc=>nomatch c);have U:=m _ _ S;have X:=(q.trans m).dat N;refine vR (K:=K) (d:=.tup [.str p.nm,.tup p.cs,.tup (f.1.map toD)]) (bF (aB (a6 (k:=0) (aA (k:=3) X) aG rfl) (aB (a6 (k:=2) (aA (k:=3) X) aG rfl) (aB (a6 (k:=0) (aA (k:=4) (m.dat O)) aG rfl) aM)))) U (by lia) λy G4 b4 Y q4=>?_;have g4:gA K G3 G4:=b4.grow U Y;refine ⟨_,_,ys++[y],rfl,λx o N=>b4 x o (aU N M) (m _ _ (q _ _ (u _ _ N))),Y,?_⟩;rw [et,QY,P0];simp only [Q5,Sw,eW];exact SI.append (SI.mono g4 _ ((q.trans m).SV z)) (SI.cons q4 SI.nil)
 ·rintro σ G ⟨z3,z4,ys,rfl,u,YG,z⟩;rw [<- la,QK] at z;exact ⟨_,rfl,post F ys G u YG M z⟩
theorem vS {g:TG} (h:te σ H λx a=>g x σ a (us En)):lX (rQ te g) us En σ H:=h
noncomputable def GO (as:List Ar) (d:D):Prop:=∃ (w:Wy) (a:List Int),as=[.d (.str w.nm),.d (.tup w.cs),.l (a.map D.int)]/\(w.nm="pick"->a.length=3)/\d=.int (dD w a)
theorem vm (T:Txt P w K mg) (L3:Ok P w base k T.Kq (vZ K)):Ok P w base (k+1) T.Mw (Xs K GO):=by
 refine T.Mw.f.ok WM (λvs H Q E h=>?_) (λcdv A outer s H vs Q E hr h=>?_)
 ·obtain ⟨as,d,L,⟨w,u,rfl,_⟩,_⟩:=h;exact L.length.symm
 have C:=WM.nd;obtain ⟨as,d,L,⟨w,u,rfl,h3,rfl⟩,post⟩:=h;obtain ⟨O,R,S,rfl,M,N,F⟩:=IG L;have M:Dat K H (.str w.nm) O:=M;have N:Dat K H (.tup w.cs) R:=N;have F:LD K H (u.map D.int) S:=F;refine ⟨_,(aE (bQ (i:=3) C rfl (Or.inl rfl) (aX aW rfl T.J0 bU (aD (pv 1) aC)))
 (aE (bE (aN bV (pv 0) aO (aT _)) (aE (gH (pc (D:=T.Kq) L3 hr (aD (aY bX (pv 2) aF) (aD (aY bX (pv 2) aF) aC))) (gF rfl (bN (a7 (i:=4) C rfl (Or.inl rfl)) (bN (a7 (i:=5) C rfl (Or.inl rfl)) eH))))
 (aH (bQ (i:=3) C rfl (Or.inl rfl) (bL cJ (aX aW rfl T.J0 bU (aD (pv 4) aC)) (aX aW rfl T.J0 bU (aD (pv 5) aC)))))) aQ)
 (aH (aP (bL cJ (pv 3) (aX (qi rfl) rfl T.OB yr (aD (pv 2) aC))))))),?_⟩
 refine eJ (K:=K) (fL (aA N)) λvo H1 s1 qo=>?_;have eo:=qo.SQ;subst eo;refine pR (λσ G=>∃ U X:Option V,σ=[some O,some R,some S,some (.int (pH w u)),U,X]/\SJ H G) ?_ (λm=>?_)
 case refine_2 =>
  refine jk (b:=decide (w.nm="pick")) (aJ (bI (K:=K) (aA (k:=0) (s1.dat M)) aL)) (λc H2 I=>?_) (λc H2 I=>?_)
  ·have J:=Pq c
   obtain ⟨x,y,z,rfl⟩:∃ x y z,u=[x,y,z]:=by
    match u,h3 J with
    | [x,y,z],_=>exact ⟨x,y,z,rfl⟩
   have B:=(s1.trans I).ld F;refine vS (mT (gS (RE.use (K:=K) (d:=.int y) (iD (k:=1) (a8 (k:=2) B) aG rfl) λw1 H3 Y q3=>gS (RE.use (K:=K) (d:=.int z) (iD (k:=2) (a8 (k:=2) (Y.ld B)) aG rfl) λw2 H4 s4 q4=>?_))));have e3:=q3.SQ;have e4:=q4.SQ;subst e3 e4;refine ⟨y,z,rfl,λp a b us ws H5 s5 hp ha hb _ _ _ Zb Yy=>?_⟩;have lu:(us.length:Int)=fU (y+fU z):=by rw [<- Zb.length,Pf,i7]
   have lw:(ws.length:Int)=fU z:=by rw [<- Yy.length,Pf,i7]
   refine ⟨p,_,rfl,hp,rfl,_,_,rfl,_,_,rfl,rfl,?_⟩;dsimp only;refine vT (K:=K) (d:=.int (pH w [x,y,z])) (RE.as (c8 (pQ (k:=4) ha) (pQ (k:=5) hb)) ?_) λv H6 s6 q6=>?_
   ·rw [lu,lw];unfold pH;rw [Pk J];rfl
   ·have e6:=q6.SQ;subst e6;exact m _ _ ⟨_,_,rfl,s1.trans (I.trans (Y.trans (s4.trans (s5.trans s6))))⟩
  ·have J:¬ w.nm="pick":=Px c;refine mi (m _ _ ⟨none,none,?_,s1.trans I⟩);have e:pH w u=(w.cs.length:Int):=by unfold pH;rw [M1 J]
   rw [e];rfl
 rintro σ G ⟨U,X,rfl,Z⟩;exact bJ (K:=K) (d:=.int (dD w u)) (c8 (aA (k:=3) (Dat.SN _)) (vO (a8 (k:=2) (Z.ld F)))) λv H' s q=>post v H' (Z.trans s) q
theorem Ja:¬ ("num":Str)="arg":=by decide +kernel
theorem IF:¬ ("arg":Str)="num":=by decide +kernel
theorem ES {n:Int} {b:Tr} (h:S2 (toD (.num n)) (toD b)=true):b=.num n:=by
 cases b with
 | num m =>simp only [toD,gQ,dO,fA,fO,e8,gP,gO,Qo,Qw,Pz,Qi] at h;rw [h.2]
 | arg m =>simp only [toD,gQ,dO,fA,fO,e8,gP,gO,Qo,Qw,Pz,Qi] at h;exact absurd h.1 Ja
 | two o x y =>simp only [toD,gQ,dO,fA,fO,e8,gP,gO,Qo,Qw,Pz,Qi] at h;cases h
 | pick x y z =>simp only [toD,gQ,dO,fA,fO,e8,gP,gO,Qo,Qw,Pz,Qi] at h;cases h
theorem ER {n:Int} {b:Tr} (h:S2 (toD (.arg n)) (toD b)=true):b=.arg n:=by
 cases b with
 | num m =>simp only [toD,gQ,dO,fA,fO,e8,gP,gO,Qo,Qw,Pz,Qi] at h;exact absurd h.1 IF
 | arg m =>simp only [toD,gQ,dO,fA,fO,e8,gP,gO,Qo,Qw,Pz,Qi] at h;rw [h.2]
 | two o x y =>simp only [toD,gQ,dO,fA,fO,e8,gP,gO,Qo,Qw,Pz,Qi] at h;cases h
 | pick x y z =>simp only [toD,gQ,dO,fA,fO,e8,gP,gO,Qo,Qw,Pz,Qi] at h;cases h
theorem ET {b:Tr} (h:S2 (toD (.two o x y)) (toD b)=true):∃ a q,b=.two o a q/\S2 (toD x) (toD a)=true/\S2 (toD y) (toD q)=true:=by
 cases b with
 | num m =>simp only [toD,gQ,dO,fA,fO,e8,gP,gO,Qo,Qw,Pz,Qi] at h;cases h
 | arg m =>simp only [toD,gQ,dO,fA,fO,e8,gP,gO,Qo,Qw,Pz,Qi] at h;cases h
 | two s a q =>simp only [toD,gQ,dO,fA,fO,e8,gP,gO,Qo,Qw,Pz,Qi] at h;exact ⟨a,q,by rw [h.1],h.2.1,h.2.2⟩
 | pick x y z =>simp only [toD,gQ,dO,fA,fO,e8,gP,gO,Qo,Qw,Pz,Qi] at h;cases h
theorem Cz {z b:Tr} (h:S2 (toD (.pick x y z)) (toD b)=true):∃ a q s,b=.pick a q s/\S2 (toD x) (toD a)=true/\S2 (toD y) (toD q)=true/\S2 (toD z) (toD s)=true:=by
 cases b with
 | num m =>simp only [toD,gQ,dO,fA,fO,e8,gP,gO,Qo,Qw,Pz,Qi] at h;cases h
 | arg m =>simp only [toD,gQ,dO,fA,fO,e8,gP,gO,Qo,Qw,Pz,Qi] at h;cases h
 | two u a q =>simp only [toD,gQ,dO,fA,fO,e8,gP,gO,Qo,Qw,Pz,Qi] at h;cases h
 | pick a q s =>simp only [toD,gQ,dO,fA,fO,e8,gP,gO,Qo,Qw,Pz,Qi] at h;exact ⟨a,q,s,rfl,h.2.1,h.2.2.1,h.2.2.2⟩
theorem F6 (a:Tr):∀ b:Tr,S2 (toD a) (toD b)=true->a=b:=by
 induction a with
 | num n=>intro b h;exact (ES h).symm
 | arg n=>intro b h;exact (ER h).symm
 | two o x y m q =>intro b h;obtain ⟨s,u,rfl,A,B⟩:=ET h;rw [m s A,q u B]
 | pick x y z m q C =>intro b h;obtain ⟨s,u,F,rfl,A,B,I⟩:=Cz h;rw [m s A,q u B,C F I]
theorem jQ:∀ t:Tr,gT (toD t)=a9 t
 | .num n=>by unfold toD a9;simp [gT,SY]
 | .arg n=>by unfold toD a9;simp [gT,SY]
 | .two o a b=>by unfold toD a9;simp [gT,SY,jQ a,jQ b]
 | .pick a b c=>by unfold toD a9;simp [gT,SY,jQ a,jQ b,jQ c]
theorem i0:∀ t:Tr,UM (toD t)=true
 | .num n=>by unfold toD;simp [UM,Tn]
 | .arg n=>by unfold toD;simp [UM,Tn]
 | .two o a b=>by unfold toD;simp [UM,Tn,i0 a,i0 b]
 | .pick a b c=>by unfold toD;simp [UM,Tn,i0 a,i0 b,i0 c]
theorem xr:∀ ts:List Tr,Tn (ts.map toD)=true
 | []=>by simp [Tn]
 | t::ts=>by simp [Tn,i0 t,xr ts]
theorem sV:∀ ts:List Tr,(∀ x ∈ ts,a9 x<=n)->SY (ts.map toD)<=n
 | [],_=>by simp [SY]
 | t::ts,h=>by have b:=h t (by simp);have m:=sV ts λx a=>h x (by simp [a]);simp only [PD,SY,jQ];lia
theorem wX:∀ {ts:List Tr},(∀ y ∈ ts,UQ y)->UQ x->x ∈ ts->∃ j:Nat,ts[j]?=some x/\∀ (m:Nat) e,m < j->(ts.map toD)[m]?=some e->S2 e (toD x)=false
 | [],_,_,h=>by simp at h
 | y::ts,b,u,h=>by
  by_cases e:S2 (toD y) (toD x)=true
  ·have:=F6 y x e;exact ⟨0,by rw [this];rfl,λm _ q=>absurd q (Nat.not_lt_zero m)⟩
  ·have a:x ∈ ts:=by
    rcases PB.mp h with rfl | h
    ·exact absurd (kZ _ (i0 x)) e
    ·exact h
   obtain ⟨j,A,B⟩:=wX (λz C=>b z (PV _ C)) u a;refine ⟨j+1,by simpa using A,λm d q s=>?_⟩
   cases m with
   | zero =>
    have F:toD y=d:=by simpa using s
    rw [<- F];exact RY.mpr e
   | succ m=>exact B m d (by lia) (by simpa using s)
theorem wF:∀ bs:List Wn,(bs.map λb=>isN (bD b)).any id=(fK bs).isNone
 | []=>rfl
 | none::bs=>rfl
 | some b::bs=>by have a:=wF bs;show (false || (bs.map λb=>isN (bD b)).any id)=((fK bs).map (b::·)).isNone;rw [a,QE];cases fK bs <;> rfl
theorem wG:∀ {bs:List Wn} {cs:List (Int × D)},fK bs=some cs->bs=cs.map some
 | [],cs,h=>by cases h;rfl
 | none::bs,cs,h=>by cases h
 | some b::bs,cs,h=>by
  have h':(fK bs).map (b::·)=some cs:=h
  cases e:fK bs with
  | none=>rw [e] at h';cases h'
  | some r =>rw [e] at h';cases h';rw [wG e];rfl
theorem qE:∀ p:Pa,iO p<=2 ^ (eK p - 1)
 | .hole _=>by simp [iO,eK]
 | .gap _ _=>by simp [iO,eK]
 | .slot _=>by simp [iO,eK]
 | .num _=>by simp [iO,eK]
 | .two o a b=>by
  have h:=qE a;have m:=qE b;have q:=nW a;have s:=nW b;have e:eK (.two o a b) - 1=(max (eK a) (eK b) - 1)+1:=by simp only [eK];lia
  rw [e,Sf];have p1:2 ^ (eK a - 1)<=2 ^ (max (eK a) (eK b) - 1):=QC (by decide) (by lia);have p2:2 ^ (eK b - 1)<=2 ^ (max (eK a) (eK b) - 1):=QC (by decide) (by lia);simp only [iO];lia
noncomputable def B2 (as:List Ar) (d:D):Prop:=∃ (ps:List Pc) (t:Tr) (f:Tr->Wn) (ts:List Tr),as=[.d (toD t),.l (ps.map VF),.l (ts.map toD),.l (ts.map λx=>bD (f x))]/\lH ps/\UQ t/\a9 t<=8/\ts.length<=200/\(∀ x ∈ ts,UQ x/\a9 x<=8) /\
 (∀ w ∈ iT ps t,∀ x ∈ w.ts,x ∈ ts)/\d=bD (mM ps f t)
theorem Ey (h:∀ p ∈ ps,Fj p) {w:Wy} (q:w ∈ iT ps t):w.ts.length<=8/\(w.nm="pick"->w.ts.length=3):=by
 unfold iT at q;split at q
 ·rename_i c;rw [PU.mp q]
  cases t with
  | pick a b c=>exact ⟨by simp [dR],λ_=>rfl⟩
  | _=>cases c
 ·obtain ⟨p,s,m⟩:=Q8.mp q;unfold iN at m
  cases e:cO p.pt t with
  | none=>rw [e] at m;cases m
  | some f =>
   rw [e] at m;cases m;refine ⟨?_,λz=>absurd z (h p s).nm⟩;show f.1.length<=8;rw [lZ _ _ _ e];have:=qE p.pt;have u:=(h p s).dp
   calc iO p.pt<=2 ^ (eK p.pt - 1):=this
    _<=2 ^ 2:=QC (by decide) (by lia)
    _<=8:=by decide
theorem pF (T:Txt P w K mg) (OJ:Ok P w base k T.M9 (lV K Cb)) (Og:Ok P w base k T.Mw (Xs K GO)):Ok P w base (k+1) T.Lx (Xs K B2):=by
 refine T.Lx.f.ok VM (λvs H Q E h=>?_) (λcdv A outer s H vs Q E hr h=>?_)
 ·obtain ⟨as,d,q,⟨ps,t,f,ts,rfl,_⟩,_⟩:=h;exact q.length.symm
 have X:=VM.nd;obtain ⟨as,d,q,⟨ps,t,f,ts,rfl,Wr,Vo,XU,fts,L,hts,rfl⟩,post⟩:=h;obtain ⟨v0,v1,v2,v3,rfl,h0,h1,h2,h3⟩:=ED q;have h0:Dat K H (toD t) v0:=h0;have h1:LD K H (ps.map VF) v1:=h1;have h2:LD K H (ts.map toD) v2:=h2;have h3:LD K H (ts.map λx=>bD (f x)) v3:=h3;refine ⟨_,(aE (bE (aN bV (aY aZ (pv 0) aF) aO (aT _)) (aH (aP (bA (aD (bT (v:=.int 3) rfl T.K2 ⟨_,rfl⟩) (aD (bA aC) aC))))) aQ)
 (aE (bQ (i:=4) X rfl (Or.inl rfl) gR)
 (aE (jK Qv rfl (gJ (pc (D:=T.M9) OJ hr (aD (pv 0) (aD (pv 1) aC)))) (gF rfl (bN (a7 (i:=5) X rfl (Or.inl rfl)) (bN (a7 (i:=6) X rfl (Or.inl rfl)) (bN (a7 (i:=7) X rfl (Or.inl rfl)) eH)))) (aE (jL (i:=8) (own:=["one"]) (fr:=[2,3]) (N':=["one","done","bests"]) (kE (pv 7)) rfl (by show dS ["tree","some","done","bests","best","name","cells","trees","within","length"] (λx=>(aK fS).names.lookup x) _ _ _ _=true;decide +kernel) rfl (λ_ _ _ _ _=>(a7 (i:=0) (by show List.Nodup [("one":Str),("done":Str),("bests":Str)];decide +kernel) rfl (Or.inl rfl))) (λ_ _ _ _ _=>c7) (λ_ _ _ _ _=>(aY (r:=BC K) bX (pv 2) (HJ (r:=pP K) K rfl PJ F.slot_list_index F.type_list_index (Bl hr) (pv 1) (aD (pv 0) aC)))) X rfl rfl rfl)
 (aE (bE (bR (aX (Co rfl) rfl T.O5 Hb (aD (eV (own:=["one"]) (fr:=[]) (N':=["one"]) (gJ (pv 8)) rfl (by show dS ["tree","some","done","bests","best","name","cells","trees","within","length"] (λx=>(aK fS).names.lookup x) _ _ _ _=true;decide +kernel) rfl (λ_ _ _ _ _=>(a7 (i:=0) (by show List.Nodup [("one":Str)];decide +kernel) rfl (Or.inl rfl))) (λ_ _ _ _ _=>c7) (λ_ _ _ _ _=>(eU vB (pv 0) gR (aT _)))) aC)) (λ_=>rfl)) (aH xN) aQ)
 (aE (bQ (i:=9) X rfl (Or.inl rfl) (pc (D:=T.Mw) Og hr (aD (pv 5) (aD (pv 6) (aD (eV (own:=["one"]) (fr:=[]) (N':=["one"]) (gJ (pv 8)) rfl (by show dS ["tree","some","done","bests","best","name","cells","trees","within","length"] (λx=>(aK fS).names.lookup x) _ _ _ _=true;decide +kernel) rfl (λ_ _ _ _ _=>(a7 (i:=0) (by show List.Nodup [("one":Str)];decide +kernel) rfl (Or.inl rfl))) (λ_ _ _ _ _=>c7) (λ_ _ _ _ _=>(aY (r:=sD K) aZ (pv 0) aF))) aC)))))
 (aH (bE (PW.pt (fH (aN vB (pv 4) gR (aT _)) (eR (aN km (pv 9) (aY aZ (pv 4) aF) (aT _))))) (aH (bQ (i:=4) X rfl (Or.inl rfl) (bA (aD (pv 9) (aD (bA (aD (pv 5) (aD (eP dY rfl T.KN fP (aD (eV (own:=["one"]) (fr:=[]) (N':=["one"]) (gJ (pv 8)) rfl (by show dS ["tree","some","done","bests","best","name","cells","trees","within","length"] (λx=>(aK fS).names.lookup x) _ _ _ _=true;decide +kernel) rfl (λ_ _ _ _ _=>(a7 (i:=0) (by show List.Nodup [("one":Str)];decide +kernel) rfl (Or.inl rfl))) (λ_ _ _ _ _=>c7) (λ_ _ _ _ _=>(aY (r:=sD K) aZ (pv 0) aF))) aC)) aC))) aC))))) aQ))))))
 (aH (aP (pv 4)))))),?_⟩
 obtain ⟨kd,r,ek,hpk,Y,Yz⟩:=Ae t Vo;have h0':Dat K H (.tup (.str kd::r)) v0:=by rw [<- ek];exact h0
 refine aR (K:=K) (b:=false) (RT.as (aJ (bI (a6 (k:=0) (aA h0') aG rfl) aL)) (Po Y)) (λc=>nomatch c) (λ_ H1 s1=>?_);refine fR (DZ ?_);refine eB (RC.use (K:=K) (gU (R:=Cb) (iK (aA (k:=0) (s1.dat h0)) (gB (a8 (k:=1) (s1.ld h1)) dU)) ⟨ps,t,rfl,Wr,Vo,XU,rfl⟩) λl ys H2 hl s2 hy hdy=>?_);have s12:=s1.trans s2;have ly:=hdy.length;rw [Pf] at ly;refine ⟨l,rfl,⟨ys,SR.of hy⟩,qA (xs:=ys) (λi σ G=>∃ (I:V) (z5 z6 z7 z8 z9:Option V),σ=[some v0,some v1,some v2,some v3,some I,z5,z6,z7,z8,z9]/\SJ H2 G/\Dat K G (bD (((iT ps t).take i).foldl (iF f) none)) I) ?_ (λi σ G _ ⟨_,_,_,_,_,_,_,p,_⟩=>SR.of (p _ _ hy)) ?_ ?_⟩
 ·exact ⟨.SO,_,_,_,_,_,rfl,SJ.refl _,Dat.X7⟩
 ·rintro i vx σ G hi ⟨I,z5,z6,z7,z8,z9,rfl,sG,hb⟩;have sHG:=s12.trans sG;obtain ⟨dx,ex,u⟩:=(sG.SV hdy).Wd hi;rw [Pw] at ex
  cases hw:(iT ps t)[i]? with
  | none=>rw [hw] at ex;cases ex
  | some w =>
   rw [hw] at ex;cases ex;have hwm:=PM hw;obtain ⟨few,few3⟩:=Ey Wr.ok hwm;have et:(iT ps t).take (i+1)=(iT ps t).take i++[w]:=by rw [Qq,hw];rfl
   rw [et,List.foldl_append,Rh,List.foldl_nil];generalize ((iT ps t).take i).foldl (iF f) none=M at hb ⊢;obtain ⟨pa,us,rfl,hpa,hus⟩:=(show Dat K G (.tup [.str w.nm,.tup w.cs,.tup (w.ts.map toD)]) vx from u).S9;obtain ⟨x5,x6,x7,rfl,k5,k6,k7⟩:=sT hus;refine ⟨pa,_,rfl,hpa,rfl,_,_,rfl,_,_,rfl,_,_,rfl,rfl,?_⟩;dsimp only;refine gY (K:=K) (rn (aA (k:=7) k7) (by rw [Pf];lia) (w.ts.map λx=>bD (f x)) (by rw [Pf,Pf]) rfl (λG1 j c v d s1 a q O=>?_)) λlw zs G2 hlw s2 hzs dzs=>?_
   ·rw [Pw] at a q
    cases u:w.ts[j]? with
    | none=>rw [u] at a;cases a
    | some x =>rw [u] at a q;cases a;cases q;have hxt:=hts w hwm x (PM u);obtain ⟨m,hm1,hm2⟩:=wX (λy hy=>(L y hy).1) (L x hxt).1 hxt;have sH1:=sHG.trans s1;refine iD (k:=m) (a8 (k:=2) (sH1.ld h3)) (DR (k:=1) (sH1.ld h2) (aA (k:=0) O) (xr ts) (i0 x) (Qf (sV (n:=8) ts λy hy=>(L y hy).2) (by decide)) (by rw [Pf];lia) ⟨toD x,by rw [Pw,hm1];rfl,kZ _ (i0 x)⟩ hm2) (by rw [Pw,hm1];rfl)
   have S:LD K G2 (w.ts.map λx=>bD (f x)) (.ref lw):=LD.of hzs dzs;have eM:(w.ts.map λx=>bD (f x))=(w.ts.map f).map bD:=by rw [Rc];rfl
   have lM:(w.ts.map f).length<=8:=by rw [Pf];exact few
   rw [eM] at S;generalize hfb:w.ts.map f=U at S lM;have eS:∀ b,iF f b w=x8 b w (fK U):=λb=>by unfold iF;rw [hfb]
   rw [eS];refine aR (K:=K) (b:=(fK U).isNone) (RT.as (bO (FH (bs:=U.map λb=>isN (bD b)) (jM (a8 (k:=8) S) (by rw [Pf];lia) _ (by simp) rfl (λG1 j c v d s1 a q O=>?_)))) (wF U)) (λcN G3 s3=>FU ?_) (λcS G3 s3=>?_)
   ·rw [Pw] at a q;rw [Pw] at q
    cases u:U[j]? with
    | none=>rw [u] at a;cases a
    | some b =>rw [u] at a q;cases a;cases q;exact oC (aA (k:=0) O)
   ·have eN:fK U=none:=by cases e:fK U with | none=>rfl | some _=>rw [e] at cN;cases cN
    refine ⟨I,_,_,_,_,_,rfl,sG.trans (s2.trans s3),?_⟩;rw [eN];exact (s2.trans s3).dat hb
   ·cases eb:fK U with
    | none=>rw [eb] at cS;cases cS
    | some bs =>
     have B:=wG eb;have lbs:bs.length<=8:=by rw [B,Pf] at lM;exact lM
     have lbw:bs.length=w.ts.length:=by have:=P1 List.length hfb;rw [B,Pf,Pf] at this;exact this.symm
     have ZV:=s3.ld S;have Z:=s2.trans s3;refine eJ (K:=K) (d:=.int (dD w (bs.map (·.1)))) (eF (R:=GO) (iK (aA (k:=5) (Z.dat k5)) (iK (aA (k:=6) (Z.dat k6)) (gB (ds:=(bs.map (·.1)).map D.int) (jW (jM (a8 (k:=8) ZV) (by rw [Pf];lia) _ (by rw [B];simp) rfl (λG1 j c v d s1 a q O=>?_))) dU))) ⟨w,bs.map (·.1),rfl,λz=>by rw [Pf,lbw];exact few3 z,rfl⟩) λvl G4 s4 q4=>?_
     ·rw [B] at a;simp only [Pw] at a q
      cases u:bs[j]? with
      | none=>rw [u] at a;cases a
      | some b =>rw [u] at a q;cases a;cases q;exact a6 (k:=0) (aA (k:=0) O) aG rfl
     have s24:=Z.trans s4;have el:=q4.SQ;subst el;have hb4:=s24.dat hb
     have new:∀ {J:Hp},SJ G4 J->RE K (zB (bW (fT 9) (bW (zB (bW (fT 5) (bW (XA (λxs H Q=>∃ p ys,xs=[.ref p]/\((SR K H p ys/\∀ l,H l=none->Q (.ref l) (upd H l (.tup ys)))\/(Ti K H p ys/\Q (.ref p) H))) (bW (jP (tu K (fT 8)) (Z9 ["one"] []) (d6 0) jc (VG (sD K) (fT 0) (tC (.int 1)))) dW)) dW))) dW))) [some v0,some v1,some v2,some v3,some I,some x5,some x6,some x7,some (.ref lw),some (.int (dD w (bs.map (·.1))))] J (.tup [.int (dD w (bs.map (·.1))),ZU w.nm bs]):=λ{J} C=>by
      refine bF (aB (aA (k:=9) (Dat.SN _)) (aB (bF (aB (aA (k:=5) ((s24.trans C).dat k5)) (aB (tO (es:=bs.map (·.2)) (jM (a8 (k:=8) ((s4.trans C).ld ZV)) (by rw [Pf];lia) _ (by rw [B];simp) rfl (λG1 j c v d s1 a q O=>?_))) aM))) aM));rw [B] at a;simp only [Pw] at a q
      cases u:bs[j]? with
      | none=>rw [u] at a;cases a
      | some b =>rw [u] at a q;cases a;cases q;exact a6 (k:=1) (aA (k:=0) O) aG rfl
     have done:∀ {J:Hp} {d:D},SJ G4 J->d=bD (jB M (dD w (bs.map (·.1))) (ZU w.nm bs))->∀ v,Dat K J d v->∃ (I:V) (z5 z6 z7 z8 z9:Option V),[some v0,some v1,some v2,some v3,some v,some x5,some x6,some x7,some (.ref lw),some (.int (dD w (bs.map (·.1))))]=[some v0,some v1,some v2,some v3,some I,z5,z6,z7,z8,z9]/\SJ H2 J/\Dat K J (bD (jB M (dD w (bs.map (·.1))) (ZU w.nm bs))) I:=λ{J d} C e v O =>
      ⟨v,_,_,_,_,_,rfl,sG.trans (s24.trans C),e ▸ O⟩
     cases M with
     | none =>refine jk (b:=true) (RT.as (dP (b:=true) (c:=true) (aJ (oC (K:=K) (aA (k:=4) hb4))) λc=>nomatch c) rfl) (λ_ J C=>?_) (λc=>nomatch c);exact vT (K:=K) (new C) λv G6 s6 q6=>done (C.trans s6) rfl v q6
     | some b0 =>
      have N:Dat K G4 (.tup [.int b0.1,b0.2]) I:=hb4;refine jk (b:=decide (dD w (bs.map (·.1)) < b0.1)) (RT.as (dP (b:=false) (aJ (oC (K:=K) (aA (k:=4) N))) λ_=>aJ (cQ (p:=λi j=>decide (i < j)) (aA (k:=9) (Dat.SN _)) (a6 (k:=0) (aA (k:=4) N) aG rfl))) (QE _)) (λc J C=>?_) (λc J C=>mi ?_)
      ·refine vT (K:=K) (new C) λv G6 s6 q6=>done (C.trans s6) ?_ v q6;show _=bD (if dD w (bs.map (·.1)) < b0.1 then _ else _);rw [Pk (Pq c)];rfl
      ·refine done (d:=bD (some b0)) C ?_ I (C.dat N);show _=bD (if dD w (bs.map (·.1)) < b0.1 then _ else _);rw [M1 (Px c)]
 ·rintro σ G ⟨I,z5,z6,z7,z8,z9,rfl,sG,hb⟩;rw [<- ly,QK] at hb;exact ⟨_,rfl,post I G (s12.trans sG) hb⟩
theorem iM:∀ (t:Tr) (j:Nat) (x:Tr),(bC t)[j]?=some x->∃ r,(bC t).drop j=bC x++r
 | .num n,j,x,h=>by
  cases j with
  | zero=>cases h;exact ⟨[],rfl⟩
  | succ j=>simp [bC] at h
 | .arg n,j,x,h=>by
  cases j with
  | zero=>cases h;exact ⟨[],rfl⟩
  | succ j=>simp [bC] at h
 | .two o a b,j,x,h=>by
  cases j with
  | zero=>cases h;exact ⟨[],by rw [List.drop_zero,PR]⟩
  | succ j =>
   have h':(bC a++bC b)[j]?=some x:=by simpa [bC] using h
   show ∃ r,(bC a++bC b).drop j=bC x++r;by_cases m:j < (bC a).length
   ·rw [QZ m] at h';obtain ⟨r,e⟩:=iM a j x h';exact ⟨r++bC b,by rw [Rz (QO m),e,Qd]⟩
   ·rw [Qs (by lia)] at h';obtain ⟨r,e⟩:=iM b _ x h';refine ⟨r,?_⟩;rw [R6,R1 (by lia),Ri];exact e
 | .pick a b c,j,x,h=>by
  cases j with
  | zero=>cases h;exact ⟨[],by rw [List.drop_zero,PR]⟩
  | succ j =>
   have h':(bC a++(bC b++bC c))[j]?=some x:=by simpa [bC] using h
   show ∃ r,(bC a++bC b++bC c).drop j=bC x++r;rw [Qd];by_cases m:j < (bC a).length
   ·rw [QZ m] at h';obtain ⟨r,e⟩:=iM a j x h';exact ⟨r++(bC b++bC c),by rw [Rz (QO m),e,Qd]⟩
   ·rw [Qs (by lia)] at h';rw [R6,R1 (l:=bC a) (by lia),Ri];generalize j - (bC a).length=i at h' ⊢;by_cases hi:i < (bC b).length
    ·rw [QZ hi] at h';obtain ⟨r,e⟩:=iM b i x h';exact ⟨r++bC c,by rw [Rz (QO hi),e,Qd]⟩
    ·rw [Qs (by lia)] at h';obtain ⟨r,e⟩:=iM c _ x h';refine ⟨r,?_⟩;rw [R6,R1 (by lia),Ri];exact e
theorem sI (hi:i < bB t) (h:(bC t)[bB t - 1 - i]?=some x) (a:y ∈ (dR x).flatMap bC):y ∈ (bC t).reverse.take i:=by
 obtain ⟨r,e⟩:=iM t _ x h
 have b:(bC t).drop (bB t - i)=(dR x).flatMap bC++r:=by
  have:bB t - i=bB t - 1 - i+1:=by lia
  rw [this,<- List.drop_drop,e,hU x];rfl
 rw [List.take_reverse,List.mem_reverse,cE,b];exact Rm _ a
theorem FQ {α:Type} {l:List α} (h:i < l.length):l.reverse[i]?=l[l.length - 1 - i]?:=List.getElem?_reverse h
noncomputable def GL (as:List Ar) (d:D):Prop:=∃ (ps:List Pc) (t:Tr) (b:Int × D),as=[.d (toD t),.l (ps.map VF)]/\lH ps/\UQ t/\a9 t<=8/\bB t<=200/\bS ps t=some b/\d=.tup [.int b.1,b.2]
theorem Ia {q:TA} {g:TG} {s:TS} (h:q σ H λvs u=>∃ a xs,vs=[.ref a]/\SR K u a xs/\∃ W:Nat->Nat->L2.St->Hp->Prop,(∃ m,W 0 m σ u)/\∀ i m σ H,W i m σ H ->
   ((Itv K a xs).stop i H/\En.nx σ H)\/((Itv K a xs).go i H/\∃ N:L2.St->Hp->Prop,(∀ σ' b,N σ' b->∃ z,z < m/\W (i+1) z σ' b)/\∀ x b,(Itv K a xs).Yg i H x b->g x σ b λσ2 A=>s { En with nx:=N,ct:=N,bk:=En.nx } σ2 A)):Jv (IP K q) g s En σ H:=h
theorem C6 (h:lH ps):∀ p ∈ ps,fY p.pt=true:=λp a=>(h.ok p a).nh
theorem oj (T:Txt P w K mg) (NI:Ok P w base k T.Mm (kL K (nR 8))) (NH:Ok P w base k T.Lx (Xs K B2)):Ok P w base (k+1) T.Lb (Xs K GL):=by
 refine T.Lb.f.ok Vm (λvs H Q E h=>?_) (λcdv A outer s H vs Q E hr h=>?_)
 ·obtain ⟨as,d,hd,⟨ps,t,b,rfl,_⟩,_⟩:=h;exact hd.length.symm
 have nd:=Vm.nd;obtain ⟨as,d,hd,⟨ps,t,b,rfl,Wr,Vo,XU,szt,M,rfl⟩,post⟩:=h;obtain ⟨v0,v1,rfl,h0,h1⟩:=yp hd;have h0:Dat K H (toD t) v0:=h0;have h1:LD K H (ps.map VF) v1:=h1;refine ⟨_,(aE (bQ (i:=2) nd rfl (Or.inl rfl) (bY aC))
 (aE (bQ (i:=3) nd rfl (Or.inl rfl) (bY aC))
 (aE (jK Qv rfl (HU rfl T.Ng (aD (pc (D:=T.Mm) NI hr (aD (pv 0) aC)) aC)) (a7 (i:=4) nd rfl (Or.inl rfl)) (aE (bP (fF PJ P7 P9 cC (pv 3) (aD (pc (D:=T.Lx) NH hr (aD (pv 4) (aD (pv 1) (aD (pv 2) (aD (pv 3) aC))))) aC)))
 (aH (bP (fF PJ P7 P9 cC (pv 2) (aD (pv 4) aC))))))
 (aE (bE (aN vB (aY bX (pv 3) (Av wt aF)) gR (aT _)) (aH dF) aQ)
 (aH (aP (aY bX (pv 3) (Av wt aF)))))))),?_⟩
 refine fR ⟨dB (by decide),λld u=>?_⟩;refine fR ⟨dB (by decide),λm z=>?_⟩;have B:ld≠m:=aU aI z;have s1:SJ H (upd (upd H ld (.lst [])) m (.lst [])):=(aV u _).trans (aV z _);have N:H m=none:=(aV u _).free z;have C:upd (upd H ld (.lst [])) m (.lst []) ld=some (.lst []):=by rw [aS B];exact aI
 have F:upd (upd H ld (.lst [])) m (.lst []) m=some (.lst []):=aI;generalize upd (upd H ld (.lst [])) m (.lst [])=G1 at s1 C F ⊢;refine eB (Ia (K:=K) (gS (RC.use (K:=K) (nG (R:=nR 8) (aB (aA (k:=0) (s1.dat h0)) aM) ⟨t,rfl,Vo,XU,szt,rfl⟩) λlw xs G2 O s2 S U=>?_)));have nwd:ld≠lw:=aU C O;have nwb:m≠lw:=aU F O;have lx:=U.length;rw [Pf,cE] at lx;refine ⟨lw,xs,rfl,SR.of S,EW (xs:=xs) (λi σ G=>∃ (z4:Option V) (us J:List V),σ=[some v0,some v1,some (.ref ld),some (.ref m),z4]/\SJ H G/\G lw=some (.lst xs)/\SI K G ((bC t).map toD) xs/\G ld=some (.lst us)/\SI K G (((bC t).reverse.take i).map toD) us/\G m=some (.lst J)/\SI K G (((bC t).reverse.take i).map λx=>bD (bS ps x)) J) ?_ (λi σ G _ ⟨_,_,_,_,_,p,_⟩=>SR.of p) ?_ ?_⟩
 ·exact ⟨none,[],[],rfl,s1.trans s2,S,U,s2 _ _ C,SI.nil,s2 _ _ F,SI.nil⟩
 ·rintro i vx σ G hi hx ⟨z4,us,J,rfl,sG,YG,I,Zh,Zb,q,L⟩;obtain ⟨dx,ex,X⟩:=I.Wd hx;rw [Pw] at ex
  cases hp:(bC t)[xs.length - 1 - i]? with
  | none=>rw [hp] at ex;cases ex
  | some x =>
   rw [hp] at ex;cases ex;have Y:(bC t)[bB t - 1 - i]?=some x:=by rw [lx];exact hp
   have Z:=PM hp;have okx:=iA t x Vo Z;have dpx:=(gD t x Z).2;have hi':i < (bC t).reverse.length:=by rw [Ql,cE];lia
   have ei:(bC t).reverse[i]?=some x:=by rw [FQ (by rw [cE];lia),cE];exact Y
   have et:(bC t).reverse.take (i+1)=(bC t).reverse.take i++[x]:=by rw [Qq,ei];rfl
   have lus:us.length<=200:=by rw [<- Zb.length,Pf,Qh];lia
   have lws:J.length<=200:=by rw [<- L.length,Pf,Qh];lia
   refine kJ ?_;dsimp only;refine iZ (K:=K) (d:=bD (bS ps x)) (eF (R:=B2) (iK (aA (k:=4) X) (gB (a8 (k:=1) (sG.ld h1)) (gB (a8 (k:=2) (LD.of Zh Zb)) (gB (a8 (k:=3) (LD.of q L)) dU)))) ⟨ps,x,bS ps,(bC t).reverse.take i,rfl,Wr,okx,by lia,by rw [Qh];rw [Ql,cE];lia,λy hy=>?_,λw hw y hy=>sI (by lia) Y (pU (C6 Wr) hw y hy),by rw [<- m7 (C6 Wr)]⟩) q (by lia) λy G3 b3 hb3 q3=>?_
   ·have hym:y ∈ bC t:=List.mem_reverse.mp (List.mem_of_mem_take hy);have:=(gD t y hym).2;exact ⟨iA t y Vo hym,by lia⟩
   have g3:gA K G G3:=b3.grow q hb3;have hd3:=b3 _ _ B Zh;have hw3:=b3 _ _ (PN nwb) YG;refine vR (K:=K) (d:=toD x) (aA (k:=4) (Dat.mono g3 _ X)) hd3 (by lia) λy4 G4 b4 Zy q4=>?_;have g4:gA K G3 G4:=b4.grow hd3 Zy;refine ⟨_,us++[y4],J++[y],rfl,λa o ha=>b4 a o (aU ha u) (b3 a o (aU ha N) (sG _ _ ha)),b4 _ _ (PN nwd) hw3,SI.mono g4 _ (SI.mono g3 _ I),Zy,?_,b4 _ _ (PN B) hb3,?_⟩
   ·rw [et,P0];exact SI.append (SI.mono g4 _ (SI.mono g3 _ Zb)) (SI.cons q4 SI.nil)
   ·rw [et,P0];exact SI.append (SI.mono g4 _ (SI.mono g3 _ L)) (SI.cons (Dat.mono g4 _ q3) SI.nil)
 ·rintro σ G ⟨z4,us,J,rfl,sG,YG,I,Zh,Zb,q,L⟩
  have ea:((bC t).reverse.take xs.length).map (λx=>bD (bS ps x))=(((dR t).flatMap bC).reverse.map λx=>bD (bS ps x))++[bD (some b)]:=by rw [<- lx,<- cE,<- Ql,QK,hU,RD,P0,PD,SE,M]
  rw [ea] at L;have hL:LD K G ((((dR t).flatMap bC).reverse.map λx=>bD (bS ps x))++[bD (some b)]) (.ref m):=LD.of q L;refine aR (K:=K) (b:=false) (aJ (oC (mf (a8 (k:=3) hL) (AH aG)))) (λc=>nomatch c) (λ_ G3 s3=>?_);exact bJ (K:=K) (d:=bD (some b)) (mf (a8 (k:=3) (s3.ld hL)) (AH aG)) λv G4 s4 q4=>post v G4 (sG.trans (s3.trans s4)) q4
structure pL (ps:List Pc):Prop where
 lo:1<=ps.length
 hi:ps.length<=16
 pc:∀ p ∈ ps,rb (VF p)=some true/\p.nm.length<=sizeLine
 nd:(ps.map (·.nm)).Nodup
noncomputable def GR (as:List Ar) (d:D):Prop:=∃ ps,as=[.l (ps.map VF)]/\pL ps/\d=.bl true
theorem Bs (T:Txt P w K mg) (I:Ok P w base k T.MK (Tj K ym)):Ok P w base (k+1) T.Nk (Xs K GR):=by
 refine T.Nk.f.ok Yl (λvs H Q E h=>?_) (λJ A outer s H vs Q E L h=>?_)
 ·obtain ⟨as,d,a,⟨ps,rfl,_⟩,_⟩:=h;exact a.length.symm
 have Z:=Yl.nd;obtain ⟨as,d,a,⟨ps,rfl,B,rfl⟩,post⟩:=h;obtain ⟨M,rfl,m⟩:=AS a;have m:LD K H (ps.map VF) M:=m;have N:=B.lo;have O:=B.hi;refine ⟨_,(aE (bE (PW.pt (fH (cW (bR (aX (gC Af) rfl T.J6 cY (dE (pv 0) (dE (iB (v:=.ty "list") rfl T.NL pK rfl) aC))) (λ_=>rfl))) (eR (cW (nE jV jV aF (aX aW rfl T.J0 bU (aD (pv 0) aC)) (bT (v:=.int 16) rfl T.KL ⟨_,rfl⟩)))))) (aH (aP d8)) aQ)
 (aE (bE (cW (bR (aX (jC rfl) rfl T.Ny mN (aD (eV (own:=["piece"]) (fr:=[]) (N':=["piece"]) (gJ (pv 0)) rfl (by show dS ["thing"] (λx=>(aK nL).names.lookup x) _ _ _ _=true;decide +kernel) rfl (λ_ _ _ _ _=>(a7 (i:=0) (by show List.Nodup [("piece":Str)];decide +kernel) rfl (Or.inl rfl))) (λ_ _ _ _ _=>c7) (λ_ _ _ _ _=>(pc (D:=T.MK) I L (aD (pv 0) aC)))) aC)) (λ_=>rfl))) (aH (aP d8)) aQ)
 (aH (aP (eU bV (aX wL rfl T.J0 bU (aD (eP (A0 rfl) rfl T.O7 Hd (aD (eV (own:=["piece"]) (fr:=[]) (N':=["piece"]) (gJ (pv 0)) rfl (by show dS ["thing"] (λx=>(aK nL).names.lookup x) _ _ _ _=true;decide +kernel) rfl (λ_ _ _ _ _=>(a7 (i:=0) (by show List.Nodup [("piece":Str)];decide +kernel) rfl (Or.inl rfl))) (λ_ _ _ _ _=>c7) (λ_ _ _ _ _=>(aY (r:=sD K) aZ (pv 0) aF))) aC)) aC)) (aX aW rfl T.J0 bU (aD (pv 0) aC)) (aT _)))))),?_⟩
 refine aR (K:=K) (b:=false) ?_ (λc=>nomatch c) (λ_ H1 s1=>?_)
 ·refine RT.as (dP (b:=false) (RT.as (bZ (bO (dC (aA m.lst)))) rfl) λ_=>bZ (aJ (lK (p:=λi j=>decide (i<=j)) (r:=λi j=>decide (i<=j)) aG (eA (a8 m)) λ_=>aG))) ?_;rw [Pf,QE,Py (show (1:Int)<=(ps.length:Int) by lia),Py (show (ps.length:Int)<=16 by lia)];rfl
 have m:=s1.ld m;refine aR (K:=K) (b:=false) ?_ (λc=>nomatch c) (λ_ H2 F=>?_)
 ·refine RT.as (bZ (bO (me (bs:=ps.map λ_=>true) (jM (a8 m) (by rw [Pf];lia) _ (by simp) rfl (λS j c v d s1 u a C=>?_))))) ?_
  ·simp only [Pw] at u a
   cases z:ps[j]? with
   | none=>rw [z] at u;cases u
   | some p =>rw [z] at u a;cases u;cases a;obtain ⟨U,X⟩:=B.pc p (PM z);exact bM (R:=ym) (aB (aA (k:=0) C) aM) ⟨VF p,true,rfl,X,U,rfl⟩
  ·rw [List.all_map];simp
 have m:=F.ld m;refine bJ (K:=K) (d:=.bl true) (RE.as (mV (BG (zs:=ps.map (·.nm)) (jM (a8 m) (by rw [Pf];lia) _ (by simp) rfl (λS j c v d s1 u a C=>?_)) (by rw [Pf];lia)) (eA (a8 m))) ?_) λv Y s q=>post v Y (s1.trans (F.trans s)) q
 ·simp only [Pw] at u a
  cases z:ps[j]? with
  | none=>rw [z] at u;cases u
  | some p =>rw [z] at u a;cases u;cases a;exact a6 (k:=0) (aA (k:=0) C) aG rfl
 ·rw [(EL _).mpr B.nd,Pf,Pf];simp
noncomputable def yl (as:List Ar) (d:D):Prop:=∃ ps,as=[.l (ps.map VF)]/\pL ps/\d=.SO
theorem xF (T:Txt P w K mg) (q:Ok P w base k T.Nk (Xs K GR)):Ok P w base (k+1) T.ML (Xs K yl):=by
 refine T.ML.f.ok Xl (λvs H Q E h=>?_) (λu A outer s H vs Q E z h=>?_)
 ·obtain ⟨as,d,a,⟨ps,rfl,_⟩,_⟩:=h;exact a.length.symm
 have I:=Xl.nd;obtain ⟨as,d,a,⟨ps,rfl,B,rfl⟩,post⟩:=h;obtain ⟨C,rfl,m⟩:=AS a;have m:LD K H (ps.map VF) C:=m;refine ⟨_,(aH (bE (cW (bR (pc (D:=T.Nk) q z (aD (pv 0) aC)) (λ_=>rfl))) (aH dF) aQ)),?_⟩;exact jk (b:=false) (bZ (bO (eF (K:=K) (R:=GR) (gB (a8 m) dU) ⟨ps,rfl,B,rfl⟩))) (λc=>nomatch c) (λ_ F s1=>post _ F s1 Dat.X7)
structure BY (ps:List Pc) (t:Tr):Prop where
 os:lH ps
 gs:pL ps
 ot:UQ t
 dp:a9 t<=8
 sz:bB t<=40
noncomputable def tm:Pa->Nat
 | .gap _ _=>1
 | .two _ a b=>tm a+tm b
 | _=>0
noncomputable def oJ:Pa->Nat
 | .slot _=>1
 | .two _ a b=>oJ a+oJ b
 | _=>0
theorem qw:∀ (p:Pa) (t:Tr) (f:Vg),cO p t=some f->f.2.1.length=tm p/\f.2.2.length=oJ p
 | .hole i,t,f,h=>by cases h;exact ⟨rfl,rfl⟩
 | .gap i m,t,f,h=>by
  cases t with
  | num n =>
   have h':(if n<=m then some ([],[n],[]) else none:Option Vg)=some f:=h;by_cases z:n<=m
   ·rw [Pk z] at h';cases h';exact ⟨rfl,rfl⟩
   ·rw [M1 z] at h';cases h'
  | _=>cases h
 | .slot i,t,f,h=>by
  cases t with
  | arg n=>cases h;exact ⟨rfl,rfl⟩
  | _=>cases h
 | .num m,t,f,h=>by
  cases t with
  | num n =>
   have h':(if n=m then some ([],[],[]) else none:Option Vg)=some f:=h;by_cases z:n=m
   ·rw [Pk z] at h';cases h';exact ⟨rfl,rfl⟩
   ·rw [M1 z] at h';cases h'
  | _=>cases h
 | .two o a b,t,f,h=>by
  cases t with
  | two J u v =>
   obtain ⟨_,q,s,C,F,I⟩:=fC h;subst I;have A:=qw a u q C;have B:=qw b v s F;refine ⟨?_,?_⟩
   ·show (q.2.1++s.2.1).length=tm a+tm b;rw [tB,A.1,B.1]
   ·show (q.2.2++s.2.2).length=oJ a+oJ b;rw [tB,A.2,B.2]
  | _=>cases h
inductive Cl where
 | n (i:Int)
 | arg (k:Nat)
 | low (k:Nat)
 | high (k:Nat)
noncomputable def clD:Cl->D
 | .n i=>.int i
 | .arg k=>.tup [.str "arg",.int k]
 | .low k=>.tup [.str "low",.int k]
 | .high k=>.tup [.str "high",.int k]
noncomputable def Hg (g s:Nat):Cl->Bool
 | .n _=>true
 | .arg k=>decide (k < s)
 | .low k=>decide (k < g)
 | .high k=>decide (k < g)
noncomputable def kM (a b:List Int):Cl->Int
 | .n i=>i
 | .arg k=>b.getD k 0
 | .low k=>a.getD k 0 % 100
 | .high k=>a.getD k 0 / 100
structure wA (p:Pc) (cl:List Cl):Prop where
 eq:p.cs=cl.map clD
 ok:∀ c ∈ cl,Hg (tm p.pt) (oJ p.pt) c=true
inductive YA (R:Tr->D->List D->Prop):List Tr->List D->List (List D)->Prop
 | nil:YA R [] [] []
 | cons {t c es ts cs S0}:R t c es->YA R ts cs S0->YA R (t::ts) (c::cs) (es::S0)
variable {ts:List Tr}
theorem YA.len {R:Tr->D->List D->Prop} {cs:List D} {S0:List (List D)} (h:YA R ts cs S0):ts.length=cs.length/\S0.length=ts.length:=by
 induction h with
 | nil=>exact ⟨rfl,rfl⟩
 | cons _ _ a=>exact ⟨by simp [a.1],by simp [a.2]⟩
noncomputable def ml (a b:Int) (n:Nat):List D:=(fN a b n).map D.int
theorem ni (a b:Int) (n:Nat):((ml a b n).length:Int)=fU n:=by unfold ml;rw [Pf,i7]
noncomputable def f6 (x y z:List D):List D:=x++ml 10 11 (y++ml 8 9 z.length).length++(y++ml 8 9 z.length)++z
noncomputable def fQ (a:List (List D)) (f:Vg) (b:List Cl):List D:=a.flatten++b.map λc=>D.int (kM f.2.1 f.2.2 c)
noncomputable def rZ (ps:List Pc):Nat->Tr->D->List D->Prop
 | 0,_,_,_=>False
 | n+1,t,c,es=>(∃ a b d m q s u z A,t=.pick a b d/\c=.tup [.str "pick",.tup [m,q,s]]/\rZ ps n a m u/\rZ ps n b q z/\rZ ps n d s A/\es=f6 u z A) \/
  (∃ p f B cs h,xj t=false/\p ∈ ps/\cO p.pt t=some f/\wA p B/\c=.tup [.str p.nm,.tup cs]/\YA (rZ ps n) f.1 cs h/\es=fQ h f B)
theorem xc:∀ (a:List Wy) (b x:Wn),a.foldl (iF f) b=x->x=b\/∃ w ∈ a,∃ bs,fK (w.ts.map f)=some bs/\x=some (dD w (bs.map (·.1)),ZU w.nm bs)
 | [],b,x,h=>.inl h.symm
 | w::a,b,x,h=>by
  rw [Rh] at h;rcases xc a _ x h with e | ⟨q,s,r⟩
  ·unfold iF at e
   cases m:fK (w.ts.map f) with
   | none=>rw [m] at e;exact .inl e
   | some bs =>
    rw [m] at e;have e:x=jB b (dD w (bs.map (·.1))) (ZU w.nm bs):=e
    have two:jB b (dD w (bs.map (·.1))) (ZU w.nm bs)=b\/jB b (dD w (bs.map (·.1))) (ZU w.nm bs)=some (dD w (bs.map (·.1)),ZU w.nm bs):=by
     unfold jB
     cases b with
     | none=>exact .inr rfl
     | some y =>
      dsimp only;split
      ·exact .inr rfl
      ·exact .inl rfl
    rcases two with z | z
    ·exact .inl (e.trans z)
    ·exact .inr ⟨w,P4,bs,m,e.trans z⟩
  ·exact .inr ⟨q,PV _ s,r⟩
theorem pZ:∀ {ts:List Tr} {bs:List (Int × D)},fK (ts.map f)=some bs->ts.map f=bs.map some
 | [],bs,h=>by cases h;rfl
 | t::ts,bs,h=>by
  cases e:f t with
  | none=>rw [PD,e] at h;cases h
  | some b =>
   rw [PD,e] at h;have h':(fK (ts.map f)).map (b::·)=some bs:=h
   cases a:fK (ts.map f) with
   | none=>rw [a] at h';cases h'
   | some r =>rw [a] at h';cases h';rw [PD,PD,e,pZ a]
theorem Al (m:∀ x b,a9 x<=n->bS ps x=some b->∃ es,rZ ps n x b.2 es/\(es.length:Int)=b.1):∀ {ts:List Tr} {bs:List (Int × D)},(∀ x ∈ ts,a9 x<=n)->ts.map (bS ps)=bs.map some ->
  ∃ a,YA (rZ ps n) ts (bs.map (·.2)) a/\(a.flatten.length:Int)=(bs.map (·.1)).sum
 | [],[],_,_=>⟨[],.nil,rfl⟩
 | [],b::bs,_,h=>by cases h
 | t::ts,[],_,h=>by cases h
 | t::ts,b::bs,q,h=>by rw [PD,PD] at h;injection h with s u;obtain ⟨es,z,C⟩:=m t b (q t P4) s;obtain ⟨a,A,F⟩:=Al m (λx B=>q x (PV _ B)) u;refine ⟨es::a,.cons z A,?_⟩;rw [Qy,tB,PD,List.sum_cons];lia
theorem kX (A:∀ p ∈ ps,fY p.pt=true/\p.nm≠"pick"/\∃ B,wA p B):∀ (n:Nat) (t:Tr) (b:Int × D),a9 t<=n->bS ps t=some b->∃ es,rZ ps n t b.2 es/\(es.length:Int)=b.1
 | 0,t,b,h,_=>by
  have:1<=a9 t:=by cases t <;> simp [a9]
  lia
 | n+1,t,b,h,R=>by
  have S:∀ p ∈ ps,fY p.pt=true:=λp q=>(A p q).1;rw [m7 S] at R;rcases xc _ _ _ R with e | ⟨w,F,bs,Y,e⟩
  ·cases e
  injection e with e;subst e
  have dB:∀ x ∈ w.ts,a9 x<=n:=λx Z=>by have:=(iR (pU S F x Z)).2;lia
  have a:=pZ Y;obtain ⟨u,r1,r2⟩:=Al (kX A n) dB a;unfold iT at F;split at F
  ·rename_i c;have ew:=PU.mp F;subst ew
   cases t with
   | pick x y z =>
    have l3:bs.length=3:=by have:=P1 List.length a;simpa [dR] using this.symm
    match bs,l3,a with
    | [C,m,s],_,a =>
     have a:[bS ps x,bS ps y,bS ps z]=[some C,some m,some s]:=a;injection a with m1 a;injection a with m2 a;injection a with m3 _;obtain ⟨T,i1,j1⟩:=kX A n x C (dB x (by simp [dR])) m1;obtain ⟨M,i2,j2⟩:=kX A n y m (dB y (by simp [dR])) m2;obtain ⟨I,i3,j3⟩:=kX A n z s (dB z (by simp [dR])) m3;refine ⟨f6 T M I,.inl ⟨x,y,z,C.2,m.2,s.2,T,M,I,rfl,rfl,i1,i2,i3,rfl⟩,?_⟩;show _=dD ⟨"pick",[],[x,y,z]⟩ [C.1,m.1,s.1]
     have el:dD ⟨"pick",[],[x,y,z]⟩ [C.1,m.1,s.1]=ra m.1 s.1+(C.1+m.1+s.1):=by unfold dD pH;rw [Pk rfl];simp;lia
     rw [el];unfold f6 ra;have k1:=ni 8 9 I.length;have U:=ni 10 11 (M++ml 8 9 I.length).length;rw [tB] at U;simp only [tB];rw [j3] at k1;have k3:((M.length+(ml 8 9 I.length).length:Nat):Int)=m.1+fU s.1:=by lia
     rw [k3] at U;lia
   | _=>cases c
  ·rename_i c;obtain ⟨p,X,J⟩:=Q8.mp F;unfold iN at J
   cases N:cO p.pt t with
   | none=>rw [N] at J;cases J
   | some f =>
    rw [N] at J;cases J;obtain ⟨_,O,B,L⟩:=A p X;refine ⟨fQ u f B,.inr ⟨p,f,B,bs.map (·.2),u,by simpa using c,X,N,L,rfl,r1,rfl⟩,?_⟩;show ((u.flatten++B.map _).length:Int)=dD ⟨p.nm,p.cs,f.1⟩ (bs.map (·.1));have lc:p.cs.length=B.length:=by rw [L.eq,Pf]
    unfold dD pH;rw [M1 O,tB,Pf];show _=(p.cs.length:Int)+_;lia
theorem IM (t:Tr):∃ kd y r,toD t=.tup (.str kd::y::r):=by cases t <;> exact ⟨_,_,_,rfl⟩
variable {ta tb:TE}
theorem Gs (h:ta σ H λx a=>∃ c,x=.bl c/\if c=true then tb σ a Q else Q (.bl false) a):Eb ta tb σ H Q:=h
noncomputable def oL (a b h:Addr):HO:=.lst [.ref a,.ref b,.ref h]
theorem Hk (m:Int) (t:Tr) (q:UQ t):S2 (toD t) (Xu (.num m))=(cO (.num m) t).isSome:=by
 cases t with
 | num n =>
  show S2 (.tup [.str "num",.int n]) (.tup [.str "num",.int m])=(if n=m then some _ else none:Option Vg).isSome;by_cases h:n=m
  ·rw [Pk h];simp [S2,Tf,h]
  ·rw [M1 h];simp [S2,Tf,h]
 | arg n=>exact rfl
 | two o a b =>have h:o="add"\/o="sub"\/o="mul"\/o="less":=q.1;show S2 (.tup [.str o,toD a,toD b]) (.tup [.str "num",.int m])=false;unfold S2 Tf S2;rcases h with rfl | rfl | rfl | rfl <;> rfl
 | pick a b c=>exact rfl
theorem xw (T:Txt P w K mg) (MF:Ok P w base k T.KZ (mK K oL n)):Ok P w base (k+1) T.KZ (mK K oL (n+1)):=by
 refine T.KZ.f.ok Xq (λvs H Q E h=>?_) (λcdv A outer s H vs Q E hr h=>?_)
 ·obtain ⟨p,t,v0,v1,f,M,N,O,a,b,c,rfl,_⟩:=h;rfl
 have nd:=Xq.nd;obtain ⟨p,t,v0,v1,f,M,N,O,a,b,c,rfl,W3,Vo,XU,hn,hn3,q,R,hf,f0,f1,f2,X,la,lb,lc,post⟩:=h;refine ⟨_,(aE (bE (aN bV (aY aZ (pv 0) aF) aO (aT _)) (aE (bP (fF PJ P7 P9 cC (aY bX (pv 2) aF) (aD (pv 1) aC)))
 (aH (aP d8))) aQ)
 (aE (bE (aN bV (aY aZ (pv 0) aF) aO (aT _)) (aE (bP (fF PJ P7 P9 cC (aY bX (pv 2) aF) (aD (aY aZ (pv 1) aF) aC)))
 (aH (aP (jH (eU bV (aY aZ (pv 1) aF) aO (aT _)) (jI (eU jV (aY aZ (pv 1) aF) (aY aZ (pv 0) aF) (aT _))))))) aQ)
 (aE (bE (aN bV (aY aZ (pv 0) aF) aO (aT _)) (aE (bP (fF PJ P7 P9 cC (aY bX (pv 2) aF) (aD (aY aZ (pv 1) aF) aC)))
 (aH (aP (eU bV (aY aZ (pv 1) aF) aO (aT _))))) aQ)
 (aE (bE (aN bV (aY aZ (pv 0) aF) aO (aT _)) (aH (aP (eU (HG hr) (pv 1) (pv 0) (aT _)))) aQ)
 (aH (aP (jH (eU bV (aY aZ (pv 1) aF) (aY aZ (pv 0) aF) (aT _)) (jH (pc (D:=T.KZ) MF hr (aD (aY aZ (pv 0) aF) (aD (aY aZ (pv 1) aF) (aD (pv 2) aC)))) (jI (pc (D:=T.KZ) MF hr (aD (aY aZ (pv 0) aF) (aD (aY aZ (pv 1) aF) (aD (pv 2) aC))))))))))))),?_⟩
 obtain ⟨kd,y1,r,B⟩:=IM t;obtain ⟨I,r',ek',hnum,harg⟩:=CN t Vo
 have ekk:I=kd:=by rw [B] at ek';injection ek' with z;injection z with z _;injection z with z;exact z.symm
 subst ekk;have Y5:Dat K H (.tup (.str I::y1::r)) v1:=by rw [<- B];exact R
 have hf':∀ {G:Hp},Wq M N O H G->G f=some (oL M N O):=λbb=>bb _ _ f0 f1 f2 hf;have p1:=DC (n+1);have p2:2 ^ (n+1)=2 * 2 ^ n:=by rw [Sf,Nat.mul_comm]
 cases p with
 | hole i =>have q:Dat K H (.tup [.str "hole",.int i]) v0:=q;refine aR (K:=K) (b:=true) (RT.as (aJ (bI (a6 (k:=0) (aA q) aG rfl) aL)) (Py rfl)) (λ_ H1 s1=>?_) (λc=>nomatch c);refine eB ⟨_,rfl,f,_,0,_,rfl,rfl,SR.of (show H1 f=some (.lst [.ref M,.ref N,.ref O]) from s1 _ _ hf),at0,.inl ⟨rfl,_,SR.of (s1 _ _ X.h0)⟩,_,rfl,?_⟩;have J:=X.same s1;refine ⟨M,a,v1,rfl,rfl,J.h0,cM (by lia),?_⟩;obtain ⟨Y,Z⟩:=J.p0 (v:=v1);refine post _ [v1] [] [] (s1.Vi.trans Z) Y (by simpa using p1) (by simp) (by simp) λfd e=>?_;cases e;exact ⟨SI.cons (Dat.mono (Z.grow J Y) _ (s1.dat R)) SI.nil,SI.nil,SI.nil⟩
 | gap i m =>
  have q:Dat K H (.tup [.str "gap",.int i,.int m]) v0:=q;refine aR (K:=K) (b:=false) (RT.as (aJ (bI (a6 (k:=0) (aA q) aG rfl) aL)) (Po (by decide +kernel))) (λc=>nomatch c) (λ_ H1 s1=>?_);have q:=s1.dat q;refine aR (K:=K) (b:=true) (RT.as (aJ (bI (a6 (k:=0) (aA q) aG rfl) aL)) (Py rfl)) (λ_ H2 L=>?_) (λc=>nomatch c);have q:=L.dat q;have s12:=s1.trans L;refine eB ⟨_,rfl,f,_,1,_,rfl,rfl,SR.of (show H2 f=some (.lst [.ref M,.ref N,.ref O]) from s12 _ _ hf),at1,.inl ⟨rfl,_,SR.of (s12 _ _ X.h1)⟩,?_⟩;refine gS (RE.use (K:=K) (d:=y1) (a6 (k:=1) (aA (s12.dat Y5)) aG rfl) λy H4 S q4=>?_);have F:=s12.trans S;have VJ:=X.same F;refine ⟨N,b,y,rfl,rfl,VJ.h1,cM (by lia),?_⟩;obtain ⟨Y,Z⟩:=VJ.p1 (v:=y);have g5:=Z.grow (K:=K) VJ Y;dsimp only;by_cases hnn:∃ u,t=.num u
  ·obtain ⟨u,rfl⟩:=hnn;have R:Dat K H (.tup [.str "num",.int u]) v1:=R
   have ey:y1=.int u:=by have z:toD (.num u)=.tup [.str "num",.int u]:=rfl;rw [z] at B;injection B with B;injection B with _ B;injection B with B _;exact B.symm
   subst ey;have h5:=Dat.mono g5 _ (F.dat R);refine bJ (K:=K) (d:=.bl (decide (u<=m))) (RE.as (eT (b:=true) (RE.as (bI (a6 (k:=0) (aA h5) aG rfl) aL) (P1 D.bl (Py rfl))) λ_=>cQ (p:=λi j=>decide (i<=j)) (a6 (k:=1) (aA h5) aG rfl) (a6 (k:=2) (aA (Dat.mono g5 _ (S.dat q))) aG rfl)) rfl) λv H' s qq=>?_;rw [qq.VZ]
   have C:=post _ [] [y] [] ((F.Vi.trans Z).trans s.Vi) (Y.same s) (by simp) (by simpa using p1) (by simp) λfd z=>by
    have z':(if u<=m then some ([],[u],[]) else none:Option Vg)=some fd:=z;by_cases U:u<=m
    ·rw [Pk U] at z';cases z';exact ⟨SI.nil,SI.cons (s.dat (Dat.mono g5 _ q4)) SI.nil,SI.nil⟩
    ·rw [M1 U] at z';cases z'
   have e:(cO (.gap i m) (.num u)).isSome=decide (u<=m):=by
    show (if u<=m then some _ else none:Option Vg).isSome=_;by_cases U:u<=m
    ·rw [Pk U,Py U];rfl
    ·rw [M1 U,Po U];rfl
   rw [e] at C;exact C
  ·have e:=xf (i:=i) (m:=m) λn z=>hnn ⟨n,z⟩;refine bJ (K:=K) (d:=.bl false) (RE.as (eT (b:=false) (c:=true) (RE.as (bI (a6 (k:=0) (aA (Dat.mono g5 _ (F.dat Y5))) aG rfl) aL) (P1 D.bl (Po (λz=>hnn (hnum.mp z))))) λc=>nomatch c) rfl) λv H' s qq=>?_;rw [qq.VZ];have C:=post _ [] [y] [] ((F.Vi.trans Z).trans s.Vi) (Y.same s) (by simp) (by simpa using p1) (by simp) λfd z=>by rw [e] at z;cases z
   rw [e] at C;exact C
 | slot i =>
  have q:Dat K H (.tup [.str "slot",.int i]) v0:=q;refine aR (K:=K) (b:=false) (RT.as (aJ (bI (a6 (k:=0) (aA q) aG rfl) aL)) (Po (by decide +kernel))) (λc=>nomatch c) (λ_ H1 s1=>?_);have q:=s1.dat q;refine aR (K:=K) (b:=false) (RT.as (aJ (bI (a6 (k:=0) (aA q) aG rfl) aL)) (Po (by decide +kernel))) (λc=>nomatch c) (λ_ H2 L=>?_);have q:=L.dat q;refine aR (K:=K) (b:=true) (RT.as (aJ (bI (a6 (k:=0) (aA q) aG rfl) aL)) (Py rfl)) (λ_ H3 s3=>?_) (λc=>nomatch c);have Tc:=s1.trans (L.trans s3);refine eB ⟨_,rfl,f,_,2,_,rfl,rfl,SR.of (show H3 f=some (.lst [.ref M,.ref N,.ref O]) from Tc _ _ hf),at2,.inl ⟨rfl,_,SR.of (Tc _ _ X.h2)⟩,?_⟩;refine gS (RE.use (K:=K) (d:=y1) (a6 (k:=1) (aA (Tc.dat Y5)) aG rfl) λy H4 S q4=>?_);have F:=Tc.trans S;have VJ:=X.same F;refine ⟨O,c,y,rfl,rfl,VJ.h2,cM (by lia),?_⟩;obtain ⟨Y,Z⟩:=VJ.p2 (v:=y);have g5:=Z.grow (K:=K) VJ Y;dsimp only;refine bJ (K:=K) (d:=.bl (decide (I="arg"))) (bI (a6 (k:=0) (aA (Dat.mono g5 _ (F.dat Y5))) aG rfl) aL) λv H' s qq=>?_;rw [qq.VZ]
  have C:=post _ [] [] [y] ((F.Vi.trans Z).trans s.Vi) (Y.same s) (by simp) (by simp) (by simpa using p1) λfd z=>by
   cases t with
   | arg u =>
    cases z
    have ey:y1=.int u:=by have z:toD (.arg u)=.tup [.str "arg",.int u]:=rfl;rw [z] at B;injection B with B;injection B with _ B;injection B with B _;exact B.symm
    subst ey;exact ⟨SI.nil,SI.nil,SI.cons (s.dat (Dat.mono g5 _ q4)) SI.nil⟩
   | _=>cases z
  by_cases ha:∃ n,t=.arg n
  ·rw [Py (harg.mpr ha)];obtain ⟨u,rfl⟩:=ha;exact C
  ·rw [Po (λz=>ha (harg.mp z))];rw [tY λn z=>ha ⟨n,z⟩] at C;exact C
 | num m =>
  have q:Dat K H (.tup [.str "num",.int m]) v0:=q;refine aR (K:=K) (b:=false) (RT.as (aJ (bI (a6 (k:=0) (aA q) aG rfl) aL)) (Po (by decide +kernel))) (λc=>nomatch c) (λ_ H1 s1=>?_);have q:=s1.dat q;refine aR (K:=K) (b:=false) (RT.as (aJ (bI (a6 (k:=0) (aA q) aG rfl) aL)) (Po (by decide +kernel))) (λc=>nomatch c) (λ_ H2 L=>?_);have q:=L.dat q;refine aR (K:=K) (b:=false) (RT.as (aJ (bI (a6 (k:=0) (aA q) aG rfl) aL)) (Po (by decide +kernel))) (λc=>nomatch c) (λ_ H3 s3=>?_);have q:=s3.dat q;refine aR (K:=K) (b:=true) (RT.as (aJ (bI (a6 (k:=0) (aA q) aG rfl) aL)) (Py rfl)) (λ_ H4 S=>?_) (λc=>nomatch c);have F:=s1.trans (L.trans (s3.trans S));refine ⟨_,rfl,_,rfl,toD t,Xu (.num m),F.dat R,S.dat q,i0 t,by unfold Xu;simp [UM,Tn],by rw [jQ];lia,?_⟩;show Q (.bl (S2 (toD t) (Xu (.num m)))) _;rw [Hk m t Vo]
  exact post _ [] [] [] F.Vi (X.same F).nil (by simp) (by simp) (by simp) λfd z=>by
   cases t with
   | num u =>
    have z':(if u=m then some ([],[],[]) else none:Option Vg)=some fd:=z;by_cases U:u=m
    ·rw [Pk U] at z';cases z';exact ⟨SI.nil,SI.nil,SI.nil⟩
    ·rw [M1 U] at z';cases z'
   | _=>cases z
 | two o pa pb =>
  have q:Dat K H (.tup [.str o,Xu pa,Xu pb]) v0:=q;have ho:ZS o:=W3.1;refine aR (K:=K) (b:=false) (RT.as (aJ (bI (a6 (k:=0) (aA q) aG rfl) aL)) (Po (by intro z;subst z;exact absurd ho (by decide +kernel)))) (λc=>nomatch c) (λ_ H1 s1=>?_);have q:=s1.dat q;refine aR (K:=K) (b:=false) (RT.as (aJ (bI (a6 (k:=0) (aA q) aG rfl) aL)) (Po (by intro z;subst z;exact absurd ho (by decide +kernel)))) (λc=>nomatch c) (λ_ H2 L=>?_);have q:=L.dat q;refine aR (K:=K) (b:=false) (RT.as (aJ (bI (a6 (k:=0) (aA q) aG rfl) aL)) (Po (by intro z;subst z;exact absurd ho (by decide +kernel)))) (λc=>nomatch c) (λ_ H3 s3=>?_);have q:=s3.dat q;refine aR (K:=K) (b:=false) (RT.as (aJ (bI (a6 (k:=0) (aA q) aG rfl) aL)) (Po (by intro z;subst z;exact absurd ho (by decide +kernel)))) (λc=>nomatch c) (λ_ H4 S=>?_);have q:=S.dat q;have F:=s1.trans (L.trans (s3.trans S));refine jO (Gs (RE.use (K:=K) (d:=.bl (decide (I=o))) (bI (a6 (k:=0) (aA (F.dat Y5)) aG rfl) (a6 (k:=0) (aA q) aG rfl)) λvb G sG qb=>⟨_,qb.VZ,?_⟩));have s1G:=F.trans sG;by_cases hk:I=o
  ·rw [Py hk];refine j4 ?_;obtain ⟨x,y,rfl⟩:=xh ho B hk;have R:Dat K H (.tup [.str o,toD x,toD y]) v1:=R;have dpa:eK pa<=n:=by simp only [eK] at hn;lia
   have dpb:eK pb<=n:=by simp only [eK] at hn;lia
   have dpx:a9 x<=8:=by simp only [a9] at XU;lia
   have dpy:a9 y<=8:=by simp only [a9] at XU;lia
   refine Gs (mT (gS (RE.use (K:=K) (d:=Xu pa) (a6 (k:=1) (aA (sG.dat q)) aG rfl) λw0 H5 s5 q5=>?_)));refine gS (RE.use (K:=K) (d:=toD x) (a6 (k:=1) (aA ((s1G.trans s5).dat R)) aG rfl) λw1 H6 s6 q6=>?_);have YH:=s1G.trans (s5.trans s6);have ZG:=X.same YH;refine ⟨_,rfl,pa,x,w0,w1,f,M,N,O,a,b,c,rfl,W3.2.1,Vo.2.1,dpx,dpa,by lia,s6.dat q5,q6,YH _ _ hf,f0,f1,f2,ZG,by lia,by lia,by lia,λH7 a1 b1' c1 bb7 YQ ka kb kc d7=>?_⟩;refine ⟨_,rfl,?_⟩;have g67:gA K H6 H7:=bb7.grow ZG YQ;have YR:Wq M N O H H7:=YH.Vi.trans bb7
   cases Zi:cO pa x with
   | none =>
    refine j0 ?_;have C:=post H7 a1 b1' c1 YR YQ (Qf ka (QC (by decide) (by lia))) (Qf kb (QC (by decide) (by lia))) (Qf kc (QC (by decide) (by lia))) λfd z=>by rw [jU Zi] at z;cases z
    rw [jU Zi] at C;exact C
   | some fa =>
    refine j4 ?_;obtain ⟨da,db,dc⟩:=d7 fa Zi;refine mT (gS (RE.use (K:=K) (d:=Xu pb) (a6 (k:=2) (aA (Dat.mono g67 _ ((sG.trans (s5.trans s6)).dat q))) aG rfl) λw2 H8 s8 q8=>?_));refine gS (RE.use (K:=K) (d:=toD y) (a6 (k:=2) (aA (s8.dat (Dat.mono g67 _ (YH.dat R)))) aG rfl) λw3 H9 s9 q9=>?_);have Zj:=s8.trans s9;have ZH:=YQ.same Zj;refine ⟨_,rfl,pb,y,w2,w3,f,M,N,O,a++a1,b++b1',c++c1,rfl,W3.2.2,Vo.2.2,dpy,dpb,by lia,s9.dat q8,q9,Zj _ _ (hf' YR),f0,f1,f2,ZH,by rw [tB];lia,by rw [tB];lia,by rw [tB];lia,λH10 a2 b2' c2 ZI XW ma mb mc d10=>?_⟩;have g:=ZI.grow (K:=K) ZH XW;rw [Qd,Qd,Qd] at XW
    have C:=post H10 (a1++a2) (b1'++b2') (c1++c2) (YR.trans (Zj.Vi.trans ZI)) XW (oA ka ma) (oA kb mb) (oA kc mc) λfd z=>by
     obtain ⟨_,f',g',e1,e2,e3⟩:=fC z;rw [Zi] at e1;cases e1;obtain ⟨da2,db2,dc2⟩:=d10 g' e2;subst e3;refine ⟨?_,?_,?_⟩
     ·show SI K H10 ((fa.1++g'.1).map toD) _;rw [P0];exact SI.append (SI.mono g _ (Zj.SV da)) da2
     ·show SI K H10 ((fa.2.1++g'.2.1).map D.int) _;rw [P0];exact SI.append (SI.mono g _ (Zj.SV db)) db2
     ·show SI K H10 ((fa.2.2++g'.2.2).map D.int) _;rw [P0];exact SI.append (SI.mono g _ (Zj.SV dc)) dc2
    rw [qx Zi] at C;exact C
  ·rw [Po hk];refine j0 ?_;have e:=wY (a:=pa) (b:=pb) ho B hk;have C:=post _ [] [] [] s1G.Vi (X.same s1G).nil (by simp) (by simp) (by simp) λfd z=>by rw [e] at z;cases z
   rw [e] at C;exact C
noncomputable def zJ (ds:List D) (d:D):Prop:=∃ m,ds=[.int m]/\d=.int (fU m)
theorem uZ (T:Txt P w K mg)  : Ok P w base (k+1) T.L0 (Tj K zJ):=by
 refine T.L0.f.ok W2 (λvs H Q E h=>?_) (λq A outer s H vs Q E z h=>?_)
 ·obtain ⟨ds,d,a,⟨m,rfl,rfl⟩,_⟩:=h;exact a.length.symm
 have B:=W2.nd;obtain ⟨ds,d,a,⟨m,rfl,rfl⟩,post⟩:=h;obtain ⟨C,rfl,u⟩:=ji a;refine ⟨_,(aH (aP (fG (aN jV (pv 0) aF (aT _)) aF aF))),?_⟩;refine bJ (K:=K) (d:=.int (fU m)) (mC (b:=decide (m<=9)) (aJ (cQ (p:=λi j=>decide (i<=j)) (aA u) aG)) (λc=>RE.as aG ?_) (λc=>RE.as aG ?_)) post
 ·unfold fU;rw [Pk (Pq c)]
 ·unfold fU;rw [M1 (Px c)]
variable {ns:List Int}
theorem uT {k:Nat} (h:k < ns.length):(ns.map D.int)[k]?=some (.int (ns.getD k 0)):=by rw [Pw,PZ,Pg h];rfl
structure ZJ (F G:Hp) (f l0 l1 l2:Addr):Prop where
 s:SJ F G
 hf:G f=some (oL l0 l1 l2)
 n0:f≠l0
 n1:f≠l1
 n2:f≠l2
 W7:X8 l0 l1 l2 G [] [] []
 f0:F l0=none
 f1:F l1=none
 f2:F l2=none
variable {F G':Hp} {l0 l1 l2:Addr}
theorem ZJ.mono {f:Addr} (h:ZJ F G f l0 l1 l2) (s:SJ G G'):ZJ F G' f l0 l1 l2:=⟨h.s.trans s,s _ _ h.hf,h.n0,h.n1,h.n2,h.W7.same s,h.f0,h.f1,h.f2⟩
theorem Ib (q:∀ f l0 l1 l2 G,ZJ F G f l0 l1 l2->Q (.ref f) G):wm (bW (wm dW) (bW (wm dW) (bW (wm dW) dW))) σ F Q:=by
 refine ⟨dB (by decide),λl0 B=>⟨dB (by decide),λl1 a=>⟨dB (by decide),λl2 hl2=>⟨dB (by simp),λf A=>?_⟩⟩⟩⟩;have m:l0≠l1:=aU aI a;have b:l0≠l2:=aU (by rw [aS m];exact aI) hl2;have h:l1≠l2:=aU aI hl2;have s:l0≠f:=aU (by rw [aS b,aS m];exact aI) A;have u:l1≠f:=aU (by rw [aS h];exact aI) A;have z:l2≠f:=aU aI A;refine q f l0 l1 l2 _ ⟨(aV B _).trans ((aV a _).trans ((aV hl2 _).trans (aV A _))),aI,PN s,PN u,PN z,⟨?_,?_,?_,m,b,h⟩,B,?_,?_⟩
 ·rw [aS s,aS b,aS m];exact aI
 ·rw [aS u,aS h];exact aI
 ·rw [aS z];exact aI
 ·rw [aS (PN m)] at a;exact a
 ·rw [aS (PN h),aS (PN b)] at hl2;exact hl2
structure IA (K:W.Frag) (F G:Hp) (f l0 l1 l2:Addr) (fd:Vg):Prop where
 hf:G f=some (.lst [.ref l0,.ref l1,.ref l2])
 h0:LD K G (fd.1.map toD) (.ref l0)
 h1:LD K G (fd.2.1.map D.int) (.ref l1)
 h2:LD K G (fd.2.2.map D.int) (.ref l2)
theorem Jh {z A:TE} {f:Addr} {p:Pa} (N:ZJ F G f l0 l1 l2) (I:yL p) (J:UQ t) (L:a9 t<=8) (m:eK p<=3) (M:RE K z σ G (Xu p)) (O:RE K A σ G (toD t))
  (q:∀ G',SJ F G'->(∀ b,cO p t=some b->IA K F G' f l0 l1 l2 b)->Q (.bl (cO p t).isSome) G') (R:σ[j]?=some (some (.ref f)):=by rfl):kr (mK K oL 3) [] E (bW z (bW A (bW (fT j) dW))) σ G Q:=by
 refine mT (gS (M.use λS G1 s1 T=>gS ((O.mono s1).use λU G2 B X=>?_)));have a:=N.mono (s1.trans B);refine ⟨_,R,p,t,S,U,f,l0,l1,l2,[],[],[],rfl,I,J,L,m,by decide,B.dat T,X,a.hf,a.n0,a.n1,a.n2,a.W7,by decide,by decide,by decide,λY a' b' c' C u _ _ _ Z=>?_⟩;refine q Y (λx o h=>C x o (aU h a.f0) (aU h a.f1) (aU h a.f2) (a.s _ _ h)) λb e=>?_;obtain ⟨d0,d1,d2⟩:=Z b e;exact ⟨C _ _ a.n0 a.n1 a.n2 a.hf,LD.of u.h0 d0,LD.of u.h1 d1,LD.of u.h2 d2⟩
variable {es:List D}
theorem Jn {k:Nat} {v:Nat} {f:Addr} {us:List V} (b:H f=some (.lst us)) (h:LD K H es (.ref l)) (m:RE K tb σ H (.int (v:Nat))) (e:us[v]?=some (.ref l)) (u:σ[k]?=some (some (.ref f)):=by rfl):RL K (VG (BC K) (fT k) tb) σ H es:=λz s Q q =>
 ⟨_,u,m z s _ λw B a A=>⟨f,us,v,.ref l,rfl,A.SQ,SR.of ((s.trans a) _ _ b),jT e,q _ _ a ((s.trans a).ld h)⟩⟩
variable {ds:List D}
theorem xT {k:Nat} (a:H l=some (.lst ys)) (b:SI K H ds ys) (h:Tn ds=true) (m:SY ds<=20) (u:σ[k]?=some (some (.ref l)):=by rfl):RE K (VG (FC K true) (fT k) (wm dW)) σ H (.bl (!Tf ds [])):=λA s Q q =>
 ⟨_,u,dB (by decide),λp z=>by
  have sp:=aV z (.lst []);exact ⟨l,p,ys,[],ds,[],rfl,rfl,SR.of (sp _ _ (s _ _ a)),SR.of aI,sp.SV (s.SV b),SI.nil,h,rfl,m,q _ _ sp (Dat.VY _)⟩⟩
noncomputable def j5 (f:Tr->Wn) (w:Wy):Option Int:=(fK (w.ts.map f)).map λbs=>dD w (bs.map (·.1))
theorem Bg {w:Wy} {bs:List (Int × D)} (h:fK (w.ts.map f)=some bs) (a:w.nm≠"pick"):j5 f w=some ((w.cs.length:Int)+(bs.map (·.1)).sum):=by unfold j5;rw [h,Rv];unfold dD pH;rw [M1 a]
theorem Bf {w:Wy} (h:fK (w.ts.map f)=none):j5 f w=none:=by unfold j5;rw [h,Option.map_none]
noncomputable def pW (L:List Int):Wn->Prop
 | none=>L=[]
 | some x=>x.1 ∈ L/\∀ m ∈ L,x.1<=m
theorem Ea {L:List Int} {b:Wn} (w:Wy) (h:pW L b):pW (L++(j5 f w).toList) (iF f b w):=by
 unfold iF j5
 cases e:fK (w.ts.map f) with
 | none=>show pW (L++[]) b;rw [PR];exact h
 | some bs =>
  have a:x8 b w (some bs)=jB b (dD w (bs.map (·.1))) (ZU w.nm bs):=rfl;rw [a,Rv,Option.toList_some];generalize dD w (bs.map (·.1))=n;unfold jB
  cases b with
  | none =>have h:L=[]:=h;subst h;exact ⟨PU.mpr rfl,λm hm=>Int.le_of_eq (PU.mp hm).symm⟩
  | some x =>
   dsimp only;have h:x.1 ∈ L/\∀ m ∈ L,x.1<=m:=h;split
   ·rename_i lt;refine ⟨Qt _ (PU.mpr rfl),λm hm=>?_⟩;rcases Qc.mp hm with hm | hm
    ·have:=h.2 m hm;show n<=m;lia
    ·exact Int.le_of_eq (PU.mp hm).symm
   ·rename_i q;refine ⟨Rm _ h.1,λm hm=>?_⟩;rcases Qc.mp hm with hm | hm
    ·exact h.2 m hm
    ·rw [PU.mp hm];lia
theorem wZ {f:Tr->Wn}:∀ (a:List Wy) (L:List Int) (b:Wn),pW L b->pW (L++a.filterMap (j5 f)) (a.foldl (iF f) b)
 | [],L,b,h=>by rw [Sw,PR];exact h
 | w::a,L,b,h=>by
  have m:=wZ (f:=f) a _ _ (Ea (f:=f) w h);rw [Rh];rw [Qd] at m
  have e:(w::a).filterMap (j5 f)=(j5 f w).toList++a.filterMap (j5 f):=by rw [Q5];cases j5 f w <;> rfl
  rw [e];exact m
noncomputable def Zn (b:Wn):Option Int:=b.map (·.1)
theorem ui:∀ a:List Wn,(a.map Zn).any Option.isNone=(fK a).isNone
 | []=>rfl
 | none::r=>rfl
 | some b::r=>by have h:=ui r;rw [PD,QL,h];show (false || _)=((fK r).map (b::·)).isNone;cases fK r <;> rfl
theorem nS:∀ {a:List Wn} {bs:List (Int × D)},fK a=some bs->(a.map Zn).map Y7=(bs.map (·.1)).map D.int
 | [],bs,h=>by cases h;rfl
 | none::r,bs,h=>by cases h
 | some b::r,bs,h=>by
  have h':(fK r).map (b::·)=some bs:=h
  cases e:fK r with
  | none=>rw [e] at h';cases h'
  | some q =>rw [e] at h';cases h';have m:=nS e;rw [PD,PD,PD,PD,m];rfl
theorem yq (h:∀ p ∈ ps,fY p.pt=true) {a b c:Tr}:bS ps (.pick a b c)=x8 none ⟨"pick",[],[a,b,c]⟩ (fK [bS ps a,bS ps b,bS ps c]):=by rw [m7 h];unfold mM;rw [yh,Rh,List.foldl_nil];rfl
theorem Do (w:Wy) (bs:List (Int × D)):Y7 (Zn (x8 none w (some bs)))=.int (dD w (bs.map (·.1))):=rfl
theorem Bh (a b c:Tr) (x y z:Int × D):dD ⟨"pick",[],[a,b,c]⟩ ([x,y,z].map (·.1))=x.1+fU (y.1+fU z.1)+(y.1+fU z.1)+z.1:=by unfold dD pH;rw [Pk rfl];simp;unfold ra;lia
noncomputable def jA (n:Nat) (as:List Ar) (d:D):Prop:=∃ (ps:List Pc) (t:Tr),as=[.d (toD t),.l (ps.map VF)]/\lH ps/\UQ t/\a9 t<=n/\n<=8/\d=Y7 (Zn (bS ps t))
theorem Bm (as:List Ar) (d:D):¬ jA 0 as d:=λ⟨ps,t,_,_,_,h,_⟩=>by
 have:1<=a9 t:=by cases t <;> simp [a9]
 lia
theorem qt (ns:List Int):Tf (ns.map D.int) []=ns.isEmpty:=by cases ns with | nil=>exact fA | cons n ns=>exact e8 _ _
theorem sW:∀ l:List Int,SY (l.map D.int)<=1
 | []=>by simp [SY]
 | n::ns=>by have:=sW ns;simp only [PD,SY,gT];lia
theorem sk (T:Txt P w K mg) (L4:Ok P w base k T.Ks (Xs K (jA n))) (Nu:Ok P w base k T.L0 (Tj K zJ)) (MF:Ok P w base k T.KZ (mK K oL 3)):Ok P w base (k+1) T.Ks (Xs K (jA (n+1))):=by
 refine T.Ks.f.ok Wm (λvs H Q E h=>?_) (λcdv A outer s H vs Q E hr h=>?_)
 ·obtain ⟨as,d,m,⟨ps,t,rfl,_⟩,_⟩:=h;exact m.length.symm
 have nd:=Wm.nd;obtain ⟨as,d,m,⟨ps,t,rfl,X,Vo,XU,n8,rfl⟩,post⟩:=h;obtain ⟨v0,v1,rfl,h0,Y⟩:=yp m;have h0:Dat K H (toD t) v0:=h0;have Y:LD K H (ps.map VF) v1:=Y;refine ⟨_,(aE (bE (aN bV (aY aZ (pv 0) aF) aO (aT _)) (aE (jL (i:=2) (own:=["_law_one"]) (fr:=[1]) (N':=["_law_one","_law_some"]) (kE (jJ rL (pv 0) (iY aF) pO)) rfl (by show dS ["_law_tree_here","_law_some","_law_three","_law_last","_law_lengths","_law_piece","_law_found","_law_holes"] (λx=>(aK jt).names.lookup x) _ _ _ _=true;decide +kernel) rfl (λ_ _ _ _ _=>(a7 (i:=0) (by show List.Nodup [("_law_one":Str),("_law_some":Str)];decide +kernel) rfl (Or.inl rfl))) (λ_ _ _ _ _=>c7) (λ_ _ _ _ _=>(pc (D:=T.Ks) L4 hr (aD (pv 0) (aD (pv 1) aC)))) nd rfl rfl rfl)
 (aE (bE (aN eO gR (pv 2) (by with_unfolding_all rfl)) (aH (aP gR)) aQ)
 (aE (bQ (i:=3) nd rfl (Or.inl rfl) (bL cJ (aY bX (pv 2) aF) (pc (D:=T.L0) Nu hr (aD (aY bX (pv 2) aF) aC))))
 (aH (aP (bL cJ (bL cJ (bL cJ (aY bX (pv 2) aF) (pc (D:=T.L0) Nu hr (aD (pv 3) aC))) (pv 3)) (aY bX (pv 2) aF))))))) aQ)
 (aE (bQ (i:=4) nd rfl (Or.inl rfl) (bY aC))
 (aE (jK Qv rfl (gJ (pv 1)) (a7 (i:=5) nd rfl (Or.inl rfl)) (aE (bQ (i:=6) nd rfl (Or.inl rfl) (bY (aD (bY aC) (aD (bY aC) (aD (bY aC) aC)))))
 (aH (bE (bR (pc (D:=T.KZ) MF hr (aD (aY aZ (pv 5) aF) (aD (pv 0) (aD (pv 6) aC)))) (λ_=>rfl)) (aE (jL (i:=7) (own:=["_law_one"]) (fr:=[1]) (N':=["_law_one","_law_some"]) (gJ (aY bX (pv 6) aF)) rfl (by show dS ["_law_tree_here","_law_some","_law_three","_law_last","_law_lengths","_law_piece","_law_found","_law_holes"] (λx=>(aK jt).names.lookup x) _ _ _ _=true;decide +kernel) rfl (λ_ _ _ _ _=>(a7 (i:=0) (by show List.Nodup [("_law_one":Str),("_law_some":Str)];decide +kernel) rfl (Or.inl rfl))) (λ_ _ _ _ _=>c7) (λ_ _ _ _ _=>(pc (D:=T.Ks) L4 hr (aD (pv 0) (aD (pv 1) aC)))) nd rfl rfl rfl)
 (aH (bE (aN nD gR (pv 7) (by with_unfolding_all rfl)) (aH (bP (fF PJ P7 P9 cC (pv 4) (aD (bL cJ (aX aW rfl T.J0 bU (aD (aY aZ (pv 5) aF) aC)) (aX (qi rfl) rfl T.OB yr (aD (pv 7) aC))) aC)))) aQ))) aQ))))
 (aH (aP (fG (aN (Dq hr) (pv 4) (bY aC) (aT _)) (aX (AX rfl) rfl T.O6 Hc (aD (pv 4) aC)) gR)))))),?_⟩
 obtain ⟨kd,r,ek,hpk,hcall,Yz⟩:=Ae t Vo;have h0':Dat K H (.tup (.str kd::r)) v0:=by rw [<- ek];exact h0
 have nh:=C6 X;refine aR (K:=K) (b:=xj t) (RT.as (aJ (bI (a6 (k:=0) (aA h0') aG rfl) aL)) hpk) (λcp H1 s1=>?_) (λc H1 s1=>?_)
 ·cases t with
  | pick a b c =>
   have er:r=[toD a,toD b,toD c]:=Yz rfl;subst er;have da:a9 a<=n:=by simp only [a9] at XU;lia
   have db:a9 b<=n:=by simp only [a9] at XU;lia
   have dc:a9 c<=n:=by simp only [a9] at XU;lia
   refine gY (K:=K) (rn (cs:=[toD a,toD b,toD c]) (mh (aA (k:=0) (s1.dat h0'))) (by simp) [Y7 (Zn (bS ps a)),Y7 (Zn (bS ps b)),Y7 (Zn (bS ps c))] rfl rfl (λG1 j x v d C u m hv=>?_)) λl ys G2 hl C hy L=>?_
   ·have hL:=(s1.trans C).ld Y
    match j,u,m with
    | 0,u,m=>cases u;cases m;exact eF (R:=jA n) (iK (aA (k:=0) hv) (gB (a8 (k:=1) hL) dU)) ⟨ps,a,rfl,X,Vo.1,da,by lia,rfl⟩
    | 1,u,m=>cases u;cases m;exact eF (R:=jA n) (iK (aA (k:=0) hv) (gB (a8 (k:=1) hL) dU)) ⟨ps,b,rfl,X,Vo.2.1,db,by lia,rfl⟩
    | 2,u,m=>cases u;cases m;exact eF (R:=jA n) (iK (aA (k:=0) hv) (gB (a8 (k:=1) hL) dU)) ⟨ps,c,rfl,X,Vo.2.2,dc,by lia,rfl⟩
    | j+3,u,m=>cases u
   have M:=s1.trans C;have hL2:LD K G2 (([bS ps a,bS ps b,bS ps c].map Zn).map Y7) (.ref l):=LD.of hy L;rw [yq nh] at post;refine aR (K:=K) (b:=(fK [bS ps a,bS ps b,bS ps c]).isNone) (RT.as (aJ (Ih (a8 (k:=2) hL2))) (ui _)) (λcN O q=>?_) (λcS O q=>?_)
   ·have eN:fK [bS ps a,bS ps b,bS ps c]=none:=by cases e:fK [bS ps a,bS ps b,bS ps c] with | none=>rfl | some _=>rw [e] at cN;cases cN
    rw [eN] at post;exact bJ (K:=K) (d:=.SO) DS λv G4 I q4=>post v G4 (M.trans (q.trans I)) q4
   ·cases e:fK [bS ps a,bS ps b,bS ps c] with
    | none=>rw [e] at cS;cases cS
    | some bs =>
     have em:=pZ (f:=bS ps) (ts:=[a,b,c]) e;have l3:bs.length=3:=by have:=P1 List.length em;simpa using this.symm
     rw [nS e] at hL2;rw [e] at post
     match bs,l3 with
     | [x,y,z],_ =>have ZV:=q.ld hL2;rw [Do,Bh] at post;refine eJ (K:=K) (d:=.int (y.1+fU z.1)) (c8 (iD (k:=1) (a8 (k:=2) ZV) aG rfl) (bM (R:=zJ) (aB (iD (k:=2) (a8 (k:=2) ZV) aG rfl) aM) ⟨z.1,rfl,rfl⟩)) λvl G4 I q4=>?_;have hL4:=I.ld ZV;refine bJ (K:=K) (d:=.int (x.1+fU (y.1+fU z.1)+(y.1+fU z.1)+z.1)) (c8 (c8 (c8 (iD (k:=0) (a8 (k:=2) hL4) aG rfl) (bM (R:=zJ) (aB (aA (k:=3) q4) aM) ⟨_,rfl,rfl⟩)) (aA (k:=3) q4)) (iD (k:=2) (a8 (k:=2) hL4) aG rfl)) λv G5 s5 q5=>post v G5 (M.trans (q.trans (I.trans s5))) ?_;exact q5
  | _=>cases cp
 have ew:iT ps t=ps.filterMap (iN t):=by unfold iT;rw [M1 (by rw [c];exact Pp)]
 have J:=wZ (f:=bS ps) (iT ps t) [] none rfl;rw [Ri] at J;have eb:(iT ps t).foldl (iF (bS ps)) none=bS ps t:=(m7 nh t).symm;rw [eb,ew] at J;obtain ⟨a,vs,rfl,ha,hda⟩:=Y;have la:=hda.length;rw [Pf] at la;have hps:=X.few;refine fR ⟨dB (by decide),λZ hll=>?_⟩;have C:SJ H1 (upd H1 Z (.lst [])):=aV hll _;have M:=s1.trans C;have hln:H Z=none:=s1.free hll;refine eB ⟨_,rfl,a,rfl,⟨vs,(M.VI ha).WC⟩,qA (xs:=vs) (λi σ G=>∃ (z2 z3 z5 z6 z7:Option V) (ys:List V),σ=[some v0,some (.ref a),z2,z3,some (.ref Z),z5,z6,z7]/\SJ H G/\G Z=some (.lst ys)/\SI K G ((((ps.take i).filterMap (iN t)).filterMap (j5 (bS ps))).map D.int) ys) ?_ (λi σ G _ ⟨_,_,_,_,_,_,_,p,_⟩=>(p.VI ha).WC) ?_ ?_⟩
 ·exact ⟨none,none,none,none,none,[],rfl,M,aI,by rw [QW];exact SI.nil⟩
 ·rintro i vx σ G hi ⟨z2,z3,z5,z6,z7,ys,rfl,sG,S,L⟩;obtain ⟨dx,ex,U⟩:=(sG.SV hda).Wd hi;rw [Pw] at ex
  cases hp:ps[i]? with
  | none=>rw [hp] at ex;cases ex
  | some p =>
   rw [hp] at ex;cases ex;have W3:=X.ok p (PM hp);have et:ps.take (i+1)=ps.take i++[p]:=by rw [Qq,hp];rfl
   have lys:ys.length<=100:=by have l1:=L.length;rw [Pf] at l1;have l2:=RV (iN t) (ps.take i);have l3:=RV (j5 (bS ps)) ((ps.take i).filterMap (iN t));rw [Qh] at l2;lia
   refine kJ ?_;dsimp only;refine fR (Ib λf l0 l1 l2 G1 N=>?_);have hx1:Dat K G1 (.tup [.str p.nm,Xu p.pt,.tup p.cs]) vx:=N.s.dat U;refine Jh (K:=K) (j:=6) N W3.ok Vo (by lia) W3.dp (a6 (k:=1) (aA (k:=5) hx1) aG rfl) (aA (k:=0) ((sG.trans N.s).dat h0)) λG2 C full=>?_;have sH2:=sG.trans C;have hl2:=C _ _ S
   have same:∀ {O:Hp} {z7:Option V},SJ G2 O->((iN t p).bind (j5 (bS ps))=none)->∃ (z2' z3' z5' z6' z7':Option V) (ys:List V),[some v0,some (.ref a),z2,z3,some (.ref Z),some vx,some (.ref f),z7]=[some v0,some (.ref a),z2',z3',some (.ref Z),z5',z6',z7']/\SJ H O/\O Z=some (.lst ys)/\SI K O ((((ps.take (i+1)).filterMap (iN t)).filterMap (j5 (bS ps))).map D.int) ys:=λ{O z7} q e=>by
    refine ⟨_,_,_,_,_,ys,rfl,sH2.trans q,q _ _ hl2,?_⟩;rw [et,QY,QY]
    have e2:([p].filterMap (iN t)).filterMap (j5 (bS ps))=[]:=by
     cases Y:iN t p with
     | none=>simp [Y]
     | some w =>rw [Y] at e;have e:j5 (bS ps) w=none:=e;simp [Y,e]
    rw [e2,PR];exact (C.trans q).SV L
   cases Yr:cO p.pt t with
   | none =>
    have eW:iN t p=none:=by unfold iN;rw [Yr];rfl
    exact ⟨_,rfl,j0 (mi (same (SJ.refl _) (by rw [eW];rfl)))⟩
   | some B =>
    have eW:iN t p=some ⟨p.nm,p.cs,B.1⟩:=by unfold iN;rw [Yr];rfl
    have F3:=full B Yr;have tail:=k8 W3.nh Yr
    have few:B.1.length<=8:=by have hw:=wz (ps:=ps) (PM hp) c Yr;exact (Ey X.ok hw).1
    refine ⟨_,rfl,j4 ?_⟩;refine gY (K:=K) (jM (cs:=B.1.map toD) (Jn (k:=6) (v:=0) F3.hf F3.h0 aG rfl) (by rw [Pf];lia) (B.1.map λx=>Y7 (Zn (bS ps x))) (by rw [Pf,Pf]) rfl (λO j x v d q u m hv=>?_)) λlh zs O hlh q hzs dzs=>?_
    ·rw [Pw] at u m
     cases U:B.1[j]? with
     | none=>rw [U] at u;cases u
     | some y =>rw [U] at u m;cases u;cases m;have hy:=tail y (PM U);have L:=(iR hy).2;exact eF (R:=jA n) (iK (aA (k:=0) hv) (gB (a8 (k:=1) ((sH2.trans q).ld ⟨a,vs,rfl,ha,hda⟩)) dU)) ⟨ps,y,rfl,X,iA t y Vo (mj hy),by lia,by lia,rfl⟩
    have eM:(B.1.map λx=>Y7 (Zn (bS ps x)))=((B.1.map (bS ps)).map Zn).map Y7:=by rw [Rc,Rc];rfl
    have ZV:LD K O (((B.1.map (bS ps)).map Zn).map Y7) (.ref lh):=by rw [<- eM];exact LD.of hzs dzs
    refine jk (b:=!(fK (B.1.map (bS ps))).isNone) (RT.as (aJ (BH (K:=K) (a8 (k:=7) ZV))) (by rw [ui])) (λcS G4 I=>?_) (λcN G4 I=>mi ?_)
    ·cases ea:fK (B.1.map (bS ps)) with
     | none=>rw [ea] at cS;cases cS
     | some bs =>
      rw [nS ea] at ZV;have hx4:=(q.trans I).dat (C.dat U);have hx4:Dat K G4 (.tup [.str p.nm,Xu p.pt,.tup p.cs]) vx:=hx4;have hl4:=(q.trans I) _ _ hl2;refine vR (K:=K) (d:=.int ((p.cs.length:Int)+(bs.map (·.1)).sum)) (c8 (fL (a6 (k:=2) (aA (k:=5) hx4) aG rfl)) (vO (a8 (k:=7) (I.ld ZV)))) hl4 (by lia) λy G5 b5 YE q5=>?_;have g5:gA K G4 G5:=b5.grow hl4 YE;refine ⟨_,_,_,_,_,ys++[y],rfl,λx o U=>b5 x o (aU U hln) ((q.trans I) _ _ (sH2 _ _ U)),YE,?_⟩
      have e2:([p].filterMap (iN t)).filterMap (j5 (bS ps))=[(p.cs.length:Int)+(bs.map (·.1)).sum]:=by have e3:j5 (bS ps) ⟨p.nm,p.cs,B.1⟩=some ((p.cs.length:Int)+(bs.map (·.1)).sum):=Bg (w:=⟨p.nm,p.cs,B.1⟩) ea W3.nm;simp [eW,e3]
      rw [et,QY,QY,e2,P0];exact SI.append (SI.mono g5 _ ((C.trans (q.trans I)).SV L)) (SI.cons q5 SI.nil)
    ·refine same (q.trans I) ?_;rw [eW]
     cases ea:fK (B.1.map (bS ps)) with
     | none=>exact Bf (w:=⟨p.nm,p.cs,B.1⟩) ea
     | some bs=>rw [ea] at cN;cases cN
 ·rintro σ G ⟨z2,z3,z5,z6,z7,ys,rfl,sG,S,L⟩;rw [<- la,QK] at L;have hL:LD K G (((ps.filterMap (iN t)).filterMap (j5 (bS ps))).map D.int) (.ref Z):=LD.of S L;dsimp only;generalize (ps.filterMap (iN t)).filterMap (j5 (bS ps))=ns at J L hL;refine bJ (K:=K) (mC (b:=!ns.isEmpty) (RT.as (aJ (xT (k:=4) S L (jy ns) (Qf (sW ns) (by decide)))) (by rw [qt])) (λcT=>?_) (λcF=>?_)) λv G2 C q2=>post v G2 (sG.trans C) q2
  ·cases eb:bS ps t with
   | none =>rw [eb] at J;have J:ns=[]:=J;subst J;cases cT
   | some b =>rw [eb] at J;exact FL (a8 (k:=4) hL) J.1 J.2
  ·cases eb:bS ps t with
   | none=>exact DS
   | some b =>
    rw [eb] at J
    cases ns with
    | nil=>exact absurd J.1 (by simp)
    | cons x y=>cases cF
noncomputable def nV:D->Option (Str × List D)
 | .tup [.str nm,.tup cs]=>some (nm,cs)
 | _=>none
structure Hz (ps:List Pc):Prop where
 nd:(ps.map (·.nm)).Nodup
 nl:∀ p ∈ ps,UM (VF p)=true/\gT (VF p)<=19
noncomputable def Fg (nm:Str):D->Bool
 | .tup (.str x::_)=>decide (x=nm)
 | _=>false
theorem sZ:∀ {ps:List Pc},(∀ p ∈ ps,p.nm≠nm)->(ps.map VF).filter (Fg nm)=[]
 | [],_=>rfl
 | p::ps,h=>by
  rw [PD,RM,M1]
  ·exact sZ λq a=>h q (PV _ a)
  ·show ¬ decide (p.nm=nm)=true;rw [Po (h p P4)];exact Pp
theorem wW {p:Pc}:∀ {ps:List Pc},(ps.map (·.nm)).Nodup->p ∈ ps->(ps.map VF).filter (Fg p.nm)=[VF p]
 | [],_,h=>by cases h
 | q::ps,a,h=>by
  rw [PD,Rt] at a;rcases PB.mp h with rfl | h
  ·rw [PD,RM,Pk (show Fg p.nm (VF p)=true from Py rfl),sZ λx b z=>a.1 (QB.mpr ⟨x,b,z⟩)]
  ·rw [PD,RM,M1]
   ·exact wW a.2 h
   ·show ¬ decide (q.nm=p.nm)=true;rw [Po λz=>a.1 (QB.mpr ⟨p,h,z.symm⟩)];exact Pp
theorem xR {k:Nat} (a:H l=some (.lst ys)) (b:SI K H ds ys) (h:Tn ds=true) (m:SY ds<=20) (u:σ[k]?=some (some (.ref l)):=by rfl):RE K (VG (FC K false) (fT k) (wm dW)) σ H (.bl (Tf ds [])):=λA s Q q =>
 ⟨_,u,dB (by decide),λp z=>by
  have sp:=aV z (.lst []);exact ⟨l,p,ys,[],ds,[],rfl,rfl,SR.of (sp _ _ (s _ _ a)),SR.of aI,sp.SV (s.SV b),SI.nil,h,rfl,m,q _ _ sp (Dat.VY _)⟩⟩
theorem C1 {α:Type} {a:List (List α)} (h:a.flatten.length<=n):∀ {i:Nat} {x:List α},a[i]?=some x->(a.take i).flatten.length+x.length<=n:=by
 intro i x b;have e:a.take (i+1)=a.take i++[x]:=by rw [Qq,b];rfl
 have l:(a.take (i+1)).flatten.length<=a.flatten.length:=by have z:a=a.take (i+1)++a.drop (i+1):=(RI _ _).symm;rw [P1 List.flatten z,Si,tB];lia
 rw [e,Si,tB] at l;simp only [Qy,List.flatten_nil,PR] at l;lia
noncomputable def II:D->Cl
 | .tup [.str k,.int j]=>if k="arg" then .arg j.toNat else if k="low" then .low j.toNat else .high j.toNat
 | .int i=>.n i
 | _=>.n 0
noncomputable def cK (p:Pc):List Cl:=p.cs.map II
noncomputable def m8 (nm:Str) (ps:List Pc):Option Pc:=ps.find? λp=>decide (p.nm=nm)
noncomputable def pw:List (Option (List D))->Option (List (List D))
 | []=>some []
 | none::_=>none
 | some x::r=>(pw r).map (x::·)
noncomputable def gM (f:Tr->D->Option (List D)) (ts:List Tr) (cs:List D):List (Option (List D)):=(ts.zip cs).map λp=>f p.1 p.2
noncomputable def Hy:List (List D)->Option (List D)
 | [a,b,c]=>some (f6 a b c)
 | _=>none
noncomputable def mx (f:Tr->D->Option (List D)) (t:Tr) (cs:List D):Option (List D):=match t with
 | .pick a b d=>if cs.length=3 then (pw (gM f [a,b,d] cs)).bind Hy else none
 | _=>none
noncomputable def kN (f:Tr->D->Option (List D)) (ps:List Pc) (t:Tr) (nm:Str) (cs:List D):Option (List D):=match m8 nm ps with
 | none=>none
 | some p=>match cO p.pt t with
  | none=>none
  | some g=>if g.1.length=cs.length then (pw (gM f g.1 cs)).map λa=>fQ a g (cK p) else none
noncomputable def eY (ps:List Pc):Nat->Tr->D->Option (List D)
 | 0,_,_=>none
 | n+1,t,c=>match nV c with
  | none=>none
  | some x=>if x.1="pick" then mx (eY ps n) t x.2 else kN (eY ps n) ps t x.1 x.2
theorem sJ:∀ {os:List (Option (List D))},os.any Option.isNone=true->pw os=none
 | [],h=>by cases h
 | none::os,_=>rfl
 | some x::os,h=>by rw [QL] at h;have a:=sJ (os:=os) (by simpa using h);show (pw os).map _=none;rw [a];rfl
theorem wD:∀ S0:List (List D),pw (S0.map some)=some S0
 | []=>rfl
 | x::S0=>by show (pw (S0.map some)).map _=_;rw [wD S0];rfl
theorem Bw {f:Tr->D->Option (List D)} {cs:List D} {k:Nat} {c:D} {o:Option (List D)} (b:ts[k]?=some t) (h:cs[k]?=some c) (a:(gM f ts cs)[k]?=some o):o=f t c:=by unfold gM at a;rw [Pw,(List.getElem?_zip_eq_some (z:=(t,c))).mpr ⟨b,h⟩] at a;cases a;rfl
theorem Bx {f:Tr->D->Option (List D)} {cs:List D} (h:ts.length=cs.length):(gM f ts cs).length=ts.length:=by unfold gM;rw [Pf,List.length_zip];lia
theorem tJ {f:Tr->D->Option (List D)} (a:∀ t c es,f t c=some es->es.length<=12 * bB t):∀ {ts:List Tr} {cs:List D} {S0:List (List D)},ts.length=cs.length->gM f ts cs=S0.map some->S0.flatten.length<=12 * (ts.map bB).sum
 | [],[],S0,_,h=>by
  have:S0=[]:=by cases S0 with | nil=>rfl | cons _ _=>cases h
  subst this;simp
 | t::ts,c::cs,S0,b,h=>by
  cases S0 with
  | nil=>cases h
  | cons x S0 =>have h':f t c::gM f ts cs=some x::S0.map some:=h;injection h' with m q;have s:=a t c x m;have u:=tJ a (ts:=ts) (cs:=cs) (by simpa using b) q;rw [Qy,tB,PD,List.sum_cons];lia
 | [],c::cs,_,h,_=>by simp at h
 | t::ts,[],_,h,_=>by simp at h
structure Be (ps:List Pc):Prop where
 ls:Hz ps
 cl:∀ p ∈ ps,wA p (cK p)
theorem uD:∀ (p:Pa) (t:Tr) (f:Vg),cO p t=some f->(f.1.map bB).sum<=bB t/\(fY p=true->(f.1.map bB).sum+1<=bB t)
 | .hole i,t,f,h=>by cases h;exact ⟨by simp,λz=>nomatch z⟩
 | .gap i m,t,f,h=>by
  cases t with
  | num n =>
   have h':(if n<=m then some ([],[n],[]) else none:Option Vg)=some f:=h;by_cases z:n<=m
   ·rw [Pk z] at h';cases h';exact ⟨by simp,λ_=>by simp [bB]⟩
   ·rw [M1 z] at h';cases h'
  | _=>cases h
 | .slot i,t,f,h=>by
  cases t with
  | arg n=>cases h;exact ⟨by simp,λ_=>by simp [bB]⟩
  | _=>cases h
 | .num m,t,f,h=>by
  cases t with
  | num n =>
   have h':(if n=m then some ([],[],[]) else none:Option Vg)=some f:=h;by_cases z:n=m
   ·rw [Pk z] at h';cases h';exact ⟨by simp,λ_=>by simp [bB]⟩
   ·rw [M1 z] at h';cases h'
  | _=>cases h
 | .two o a b,t,f,h=>by
  cases t with
  | two I u v =>
   obtain ⟨_,q,s,A,B,C⟩:=fC h;subst C;have J:=(uD a u q A).1;have L:=(uD b v s B).1;have e:((q.1++s.1).map bB).sum=(q.1.map bB).sum+(s.1.map bB).sum:=by simp
   refine ⟨?_,λ_=>?_⟩
   ·show ((q.1++s.1).map bB).sum<=_;simp only [bB];lia
   ·show ((q.1++s.1).map bB).sum+1<=_;simp only [bB];lia
  | _=>cases h
theorem hE {p:Pc} (h:m8 nm ps=some p):p ∈ ps/\p.nm=nm:=by unfold m8 at h;have a:decide (p.nm=nm)=true:=List.find?_some (p:=λp:Pc=>decide (p.nm=nm)) h;exact ⟨List.mem_of_find?_eq_some h,Pq a⟩
theorem yz (h:m8 nm ps=none):∀ p ∈ ps,p.nm≠nm:=λp a e=>by unfold m8 at h;rw [List.find?_eq_none] at h;exact absurd (Py e) (h p a)
theorem iP {f:Tr->D->Option (List D)} {cs:List D} (h:kN f ps t nm cs=some es):∃ p g S0,m8 nm ps=some p/\cO p.pt t=some g/\g.1.length=cs.length/\gM f g.1 cs=S0.map some/\es=fQ S0 g (cK p):=by
 unfold kN at h
 cases m:m8 nm ps with
 | none=>rw [m] at h;cases h
 | some p =>
  rw [m] at h;dsimp only at h
  cases a:cO p.pt t with
  | none=>rw [a] at h;cases h
  | some g =>
   rw [a] at h;dsimp only at h;by_cases b:g.1.length=cs.length
   ·rw [Pk b] at h
    cases q:(gM f g.1 cs).any Option.isNone with
    | true=>rw [sJ q] at h;cases h
    | false =>obtain ⟨S0,e⟩:=sL q;rw [e,wD] at h;cases h;exact ⟨p,g,S0,rfl,a,b,e,rfl⟩
   ·rw [M1 b] at h;cases h
theorem iQ {f:Tr->D->Option (List D)} {cs:List D} (h:mx f t cs=some es):∃ a b d m q s u z A,t=.pick a b d/\cs=[m,q,s]/\f a m=some u/\f b q=some z/\f d s=some A/\es=f6 u z A:=by
 cases t with
 | pick a b d =>
  have h:(if cs.length=3 then (pw (gM f [a,b,d] cs)).bind Hy else none)=some es:=h;by_cases I:cs.length=3
  ·rw [Pk I] at h
   match cs,I with
   | [m,q,s],_ =>
    have e:gM f [a,b,d] [m,q,s]=[f a m,f b q,f d s]:=rfl;rw [e] at h
    cases B:f a m with
    | none=>rw [B] at h;cases h
    | some u =>
     cases C:f b q with
     | none=>rw [B,C] at h;cases h
     | some z =>
      cases J:f d s with
      | none=>rw [B,C,J] at h;cases h
      | some A =>rw [B,C,J] at h;have h:some (f6 u z A)=some es:=h;cases h;exact ⟨a,b,d,m,q,s,u,z,A,rfl,rfl,B,C,J,rfl⟩
  ·rw [M1 I] at h;cases h
 | _=>cases h
theorem jF (ok:∀ p ∈ ps,Fj p):∀ (n:Nat) (t:Tr) (c:D) (es:List D),eY ps n t c=some es->es.length<=12 * bB t
 | 0,_,_,_,h=>by cases h
 | n+1,t,c,es,h=>by
  have h:(match nV c with | none=>none | some x=>if x.1="pick" then mx (eY ps n) t x.2 else kN (eY ps n) ps t x.1 x.2)=some es:=h
  cases u:nV c with
  | none=>rw [u] at h;cases h
  | some x =>
   rw [u] at h;dsimp only at h;by_cases A:x.1="pick"
   ·rw [Pk A] at h;obtain ⟨a,b,d,C,I,J,s,q,m,rfl,_,L,M,ld,rfl⟩:=iQ h;have N:=jF ok n a C s L;have O:=jF ok n b I q M;have R:=jF ok n d J m ld;have X:=ni 8 9 m.length;have Y:=ni 10 11 (q++ml 8 9 m.length).length;have Z:=CU (m.length:Int);have j2:=CU ((q++ml 8 9 m.length).length:Int);have ll:(f6 s q m).length=s.length+(ml 10 11 (q++ml 8 9 m.length).length).length+(q.length+(ml 8 9 m.length).length)+m.length:=by unfold f6;simp only [tB]
    simp only [bB];lia
   ·rw [M1 A] at h;obtain ⟨p,g,S0,S,T,U,e,rfl⟩:=iP h;have B:=ok p (hE S).1;have N:=tJ (jF ok n) U e;have O:=(uD _ _ _ T).2 B.nh;have R:=B.cs;have z:(fQ S0 g (cK p)).length=S0.flatten.length+p.cs.length:=by unfold fQ cK;rw [tB,Pf,Pf]
    lia
theorem CB {p:Pa} (h:fY p=true) (a b c:Tr):cO p (.pick a b c)=none:=by
 cases p with
 | hole i=>cases h
 | _=>rfl
theorem A2 {c:D} {x:Str × List D} (h:nV c=some x):c=.tup [.str x.1,.tup x.2]:=by
 unfold nV at h;split at h
 ·cases h;rfl
 ·cases h
noncomputable def yj (ds:List D) (d:D):Prop:=∃ (c:Cl) (a b:List Int),ds=[clD c,.tup (a.map D.int),.tup (b.map D.int)]/\Hg a.length b.length c=true/\d=.int (kM a b c)
theorem qW (T:Txt P w K mg)  : Ok P w base (k+1) T.LI (Tj K yj):=by
 refine T.LI.f.ok V3 (λvs H Q E h=>?_) (λY A outer s H vs Q E hr h=>?_)
 ·obtain ⟨ds,d,M,⟨c,u,U,rfl,_⟩,_⟩:=h;exact M.length.symm
 have nd:=V3.nd;obtain ⟨ds,d,M,⟨c,u,U,rfl,z,rfl⟩,post⟩:=h;obtain ⟨J,v1,v2,rfl,a,X,Z⟩:=sT M;refine ⟨_,(aE (bE (bR (aX (gC CO) rfl T.J6 cY (dE (pv 0) (dE (iB (v:=.ty "int") rfl T.OQ Cg rfl) aC))) (λ_=>rfl)) (aH (aP (pv 0))) aQ)
 (aE (bE (aN bV (aY aZ (pv 0) aF) aO (aT _)) (aH (aP (bL eZ (aY aZ (pv 1) (aY aZ (pv 0) aF)) aF))) aQ)
 (aE (bE (aN bV (aY aZ (pv 0) aF) aO (aT _)) (aH (aP (bL nB (aY aZ (pv 1) (aY aZ (pv 0) aF)) aF))) aQ)
 (aH (aP (aY aZ (pv 2) (aY aZ (pv 0) aF))))))),?_⟩
 cases c with
 | n j =>have a:Dat K H (.int j) J:=a;refine aR (K:=K) (b:=true) (bO (dC (aA (k:=0) a))) (λ_ N s1=>?_) (λc=>nomatch c);exact bJ (K:=K) (d:=.int j) (aA (k:=0) (s1.dat a)) λv L B q=>post v L (s1.trans B) q
 | low j =>have a:Dat K H (.tup [.str "low",.int j]) J:=a;have z:=Pq z;refine aR (K:=K) (b:=false) (bO (dC (aA (k:=0) a))) (λc=>nomatch c) (λ_ N s1=>?_);refine aR (K:=K) (b:=true) (RT.as (aJ (bI (a6 (k:=0) (aA (k:=0) (s1.dat a)) aG rfl) aL)) (Py rfl)) (λ_ L B=>?_) (λc=>nomatch c);have m:=s1.trans B;exact bJ (K:=K) (d:=.int (u.getD j 0 % 100)) (jN (a6 (k:=j) (aA (k:=1) (m.dat X)) (a6 (k:=1) (aA (k:=0) (m.dat a)) aG rfl) (uT z)) aG (by decide)) λv O I q=>post v O (m.trans I) q
 | high j =>have a:Dat K H (.tup [.str "high",.int j]) J:=a;have z:=Pq z;refine aR (K:=K) (b:=false) (bO (dC (aA (k:=0) a))) (λc=>nomatch c) (λ_ N s1=>?_);refine aR (K:=K) (b:=false) (RT.as (aJ (bI (a6 (k:=0) (aA (k:=0) (s1.dat a)) aG rfl) aL)) (Po (by decide +kernel))) (λc=>nomatch c) (λ_ L B=>?_);have m:=s1.trans B;refine aR (K:=K) (b:=true) (RT.as (aJ (bI (a6 (k:=0) (aA (k:=0) (m.dat a)) aG rfl) aL)) (Py rfl)) (λ_ O I=>?_) (λc=>nomatch c);have C:=m.trans I;exact bJ (K:=K) (d:=.int (u.getD j 0 / 100)) (AE (a6 (k:=j) (aA (k:=1) (C.dat X)) (a6 (k:=1) (aA (k:=0) (C.dat a)) aG rfl) (uT z)) aG ⟨by decide,by decide⟩) λv R S q=>post v R (C.trans S) q
 | arg j =>have a:Dat K H (.tup [.str "arg",.int j]) J:=a;have z:=Pq z;refine aR (K:=K) (b:=false) (bO (dC (aA (k:=0) a))) (λc=>nomatch c) (λ_ N s1=>?_);refine aR (K:=K) (b:=false) (RT.as (aJ (bI (a6 (k:=0) (aA (k:=0) (s1.dat a)) aG rfl) aL)) (Po (by decide +kernel))) (λc=>nomatch c) (λ_ L B=>?_);have m:=s1.trans B;refine aR (K:=K) (b:=false) (RT.as (aJ (bI (a6 (k:=0) (aA (k:=0) (m.dat a)) aG rfl) aL)) (Po (by decide +kernel))) (λc=>nomatch c) (λ_ O I=>?_);have C:=m.trans I;exact bJ (K:=K) (d:=.int (U.getD j 0)) (a6 (k:=j) (aA (k:=2) (C.dat Z)) (a6 (k:=1) (aA (k:=0) (C.dat a)) aG rfl) (uT z)) λv R S q=>post v R (C.trans S) q
noncomputable def kT (n:Nat) (as:List Ar) (es:List D):Prop:=∃ (ps:List Pc) (t:Tr) (c:D),as=[.d (toD t),.l (ps.map VF),.d c,.l []]/\lH ps/\Be ps/\UQ t/\a9 t<=n/\n<=8/\bB t<=40/\eY ps n t c=some es
noncomputable def GN (n:Nat) (as:List Ar) (es:List D):Prop:=∃ (ps:List Pc) (a b d:Tr) (h m q:D) (s u z:List D),as=[.d (.tup [.str "pick",toD a,toD b,toD d]),.l (ps.map VF),.d (.tup [.str "pick",.tup [h,m,q]]),.l []]/\lH ps/\Be ps/\(UQ a/\UQ b/\UQ d)/\(a9 a<=n/\a9 b<=n/\a9 d<=n)/\n<=8/\(bB a<=40/\bB b<=40/\bB d<=40) /\
 eY ps n a h=some s/\eY ps n b m=some u/\eY ps n d q=some z/\es.length<=900/\es=f6 s u z
noncomputable def GM (n:Nat) (as:List Ar) (es:List D):Prop:=∃ (ps:List Pc) (t:Tr) (p:Pc) (a:List D) (g:Vg) (S0:List (List D)),as=[.d (toD t),.l (ps.map VF),.d (.tup [.str p.nm,.tup a]),.l []]/\lH ps/\Be ps/\UQ t/\a9 t<=n+1/\n+1<=8/\bB t<=40/\p ∈ ps/\cO p.pt t=some g/\g.1.length=a.length/\gM (eY ps n) g.1 a=S0.map some/\es.length<=900/\es=fQ S0 g (cK p)
theorem xl (x y z:List D):f6 x y z=x++(fN 10 11 ((y.length:Int)+fU z.length)).map D.int++y++(fN 8 9 z.length).map D.int++z:=by
 unfold f6 ml
 have e:((y++(fN 8 9 (z.length:Int)).map D.int).length:Int)=(y.length:Int)+fU z.length:=by rw [tB,Pf];have:=i7 8 9 z.length;lia
 rw [e];simp only [Qd]
theorem vk (T:Txt P w K mg) (Lq:Ok P w base k T.Kh (lV K (kT n))) (L3:Ok P w base k T.Kq (vZ K)):Ok P w base (k+1) T.Mv (lV K (GN n)):=by
 refine T.Mv.f.ok WN (λvs H Q E h=>?_) (λcdv A outer s H vs Q E hr h=>?_)
 ·obtain ⟨as,es,X,⟨ps,a,b,d,M,N,O,I,u,m,rfl,_⟩,_⟩:=h;exact X.length.symm
 have J:=WN.nd;obtain ⟨as,es,X,⟨ps,a,b,d,M,N,O,I,u,m,rfl,Y,Z,⟨oa,ob,od⟩,⟨da,db,dd⟩,n8,⟨za,zb,zd⟩,la,lb,ld,YT,rfl⟩,post⟩:=h;obtain ⟨v0,v1,v2,v3,rfl,h0,h1,h2,h3⟩:=ED X;have h0:Dat K H (.tup [.str "pick",toD a,toD b,toD d]) v0:=h0;have h1:LD K H (ps.map VF) v1:=h1;have h2:Dat K H (.tup [.str "pick",.tup [M,N,O]]) v2:=h2;have h3:LD K H [] v3:=h3;rw [xl] at post YT;refine ⟨_,(aE (gH (eV (own:=["one","within"]) (fr:=[1,3]) (N':=["one","within","some","places"]) (Dw rfl T.OS (aD (jJ rL (pv 0) (iY aF) pO) (aD (aY aZ (pv 2) aF) aC))) rfl (by show dS ["tree","some","cover","places","first","second","third","ahead","behind"] (λx=>(aK lR).names.lookup x) _ _ _ _=true;decide +kernel) rfl (λ_ _ _ _ _=>(Aw (K:=K) (n:=2) rfl rfl (bN (a7 (i:=0) (by show List.Nodup [("one":Str),("within":Str),("some":Str),("places":Str)];decide +kernel) rfl (Or.inl rfl)) (bN (a7 (i:=1) (by show List.Nodup [("one":Str),("within":Str),("some":Str),("places":Str)];decide +kernel) rfl (Or.inl rfl)) eH)))) (λ_ _ _ _ _=>c7) (λ_ _ _ _ _=>(pc (D:=T.Kh) Lq hr (aD (pv 0) (aD (pv 2) (aD (pv 1) (aD (pv 3) aC))))))) (Fw rfl (bN (a7 (i:=4) J rfl (Or.inl rfl)) (bN (a7 (i:=5) J rfl (Or.inl rfl)) (bN (a7 (i:=6) J rfl (Or.inl rfl)) eH)))))
 (aE (gH (pc (D:=T.Kq) L3 hr (aD (aX aW rfl T.J0 bU (aD (pv 5) aC)) (aD (aX aW rfl T.J0 bU (aD (pv 6) aC)) aC))) (gF rfl (bN (a7 (i:=7) J rfl (Or.inl rfl)) (bN (a7 (i:=8) J rfl (Or.inl rfl)) eH))))
 (aH (aP (bL jr (bL jr (bL jr (bL jr (pv 4) (pv 7)) (pv 5)) (pv 8)) (pv 6)))))),?_⟩
 refine vS (RCL.use (K:=K) (FG (cs:=[toD a,toD b,toD d]) (ds:=[M,N,O]) (aB (mh (aA (k:=0) h0)) (aB (a6 (k:=1) (aA (k:=2) h2) aG rfl) aM)) rfl (by simp) [I,u,m] rfl (by decide) rfl (λG j x y z v w sG B q C hv hw=>?_)) λl ys H1 hl s1 q dy=>?_)
 ·have hL:=sG.ld h1;have hP:=sG.ld h3
  match j,B,q,C with
  | 0,B,q,C=>cases B;cases q;cases C;exact gU (R:=kT n) (iK (aA (k:=0) hv) (gB (a8 (k:=2) hL) (iK (aA (k:=1) hw) (gB (a8 (k:=3) hP) dU)))) ⟨ps,a,M,rfl,Y,Z,oa,da,n8,za,la⟩
  | 1,B,q,C=>cases B;cases q;cases C;exact gU (R:=kT n) (iK (aA (k:=0) hv) (gB (a8 (k:=2) hL) (iK (aA (k:=1) hw) (gB (a8 (k:=3) hP) dU)))) ⟨ps,b,N,rfl,Y,Z,ob,db,n8,zb,lb⟩
  | 2,B,q,C=>cases B;cases q;cases C;exact gU (R:=kT n) (iK (aA (k:=0) hv) (gB (a8 (k:=2) hL) (iK (aA (k:=1) hw) (gB (a8 (k:=3) hP) dU)))) ⟨ps,d,O,rfl,Y,Z,od,dd,n8,zd,ld⟩
  | j+3,B,q,C=>cases B
 obtain ⟨w4,w5,w6,rfl,k4,S,U⟩:∃ w4 w5 w6,ys=[w4,w5,w6]/\LD K H1 I w4/\LD K H1 u w5/\LD K H1 m w6:=by
  cases dy with
  | cons k4 r =>
   cases r with
   | cons S r =>
    cases r with
    | cons U r =>cases r;exact ⟨_,_,_,rfl,k4,S,U⟩
 refine ⟨l,_,rfl,SR.of q,rfl,_,_,rfl,_,_,rfl,_,_,rfl,rfl,?_⟩
 try dsimp only
 refine vS (mT (gS (RE.use (K:=K) (d:=.int u.length) (eA (a8 (k:=5) S)) λw1 H3 s3 q3=>gS (RE.use (K:=K) (d:=.int m.length) (eA (a8 (k:=6) (s3.ld U))) λw2 H4 s4 q4=>?_))));have e3:=q3.SQ;have e4:=q4.SQ;subst e3 e4;refine ⟨_,_,rfl,λp aa bb us ws H5 s5 hp ha hb _ _ _ Zb Yy=>?_⟩;refine ⟨p,_,rfl,hp,rfl,_,_,rfl,_,_,rfl,rfl,?_⟩
 try dsimp only
 have L:=s3.trans (s4.trans s5);have kA:LD K H5 _ (.ref aa):=LD.of ha Zb;have kB:LD K H5 _ (.ref bb):=LD.of hb Yy;have ll:(I++(fN 10 11 ((u.length:Int)+fU m.length)).map D.int++u++(fN 8 9 m.length).map D.int++m).length=I.length+((fN 10 11 ((u.length:Int)+fU m.length)).map D.int).length+u.length+((fN 8 9 (m.length:Int)).map D.int).length+m.length:=by simp only [tB]
 generalize (fN 10 11 ((u.length:Int)+fU m.length)).map D.int=ja at kA post ll YT;generalize (fN 8 9 (m.length:Int)).map D.int=jb at kB post ll YT;exact jO (RC.use (K:=K) (js (jW (js (jW (js (jW (js (a8 (k:=4) (L.ld k4)) (a8 (k:=7) kA) (by lia))) (a8 (k:=5) (L.ld S)) (by rw [tB];lia))) (a8 (k:=8) kB) (by rw [tB,tB];lia))) (a8 (k:=6) (L.ld U)) (by rw [tB,tB,tB];lia)) λl3 us H7 hl3 s7 hu du=>post l3 us H7 (s1.trans (L.trans s7)) hu ((s1.trans L).free hl3) du)
theorem sC (T:Txt P w K mg) (Lq:Ok P w base k T.Kh (lV K (kT n))) (Nd:Ok P w base k T.LG (Tj K pX)) (NT:Ok P w base k T.LI (Tj K yj)):Ok P w base (k+1) T.L7 (lV K (GM n)):=by
 refine T.L7.f.ok Wh (λvs H Q E h=>?_) (λcdv A outer s H vs Q E hr h=>?_)
 ·obtain ⟨as,es,U,⟨ps,t,p,cv,g,S0,rfl,_⟩,_⟩:=h;exact U.length.symm
 have J:=Wh.nd;obtain ⟨as,es,U,⟨ps,t,p,cv,g,S0,rfl,Wr,ZW,Vo,XU,n8,szt,hp,Yr,hlen,Zc,YT,rfl⟩,post⟩:=h;obtain ⟨v0,v1,v2,v3,rfl,h0,h1,h2,h3⟩:=ED U;have h0:Dat K H (toD t) v0:=h0;have h1:LD K H (ps.map VF) v1:=h1;have h2:Dat K H (.tup [.str p.nm,.tup cv]) v2:=h2;have h3:LD K H [] v3:=h3;have W3:=Wr.ok p hp;have X:=ZW.cl p hp;have few:=Wr.few;refine ⟨_,(aE (gH (pv 2) (gF rfl (bN (a7 (i:=4) J rfl (Or.inr rfl)) (bN (a7 (i:=5) J rfl (Or.inl rfl)) eH))))
 (aE (bQ (i:=6) J rfl (Or.inl rfl) (aY bX (eV (own:=["one"]) (fr:=[4]) (N':=["one","name"]) (gJ (pv 1)) rfl (by show dS ["tree","some","cover","places","name","within","piece","holes","nums","ks","cells","hole","inner"] (λx=>(aK ju).names.lookup x) _ _ _ _=true;decide +kernel) rfl (λ_ _ _ _ _=>(a7 (i:=0) (by show List.Nodup [("one":Str),("name":Str)];decide +kernel) rfl (Or.inl rfl))) (λ_ _ _ _ _=>(xJ (aN bV (aY (r:=sD K) aZ (pv 0) aF) (pv 1) (aT _)))) (λ_ _ _ _ _=>(pv 0))) aF))
 (aE (gH (pc (D:=T.LG) Nd hr (aD (pv 6) (aD (pv 0) aC))) (gF rfl (bN (a7 (i:=7) J rfl (Or.inl rfl)) (bN (a7 (i:=8) J rfl (Or.inr rfl)) (bN (a7 (i:=9) J rfl (Or.inr rfl)) eH)))))
 (aE (bQ (i:=10) J rfl (Or.inl rfl) (bY aC))
 (aE (jK Qv rfl (Dw rfl T.OS (aD (pv 7) (aD (pv 5) aC))) (gF rfl (bN (a7 (i:=11) J rfl (Or.inl rfl)) (bN (a7 (i:=12) J rfl (Or.inl rfl)) eH))) (aH (bP (fF PJ Ra Rw ki (pv 10) (aD (pc (D:=T.Kh) Lq hr (aD (pv 11) (aD (pv 1) (aD (pv 12) (aD (pv 3) aC))))) aC)))))
 (aH (aP (bL jr (pv 10) (eV (own:=["cell"]) (fr:=[8,9]) (N':=["cell","nums","ks"]) (kE (aY aZ (pv 6) aF)) rfl (by show dS ["tree","some","cover","places","name","within","piece","holes","nums","ks","cells","hole","inner"] (λx=>(aK ju).names.lookup x) _ _ _ _=true;decide +kernel) rfl (λ_ _ _ _ _=>(a7 (i:=0) (by show List.Nodup [("cell":Str),("nums":Str),("ks":Str)];decide +kernel) rfl (Or.inl rfl))) (λ_ _ _ _ _=>c7) (λ_ _ _ _ _=>(pc (D:=T.LI) NT hr (aD (pv 0) (aD (pv 1) (aD (pv 2) aC)))))))))))))),?_⟩
 refine jX (K:=K) (aA (k:=2) h2) λv4 v5 H1 s1 q4 q5=>?_;refine eJ (K:=K) (d:=VF p) (iD (k:=0) (ds:=[VF p]) (jW (RC.as (FE (a8 (k:=1) (s1.ld h1)) (by rw [Pf];lia) (Fg p.nm) rfl (λG j c v L m hv=>?_)) (wW ZW.ls.nd hp))) aG rfl) λv6 H2 s2 q6=>?_
 ·rw [Pw] at m
  cases b:ps[j]? with
  | none=>rw [b] at m;cases m
  | some q =>rw [b] at m;cases m;exact ⟨aJ (bI (a6 (k:=0) (aA (k:=0) (show Dat K G (.tup [.str q.nm,Xu q.pt,.tup q.cs]) v from hv)) aG rfl) (aA (k:=1) (L.dat q4))),aA (k:=0) hv⟩
 have s12:=s1.trans s2;have q6:Dat K H2 (.tup [.str p.nm,Xu p.pt,.tup p.cs]) v6:=q6;refine vU (K:=K) (RE.as (bM (R:=pX) (d:=fdD (cO p.pt t)) (aB (aA (k:=6) q6) (aB (aA (k:=0) (s12.dat h0)) aM)) ⟨.str p.nm,p.pt,.tup p.cs,t,rfl,W3.ok,Vo,by lia,W3.dp,rfl⟩) (by rw [Yr];rfl)) λv7 v8 v9 H3 s3 q7 q8 q9=>?_;have Tc:=s12.trans s3;refine fR ⟨dB (by decide),λlc Y=>?_⟩;have s4:SJ H3 (upd H3 lc (.lst [])):=aV Y _;have Ux:=Tc.trans s4;obtain ⟨ah,us,rfl,Z,Zb⟩:=(s4.dat q7).S9;obtain ⟨aw,ws,rfl,haw,Yy⟩:=((s2.trans (s3.trans s4)).dat q5).S9;have lu:=Zb.length;have lw:=Yy.length;rw [Pf] at lu;have less:S0.length=g.1.length:=by have:=P1 List.length Zc;rw [Bx hlen,Pf] at this;exact this.symm
 have hlcn:H lc=none:=Tc.free Y
 have lle:S0.flatten.length+(cK p).length<=900:=by
  have z:(fQ S0 g (cK p)).length=S0.flatten.length+(cK p).length:=by unfold fQ;rw [tB,Pf]
  lia
 have lfl:S0.flatten.length<=900:=by lia
 generalize hG4:upd H3 lc (.lst [])=G4 at s4 Ux Z haw Zb Yy;have hc4:G4 lc=some (.lst []):=by rw [<- hG4];exact aI
 refine eB ⟨_,rfl,_,rfl,ah,aw,us,ws,rfl,Z,haw,EX (K:=K) (xs:=us) (ys:=ws) (λi σ G=>∃ (z11 z12:Option V) (zs:List V),σ=[some v0,some v1,some v2,some v3,some v4,some (.ref aw),some v6,some (.ref ah),some v8,some v9,some (.ref lc),z11,z12]/\SJ H3 G/\Ti K G ah us/\Ti K G aw ws/\SI K G (g.1.map toD) us/\SI K G cv ws/\G lc=some (.lst zs)/\SI K G (S0.take i).flatten zs) (by lia) ?_ (λi σ G _ ⟨_,_,_,_,_,p1,p2,_⟩=>⟨p1,p2⟩) ?_ ?_⟩
 ·exact ⟨none,none,[],rfl,s4,Z,haw,Zb,Yy,hc4,by rw [QW];exact SI.nil⟩
 ·rintro i u w pp σ G hu hw hpp ⟨z11,z12,zs,rfl,L,N,O,duG,dwG,M,dz⟩;have B:SJ G (upd G pp (.tup [u,w])):=aV hpp _;obtain ⟨du,C,hdu⟩:=duG.Wd hu;obtain ⟨dw,edw,hdw⟩:=dwG.Wd hw;rw [Pw] at C
  cases b:g.1[i]? with
  | none=>rw [b] at C;cases C
  | some x =>
   rw [b] at C;cases C;have hix:i < S0.length:=by rw [less];exact (P5.mp b).1
   have hx:S0[i]?=some S0[i]:=Pg hix;have lz:=C1 lfl hx;have hlx:eY ps n x dw=some S0[i]:=(Bw b edw (by rw [Zc,Pw,hx];rfl)).symm;have S:=k8 W3.nh Yr x (PM b);have dsm:=iR S;refine ⟨pp,_,rfl,Ti.of aI,rfl,_,_,rfl,_,_,rfl,rfl,?_⟩;dsimp only;have I:=Tc.trans (L.trans B);have lzs:=dz.length;refine FV (K:=K) (gU (R:=kT n) (iK (aA (k:=11) (B.dat hdu)) (gB (a8 (k:=1) (I.ld h1)) (iK (aA (k:=12) (B.dat hdw)) (gB (a8 (k:=3) (I.ld h3)) dU)))) ⟨ps,x,dw,rfl,Wr,ZW,iA t x Vo (mj S),by lia,by lia,by lia,hlx⟩) (B _ _ M) (by lia) λys G2 b2 hc2 dy=>?_;have g2:gA K (upd G pp (.tup [u,w])) G2:=b2.grow (B _ _ M) hc2;refine ⟨_,_,zs++ys,rfl,λa o ha=>b2 a o (aU ha Y) ((L.trans B) _ _ ha),g2.tup _ _ (B.YD N),g2.tup _ _ (B.YD O),SI.mono g2 _ (B.SV duG),SI.mono g2 _ (B.SV dwG),hc2,?_⟩;rw [Qq,hx,Si];simp only [Option.toList_some,Qy,List.flatten_nil,PR];exact SI.append (SI.mono g2 _ (B.SV dz)) dy
 ·rintro σ G ⟨z11,z12,zs,rfl,L,N,O,duG,dwG,M,dz⟩;rw [<- lu,<- less,QK] at dz;dsimp only;have I:=Tc.trans L
  have q6G:Dat K G (.tup [.str p.nm,Xu p.pt,.tup ((cK p).map clD)]) v6:=by have z:=(s3.trans L).dat q6;rw [X.eq] at z;exact z
  obtain ⟨g1,g2⟩:=qw _ _ _ Yr;have lcl:(cK p).length<=12:=by have:=W3.cs;rw [X.eq,Pf] at this;exact this
  refine jO (RC.use (K:=K) (es:=fQ S0 g (cK p)) (js (a8 (k:=10) (LD.of M dz)) (jW (rn (cs:=(cK p).map clD) (a6 (k:=2) (aA (k:=6) q6G) aG rfl) (by rw [Pf];lia) ((cK p).map λc=>D.int (kM g.2.1 g.2.2 c)) (by rw [Pf,Pf]) rfl (λG1 j c v d s1 m U hv=>?_))) (by rw [Pf];lia)) λl3 vs G2 hl3 s2 hw dw=>post l3 vs G2 (I.trans s2) hw (I.free hl3) dw);rw [Pw] at m U
  cases b:(cK p)[j]? with
  | none=>rw [b] at m;cases m
  | some x =>rw [b] at m U;cases m;cases U;refine bM (R:=yj) (aB (aA (k:=0) hv) (aB (aA (k:=1) ((L.trans s1).dat q8)) (aB (aA (k:=2) ((L.trans s1).dat q9)) aM))) ⟨x,g.2.1,g.2.2,rfl,?_,rfl⟩;rw [g1,g2];exact X.ok x (PM b)
theorem sA (T:Txt P w K mg) (Of:Ok P w base k T.Mv (lV K (GN n))) (N1:Ok P w base k T.L7 (lV K (GM n))):Ok P w base (k+1) T.Kh (lV K (kT (n+1))):=by
 refine T.Kh.f.ok Wi (λvs H Q E h=>?_) (λcdv A outer s H vs Q E hr h=>?_)
 ·obtain ⟨as,es,Y,⟨ps,t,c,rfl,_⟩,_⟩:=h;exact Y.length.symm
 have nd:=Wi.nd;obtain ⟨as,es,Y,⟨ps,t,c,rfl,N,ZW,B,XU,n8,C,m⟩,post⟩:=h;obtain ⟨v0,v1,v2,v3,rfl,I,O,S,U⟩:=ED Y;have I:Dat K H (toD t) v0:=I;have O:LD K H (ps.map VF) v1:=O;have S:Dat K H c v2:=S;have U:LD K H [] v3:=U;have YT:es.length<=900:=by have:=jF N.ok (n+1) t c es m;lia
 refine ⟨_,(aE (bE (aN bV (aY aZ (pv 0) aF) aO (aT _)) (aE (bQ (i:=4) nd rfl (Or.inl rfl) (aY bX (pv 3) (aY aZ (pv 0) aF)))
 (aH (aP (bY (aD (bT (v:=.int 15) rfl T.Nr ⟨_,rfl⟩) (aD (bL eZ (pv 4) aF) (aD (bL nB (pv 4) aF) aC))))))) aQ)
 (aE (bE (aN bV (aY aZ (pv 0) aF) aO (aT _)) (aH (aP (pc (D:=T.Mv) Of hr (aD (pv 0) (aD (pv 1) (aD (pv 2) (aD (pv 3) aC))))))) aQ)
 (aH (aP (pc (D:=T.L7) N1 hr (aD (pv 0) (aD (pv 1) (aD (pv 2) (aD (pv 3) aC))))))))),?_⟩
 obtain ⟨kd,r,ek,Z,u,Yz⟩:=Ae t B;have J:Dat K H (.tup (.str kd::r)) v0:=by rw [<- ek];exact I
 refine aR (K:=K) (b:=false) (RT.as (aJ (bI (a6 (k:=0) (aA (k:=0) J) aG rfl) aL)) (Po u)) (λc=>nomatch c) (λ_ H1 s1=>?_)
 obtain ⟨nm,L,rfl⟩:∃ nm L,c=.tup [.str nm,.tup L]:=by
  cases e:nV c with
  | none =>have h:(match nV c with | none=>none | some x=>if x.1="pick" then mx (eY ps n) t x.2 else kN (eY ps n) ps t x.1 x.2)=some es:=m;rw [e] at h;cases h
  | some x=>exact ⟨x.1,x.2,A2 e⟩
 have m:(if nm="pick" then mx (eY ps n) t L else kN (eY ps n) ps t nm L)=some es:=m;refine aR (K:=K) (b:=xj t) (RT.as (aJ (bI (a6 (k:=0) (aA (k:=0) (s1.dat J)) aG rfl) aL)) Z) (λcp H2 s2=>?_) (λcp H2 s2=>?_)
 ·have q:=s1.trans s2
  have hn:nm="pick":=by
   apply Classical.byContradiction;intro z;rw [M1 z] at m;obtain ⟨p,g,S0,e1,X,_⟩:=iP m
   cases t with
   | pick a b d=>rw [CB (N.ok p (hE e1).1).nh] at X;cases X
   | _=>cases cp
  subst hn;rw [Pk rfl] at m;obtain ⟨a,b,d,ca,cb,cd,xa,xb,xd,rfl,rfl,la,lb,ld,rfl⟩:=iQ m;simp only [a9] at XU;simp only [bB] at C;exact jO (RC.use (K:=K) (gU (R:=GN n) (iK (aA (k:=0) (q.dat I)) (gB (a8 (k:=1) (q.ld O)) (iK (aA (k:=2) (q.dat S)) (gB (a8 (k:=3) (q.ld U)) dU)))) ⟨ps,a,b,d,ca,cb,cd,xa,xb,xd,rfl,N,ZW,⟨B.1,B.2.1,B.2.2⟩,⟨by lia,by lia,by lia⟩,by lia,⟨by lia,by lia,by lia⟩,la,lb,ld,YT,rfl⟩) λl ys H3 M s3 hy dy=>post l ys H3 (q.trans s3) hy (q.free M) dy)
 ·have q:=s1.trans s2
  have hn:¬ nm="pick":=by intro z;rw [Pk z] at m;obtain ⟨a,b,d,_,_,_,_,_,_,e,_⟩:=iQ m;subst e;cases cp
  rw [M1 hn] at m;obtain ⟨p,g,S0,e1,X,M,Zc,rfl⟩:=iP m;obtain ⟨hp,rfl⟩:=hE e1;exact jO (RC.use (K:=K) (gU (R:=GM n) (iK (aA (k:=0) (q.dat I)) (gB (a8 (k:=1) (q.ld O)) (iK (aA (k:=2) (q.dat S)) (gB (a8 (k:=3) (q.ld U)) dU)))) ⟨ps,t,p,L,g,S0,rfl,N,ZW,B,XU,n8,C,hp,X,M,Zc,YT,rfl⟩) λl ys H3 M s3 hy dy=>post l ys H3 (q.trans s3) hy (q.free M) dy)
theorem Gp:∀ {ps:List Pc},(ps.map (·.nm)).Nodup->∀ p ∈ ps,∀ q ∈ ps,p.nm=q.nm->p=q
 | [],_,p,b,_,_,_=>by cases b
 | x::ps,a,p,b,q,m,e=>by
  rw [PD,Rt] at a;rcases PB.mp b with s | h1
  ·rcases PB.mp m with h | h2
   ·rw [s,h]
   ·exact absurd (QB.mpr ⟨q,h2,by rw [<- e,s]⟩) a.1
  ·rcases PB.mp m with h | h2
   ·exact absurd (QB.mpr ⟨p,h1,by rw [e,h]⟩) a.1
   ·exact Gp a.2 p h1 q h2 e
theorem Ct:∀ c:Cl,II (clD c)=c
 | .n i=>rfl
 | .arg k=>by kernel_rfl
 | .low k=>by kernel_rfl
 | .high k=>by kernel_rfl
theorem Cq {p:Pc} {a:List Cl} (h:wA p a):cK p=a:=by unfold cK;rw [h.eq,Rc];exact (List.map_congr_left λc _=>Ct c).trans (List.map_id a)
theorem GW (m:∀ t c es,rZ ps n t c es->eY ps n t c=some es) {cs:List D} {a:List (List D)} (h:YA (rZ ps n) ts cs a):pw (gM (eY ps n) ts cs)=some a:=by
 induction h with
 | nil=>rfl
 | cons r _ b =>rename_i t c es ts cs S0 _;show pw (eY ps n t c::gM (eY ps n) ts cs)=_;rw [m t c es r];show (pw (gM (eY ps n) ts cs)).map (es::·)=_;rw [b];rfl
theorem qI (s:(ps.map (·.nm)).Nodup) (np:∀ p ∈ ps,p.nm≠"pick"):∀ (n:Nat) (t:Tr) (c:D) (es:List D),rZ ps n t c es->eY ps n t c=some es
 | 0,_,_,_,h=>h.elim
 | n+1,t,c,es,.inl ⟨a,b,d,u,A,B,L,M,N,C,I,O,R,S,T⟩=>by subst C I T;have z:eY ps (n+1) (.pick a b d) (.tup [.str "pick",.tup [u,A,B]])=(if ("pick":Str)="pick" then mx (eY ps n) (.pick a b d) [u,A,B] else kN (eY ps n) ps (.pick a b d) "pick" [u,A,B]):=rfl;rw [z,Pk rfl];show (pw [eY ps n a u,eY ps n b A,eY ps n d B]).bind Hy=_;rw [qI s np n a u L O,qI s np n b A M R,qI s np n d B N S];rfl
 | n+1,t,c,es,.inr ⟨p,f,cl,cs,U,X,J,Y,Z,C,m,I⟩=>by
  subst C I
  have e:m8 p.nm ps=some p:=by
   cases e:m8 p.nm ps with
   | none=>exact absurd rfl (yz e p J)
   | some q=>obtain ⟨hq,en⟩:=hE e;rw [Gp s q hq p J en]
  have z:eY ps (n+1) t (.tup [.str p.nm,.tup cs])=(if p.nm="pick" then mx (eY ps n) t cs else kN (eY ps n) ps t p.nm cs):=rfl;rw [z,M1 (np p J)];unfold kN;rw [e];dsimp only;rw [Y];dsimp only;rw [Pk m.len.1,GW (qI s np n) m,Cq Z];rfl
theorem GZ (os:lH ps) (h:Be ps) {b:Int × D} (m:a9 t<=8) (q:bS ps t=some b):∃ es,eY ps 8 t b.2=some es/\(es.length:Int)=b.1:=by obtain ⟨es,s,u⟩:=kX (λp a=>⟨(os.ok p a).nh,(os.ok p a).nm,_,h.cl p a⟩) 8 t b m q;exact ⟨es,qI h.ls.nd (λp a=>(os.ok p a).nm) 8 t b.2 es s,u⟩
noncomputable def nQ (as:List Ar) (es:List D):Prop:=∃ (ps:List Pc) (t:Tr) (b:Int × D) (xs:List D),as=[.d (toD t),.l (ps.map VF)]/\BY ps t/\Be ps/\bS ps t=some b/\eY ps 8 t b.2=some xs/\es=xs++[.int 0]
theorem yM (T:Txt P w K mg) (J:Ok P w base k T.Lb (Xs K GL)) (L:Ok P w base k T.Kh (lV K (kT 8))):Ok P w base (k+1) T.MX (lV K nQ):=by
 refine T.MX.f.ok XM (λvs H Q E h=>?_) (λM A outer s H vs Q E B h=>?_)
 ·obtain ⟨as,es,u,⟨ps,t,b,xs,rfl,_⟩,_⟩:=h;exact u.length.symm
 have C:=XM.nd;obtain ⟨as,es,u,⟨ps,t,b,xs,rfl,a,N,O,I,rfl⟩,post⟩:=h;obtain ⟨S,U,rfl,m,q⟩:=yp u;have m:Dat K H (toD t) S:=m;have q:LD K H (ps.map VF) U:=q;have sz:=a.sz;have l9:=jF a.os.ok 8 t b.2 xs I;refine ⟨_,(aE (gH (pc (D:=T.Lb) J B (aD (pv 0) (aD (pv 1) aC))) (gF rfl (bN (a7 (i:=2) C rfl (Or.inl rfl)) (bN (a7 (i:=3) C rfl (Or.inl rfl)) eH))))
 (aH (aP (bL jr (pc (D:=T.Kh) L B (aD (pv 0) (aD (pv 1) (aD (pv 3) (aD (bY aC) aC))))) (bY (aD (bT (v:=.int 0) rfl T.NX ⟨_,rfl⟩) aC)))))),?_⟩
 refine jX (K:=K) (d:=.int b.1) (e:=b.2) (eF (R:=GL) (iK (aA (k:=0) m) (gB (a8 (k:=1) q) dU)) ⟨ps,t,b,rfl,a.os,a.ot,a.dp,by lia,O,rfl⟩) λv2 v3 H1 s1 q2 X=>?_;exact jO (RC.use (K:=K) (js (jW (gU (R:=kT 8) (iK (aA (k:=0) (s1.dat m)) (gB (a8 (k:=1) (s1.ld q)) (iK (aA (k:=3) X) (gB (jW (iC aM)) dU)))) ⟨ps,t,b.2,rfl,a.os,N,a.ot,a.dp,by decide,a.sz,I⟩)) (jW (iC (aB aG aM))) (by show xs.length+1<=1000;lia)) λl ys Y z Z hy dy=>post l ys Y (s1.trans Z) hy (s1.free z) dy)
theorem HE (T:Txt P w K mg) (I:Ok P w base k T.Mz (Tj K Ge)) (J:Ok P w base k T.ML (Xs K yl)) (OD:Ok P w base k T.MX (lV K nQ)):Ok P w base (k+1) T.OC (lV K nQ):=by
 refine T.OC.f.ok ZC (λvs H Q E h=>?_) (λL A outer s H vs Q E z h=>?_)
 ·obtain ⟨as,es,B,⟨ps,t,b,xs,rfl,_⟩,_⟩:=h;exact B.length.symm
 have nd:=ZC.nd;obtain ⟨as,es,B,⟨ps,t,b,xs,rfl,m,M,N,O,rfl⟩,post⟩:=h;obtain ⟨S,U,rfl,q,u⟩:=yp B;have q:Dat K H (toD t) S:=q;have u:LD K H (ps.map VF) U:=u;refine ⟨_,(aE (bP (pc (D:=T.Mz) I z (aD (pv 0) aC)))
 (aE (bP (pc (D:=T.ML) J z (aD (pv 1) aC)))
 (aH (aP (pc (D:=T.MX) OD z (aD (pv 0) (aD (pv 1) aC))))))),?_⟩
 refine jf (RE.use (bM (R:=Ge) (d:=.SO) (aB (aA (K:=K) (k:=0) q) aM) ⟨toD t,rfl,F8 m.ot m.dp m.sz,rfl⟩) λv4 H1 s1 _=>?_);refine jf (RE.use (eF (R:=yl) (d:=.SO) (gB (a8 (K:=K) (k:=1) (s1.ld u)) dU) ⟨ps,rfl,m.gs,rfl⟩) λv5 H2 X _=>?_);have a:=s1.trans X;exact jO (RC.use (K:=K) (gU (R:=nQ) (iK (aA (k:=0) (a.dat q)) (gB (a8 (k:=1) (a.ld u)) dU)) ⟨ps,t,b,xs,rfl,m,M,N,O,rfl⟩) λl ys Y C Z hy dy=>post l ys Y (a.trans Z) hy (a.free C) dy)
noncomputable abbrev ZK:List Pc:=[⟨"inc",.two "add" (.hole 0) (.num 1),[.int 12,.int 1]⟩,⟨"both",.two "add" (.slot 0) (.slot 1),[.int 3,.tup [.str "arg",.int 0],.int 3,.tup [.str "arg",.int 1],.int 4]⟩,⟨"twofold",.two "mul" (.hole 0) (.num 2),[.int 13,.int 4]⟩,⟨"fewer",.two "sub" (.hole 0) (.gap 0 99),[.int 1,.tup [.str "low",.int 0],.int 5]⟩,⟨"addmul",.two "add" (.two "mul" (.hole 0) (.hole 1)) (.gap 0 99),[.int 6,.int 12,.tup [.str "low",.int 0]]⟩,⟨"turned",.two "less" (.gap 0 99) (.hole 0),[.int 1,.tup [.str "low",.int 0],.int 14,.int 7]⟩,⟨"far",.two "add" (.hole 0) (.gap 0 9999),[.int 2,.tup [.str "low",.int 0],.tup [.str "high",.int 0],.int 4]⟩,⟨"pair",.two "sub" (.gap 0 99) (.gap 1 99),[.int 1,.tup [.str "low",.int 0],.int 1,.tup [.str "low",.int 1],.int 5]⟩]
theorem JC:BP.map VF=BAS:=rfl
noncomputable abbrev YB:List Pc:=BP++ZK
structure gdP (p:Pc):Prop where
 ok:Fj p
 pc:rb (VF p)=some true/\p.nm.length<=sizeLine
 nl:UM (VF p)=true/\gT (VF p)<=19
 cl:wA p (cK p)
theorem Hm:∀ p ∈ YB,gdP p:=by intro p a;simp only [YB,BP,ZK,List.cons_append,Ri,PR,PB,Qa,Qz] at a;rcases a with rfl | rfl | rfl | rfl | rfl | rfl | rfl | rfl | rfl | rfl | rfl | rfl | rfl | rfl | rfl | rfl <;> exact ⟨⟨by decide +kernel,by simp [yL,ZS],by decide,by decide,rfl⟩,⟨by decide +kernel,by decide⟩,⟨by decide +kernel,by decide +kernel⟩,by kernel_rfl,λc b=>QH.mp (show List.all (cK _) (Hg _ _)=true by decide +kernel) c b⟩
theorem GG:(YB.map (·.nm)).Nodup:=by decide +kernel
structure gdS (ps:List Pc):Prop where
 gs:pL ps
 ok:lH ps
 la:Be ps
 hp:∀ p ∈ ps,fY p.pt=true/\p.nm≠"pick"
 bp:∀ p ∈ BP,p ∈ ps
theorem EY {sub:List Pc} (h:sub.Sublist ZK):gdS (BP++sub):=by have b:(BP++sub).Sublist YB:=(Sy BP).append h;have m:=(b.map (·.nm)).nodup GG;have q:sub.length<=8:=h.length_le;have g:∀ p ∈ BP++sub,gdP p:=λp a=>Hm p (b.subset a);exact ⟨⟨by rw [tB];show 1<=8+sub.length;lia,by rw [tB];show 8+sub.length<=16;lia,λp a=>(g p a).pc,m⟩,⟨λp a=>(g p a).ok,by rw [tB];show 8+sub.length<=100;lia⟩,⟨⟨m,λp a=>(g p a).nl⟩,λp a=>(g p a).cl⟩,λp a=>⟨(g p a).ok.nh,(g p a).ok.nm⟩,λp a=>Rm _ a⟩
noncomputable def GB (K:W.Frag):Sp:=λvs H Q _=>∃ (a t:Addr) (ns:List Int) (p q:Int) (rest:List V),vs=[.ref a,.ref t]/\Yw K H a ns/\H t=some (.lst (.int p::.int q::rest))/\0<=p /\
 ∀ (sub:List Pc) (l:Addr) (ys:List V) (b:Hp) (h q':Int),S6 t H b->b t=some (.lst (.int h::.int q'::rest))->0<=h->sub.Sublist ZK->H l=none->b l=some (.lst ys)->SI K b ((BP++sub).map VF) ys->Q (.ref l) b
theorem xy (T:Txt P w K mg) (NS:Ok P w base k T.KM (kL K λds es=>ds=[]/\es=LPD)) (Kr:Ok P w base k T.Ka (rN K)):Ok P w base (k+1) T.MJ (GB K):=by
 refine T.MJ.f.ok Xp (λvs H Q E h=>?_) (λcdv A outer s H vs Q E C h=>?_)
 ·obtain ⟨a,t,ns,p,q,rest,rfl,_⟩:=h;rfl
 have nd:=Xp.nd;obtain ⟨a,t,ns,p,q,rest,rfl,hS,hT,hp,post⟩:=h;refine ⟨_,(aE (jL (i:=2) (own:=["_law_piece"]) (fr:=[0,1]) (N':=["_law_piece","_law_script","_law_town"]) (gJ (xH NS C rfl T.KM.m T.KM.f.kp T.KM.b .nil gN)) rfl (by show dS ["_law_script","_law_town","_law_more"] (λx=>(aK mW).names.lookup x) _ _ _ _=true;decide +kernel) rfl (λ_ _ _ _ _=>(a7 (i:=0) (by show List.Nodup [("_law_piece":Str),("_law_script":Str),("_law_town":Str)];decide +kernel) rfl (Or.inl rfl))) (λ_ _ _ _ _=>(xJ (aN bV (pc (D:=T.Ka) Kr C (aD (pv 1) (aD (pv 2) (aD aF aC)))) aF (aT _)))) (λ_ _ _ _ _=>(pv 0)) nd rfl rfl rfl)
 (aH (aP (bL jr (bT (v:=.ref T.NF) rfl T.MW rfl) (pv 2))))),?_⟩
 refine fR (xQ (K:=K) (λr us I=>SJ H I/\H r=none/\SI K I LPD us) (λR hR=>⟨[],LPD,SI.nil,⟨rfl,rfl⟩,λr us I s1 C J hd=>hR r us I C ⟨s1,J,hd⟩⟩) rfl (λr us I l C hM hl=>?_));obtain ⟨s1,J,hd⟩:=hM;have L:=s1 _ _ hT;have nrt:r≠t:=PN (aU hT J);have M:l≠t:=PN (aU L hl);have nlr:r≠l:=aU C hl;have lu:=hd.length;have lu8:us.length=8:=by rw [<- lu];rfl
 refine ⟨
  (λi G=>∃ (sub:List Pc) (ys:List V) (p' q':Int),S6 t I G/\G t=some (.lst (.int p'::.int q'::rest))/\0<=p'/\sub.Sublist (ZK.take i)/\G l=some (.lst ys)/\SI K G (sub.map VF) ys/\sub.length<=i),?_,(λi G hi ⟨_,_,_,_,b,_⟩=>SR.of (b _ _ nrt C)),(λi G hi pn=>?_),(λG pn=>?_)⟩
 ·exact ⟨[],[],p,q,(aV hl _).but,by rw [aS (PN M)];exact L,hp,List.nil_sublist _,aI,SI.nil,Pu _⟩
 ·obtain ⟨sub,ys,p',q',N,tG,gp,u,O,dG,lsub⟩:=pn;have ly:=dG.length;rw [Pf] at ly;have gG:gA K I G:=N.grow L tG;have Zh:SI K G LPD us:=SI.mono gG _ hd;obtain ⟨dx,ex,hx⟩:=Zh.Wd (Pg hi);have z:(ZK.map VF)[i]?=some dx:=ex;rw [Pw] at z
  cases S:ZK[i]? with
  | none=>rw [S] at z;cases z
  | some pp =>
   rw [S] at z;cases z;have et:ZK.take (i+1)=ZK.take i++[pp]:=by rw [Qq,S];rfl
   have U:us.getD i .SO=us[i]:=by rw [PZ,Pg hi];rfl
   refine ⟨_,rfl,_,rfl,a,t,ns,2,p',q',rest,rfl,hS.but (s1.but.trans N) hT,tG,gp,by decide,by decide,λr3 G3 p3 q3 b3 t3 g3 r3a r3b=>?_⟩;refine ⟨rfl,_,rfl,?_⟩;have X:=b3 _ _ M O;have Y:gA K G G3:=b3.grow tG t3;refine sj (λc=>?_) (λc=>?_)
   ·refine ⟨_,rfl,ys,X,cM (by lia),⟨_,rfl⟩,?_⟩;rw [U];have b4:S6 l G3 (upd G3 l (.lst (ys++[us[i]]))):=S6.upd (SJ.refl _).but;have g4:gA K G3 (upd G3 l (.lst (ys++[us[i]]))):=b4.grow X aI;refine ⟨sub++[pp],ys++[us[i]],p3,q3,λb o nb hb=>b4 b o (aU hb hl) (b3 b o nb (N b o nb hb)),b4 _ _ (PN M) t3,g3,?_,aI,?_,?_⟩
    ·rw [et];exact u.append (Sy _)
    ·rw [P0];exact SI.append (SI.mono g4 _ (SI.mono Y _ dG)) (SI.cons (Dat.mono g4 _ (Dat.mono Y _ hx)) SI.nil)
    ·rw [tB];simp;lia
   ·refine ⟨⟨_,rfl⟩,sub,ys,p3,q3,N.trans b3,t3,g3,?_,X,SI.mono Y _ dG,by lia⟩;rw [et];exact u.trans (List.sublist_append_left _ _)
 ·obtain ⟨sub,ys,p',q',N,tG,gp,u,O,dG,lsub⟩:=pn;have hL:LD K G (sub.map VF) (.ref l):=LD.of O dG;have Z:sub.Sublist ZK:=u.trans (List.take_sublist _ _);refine jO (RC.use (K:=K) (js (Ij T.OA) (a8 (k:=2) hL) (by rw [Pf];show 8+sub.length<=1000;lia)) λlz zs G2 B s2 hzs dzs=>?_);refine post sub lz zs G2 p' q' ((s1.but.trans N).trans s2.but) (s2 _ _ tG) gp Z ?_ hzs ?_
  ·cases h:H lz with
   | none=>rfl
   | some o =>
    have h1:=s1 _ _ h;by_cases e:lz=t
    ·rw [e,tG] at B;cases B
    ·rw [N _ _ e h1] at B;cases B
  ·rw [P0,JC];exact dzs
noncomputable def two (o:Str) (x y b:Int):Int:=if o="less" then (if x < y then 1 else 0) else if o="add" then (x+y) % b else if o="sub" then (x - y) % b else x * y % b
theorem jR {x y b:Int} (a:2<=b):0<=two o x y b/\two o x y b < b:=by
 unfold two;split
 ·split <;> lia
 ·split
  ·exact ⟨Qp _ (by lia),Qj _ (by lia)⟩
  ·split
   ·exact ⟨Qp _ (by lia),Qj _ (by lia)⟩
   ·exact ⟨Qp _ (by lia),Qj _ (by lia)⟩
noncomputable def B9 (ds:List D) (d:D):Prop:=∃ s m,ds=[.int s,.int m]/\2<=s/\s<=m/\d=.SO
noncomputable def B1 (ds:List D) (d:D):Prop:=∃ (as:List Int) (s:Int),ds=[.tup (as.map D.int),.int s]/\as.length=4/\(∀ x ∈ as,0<=x/\x < s)/\d=.SO
noncomputable def Gc (ds:List D) (d:D):Prop:=∃ o x y b,ds=[.str o,.int x,.int y,.int b]/\2<=b/\b<=10000/\0<=x/\x < b/\0<=y/\y < b/\d=.int (two o x y b)
theorem Gh {K:W.Frag} {a b c:D} {vs:List V} (h:SI K H [a,b,c,e] vs):∃ u v w x,vs=[u,v,w,x]/\Dat K H a u/\Dat K H b v/\Dat K H c w/\Dat K H e x:=by obtain ⟨u,r,e,m,h⟩:=h.Tu;obtain ⟨v,w,x,q,s⟩:=sT h;subst q e;exact ⟨u,v,w,x,rfl,m,s⟩
theorem DP {K:W.Frag} {R:List D->D->Prop} (h:RA K tA σ H ds) (a:∀ H,SI K H es Wo) (e:R (ds++es) d):RE K (kr (Tj K R) Wo E tA) σ H d:=λb s Q q =>
 h b s _ λvs B m u=>⟨ds++es,d,SI.append u (a _),e,λv C z A=>q _ _ (m.trans z) A⟩
theorem vq (T:Txt P w K mg) (q:Ok P w base k T.JX (Tj K fW)):Te P w K mg base WI (k+1) T.LN T.LO ["size","most"] (Tj K B9):=by
 refine T.LQ.ok WO (λvs H Q E h=>?_) (λu A outer s H vs Q E z h=>?_)
 ·obtain ⟨ds,d,a,⟨s,m,rfl,_⟩,_⟩:=h;exact a.length.symm
 have M:=WO.nd;obtain ⟨ds,d,a,⟨s,m,rfl,B,C,rfl⟩,post⟩:=h;obtain ⟨N,O,rfl,I,J⟩:=i5 a;refine ⟨_,(aH (bE (cW (bR (pc (D:=T.JX) q z (aD (pv 0) (aD aF (aD (pv 1) aC)))) (λ_=>rfl))) (aH dF) aQ)),?_⟩;refine jk (b:=!dM (.int s) 2 m) (bZ (bO (bM (aB (aA I) (aB aG (aB (aA J) aM))) ⟨_,_,_,rfl,rfl⟩))) (λc L s1=>?_) (λc L s1=>?_)
 ·simp [dM,B,C] at c
 ·exact post _ _ s1 Dat.X7
theorem vn (T:Txt P w K mg) (L:Ok P w base k T.JX (Tj K fW)):Ok P w base (k+1) T.Mx (Tj K B1):=by
 refine T.Mx.f.ok WQ (λvs H Q E h=>?_) (λM A outer s H vs Q E N h=>?_)
 ·obtain ⟨ds,d,u,⟨as,s,rfl,_⟩,_⟩:=h;exact u.length.symm
 have Z:=WQ.nd;obtain ⟨ds,d,u,⟨as,s,rfl,O,S,rfl⟩,post⟩:=h;obtain ⟨v0,v1,rfl,z,U⟩:=i5 u;refine ⟨_,(aE (bE (PW.pt (fH (cW (bR (aX (gC ng) rfl T.J6 cY (dE (pv 0) (dE (iB (v:=.ty "tuple") rfl T.KN fP rfl) aC))) (λ_=>rfl))) (eR (aN lI (aX aW rfl T.J0 bU (aD (pv 0) aC)) (bT (v:=.int 4) rfl T.Lg ⟨_,rfl⟩) (aT _))))) (aH dF) aQ)
 (aH (bE (cW (bR (aX (jC rfl) rfl T.Ny mN (aD (eV (own:=["number"]) (fr:=[1]) (N':=["number","size"]) (kE (pv 0)) rfl (by show dS ["args","size"] (λx=>(aK lS).names.lookup x) _ _ _ _=true;decide +kernel) rfl (λ_ _ _ _ _=>(a7 (i:=0) (by show List.Nodup [("number":Str),("size":Str)];decide +kernel) rfl (Or.inl rfl))) (λ_ _ _ _ _=>c7) (λ_ _ _ _ _=>(pc (D:=T.JX) L N (aD (pv 0) (aD aF (aD (bL oy (pv 1) aF) aC)))))) aC)) (λ_=>rfl))) (aH dF) aQ))),?_⟩
 refine aR (K:=K) (b:=false) ?_ (λc=>nomatch c) (λ_ H1 s1=>?_)
 ·refine RT.as (dP (bZ (bO (dC (aA z)))) λ_=>aJ (kI (fL (aA z)) aG)) ?_;rw [Pf,O];rfl
 have B:=s1.dat z;have C:=s1.dat U;refine jk (b:=!(as.map λ_=>true).all id) (bZ (bO (zj (aA B) (by rw [Pf];lia) (as.map λ_=>true) (by simp) rfl (λJ i c v b q a m X=>?_)))) (λc J q=>?_) (λc J q=>?_)
 ·rw [Pw] at a m
  cases I:as[i]? with
  | none=>rw [I] at a;cases a
  | some x =>
   rw [I] at a m;cases a;cases m;have m:=S x (PM I);refine RE.as (bM (R:=fW) (aB (aA X) (aB aG (aB (vN (aA (q.dat C)) aG) aM))) ⟨_,_,_,rfl,rfl⟩) ?_;have Y:x<=s - 1:=by lia
   simp [dM,m.1,Y]
 ·simp at c
 ·exact post _ _ (s1.trans q) Dat.X7
theorem oq (T:Txt P w K mg)  : Ok P w base (k+1) T.Ld (Tj K Gc):=by
 refine T.Ld.f.ok Vn (λvs H Q E h=>?_) (λO A outer s H vs Q E hr h=>?_)
 ·obtain ⟨ds,d,J,⟨o,x,y,b,rfl,_⟩,_⟩:=h;exact J.length.symm
 have nd:=Vn.nd;obtain ⟨ds,d,J,⟨o,x,y,b,rfl,hb,R,hx,S,hy,U,rfl⟩,post⟩:=h;obtain ⟨v0,v1,v2,v3,rfl,B,u,z,C⟩:=Gh J;refine ⟨_,(aE (bE (aN bV (pv 0) aO (aT _)) (aH (aP (fG (aN km (pv 1) (pv 2) (aT _)) aF aF))) aQ)
 (aE (bE (aN bV (pv 0) aO (aT _)) (aH (aP (bL eZ (bL cJ (pv 1) (pv 2)) (pv 3)))) aQ)
 (aE (bE (aN bV (pv 0) aO (aT _)) (aH (aP (bL eZ (bL oy (pv 1) (pv 2)) (pv 3)))) aQ)
 (aH (aP (bL eZ (bL ow (pv 1) (pv 2)) (pv 3))))))),?_⟩
 refine aR (K:=K) (b:=decide (o="less")) (aJ (bI (aA B) aL)) (λc X s1=>?_) (λc X s1=>?_)
 ·refine bJ (K:=K) (d:=.int (two o x y b)) ?_ λv I s q=>post v I (s1.trans s) q;have e:two o x y b=if x < y then 1 else 0:=by unfold two;rw [Pk (Pq c)]
  rw [e];refine mC (b:=decide (x < y)) (aJ (cQ (p:=λi j=>decide (i < j)) (aA (s1.dat u)) (aA (s1.dat z)))) (λL=>?_) (λL=>?_)
  ·rw [Pk (Pq L)];exact aG
  ·rw [M1 (Px L)];exact aG
 have B:=s1.dat B;have u:=s1.dat u;have z:=s1.dat z;have C:=s1.dat C;have M:=Px c;refine aR (K:=K) (b:=decide (o="add")) (aJ (bI (aA B) aL)) (λc Y a=>?_) (λc Y a=>?_)
 ·refine bJ (K:=K) (d:=.int (two o x y b)) ?_ λv I s q=>post v I (s1.trans (a.trans s)) q;have e:two o x y b=(x+y) % b:=by unfold two;rw [M1 M,Pk (Pq c)]
  rw [e];exact jN (c8 (aA (a.dat u)) (aA (a.dat z))) (aA (a.dat C)) (by lia)
 have B:=a.dat B;have u:=a.dat u;have z:=a.dat z;have C:=a.dat C;have N:=Px c;refine aR (K:=K) (b:=decide (o="sub")) (aJ (bI (aA B) aL)) (λc Z m=>?_) (λc Z m=>?_)
 ·refine bJ (K:=K) (d:=.int (two o x y b)) ?_ λv I s q=>post v I (s1.trans (a.trans (m.trans s))) q;have e:two o x y b=(x - y) % b:=by unfold two;rw [M1 M,M1 N,Pk (Pq c)]
  rw [e];exact jN (vN (aA (m.dat u)) (aA (m.dat z))) (aA (m.dat C)) (by lia)
 have n3:=Px c;refine bJ (K:=K) (d:=.int (two o x y b)) ?_ λv I s q=>post v I (s1.trans (a.trans (m.trans s))) q;have e:two o x y b=x * y % b:=by unfold two;rw [M1 M,M1 N,M1 n3]
 rw [e];exact jN (vK (aA (m.dat u)) (aA (m.dat z)) (.inr ⟨by lia,by lia⟩)) (aA (m.dat C)) (by lia)
noncomputable def zO (d:D):Bool:=dM d 0 99
noncomputable def oS (ds:List D):Bool:=(decide (1<=(ds.length:Int)) && decide ((ds.length:Int)<=1000)) && (ds.map zO).all id
noncomputable def wB (as:List Ar) (d:D):Prop:=∃ ds,as=[.l ds]/\ds.length<=1000/\d=.bl (oS ds)
theorem yO (T:Txt P w K mg) (C:Ok P w base k T.JX (Tj K fW)):Ok P w base (k+1) T.L9 (Xs K wB):=by
 refine T.L9.f.ok XN (λvs H Q E h=>?_) (λI A outer s H vs Q E J h=>?_)
 ·obtain ⟨as,d,a,⟨ds,rfl,_⟩,_⟩:=h;exact a.length.symm
 have U:=XN.nd;obtain ⟨as,d,a,⟨ds,rfl,L,rfl⟩,post⟩:=h;obtain ⟨M,rfl,m⟩:=AS a;have m:LD K H ds M:=m;refine ⟨_,(aE (bE (PW.pt (fH (cW (bR (aX (gC Af) rfl T.J6 cY (dE (pv 0) (dE (iB (v:=.ty "list") rfl T.NL pK rfl) aC))) (λ_=>rfl))) (eR (cW (nE jV jV aF (aX aW rfl T.J0 bU (aD (pv 0) aC)) (bT (v:=.int 1000) rfl T.K3 ⟨_,rfl⟩)))))) (aH (aP d8)) aQ)
 (aH (aP (aX (jC rfl) rfl T.Ny mN (aD (eV (own:=["cell"]) (fr:=[]) (N':=["cell"]) (gJ (pv 0)) rfl (by show dS ["thing"] (λx=>(aK oF).names.lookup x) _ _ _ _=true;decide +kernel) rfl (λ_ _ _ _ _=>(a7 (i:=0) (by show List.Nodup [("cell":Str)];decide +kernel) rfl (Or.inl rfl))) (λ_ _ _ _ _=>c7) (λ_ _ _ _ _=>(pc (D:=T.JX) C J (aD (pv 0) (aD aF (aD (bT (v:=.int 99) rfl T.KG ⟨_,rfl⟩) aC)))))) aC))))),?_⟩
 refine aR (K:=K) (b:=!(decide (1<=(ds.length:Int)) && decide ((ds.length:Int)<=1000))) ?_ (λc N s1=>?_) (λc N s1=>?_)
 ·exact RT.as (dP (b:=false) (RT.as (bZ (bO (dC (aA m.lst)))) rfl) λ_=>bZ (aJ (lK (p:=λi j=>decide (i<=j)) (r:=λi j=>decide (i<=j)) aG (eA (a8 m)) λ_=>aG))) (QE _)
 ·refine bJ (K:=K) (d:=.bl false) f7 λv B u q=>post v B (s1.trans u) ?_
  have e:oS ds=false:=by unfold oS;have z:(decide (1<=(ds.length:Int)) && decide ((ds.length:Int)<=1000))=false:=(Sz _).mp c;rw [z];rfl
  rw [e];exact q
 ·have z:(decide (1<=(ds.length:Int)) && decide ((ds.length:Int)<=1000))=true:=(RU _).mp c;have e:oS ds=(ds.map zO).all id:=by unfold oS;rw [z];rfl
  rw [e] at post;refine bJ (K:=K) (d:=.bl ((ds.map zO).all id)) (me (bs:=ds.map zO) (jM (a8 (s1.ld m)) L _ (by simp) rfl (λG j x v d u O a S=>?_))) λv B u q=>post v B (s1.trans u) q;rw [Pw,Pw,O] at a;cases a;exact bM (R:=fW) (aB (aA (k:=0) S) (aB aG (aB aG aM))) ⟨x,0,99,rfl,rfl⟩
noncomputable def pY (as:List Ar) (d:D):Prop:=∃ ds,as=[.l ds]/\ds.length<=1000/\oS ds=true/\d=.SO
theorem vp (T:Txt P w K mg) (q:Ok P w base k T.L9 (Xs K wB)):Ok P w base (k+1) T.Lo (Xs K pY):=by
 refine T.Lo.f.ok WR (λvs H Q E h=>?_) (λu A outer s H vs Q E z h=>?_)
 ·obtain ⟨as,d,a,⟨ds,rfl,_⟩,_⟩:=h;exact a.length.symm
 have L:=WR.nd;obtain ⟨as,d,a,⟨ds,rfl,B,C,rfl⟩,post⟩:=h;obtain ⟨I,rfl,m⟩:=AS a;have m:LD K H ds I:=m;refine ⟨_,(aH (bE (cW (bR (pc (D:=T.L9) q z (aD (pv 0) aC)) (λ_=>rfl))) (aH dF) aQ)),?_⟩;exact jk (b:=false) (RT.as (bZ (bO (eF (K:=K) (R:=wB) (gB (a8 m) dU) ⟨ds,rfl,B,rfl⟩))) (by rw [C];rfl)) (λc=>nomatch c) (λ_ J s1=>post _ J s1 Dat.X7)
noncomputable abbrev NM:List Str:=["end","put","far","load","add","sub","mul","less","skip","jump","zero","none","more","twice","about","call","back"]
noncomputable def cG (i:Int):Nat:=if i ∈ ([2,9,11,15]:List Int) then 2 else if i ∈ ([1,3,8,10,12]:List Int) then 1 else 0
structure okC (cs:List Int):Prop where
 l0:1<=cs.length
 l1:cs.length<=900
 c:∀ (i:Nat) (c:Int),cs[i]?=some c->0<=c/\c<=99
noncomputable abbrev cD (cs:List Int):List D:=cs.map D.int
noncomputable def kS (cs:List Int) (p m:Nat):List D:=((cD cs).drop (p+1)).take m
noncomputable def Vh (c:Int):Str:=NM.getD c.toNat ""
noncomputable def zr (cs:List Int) (p:Nat) (c:Int):D:=.tup [.int p,.str (Vh c),.tup (kS cs p (cG c))]
noncomputable def jn (cs:List Int) (p:Nat) (c:Int):Bool:=decide (16 < c) || decide (cs.length<=p+cG c)
noncomputable def iI (cs:List Int):Nat->Nat->List D × Option Nat
 | 0,_=>([],none)
 | n+1,p=>match cs[p]? with
  | none=>([],none)
  | some c=>if jn cs p c=true then ([],some p) else (zr cs p c::(iI cs n (p+1+cG c)).1,(iI cs n (p+1+cG c)).2)
theorem E5:∀ i:Nat,i < 17->INS[i]?=some (.tup [.str (NM.getD i ""),.int ((cG i:Nat):Int)]):=by
 intro i hi
 match i,hi with
 | 0,_=>rfl
 | 1,_=>rfl
 | 2,_=>rfl
 | 3,_=>rfl
 | 4,_=>rfl
 | 5,_=>rfl
 | 6,_=>rfl
 | 7,_=>rfl
 | 8,_=>rfl
 | 9,_=>rfl
 | 10,_=>rfl
 | 11,_=>rfl
 | 12,_=>rfl
 | 13,_=>rfl
 | 14,_=>rfl
 | 15,_=>rfl
 | 16,_=>rfl
 | n+17,h=>lia
theorem Hr:∀ i:Nat,i < 17->NM[i]?=some (NM.getD i ""):=by
 intro i hi
 match i,hi with
 | 0,_=>rfl
 | 1,_=>rfl
 | 2,_=>rfl
 | 3,_=>rfl
 | 4,_=>rfl
 | 5,_=>rfl
 | 6,_=>rfl
 | 7,_=>rfl
 | 8,_=>rfl
 | 9,_=>rfl
 | 10,_=>rfl
 | 11,_=>rfl
 | 12,_=>rfl
 | 13,_=>rfl
 | 14,_=>rfl
 | 15,_=>rfl
 | 16,_=>rfl
 | n+17,h=>lia
theorem EH (c:Int):cG c<=2:=by
 unfold cG;split
 ·exact Pu _
 ·split <;> lia
variable {cs:List Int}
theorem Gg (h:cs[p]?=some c):(cD cs)[p]?=some (.int c):=by rw [Pw,h];rfl
theorem qc {m:Nat}:(kS cs p m).length=min m (cs.length - (p+1)):=by unfold kS;rw [Qh,Q7,Pf]
theorem wJ (h:jn cs p c=false):c<=16/\p+cG c < cs.length:=by unfold jn at h;rw [QI] at h;have a:=Px h.1;have b:=Px h.2;lia
noncomputable def wC (as:List Ar) (d:D):Prop:=∃ (cs:List Int) (p:Nat) (c:Int),as=[.l (cD cs),.d (.int p)]/\okC cs/\cs[p]?=some c/\jn cs p c=false/\d=.tup [.str (Vh c),.tup (kS cs p (cG c))]
noncomputable def wI (cs:List Int) (p:Nat):Bool:=match cs[p]? with
 | none=>true
 | some c=>jn cs p c
theorem mS (T:Txt P w K mg)  : Ok P w base (k+1) T.JY (Xs K wC):=by
 refine T.JY.f.ok Tv (λvs H Q E h=>?_) (λR A outer s H vs Q E hr h=>?_)
 ·obtain ⟨as,d,z,⟨cs,p,c,rfl,_⟩,_⟩:=h;exact z.length.symm
 have B:=Tv.nd;obtain ⟨as,d,z,⟨cs,p,c,rfl,ok,C,S,rfl⟩,post⟩:=h;obtain ⟨U,X,rfl,m,a⟩:=yp z;have m:LD K H (cD cs) U:=m;have a:Dat K H (.int (p:Int)) X:=a;obtain rfl:=a.SQ;have hp:p < cs.length:=(P5.mp C).1;obtain ⟨c0,Y⟩:=ok.c p c C;have M:c=((c.toNat:Nat):Int):=by lia
 have u:=Gg C;refine ⟨_,(aE (bE (PW.pt (fH (aN tH (pv 1) (aX aW rfl T.J0 bU (aD (pv 0) aC)) (aT _)) (eR (aN tH (aY bX (pv 0) (pv 1)) (aX aW rfl T.J0 bU (aD (bT (v:=.ref T.Kj) rfl T.J7 rfl) aC)) (aT _))))) (aH dF) aQ)
 (aE (gH (aY aZ (bT (v:=.ref T.Kj) rfl T.J7 rfl) (aY bX (pv 0) (pv 1))) (gF rfl (bN (a7 (i:=2) B rfl (Or.inl rfl)) (bN (a7 (i:=3) B rfl (Or.inl rfl)) eH))))
 (aE (bQ (i:=4) B rfl (Or.inl rfl) (eP dY rfl T.KN fP (aD (jJ AJ (pv 0) (iY (bL cJ (pv 1) aF)) (iY (bL cJ (bL cJ (pv 1) aF) (pv 3)))) aC)))
 (aE (bE (aN km (aX aW rfl T.J0 bU (aD (pv 4) aC)) (pv 3) (aT _)) (aH dF) aQ)
 (aH (aP (bA (aD (pv 2) (aD (pv 4) aC))))))))),?_⟩
 obtain ⟨Z,hlt⟩:=wJ S;have lb:(kS cs p (cG c)).length=cG c:=by rw [qc];lia
 refine aR (K:=K) (b:=false) (RT.as (dP (b:=false) (c:=false) (RT.as (aJ (cQ (p:=λi j=>decide (j<=i)) (aA a) (eA (a8 m)))) (Po (by rw [Pf];lia))) λ_=>RT.as (aJ (cQ (p:=λi j=>decide (j<=i)) (iD (k:=p) (a8 m) (aA a) u) (fL (lN T.KS)))) (Po (by show ¬ (17:Int)<=c;lia))) rfl) (λc=>nomatch c) (λ_ H1 s1=>?_);have m:=s1.ld m;have a:=s1.dat a;have hi:=E5 c.toNat (by lia);rw [<- M] at hi;refine jX (K:=K) (d:=.str (Vh c)) (e:=.int (cG c)) (a6 (k:=c.toNat) (lN T.KS) (RE.as (iD (k:=p) (a8 m) (aA a) u) (P1 D.int M)) hi) λv2 v3 H2 I h2 N=>?_;have m:=I.ld m;have a:=I.dat a;have el:(p:Int)+1=((p+1:Nat):Int):=by lia
 have eh:(p:Int)+1+(cG c:Int)=((p+1+cG c:Nat):Int):=by lia
 refine eJ (K:=K) (d:=.tup (kS cs p (cG c))) (RE.as (tO (AD (lo:=p+1) (hi:=p+1+cG c) (a8 m) (RE.as (c8 (aA a) aG) (P1 D.int el)) (RE.as (c8 (c8 (aA a) aG) (aA N)) (P1 D.int eh)))) (by unfold kS;rw [show p+1+cG c - (p+1)=cG c by lia])) λv4 H3 J O=>?_;refine aR (K:=K) (b:=false) (RT.as (aJ (cQ (p:=λi j=>decide (i < j)) (fL (aA O)) (aA (J.dat N)))) (Po (by rw [lb];lia))) (λc=>nomatch c) (λ_ H4 L=>?_);exact bJ (K:=K) (d:=.tup [.str (Vh c),.tup (kS cs p (cG c))]) (bF (aB (aA (L.dat (J.dat h2))) (aB (aA (L.dat O)) aM))) λv H' s q=>post v H' (s1.trans (I.trans (J.trans (L.trans s)))) q
noncomputable def iJ (ns:List Int):Int:=ns.foldr (λc a=>a * 100+c) 0
noncomputable def B8 (ds:List D) (d:D):Prop:=∃ ns:List Int,ds=[.tup (ns.map D.int)]/\ns.length<=2/\(∀ n ∈ ns,0<=n/\n<=99)/\d=.int (iJ ns)
theorem Dk:ns.length<=2->(∀ n ∈ ns,0<=n/\n<=99)->0<=iJ ns/\iJ ns<=9999:=by
 intro m h
 match ns,m with
 | [],_=>exact ⟨RP _,by decide⟩
 | [a],_ =>have q:=h a (by simp);show 0<=(0:Int) * 100+a/\(0:Int) * 100+a<=9999;lia
 | [a,b],_ =>have q:=h a (by simp);have s:=h b (by simp);show 0<=((0:Int) * 100+b) * 100+a/\((0:Int) * 100+b) * 100+a<=9999;lia
theorem qY (T:Txt P w K mg)  : Ok P w base (k+1) T.LL (Tj K B8):=by
 refine T.LL.f.ok V4 (λvs H Q E h=>?_) (λN A outer s H vs Q E hr h=>?_)
 ·obtain ⟨ds,d,q,⟨ns,rfl,_⟩,_⟩:=h;exact q.length.symm
 have u:=V4.nd;obtain ⟨ds,d,q,⟨ns,rfl,l2,C,rfl⟩,post⟩:=h;obtain ⟨v0,rfl,O⟩:=ji q;refine ⟨_,(aE (bQ (i:=1) u rfl (Or.inl rfl) aF)
 (aE (jK Qv rfl (Fx rfl T.Ng (aD (pv 0) aC)) (a7 (i:=2) u rfl (Or.inl rfl)) (aH (bQ (i:=1) u rfl (Or.inl rfl) (bL cJ (bL ow (pv 1) aF) (pv 2)))))
 (aH (aP (pv 1))))),?_⟩
 refine eJ (K:=K) (d:=.int 0) aG λv1 R s1 S=>?_;obtain rfl:=S.SQ;obtain ⟨a,vs,rfl,I,b⟩:=(s1.dat O).S9;have U:=qm b;have J:=b.length;rw [Pf] at J;refine eB ⟨_,rfl,a,vs,rfl,I,CC (K:=K) (a:=a) (xs:=vs) (λi σ G=>∃ z:Option V,σ=[some (.ref a),some (.int (iJ (ns.drop (ns.length - i)))),z]/\SJ R G) ?_ ?_ ?_ ?_⟩
 ·refine ⟨none,?_,SJ.refl _⟩;rw [Nat.sub_zero,List.drop_length];rfl
 ·rintro i σ G hi ⟨z,rfl,m⟩;exact m.YD I
 ·rintro i x σ G hi L ⟨z,rfl,m⟩;refine kJ ?_;dsimp only;rw [U,Pw,Pf] at L;obtain ⟨c,B,rfl⟩:=PX.mp L;have X:=C c (PM B);have nb:=Dk (ns:=ns.drop (ns.length - i)) (by rw [Q7];lia) (λn Y=>C n (List.mem_of_mem_drop Y))
  have e:ns.drop (ns.length - (i+1))=c::ns.drop (ns.length - i):=by
   have M:ns.length - (i+1) < ns.length:=by lia
   rw [List.drop_eq_getElem_cons M];have Z:ns.length - (i+1)+1=ns.length - i:=by lia
   rw [Z];congr 1;have h3:ns.length - 1 - i=ns.length - (i+1):=by lia
   rw [h3,Pg M] at B;exact Qg B
  refine Ik (K:=K) (d:=.int (iJ (ns.drop (ns.length - i)) * 100+c)) (c8 (vK (aA (k:=1) (Dat.SN _)) aG (.inr ⟨by lia,by lia⟩)) (aA (k:=2) (Dat.SN c))) λv H' s d=>⟨some (.int c),?_,m.trans s⟩
  rw [e,d.SQ];rfl
 ·rintro σ G ⟨z,rfl,m⟩;have e:ns.drop (ns.length - vs.length)=ns:=by rw [<- J,SH];rfl
  rw [e];exact ⟨_,rfl,post _ _ (s1.trans m) (Dat.SN _)⟩
structure MS where
 pile:List Int
 place:Nat
 kept:List Nat
 ended:Bool
structure MC where
 cs:List Int
 as:List Int
 b:Int
structure qS (mc:MC):Prop where
 cs:okC mc.cs
 as:mc.as.length=4
 ai:∀ x ∈ mc.as,0<=x/\x < mc.b
 b2:2<=mc.b
 b9:mc.b<=10000
structure j6 (mc:MC) (st:MS):Prop where
 p:∀ x ∈ st.pile,0<=x/\x < mc.b
 l:st.pile.length<=64
 k:st.kept.length<=16
noncomputable def eG (st:MS):Option (Int × MS):=match st.pile with
 | []=>none
 | x::r=>some (x,{ st with pile:=r })
noncomputable def cI (mc:MC) (n:Int) (st:MS):Option MS:=if st.pile.length=64 then none else some { st with pile:=(n % mc.b)::st.pile }
noncomputable def jS (nm:Str) (num on:Nat) (st:MS):Option (Nat × MS) :=
 if nm ∈ (["skip","jump"]:List Str) then some (on+num,st)
 else if nm ∈ (["zero","none"]:List Str) then (eG st).map λp=>(if p.1=0 then on+num else on,p.2)
 else if nm="call" then (if st.kept.length=16 then none else some (num,{ st with kept:=on::st.kept }))
 else match st.kept with
  | []=>none
  | k::r=>some (k,{ st with kept:=r })
noncomputable def jq (st:MS):Option MS:=if st.pile.length=1 then some { st with ended:=true } else none
noncomputable def cR (mc:MC) (nm:Str) (num:Nat) (st:MS):Option MS :=
 if nm ∈ (["put","far"]:List Str) then cI mc num st
 else if nm="load" then cI mc (mc.as.getD num 0) st
 else (eG st).bind λu =>
  if nm="more" then cI mc (u.1+num) u.2
  else if nm="twice" then (cI mc u.1 u.2).bind λs=>cI mc u.1 s
  else if nm="about" then (eG u.2).bind λl=>(cI mc u.1 l.2).bind λs=>cI mc l.1 s
  else (eG u.2).bind λl=>cI mc (two nm l.1 u.1 mc.b) l.2
structure MA where
 m:Addr
 dx:Addr
 lp:Addr
 lk:Addr
 lc:Addr
 vg:V
noncomputable def mF (A:MA) (mc:MC) (st:MS):List (Str × V):=[("cells",.ref A.lc),("given",A.vg),("size",.int mc.b),("pile",.ref A.lp),("place",.int st.place),("kept",.ref A.lk),("ended",.bl st.ended)]
noncomputable def pV (l:List Int):List V:=l.reverse.map V.int
noncomputable def XY (l:List Nat):List V:=l.reverse.map λ(n:Nat)=>V.int n
theorem gI (x:Int) (l:List Int):pV (x::l)=pV l++[.int x]:=by unfold pV;rw [RD,P0];rfl
theorem nj (x:Nat) (l:List Nat):XY (x::l)=XY l++[.int x]:=by unfold XY;rw [RD,P0];rfl
theorem vD (l:List Int):(pV l).length=l.length:=by unfold pV;rw [Pf,Ql]
theorem Ak (l:List Nat):(XY l).length=l.length:=by unfold XY;rw [Pf,Ql]
structure SX (K:W.Frag) (C:Addr) (A:MA) (mc:MC) (st:MS) (H:Hp):Prop where
 ins:H A.m=some (.ins C A.dx (mF A mc st))
 cells:H A.lc=some (.lst (mc.cs.map V.int))
 given:Dat K H (.tup (mc.as.map D.int)) A.vg
 pile:H A.lp=some (.lst (pV st.pile))
 kept:H A.lk=some (.lst (XY st.kept))
 ne:A.lp≠A.lk
 c1:A.lc≠A.lp
 c2:A.lc≠A.lk
noncomputable def UP (A:MA) (H a:Hp):Prop:=∀ x o,x≠A.m->x≠A.lp->x≠A.lk->H x=some o->a x=some o
variable {A:MA} {H1 H2:Hp}
theorem UP.trans (a:UP A H H1) (b:UP A H1 H2):UP A H H2:=λx o h m q e=>b x o h m q (a x o h m q e)
variable {H':Hp}
theorem jh (s:SJ H H'):UP A H H':=λx o _ _ _ e=>s x o e
theorem UP.lp {o:HO}:UP A H (upd H A.lp o):=λx u _ n _ e=>by rw [aS n];exact e
theorem UP.lk {o:HO}:UP A H (upd H A.lk o):=λx u _ _ n e=>by rw [aS n];exact e
theorem UP.m {o:HO}:UP A H (upd H A.m o):=λx u n _ _ e=>by rw [aS n];exact e
section
variable {C:Addr} {A:MA} {mc:MC} {st:MS} {H H':Hp}
theorem SX.same (M:SX K C A mc st H) (s:SJ H H'):SX K C A mc st H':=⟨s _ _ M.ins,s _ _ M.cells,s.dat M.given,s _ _ M.pile,s _ _ M.kept,M.ne,M.c1,M.c2⟩
theorem SX.np (M:SX K C A mc st H):A.m≠A.lp:=λz=>by have:=M.ins;rw [z,M.pile] at this;cases this
theorem SX.nk (M:SX K C A mc st H):A.m≠A.lk:=λz=>by have:=M.ins;rw [z,M.kept] at this;cases this
theorem qD {b:Addr} {o B:HO} (h:H b=some o) (s:(∃ xs,o=.lst xs)\/∃ C I fs,o=.ins C I fs) (J:∀ xs,o=.lst xs->∃ ys,B=.lst ys):gA K H (upd H b B):=by
 refine ⟨λa xs q=>?_,λa xs q=>?_⟩
 ·rcases q with (q | ⟨u,q⟩) | q
  ·refine .inl (.inl ?_);rw [aS (λz=>?_)]
   ·exact q
   ·rw [z,h] at q;rcases s with ⟨_,rfl⟩ | ⟨_,_,_,rfl⟩ <;> cases q
  ·refine .inl (.inr ⟨u,?_⟩);rw [aS (λz=>?_)]
   ·exact q
   ·rw [z,h] at q;rcases s with ⟨_,rfl⟩ | ⟨_,_,_,rfl⟩ <;> cases q
  ·exact .inr q
 ·by_cases m:a=b
  ·subst m;rcases q with (q | ⟨u,q⟩) | q
   ·rw [h] at q;cases q;obtain ⟨ys,rfl⟩:=J _ rfl;exact ⟨ys,SR.of aI⟩
   ·rw [h] at q;rcases s with ⟨_,rfl⟩ | ⟨_,_,_,rfl⟩ <;> cases q
   ·exact ⟨xs,.inr q⟩
  ·rcases q with (q | ⟨u,q⟩) | q
   ·exact ⟨xs,.inl (.inl (by rw [aS m];exact q))⟩
   ·exact ⟨xs,.inl (.inr ⟨u,by rw [aS m];exact q⟩)⟩
   ·exact ⟨xs,.inr q⟩
theorem SX.Zd (M:SX K C A mc st H) (r:List Int):SX K C A mc { st with pile:=r } (upd H A.lp (.lst (pV r))) :=
 ⟨by rw [aS M.np];exact M.ins,by rw [aS M.c1];exact M.cells,Dat.mono (qD M.pile (.inl ⟨_,rfl⟩) λ_ _=>⟨_,rfl⟩) _ M.given,aI,by rw [aS (PN M.ne)];exact M.kept,M.ne,M.c1,M.c2⟩
theorem SX.Ze (M:SX K C A mc st H) (r:List Nat):SX K C A mc { st with kept:=r } (upd H A.lk (.lst (XY r))) :=
 ⟨by rw [aS M.nk];exact M.ins,by rw [aS M.c2];exact M.cells,Dat.mono (qD M.kept (.inl ⟨_,rfl⟩) λ_ _=>⟨_,rfl⟩) _ M.given,by rw [aS M.ne];exact M.pile,aI,M.ne,M.c1,M.c2⟩
theorem SX.nc (M:SX K C A mc st H):A.m≠A.lc:=λz=>by have:=M.ins;rw [z,M.cells] at this;cases this
theorem SX.setM (M:SX K C A mc st H) {a:MS} {fs:List (Str × V)} (e:fs=mF A mc a) (b:a.pile=st.pile) (hk:a.kept=st.kept):SX K C A mc a (upd H A.m (.ins C A.dx fs)):=by subst e;exact ⟨aI,by rw [aS (PN M.nc)];exact M.cells,Dat.mono (qD M.ins (.inr ⟨_,_,_,rfl⟩) λ_ z=>by cases z) _ M.given,by rw [aS (PN M.np),b];exact M.pile,by rw [aS (PN M.nk),hk];exact M.kept,M.ne,M.c1,M.c2⟩
theorem oz (p:Nat):kG "place" (.int p) (mF A mc st)=mF A mc { st with place:=p }:=by kernel_rfl
theorem BB (b:Bool):kG "ended" (.bl b) (mF A mc st)=mF A mc { st with ended:=b }:=by kernel_rfl
variable {i:Nat} {f:Str} {σ:L2.St}
theorem jE {v:V} {Q:VK} (M:SX K C A mc st H) (c:X5 K C) (n:S4 K C f) (q:Q v H) (l:(mF A mc st).lookup f=some v:=by kernel_rfl) (e:σ[i]?=some (some (.ref A.m)):=by rfl):pI K (fT i) f σ H Q :=
 ⟨_,e,A.m,C,A.dx,_,v,rfl,M.ins,c,n,l,q⟩
theorem vJ {z:Int} (M:SX K C A mc st H) (c:X5 K C) (n:S4 K C f) (l:(mF A mc st).lookup f=some (.int z):=by kernel_rfl) (e:σ[i]?=some (some (.ref A.m)):=by rfl):RE K (pI K (fT i) f) σ H (.int z) :=
 λ_ s _ q=>jE (M.same s) c n (q _ _ (SJ.refl _) (Dat.SN z)) l e
theorem vQ (M:SX K C A mc st H) (c:X5 K C) (n:S4 K C "pile") (e:σ[i]?=some (some (.ref A.m)):=by rfl):RL K (pI K (fT i) "pile") σ H (st.pile.reverse.map D.int) :=
 λ_ s _ q=>jE (M.same s) c n (q _ _ (SJ.refl _) (LD.of (M.same s).pile (dN _))) (by kernel_rfl) e
theorem FS (M:SX K C A mc st H) (c:X5 K C) (n:S4 K C "cells") (e:σ[i]?=some (some (.ref A.m)):=by rfl):RL K (pI K (fT i) "cells") σ H (cD mc.cs) :=
 λ_ s _ q=>jE (M.same s) c n (q _ _ (SJ.refl _) (LD.of (M.same s).cells (dN _))) (by kernel_rfl) e
theorem uQ (l:List Nat):XY l=(l.reverse.map λ(n:Nat)=>(n:Int)).map V.int:=by unfold XY;rw [Rc];rfl
theorem FT (M:SX K C A mc st H) (c:X5 K C) (n:S4 K C "kept") (e:σ[i]?=some (some (.ref A.m)):=by rfl):RL K (pI K (fT i) "kept") σ H ((st.kept.reverse.map λ(n:Nat)=>(n:Int)).map D.int) :=
 λ_ s _ q=>jE (M.same s) c n (q _ _ (SJ.refl _) (LD.of ((M.same s).kept.trans (by rw [uQ])) (dN _))) (by kernel_rfl) e
theorem FI (M:SX K C A mc st H) (c:X5 K C) (n:S4 K C "given") (e:σ[i]?=some (some (.ref A.m)):=by rfl):RE K (pI K (fT i) "given") σ H (.tup (mc.as.map D.int)) :=
 λ_ s _ q=>jE (M.same s) c n (q _ _ (SJ.refl _) (M.same s).given) (by kernel_rfl) e
theorem pS {l:Addr} {xs:List V} (M:SX K C A mc st H) (c:X5 K C) (n:S4 K C f) (a:H l=some (.lst xs)) (lk:(mF A mc st).lookup f=some (.ref l):=by kernel_rfl) (e:σ[i]?=some (some (.ref A.m)):=by rfl):RT (λσ H Q=>pI K (fT i) f σ H λx H'=>∃ k,yn K x H' k/\Q k H') σ H (!xs.isEmpty) :=
 λH1 s Q q=>jE (v:=.ref l) (Q:=λx H'=>∃ k,yn K x H' k/\Q k H') (M.same s) c n ⟨_,.inl ⟨_,SR.of (s _ _ a),rfl⟩,q _ (SJ.refl _)⟩ lk e
noncomputable def Tg (K:W.Frag) (N C:Addr) (A:MA) (mc:MC) (st:MS) (H:Hp) (Q:VK) (E:XK) (o:Option (V × MS)):Prop :=
 (∀ v a,o=some (v,a)->∀ H',UP A H H'->SX K C A mc a H'->Q v H')/\o≠none
end
noncomputable def we (K:W.Frag) (N C:Addr):Sp:=λvs H Q E=>∃ A mc st,vs=[.ref A.m]/\SX K C A mc st H/\Tg K N C A mc st H Q E ((eG st).map λp=>(.int p.1,p.2))
noncomputable def zw (K:W.Frag) (N C:Addr):Sp:=λvs H Q E=>∃ A mc st n,vs=[.ref A.m,.int n]/\SX K C A mc st H/\2<=mc.b/\st.pile.length<=64/\Tg K N C A mc st H Q E ((cI mc n st).map λs=>(.SO,s))
noncomputable def Gz (K:W.Frag) (N C:Addr):Sp:=λvs H Q E=>∃ A mc st,vs=[.ref A.m]/\SX K C A mc st H/\Tg K N C A mc st H Q E ((jq st).map λs=>(.SO,s))
noncomputable def GC (K:W.Frag) (N C:Addr):Sp:=λvs H Q E=>∃ A mc st nm num on,vs=[.ref A.m,.str nm,.int (num:Nat),.int (on:Nat)]/\SX K C A mc st H/\st.kept.length<=16/\Tg K N C A mc st H Q E ((jS nm num on st).map λp=>(.int p.1,p.2))
theorem pE (T:Txt P w K mg)  : Te P w K mg base WI (k+1) T.Kz T.KD ["self"] (we K T.JW T.JW):=by
 refine T.Mh.ok VN (λvs H Q E h=>?_) (λm A outer s H vs Q E q h=>?_)
 ·obtain ⟨A,mc,st,rfl,_⟩:=h;rfl
 have u:=VN.nd;obtain ⟨A,mc,st,rfl,M,ok,bad⟩:=h;refine ⟨_,(aE (bE (cW (bR (gE (pv 0) rfl) (λ_=>rfl))) (aH dF) aQ)
 (aH (aP (lJ PJ QM Q3 lD (gE (pv 0) rfl))))),?_⟩
 obtain ⟨pile,place,kept,ended⟩:=st
 cases pile with
 | nil =>refine aR (K:=K) (b:=true) (bZ (pS M T.SK T.TU M.pile)) (λ_ H1 s1=>?_) (λc=>nomatch c);exact (bad rfl).elim
 | cons x r =>
  have e:pV (x::r)=pV r++[.int x]:=gI x r;refine aR (K:=K) (b:=false) (RT.as (bZ (pS M T.SK T.TU M.pile)) ?_) (λc=>nomatch c) (λ_ H1 s1=>?_)
  ·show (!!(pV (x::r)).isEmpty)=false;rw [e];cases pV r <;> rfl
  ·have M:=M.same s1;have a:H1 A.lp=some (.lst (pV r++[.int x])):=by rw [<- e];exact M.pile
   refine jE (v:=.ref A.lp) (Q:=λx H1=>tyV K "list" x H1/\DF x [] H1 Q) M T.SK T.TU ⟨.inl ⟨rfl,_,SR.of a⟩,A.lp,_,.int x,rfl,rfl,a,by simp,?_⟩;rw [Q4];exact ok (.int x) _ rfl _ ((jh s1).trans UP.lp) (M.Zd r)
section
variable {N C:Addr} {A:MA} {mc:MC} {st st1:MS} {H H1:Hp} {Q:VK} {E:XK} {o:Option (V × MS)}
theorem Tg.on (h:Tg K N C A mc st H Q E o) (b:UP A H H1) (s:st1.place=st.place):Tg K N C A mc st1 H1 Q E o :=
 ⟨λv a e H' m q=>h.1 v a e H' (b.trans m) q,h.2⟩
variable {i:Nat} {σ:L2.St}
theorem vH (M:SX K C A mc st H) (h:Tg K N C A mc st H Q E ((eG st).map λp=>(.int p.1,p.2))) (e:σ[i]?=some (some (.ref A.m)):=by rfl):AN C "take" (we K N C) [] E (fT i) dW σ H Q :=
 ⟨_,e,A.m,A.dx,_,rfl,M.ins,by kernel_rfl,A,mc,st,rfl,M,h⟩
variable {te:TE} {n:Int}
theorem mU (a:RE K te σ H (.int n)) (M:SX K C A mc st H) (u:2<=mc.b) (l:st.pile.length<=64) (h:Tg K N C A mc st H Q E ((cI mc n st).map λs=>(.SO,s))) (e:σ[i]?=some (some (.ref A.m)):=by rfl) :
  AN C "push" (zw K N C) [] E (fT i) (bW te dW) σ H Q :=
 ⟨_,e,A.m,A.dx,_,rfl,M.ins,by kernel_rfl,a.use λv H1 s q=>⟨A,mc,st,n,by rw [q.SQ];rfl,M.same s,u,l,h.on (jh s) rfl⟩⟩
variable {f:Str} {l:Addr} {xs:List V}
theorem zK {z:Int} (M:SX K C A mc st H) (c:X5 K C) (n:S4 K C f) (a:H l=some (.lst xs)) (u:xs.length<=900) (h:RE K te σ H (.int z)) (q:∀ H',SJ H H'->Q .SO (upd H' l (.lst (xs++[.int z]))))
  (lk:(mF A mc st).lookup f=some (.ref l):=by kernel_rfl) (e:σ[i]?=some (some (.ref A.m)):=by rfl):Z6 K "list" kH (pI K (fT i) f) (bW te dW) σ H Q :=
 jE (v:=.ref l) (Q:=λx H1=>tyV K "list" x H1/\bW te dW σ H1 λxs H2=>kH x xs H2 Q) M c n ⟨.inl ⟨rfl,_,SR.of a⟩,h.use λv H1 s b=>⟨l,xs,_,rfl,rfl,s _ _ a,cM (by lia),by rw [b.SQ];exact q H1 s⟩⟩ lk e
theorem Fz {z:V} (M:SX K C A mc st H) (c:X5 K C) (n:S4 K C f) (a:H l=some (.lst (xs++[z]))) (q:Q z (upd H l (.lst xs)))
  (lk:(mF A mc st).lookup f=some (.ref l):=by kernel_rfl) (e:σ[i]?=some (some (.ref A.m)):=by rfl):Iq K "list" DF (pI K (fT i) f) σ H Q :=
 jE (v:=.ref l) (Q:=λx H1=>tyV K "list" x H1/\DF x [] H1 Q) M c n ⟨.inl ⟨rfl,_,SR.of a⟩,l,_,z,rfl,rfl,a,by simp,by rw [Q4];exact q⟩ lk e
theorem jv {p:Int × MS} (h:eG st=some p):p.2.place=st.place/\p.2.kept=st.kept/\st.pile=p.1::p.2.pile/\p.2.ended=st.ended:=by
 unfold eG at h;split at h
 ·cases h
 ·rename_i x r e;cases h;exact ⟨rfl,rfl,e,rfl⟩
theorem gX {s:MS} (h:cI mc n st=some s):s.place=st.place/\s.kept=st.kept/\s.pile=n % mc.b::st.pile/\st.pile.length≠64/\s.ended=st.ended:=by
 unfold cI at h;split at h
 ·cases h
 ·rename_i a;cases h;exact ⟨rfl,rfl,rfl,a,rfl⟩
end
theorem i4 {p q:Prop} [Decidable p] [Decidable q] (h:p↔q):decide p=decide q:=decide_eq_decide.mpr h
theorem pC (T:Txt P w K mg)  : Te P w K mg base WI (k+1) T.KQ T.KU ["self","number"] (zw K T.JW T.JW):=by
 refine T.Mf.ok VO (λvs H Q E h=>?_) (λm A outer s H vs Q E u h=>?_)
 ·obtain ⟨A,mc,st,n,rfl,_⟩:=h;rfl
 have B:=VO.nd;obtain ⟨A,mc,st,n,rfl,M,C,I,ok,bad⟩:=h;refine ⟨_,(aE (bE (aN bV (aX aW rfl T.J0 bU (aD (gE (pv 0) rfl) aC)) (bT (v:=.int 64) rfl T.Lk ⟨_,rfl⟩) (aT _)) (aH dF) aQ)
 (aH (bP (fF PJ P7 P9 cC (gE (pv 0) rfl) (aD (bL eZ (pv 1) (gE (pv 0) rfl)) aC))))),?_⟩
 have q:decide ((((st.pile.reverse.map D.int).length:Nat):Int)=64)=decide (st.pile.length=64):=i4 (by rw [Pf,Ql];lia);refine aR (K:=K) (b:=decide (st.pile.length=64)) (RT.as (aJ (mV (eA (vQ M T.SK T.TU)) aG)) q) (λc H1 s1=>?_) (λc H1 s1=>?_)
 ·exact (bad (by unfold cI;rw [Pk (Pq c)];rfl)).elim
 ·have M:=M.same s1;have c:=Px c;have lp:=vD st.pile;refine zK M T.SK T.TU M.pile (by lia) (jN (aA (k:=1) (Dat.SN n)) (vJ (z:=mc.b) M T.SK T.Vf) (by lia)) λH2 a=>?_;have e:=(M.same a).Zd (n % mc.b::st.pile);rw [gI] at e;exact ok .SO _ (by unfold cI;rw [M1 c];rfl) _ ((jh (s1.trans a)).trans UP.lp) e
theorem ny (T:Txt P w K mg)  : Te P w K mg base WI (k+1) T.Ky T.KC ["self"] (Gz K T.JW T.JW):=by
 refine T.Lz.ok Vb (λvs H Q E h=>?_) (λa A outer s H vs Q E u h=>?_)
 ·obtain ⟨A,mc,st,rfl,_⟩:=h;rfl
 have z:=Vb.nd;obtain ⟨A,mc,st,rfl,M,ok,bad⟩:=h;refine ⟨_,(aE (bE (aN lI (aX aW rfl T.J0 bU (aD (gE (pv 0) rfl) aC)) aF (aT _)) (aH dF) aQ)
 (aH (kF (pv 0) d8 rfl))),?_⟩
 have q:(!decide ((((st.pile.reverse.map D.int).length:Nat):Int)=1))=!decide (st.pile.length=1):=P1 Bool.not (i4 (by rw [Pf,Ql];lia));refine aR (K:=K) (b:=!decide (st.pile.length=1)) (RT.as (aJ (kI (eA (vQ M T.SK T.TU)) aG)) q) (λc H1 s1=>?_) (λc H1 s1=>?_)
 ·have c:=Px ((Sz _).mp c);exact (bad (by unfold jq;rw [M1 c];rfl)).elim
 ·have M:=M.same s1;have c:=Pq ((RU _).mp c);refine ⟨_,rfl,A.m,_,A.dx,_,rfl,M.ins,T.SK,T.Ur,by show 7 < 1000;decide,?_⟩;exact ok .SO { st with ended:=true } (by unfold jq;rw [Pk c];rfl) _ ((jh s1).trans UP.m) (M.setM (BB true) rfl rfl)
theorem qT (T:Txt P w K mg)  (KO:Te P w K mg base WI k T.Kz T.KD ["self"] (we K T.JW T.JW)):Te P w K mg base WI (k+1) T.K8 T.K9 ["self","name","number","onward"] (GC K T.JW T.JW):=by
 refine T.MD.ok V5 (λvs H Q E h=>?_) (λcdv A outer s H vs Q E hr h=>?_)
 ·obtain ⟨A,mc,st,nm,num,on,rfl,_⟩:=h;rfl
 have nd:=V5.nd;obtain ⟨A,mc,st,nm,num,on,rfl,M,hk,ok,bad⟩:=h;refine ⟨_,(aE (bE (aN eO (pv 1) (bA (aD aO (aD aO aC))) (by with_unfolding_all rfl)) (aH (aP (bL cJ (pv 3) (pv 2)))) aQ)
 (aE (bE (aN eO (pv 1) (bA (aD aO (aD aO aC))) (by with_unfolding_all rfl)) (aH (aP (fG (aN bV (kn (pv 0) T.SK T.To KO hr (h9 T) .nil gN) aF (aT _)) (bL cJ (pv 3) (pv 2)) (pv 3)))) aQ)
 (aE (bE (aN bV (pv 1) aO (aT _)) (aE (bE (aN bV (aX aW rfl T.J0 bU (aD (gE (pv 0) rfl) aC)) (bT (v:=.int 16) rfl T.Li ⟨_,rfl⟩) (aT _)) (aH dF) aQ)
 (aE (bP (fF PJ P7 P9 cC (gE (pv 0) rfl) (aD (pv 3) aC)))
 (aH (aP (pv 2))))) aQ)
 (aE (bE (cW (bR (gE (pv 0) rfl) (λ_=>rfl))) (aH dF) aQ)
 (aH (aP (lJ PJ QM Q3 lD (gE (pv 0) rfl)))))))),?_⟩
 refine aR (K:=K) (b:=decide (nm ∈ (["skip","jump"]:List Str))) (aJ (j7 (ys:=["skip","jump"]) (aA (k:=1) (Dat.Th nm)) (bF (aB aL (aB aL aM))))) (λc H1 s1=>?_) (λc H1 s1=>?_)
 ·have c:=Pq c;refine bJ (K:=K) (d:=.int ((on:Int)+num)) (c8 (aA (k:=3) (Dat.SN _)) (aA (k:=2) (Dat.SN _))) λv H2 m q=>?_;rw [q.SQ];exact ok _ st (by unfold jS;rw [Pk c];show some (V.int ((on+num:Nat):Int),st)=_;rw [Sg]) _ (jh (s1.trans m)) (M.same (s1.trans m))
 have C:=Px c;have M:=M.same s1;refine aR (K:=K) (b:=decide (nm ∈ (["zero","none"]:List Str))) (aJ (j7 (ys:=["zero","none"]) (aA (k:=1) (Dat.Th nm)) (bF (aB aL (aB aL aM))))) (λc H2 m=>?_) (λc H2 m=>?_)
 ·have c:=Pq c;have M:=M.same m;have a:=s1.trans m;have L:jS nm num on st=(eG st).map λp=>(if p.1=0 then on+num else on,p.2):=by unfold jS;rw [M1 C,Pk c]
  rw [L] at ok bad;refine vH M ⟨λv st' e S U X=>?_,λe=>?_⟩
  ·obtain ⟨p,N,e2⟩:=PX.mp e;cases e2;refine ⟨rfl,_,rfl,?_⟩;have es:decide (V.int p.1=V.int 0)=decide (p.1=0):=i4 ⟨λz=>V.int.inj z,λz=>by rw [z]⟩;rw [es];rw [N] at ok;by_cases I:p.1=0
   ·rw [Py I];refine j4 ⟨_,rfl,_,rfl,on,num,rfl,rfl,?_⟩;exact ok _ p.2 (by show some (V.int ((if p.1=0 then on+num else on:Nat):Int),p.2)=_;rw [Pk I,Sg]) _ ((jh a).trans U) X
   ·rw [Po I];refine j0 ⟨_,rfl,?_⟩;exact ok _ p.2 (by show some (V.int ((if p.1=0 then on+num else on:Nat):Int),p.2)=_;rw [M1 I]) _ ((jh a).trans U) X
  ·have e:eG st=none:=by simpa using e
   exact bad (by rw [e];rfl)
 have O:=Px c;have M:=M.same m;have a:=s1.trans m;refine aR (K:=K) (b:=decide (nm="call")) (aJ (bI (aA (K:=K) (k:=1) (Dat.Th nm)) aL)) (λc S B=>?_) (λc S B=>?_)
 ·have c:=Pq c;have M:=M.same B;have R:=a.trans B;have L:jS nm num on st=if st.kept.length=16 then none else some (num,{ st with kept:=on::st.kept }):=by unfold jS;rw [M1 C,M1 O,Pk c]
  rw [L] at ok bad;have ed:decide (((((st.kept.reverse.map λ(n:Nat)=>(n:Int)).map D.int).length:Nat):Int)=16)=decide (st.kept.length=16):=i4 (by rw [Pf,Pf,Ql];lia);refine aR (K:=K) (b:=decide (st.kept.length=16)) (RT.as (aJ (mV (eA (FT M T.SK T.Ub)) aG)) ed) (λc J u=>?_) (λc J u=>?_)
  ·exact (bad (by rw [Pk (Pq c)];rfl)).elim
  ·have M:=M.same u;have c:=Px c;have lk:=Ak st.kept;refine jf (zK M T.SK T.Ub M.kept (by lia) (aA (k:=3) (Dat.SN _)) λH5 Y=>?_);have e:=(M.same Y).Ze (on::st.kept);rw [nj] at e;exact ⟨_,rfl,ok _ _ (by rw [M1 c];rfl) _ ((jh (R.trans (u.trans Y))).trans UP.lk) e⟩
 have Z:=Px c;have M:=M.same B;have R:=a.trans B;obtain ⟨pile,place,kept,ended⟩:=st
 cases kept with
 | nil =>refine aR (K:=K) (b:=true) (bZ (pS M T.SK T.Ub M.kept)) (λ_ J u=>?_) (λc=>nomatch c);exact (bad (by unfold jS;rw [M1 C,M1 O,M1 Z];rfl)).elim
 | cons x r =>
  have e:XY (x::r)=XY r++[.int x]:=nj x r;refine aR (K:=K) (b:=false) (RT.as (bZ (pS M T.SK T.Ub M.kept)) ?_) (λc=>nomatch c) (λ_ J u=>?_)
  ·show (!!(XY (x::r)).isEmpty)=false;rw [e];cases XY r <;> rfl
  ·have M:=M.same u;have N:J A.lk=some (.lst (XY r++[.int x])):=by rw [<- e];exact M.kept
   exact Fz M T.SK T.Ub N (ok (.int x) _ (by unfold jS;rw [M1 C,M1 O,M1 Z];rfl) _ ((jh (R.trans u)).trans UP.lk) (M.Ze r))
noncomputable def Gy (K:W.Frag) (N C:Addr):Sp:=λvs H Q E=>∃ A mc st nm num,vs=[.ref A.m,.str nm,.int (num:Nat)]/\SX K C A mc st H/\qS mc/\j6 mc st/\(nm="load"->num<=3)/\Tg K N C A mc st H Q E ((cR mc nm num st).map λs=>(.SO,s))
section
variable {N C:Addr} {A:MA} {mc:MC} {st:MS} {H:Hp} {Q:VK} {E:XK} {n:Int} {k:MS->Option MS}
variable {Q1:VK}
theorem AA (h:Tg K N C A mc st H Q E (((cI mc n st).bind k).map λs=>(.SO,s))) (q:∀ s,cI mc n st=some s->∀ H',UP A H H'->SX K C A mc s H'->Q1 .SO H'):Tg K N C A mc st H Q1 E ((cI mc n st).map λs=>(.SO,s)):=by
 refine ⟨λv a e H' b m=>?_,λe=>?_⟩
 ·obtain ⟨s,u,z⟩:=PX.mp e;cases z;exact q _ u H' b m
 ·have e:cI mc n st=none:=by simpa using e
  exact h.2 (by rw [e];rfl)
theorem wq {k:Int × MS->Option MS} (h:Tg K N C A mc st H Q E (((eG st).bind k).map λs=>(.SO,s))) (q:∀ p,eG st=some p->∀ H',UP A H H'->SX K C A mc p.2 H'->Q1 (.int p.1) H'):Tg K N C A mc st H Q1 E ((eG st).map λp=>(.int p.1,p.2)):=by
 refine ⟨λv a e H' b m=>?_,λe=>?_⟩
 ·obtain ⟨p,u,z⟩:=PX.mp e;cases z;exact q _ u H' b m
 ·have e:eG st=none:=by simpa using e
  exact h.2 (by rw [e];rfl)
theorem nA {p:Int × MS} (o:j6 mc st) (h:eG st=some p):j6 mc p.2/\0<=p.1/\p.1 < mc.b/\p.2.pile.length+1=st.pile.length:=by obtain ⟨_,hk,a,_⟩:=jv h;have l:=o.l;rw [a,Pr] at l;refine ⟨⟨λx m=>o.p x (by rw [a];exact PV _ m),by lia,by rw [hk];exact o.k⟩,?_⟩;have:=o.p p.1 (by rw [a];exact P4);exact ⟨this.1,this.2,by rw [a,Pr]⟩
theorem vw {s:MS} (q:2<=mc.b) (o:j6 mc st) (h:cI mc n st=some s):j6 mc s:=by
 obtain ⟨_,hk,a,u,_⟩:=gX h;have l:=o.l;refine ⟨λx m=>?_,by rw [a,Pr];lia,by rw [hk];exact o.k⟩;rw [a] at m;rcases PB.mp m with z | z
 ·rw [z];exact ⟨Qp _ (by lia),Qj _ (by lia)⟩
 ·exact o.p x z
end
theorem nv (T:Txt P w K mg) (KO:Te P w K mg base WI k T.Kz T.KD ["self"] (we K T.JW T.JW)) (L:Te P w K mg base WI k T.KQ T.KU ["self","number"] (zw K T.JW T.JW)) (NC:Ok P w base k T.Ld (Tj K Gc)):Te P w K mg base WI (k+1) T.Kx T.KB ["self","name","number"] (Gy K T.JW T.JW):=by
 refine T.Ly.ok Vc (λvs H Q E h=>?_) (λcdv A outer s H vs Q E q h=>?_)
 ·obtain ⟨A,mc,st,nm,num,rfl,_⟩:=h;rfl
 have nd:=Vc.nd;obtain ⟨A,mc,st,nm,num,rfl,M,oc,os,hld,a⟩:=h;have z:=oc.b2;refine ⟨_,(aE (bE (aN eO (pv 1) (bA (aD aO (aD aO aC))) (by with_unfolding_all rfl)) (aE (bP (iX (pv 0) T.SK T.SW L q (d4 T) .nil gN (aD (pv 2) aC)))
 (aH Ay)) aQ)
 (aE (bE (aN bV (pv 1) aO (aT _)) (aE (bP (iX (pv 0) T.SK T.SW L q (d4 T) .nil gN (aD (aY aZ (gE (pv 0) rfl) (pv 2)) aC)))
 (aH Ay)) aQ)
 (aE (bQ (i:=3) nd rfl (Or.inl rfl) (kn (pv 0) T.SK T.To KO q (h9 T) .nil gN))
 (aH (bE (aN bV (pv 1) aO (aT _)) (aH (bP (iX (pv 0) T.SK T.SW L q (d4 T) .nil gN (aD (bL cJ (pv 3) (pv 2)) aC)))) (aH (bE (aN bV (pv 1) aO (aT _)) (aE (bP (iX (pv 0) T.SK T.SW L q (d4 T) .nil gN (aD (pv 3) aC)))
 (aH (bP (iX (pv 0) T.SK T.SW L q (d4 T) .nil gN (aD (pv 3) aC))))) (aH (bE (aN bV (pv 1) aO (aT _)) (aE (bQ (i:=4) nd rfl (Or.inl rfl) (kn (pv 0) T.SK T.To KO q (h9 T) .nil gN))
 (aE (bP (iX (pv 0) T.SK T.SW L q (d4 T) .nil gN (aD (pv 3) aC)))
 (aH (bP (iX (pv 0) T.SK T.SW L q (d4 T) .nil gN (aD (pv 4) aC)))))) (aH (bP (iX (pv 0) T.SK T.SW L q (d4 T) .nil gN (aD (pc (D:=T.Ld) NC q (aD (pv 1) (aD (kn (pv 0) T.SK T.To KO q (h9 T) .nil gN) (aD (pv 3) (aD (gE (pv 0) rfl) aC))))) aC))))))))))))),?_⟩
 refine aR (K:=K) (b:=decide (nm ∈ (["put","far"]:List Str))) (aJ (j7 (ys:=["put","far"]) (aA (k:=1) (Dat.Th nm)) (bF (aB aL (aB aL aM))))) (λc H1 s1=>?_) (λc H1 s1=>?_)
 ·have O:cR mc nm num st=cI mc num st:=by unfold cR;rw [Pk (Pq c)]
  rw [O] at a;have a:=Tg.on (st1:=st) a (jh s1) rfl;refine jf (mU (aA (k:=2) (Dat.SN (num:Int))) (M.same s1) z os.l ⟨λv B e H' b C=>?_,a.2⟩);obtain ⟨s,J,I⟩:=PX.mp e;cases I;exact a.1 _ _ e H' b C
 have n1:=Px c;have M:=M.same s1;have a:=Tg.on (st1:=st) a (jh s1) rfl;refine aR (K:=K) (b:=decide (nm="load")) (aJ (bI (aA (K:=K) (k:=1) (Dat.Th nm)) aL)) (λc H2 R=>?_) (λc H2 R=>?_)
 ·have c:=Pq c;have O:cR mc nm num st=cI mc (mc.as.getD num 0) st:=by unfold cR;rw [M1 n1,Pk c]
  rw [O] at a;have a:=Tg.on (st1:=st) a (jh R) rfl;have M:=M.same R;have ln:=hld c;have la:=oc.as
  have hg:(mc.as.map D.int)[num]?=some (.int (mc.as.getD num 0)):=by rw [Pw,Pg (by lia:num < mc.as.length),PZ,Pg (by lia:num < mc.as.length)];rfl
  refine jf (mU (a6 (k:=num) (FI M T.SK T.UT) (aA (k:=2) (Dat.SN (num:Int))) hg) M z os.l ⟨λv B e H' b C=>?_,a.2⟩);obtain ⟨s,J,I⟩:=PX.mp e;cases I;exact a.1 _ _ e H' b C
 have n2:=Px c;have M:=M.same R;have a:=Tg.on (st1:=st) a (jh R) rfl
 have O:cR mc nm num st=(eG st).bind λu =>
  if nm="more" then cI mc (u.1+num) u.2
  else if nm="twice" then (cI mc u.1 u.2).bind λs=>cI mc u.1 s
  else if nm="about" then (eG u.2).bind λl=>(cI mc u.1 l.2).bind λs=>cI mc l.1 s
  else (eG u.2).bind λl=>cI mc (two nm l.1 u.1 mc.b) l.2:=by unfold cR;rw [M1 n1,M1 n2]
 rw [O] at a;refine fR (vH M (wq a λu hu H3 b3 M=>?_));obtain ⟨S,u0,u1,ul⟩:=nA os hu;have pu:=(jv hu).1;rw [hu] at a;have a:=Tg.on (st1:=u.2) a b3 pu
 have a:Tg K T.JW T.JW A mc u.2 H3 Q E ((if nm="more" then cI mc (u.1+num) u.2
  else if nm="twice" then (cI mc u.1 u.2).bind λs=>cI mc u.1 s
  else if nm="about" then (eG u.2).bind λl=>(cI mc u.1 l.2).bind λs=>cI mc l.1 s
  else (eG u.2).bind λl=>cI mc (two nm l.1 u.1 mc.b) l.2).map λs=>(.SO,s)):=a
 refine jk (b:=decide (nm="more")) (aJ (bI (aA (K:=K) (k:=1) (Dat.Th nm)) aL)) (λc H4 U=>?_) (λc H4 U=>?_)
 ·rw [Pk (Pq c)] at a;have a:=Tg.on (st1:=u.2) a (jh U) rfl;refine mU (c8 (aA (k:=3) (Dat.SN u.1)) (aA (k:=2) (Dat.SN (num:Int)))) (M.same U) z S.l ⟨λv B e H' b C=>?_,a.2⟩;obtain ⟨s,J,I⟩:=PX.mp e;cases I;exact a.1 _ _ e H' b C
 rw [M1 (Px c)] at a;have M:=M.same U;have a:=Tg.on (st1:=u.2) a (jh U) rfl;refine jk (b:=decide (nm="twice")) (aJ (bI (aA (K:=K) (k:=1) (Dat.Th nm)) aL)) (λc H5 X=>?_) (λc H5 X=>?_)
 ·rw [Pk (Pq c)] at a;have a:=Tg.on (st1:=u.2) a (jh X) rfl;refine jf (mU (aA (k:=3) (Dat.SN u.1)) (M.same X) z S.l (AA a λs J H6 b6 M6=>?_));rw [J] at a;have a:Tg K T.JW T.JW A mc s H6 Q E ((cI mc u.1 s).map λs=>(.SO,s)):=Tg.on a b6 (gX J).1;refine mU (aA (k:=3) (Dat.SN u.1)) M6 z (vw z S J).l ⟨λv B e H' b C=>?_,a.2⟩;obtain ⟨s',Y,I⟩:=PX.mp e;cases I;exact a.1 _ _ e H' b C
 rw [M1 (Px c)] at a;have M:=M.same X;have a:=Tg.on (st1:=u.2) a (jh X) rfl;refine jk (b:=decide (nm="about")) (aJ (bI (aA (K:=K) (k:=1) (Dat.Th nm)) aL)) (λc H6 Z=>?_) (λc H6 Z=>?_)
 ·rw [Pk (Pq c)] at a;have a:=Tg.on (st1:=u.2) a (jh Z) rfl;refine fR (vH (M.same Z) (wq a λl N H7 b7 M7=>?_));obtain ⟨ol,l0,l1,ll⟩:=nA S N;rw [N] at a;have a:Tg K T.JW T.JW A mc l.2 H7 Q E (((cI mc u.1 l.2).bind λs=>cI mc l.1 s).map λs=>(.SO,s)):=Tg.on a b7 (jv N).1;refine jf (mU (aA (k:=3) (Dat.SN u.1)) M7 z ol.l (AA a λs J H8 b8 M8=>?_));rw [J] at a;have a:Tg K T.JW T.JW A mc s H8 Q E ((cI mc l.1 s).map λs=>(.SO,s)):=Tg.on a b8 (gX J).1;refine mU (aA (k:=4) (Dat.SN l.1)) M8 z (vw z ol J).l ⟨λv B e H' b C=>?_,a.2⟩;obtain ⟨s',Y,I⟩:=PX.mp e;cases I;exact a.1 _ _ e H' b C
 ·rw [M1 (Px c)] at a;have M:=M.same Z;have a:=Tg.on (st1:=u.2) a (jh Z) rfl;refine ⟨_,rfl,A.m,A.dx,_,rfl,M.ins,by kernel_rfl,_,rfl,?_⟩;refine vH M (wq a λl N H7 b7 M7=>?_);obtain ⟨ol,l0,l1,ll⟩:=nA S N;rw [N] at a;have a:Tg K T.JW T.JW A mc l.2 H7 Q E ((cI mc (two nm l.1 u.1 mc.b) l.2).map λs=>(.SO,s)):=Tg.on a b7 (jv N).1;refine ⟨_,rfl,jE (v:=.int mc.b) M7 T.SK T.Vf ?_⟩;refine ⟨[.str nm,.int l.1,.int u.1,.int mc.b],.int (two nm l.1 u.1 mc.b),SI.cons (Dat.Th nm) (SI.cons (Dat.SN _) (SI.cons (Dat.SN _) (SI.cons (Dat.SN _) SI.nil))),⟨nm,l.1,u.1,mc.b,rfl,z,oc.b9,l0,l1,u0,u1,rfl⟩,λv H8 s8 q8=>?_⟩;have a:=Tg.on (st1:=l.2) a (jh s8) rfl;refine ⟨A,mc,l.2,_,by rw [q8.SQ];rfl,M7.same s8,z,ol.l,⟨λv B e H' b C=>?_,a.2⟩⟩;obtain ⟨s',Y,I⟩:=PX.mp e;cases I;exact a.1 _ _ e H' b C
noncomputable def YC (cs:List Int) (p:Nat) (c:Int):List Int:=(cs.drop (p+1)).take (cG c)
noncomputable def lF (cs:List Int) (p:Nat) (c:Int):Nat:=(iJ (YC cs p c)).toNat
noncomputable def iH (nm:Str) (num:Nat):Bool:=decide (j9 nm Y8 num < (num:Int))
noncomputable abbrev WS:List Str:=["skip","jump","zero","none","call","back"]
noncomputable def W4 (mc:MC) (nm:Str) (num on:Nat) (st:MS):Option MS :=
 if nm ∈ WS then (jS nm num on st).map λp=>{ p.2 with place:=p.1 }
 else if nm="end" then (jq st).map λs=>{ s with place:=on }
 else (cR mc nm num st).map λs=>{ s with place:=on }
noncomputable def fJ (mc:MC) (st:MS):Option MS:=match mc.cs[st.place]? with
 | none=>none
 | some c=>if jn mc.cs st.place c=true then none else if iH (Vh c) (lF mc.cs st.place c)=true then none
  else W4 mc (Vh c) (lF mc.cs st.place c) (st.place+1+cG c) st
theorem zM (cs:List Int) (p:Nat) (c:Int):kS cs p (cG c)=(YC cs p c).map D.int:=by unfold kS YC;rw [List.map_take,List.map_drop]
theorem Dj (ok:okC cs):(YC cs p c).length<=2/\∀ n ∈ YC cs p c,0<=n/\n<=99:=by unfold YC;refine ⟨by rw [Qh];have:=EH c;lia,λn a=>?_⟩;obtain ⟨i,hi⟩:=List.mem_iff_getElem?.mp (List.mem_of_mem_drop (List.mem_of_mem_take a));exact ok.c i n hi
theorem An (ok:okC cs):iJ (YC cs p c)=((lF cs p c:Nat):Int)/\lF cs p c<=9999:=by obtain ⟨a,b⟩:=Dj (p:=p) (c:=c) ok;have:=Dk a b;unfold lF;lia
theorem EC:∀ p ∈ Y8,∃ i,p.2=.flat (.int i):=by intro p a;simp only [Y8,PB,Qa,Qz] at a;rcases a with rfl | rfl | rfl <;> exact ⟨_,rfl⟩
variable {num:Nat}
theorem Ff (h:iH "load" num=false):num<=3:=by
 have h:=Px h;have e:j9 "load" Y8 num=3:=by kernel_rfl
 rw [e] at h;lia
variable {mc:MC} {st:MS}
theorem rP (h:wI mc.cs st.place=true):fJ mc st=none:=by
 unfold fJ
 cases a:mc.cs[st.place]? with
 | none=>rfl
 | some c =>
  have h':jn mc.cs st.place c=true:=by unfold wI at h;rw [a] at h;exact h
  exact Pk h'
theorem BO (h:wI mc.cs st.place=false):∃ c,mc.cs[st.place]?=some c/\jn mc.cs st.place c=false:=by
 cases a:mc.cs[st.place]? with
 | none =>
  have h':true=false:=by unfold wI at h;rw [a] at h;exact h
  cases h'
 | some c=>exact ⟨c,rfl,by unfold wI at h;rw [a] at h;exact h⟩
noncomputable def D9 (K:W.Frag) (N C:Addr):Sp:=λvs H Q E=>∃ A mc st,vs=[.ref A.m]/\SX K C A mc st H/\qS mc/\j6 mc st/\Tg K N C A mc st H Q E ((fJ mc st).map λs=>(.SO,s))
theorem pD (T:Txt P w K mg) (Kw:Ok P w base k T.JY (Xs K wC)) (NV:Ok P w base k T.LL (Tj K B8)) (NQ:Te P w K mg base WI k T.K8 T.K9 ["self","name","number","onward"] (GC K T.JW T.JW)) (Nn:Te P w K mg base WI k T.Ky T.KC ["self"] (Gz K T.JW T.JW)) (Nm:Te P w K mg base WI k T.Kx T.KB ["self","name","number"] (Gy K T.JW T.JW)):Te P w K mg base WI (k+1) T.KR T.KW ["self"] (D9 K T.JW T.JW):=by
 refine T.Mg.ok VP (λvs H Q E h=>?_) (λcdv A outer s H vs Q E L h=>?_)
 ·obtain ⟨A,mc,st,rfl,_⟩:=h;rfl
 have N:=VP.nd;obtain ⟨A,mc,st,rfl,M,oc,os,a⟩:=h;have Z:=oc.cs;refine ⟨_,(aE (gH (pc (D:=T.JY) Kw L (aD (gE (pv 0) rfl) (aD (gE (pv 0) rfl) aC))) (gF rfl (bN (a7 (i:=1) N rfl (Or.inl rfl)) (bN (a7 (i:=2) N rfl (Or.inl rfl)) eH))))
 (aE (bQ (i:=3) N rfl (Or.inl rfl) (pc (D:=T.LL) NV L (aD (pv 2) aC)))
 (aE (bE (aN kl (pv 3) (tL (bT (v:=.ref T.Mo) rfl T.Ll rfl) (pv 1) (pv 3) ⟨rfl,rfl,rfl,rfl⟩) (aT _)) (aH dF) aQ)
 (aE (bQ (i:=4) N rfl (Or.inl rfl) (bL cJ (bL cJ (gE (pv 0) rfl) aF) (aX aW rfl T.J0 bU (aD (pv 2) aC))))
 (aE (bE (aN eO (pv 1) (bT (v:=.ref T.N3) rfl T.Nt rfl) (by with_unfolding_all rfl)) (aH (bQ (i:=4) N rfl (Or.inl rfl) (iX (pv 0) T.SK T.V8 NQ L (r8 T) .nil gN (aD (pv 1) (aD (pv 3) (aD (pv 4) aC)))))) (aH (bE (aN bV (pv 1) aO (aT _)) (aH (bP (kn (pv 0) T.SK T.Vd Nn L (nU T) .nil gN))) (aH (bP (iX (pv 0) T.SK T.Ve Nm L (nT T) .nil gN (aD (pv 1) (aD (pv 3) aC))))))))
 (aH (kF (pv 0) (pv 4) rfl))))))),?_⟩
 have rA:RB K (bW (pI K (fT 0) "cells") (bW (pI K (fT 0) "place") dW)) (start ["self","name","behind","number","onward"] [.ref A.m]) H [.l (cD mc.cs),.d (.int st.place)]:=gB (FS M T.SK T.US) (iK (vJ (z:=st.place) M T.SK T.TJ) dU)
 cases O:wI mc.cs st.place with
 | true =>have e:fJ mc st=none:=rP O;exact (a.2 (by rw [e];rfl)).elim
 | false =>
  obtain ⟨c,hc,hb⟩:=BO O;obtain ⟨h16,hlt⟩:=wJ hb;obtain ⟨en,n9⟩:=An (p:=st.place) (c:=c) Z;obtain ⟨l2,n2⟩:=Dj (p:=st.place) (c:=c) Z;have lb:(kS mc.cs st.place (cG c)).length=cG c:=by rw [qc];lia
  have e:fJ mc st=if iH (Vh c) (lF mc.cs st.place c)=true then none else W4 mc (Vh c) (lF mc.cs st.place c) (st.place+1+cG c) st:=by unfold fJ;rw [hc];dsimp only;rw [M1 (by rw [hb];exact Pp)]
  rw [e] at a;refine jX (K:=K) (d:=.str (Vh c)) (e:=.tup (kS mc.cs st.place (cG c))) (eF (R:=wC) rA ⟨mc.cs,st.place,c,rfl,Z,hc,hb,rfl⟩) λv1 v2 H1 s1 h1 I=>?_;obtain rfl:=h1.S5;generalize Vh c=nm at *;generalize hnum:lF mc.cs st.place c=num at *;refine eJ (K:=K) (d:=.int num) (RE.as (bM (R:=B8) (aB (aA (k:=2) I) aM) ⟨YC mc.cs st.place c,by rw [zM],l2,n2,rfl⟩) (by rw [en])) λv3 H2 s2 h3=>?_;obtain rfl:=h3.SQ;have I:=s2.dat I;have S:=s1.trans s2;have M:=M.same S;have a:=Tg.on (st1:=st) a (jh S) rfl;refine aR (K:=K) (b:=iH nm num) (aJ (cQ (p:=λi j=>decide (j < i)) (aA (k:=3) (Dat.SN (num:Int))) (tN T.Lm (aA (k:=1) (Dat.Th nm)) (aA (k:=3) (Dat.SN (num:Int))) EC))) (λct H3 Y=>?_) (λct H3 Y=>?_)
  ·exact (a.2 (by rw [Pk ct];rfl)).elim
  ·have M:=M.same Y;have a:=Tg.on (st1:=st) a (jh Y) rfl;rw [M1 (by rw [ct];exact Pp)] at a;have I:=Y.dat I;have eo:(st.place:Int)+1+((kS mc.cs st.place (cG c)).length:Int)=((st.place+1+cG c:Nat):Int):=by rw [lb];lia
   refine eJ (K:=K) (d:=.int ((st.place+1+cG c:Nat):Int)) (RE.as (c8 (c8 (vJ (z:=st.place) M T.SK T.TJ) aG) (fL (aA (k:=2) I))) (P1 D.int eo)) λv4 H4 s4 h4=>?_;obtain rfl:=h4.SQ;have M:=M.same s4;have a:=Tg.on (st1:=st) a (jh s4) rfl;generalize st.place+1+cG c=on at *;refine eB (RT.use (b:=decide (nm ∈ WS)) (aJ (j7 (ys:=WS) (aA (K:=K) (k:=1) (Dat.Th nm)) (lN T.OM))) λH5 s5=>?_);have M:=M.same s5;have a:=Tg.on (st1:=st) a (jh s5) rfl;by_cases B:nm ∈ WS
   ·rw [Py B];refine j4 ⟨_,rfl,A.m,A.dx,_,rfl,M.ins,by kernel_rfl,_,rfl,_,rfl,_,rfl,A,mc,st,nm,num,on,rfl,M,os.k,λv u q H6 b6 M6=>?_,λq=>?_⟩
    ·obtain ⟨p,hp,U⟩:=PX.mp q;cases U;refine ⟨_,rfl,_,rfl,A.m,_,A.dx,_,rfl,M6.ins,T.SK,T.TJ,by show 7 < 1000;decide,?_⟩;exact a.1 .SO { p.2 with place:=p.1 } (by unfold W4;rw [Pk B,hp];rfl) _ (b6.trans UP.m) (M6.setM (oz p.1) rfl rfl)
    ·have q:jS nm num on st=none:=by simpa using q
     exact a.2 (by unfold W4;rw [Pk B,q];rfl)
   ·rw [Po B];refine j0 (RT.use (b:=decide (nm="end")) (aJ (bI (aA (K:=K) (k:=1) (Dat.Th nm)) aL)) λH6 s6=>?_);have M:=M.same s6;have a:=Tg.on (st1:=st) a (jh s6) rfl;by_cases J:nm="end"
    ·rw [Py J];refine j4 ⟨_,rfl,A.m,A.dx,_,rfl,M.ins,by kernel_rfl,A,mc,st,rfl,M,λv u q H7 b7 X=>?_,λq=>?_⟩
     ·obtain ⟨s',C,U⟩:=PX.mp q;cases U;refine ⟨_,rfl,_,rfl,A.m,_,A.dx,_,rfl,X.ins,T.SK,T.TJ,by show 7 < 1000;decide,?_⟩;exact a.1 .SO { u with place:=on } (by unfold W4;rw [M1 B,Pk J,C];rfl) _ (b7.trans UP.m) (X.setM (oz on) rfl rfl)
     ·have q:jq st=none:=by simpa using q
      exact a.2 (by unfold W4;rw [M1 B,Pk J,q];rfl)
    ·rw [Po J];refine j0 ⟨_,rfl,A.m,A.dx,_,rfl,M.ins,by kernel_rfl,_,rfl,_,rfl,A,mc,st,nm,num,rfl,M,oc,os,?_,λv u q H7 b7 X=>?_,λq=>?_⟩
     ·rintro rfl;exact Ff ct
     ·obtain ⟨s',C,U⟩:=PX.mp q;cases U;refine ⟨_,rfl,_,rfl,A.m,_,A.dx,_,rfl,X.ins,T.SK,T.TJ,by show 7 < 1000;decide,?_⟩;exact a.1 .SO { u with place:=on } (by unfold W4;rw [M1 B,M1 J,C];rfl) _ (b7.trans UP.m) (X.setM (oz on) rfl rfl)
     ·have q:cR mc nm num st=none:=by simpa using q
      exact a.2 (by unfold W4;rw [M1 B,M1 J,q];rfl)
theorem wK {x:Addr} {C m:Addr} {fs:List (Str × V)} (b:S6 x H H') (h:H x=some (.ins C m fs)):gA K H H':=by
 refine ⟨λa xs q=>?_,λa xs q=>⟨xs,?_⟩⟩
 ·rcases q with (q | ⟨u,q⟩) | q
  ·exact .inl (.inl (b _ _ (λz=>by rw [z,h] at q;cases q) q))
  ·exact .inl (.inr ⟨u,b _ _ (λz=>by rw [z,h] at q;cases q) q⟩)
  ·exact .inr q
 ·rcases q with (q | ⟨u,q⟩) | q
  ·exact .inl (.inl (b _ _ (λz=>by rw [z,h] at q;cases q) q))
  ·exact .inl (.inr ⟨u,b _ _ (λz=>by rw [z,h] at q;cases q) q⟩)
  ·exact .inr q
variable {tl:TE}
theorem FW {f:Str} {x:Addr} (h:RC K tl σ H es) (q:∀ l ys H',H l=none->SJ H H'->H' l=some (.lst ys)->SI K H' es ys->∃ C a fs,H' x=some (.ins C a fs)/\X5 K C/\S4 K C f/\fs.length < 1000/\us En σ (upd H' x (.ins C a (kG f (.ref l) fs))))
  (e:σ[i]?=some (some (.ref x)):=by rfl):lX (Jo K (fT i) tl f) us En σ H :=
 h.use λl ys H' n s b m=>let ⟨C,a,fs,u,z,B,I,J⟩:=q l ys H' n s b m;⟨_,e,x,C,a,fs,rfl,u,z,B,I,J⟩
noncomputable def Jr (K:W.Frag) (C:Addr):Sp:=λvs H Q _=>∃ (x q a:Addr) (h s:V) (mc:MC) (r:List Int),vs=[.ref x,.ref a,h,.int mc.b,s]/\H x=some (.ins C q [])/\H a=some (.lst (mc.cs.map V.int))/\Dat K H (.tup (mc.as.map D.int)) h/\LD K H (r.reverse.map D.int) s/\r.length<=900 /\
 ∀ (A:MA) (H':Hp),A.m=x->A.dx=q->A.lc=a->A.vg=h->S6 x H H'->H A.lp=none->H A.lk=none->SX K C A mc ⟨r,0,[],false⟩ H'->Q .SO H'
theorem mm (T:Txt P w K mg)  : Te P w K mg base WI (k+1) T.Kl T.Km ["self","cells","given","size","pile"] (Jr K T.JW):=by
 refine T.Le.ok UO (λvs H Q E h=>?_) (λcdv A outer s H vs Q E hr h=>?_)
 ·obtain ⟨x,a,m,J,v4,mc,r,rfl,_⟩:=h;rfl
 have nd:=UO.nd;obtain ⟨x,a,m,J,v4,mc,r,rfl,L,N,hg,hp,lr,post⟩:=h;refine ⟨_,(aE (kF (pv 0) (pv 1) rfl)
 (aE (kF (pv 0) (pv 2) rfl)
 (aE (kF (pv 0) (pv 3) rfl)
 (aE (kF (pv 0) (eP uo rfl T.NL pK (aD (pv 4) aC)) rfl)
 (aE (kF (pv 0) aF rfl)
 (aE (kF (pv 0) (bY aC) rfl)
 (aH (kF (pv 0) d8 rfl)))))))),?_⟩
 have C:m≠x:=λz=>by rw [z,L] at N;cases N
 refine ⟨_,rfl,_,rfl,x,_,a,_,rfl,L,T.SK,T.US,by show 0 < 1000;decide,?_⟩;refine ⟨_,rfl,_,rfl,x,_,a,_,rfl,aI,T.SK,T.UT,by show 1 < 1000;decide,?_⟩;refine ⟨_,rfl,_,rfl,x,_,a,_,rfl,aI,T.SK,T.Vf,by show 2 < 1000;decide,?_⟩;generalize e3:upd (upd (upd H x _) x _) x _=O;have M:S6 x H O:=by rw [<- e3];exact S6.upd (S6.upd (S6.upd (SJ.refl _).but))
 have x3:O x=some (.ins T.JW a [("cells",.ref m),("given",J),("size",.int mc.b)]):=by rw [<- e3,aI];kernel_rfl
 have p3:LD K O (r.reverse.map D.int) v4:=by
  obtain ⟨l,vs,e,hq,hd⟩:=hp;refine ⟨l,vs,e,?_,SI.mono (wK M L) _ hd⟩;rcases hq with q | q
  ·exact .inl (M _ _ (λz=>by rw [z,L] at q;cases q) q)
  ·exact .inr q
 refine FW (K:=K) (x:=x) (zi (a8 (k:=4) p3)) λlp ys H4 np s4 hy dy=>?_;obtain rfl:=qm dy;refine ⟨_,a,_,s4 _ _ x3,T.SK,T.TU,by show 3 < 1000;decide,?_⟩;refine ⟨_,rfl,x,_,a,_,rfl,aI,T.SK,T.TJ,by show 4 < 1000;decide,?_⟩;generalize X:upd (upd H4 x _) x _=I;have R:S6 x H I:=by rw [<- X];exact S6.upd (S6.upd (M.trans s4.but))
 have u:lp≠x:=λz=>by rw [z,x3] at np;cases np
 have p6:I lp=some (.lst (pV r)):=by rw [<- X,aS u,aS u];exact hy
 have x6:I x=some (.ins T.JW a [("cells",.ref m),("given",J),("size",.int mc.b),("pile",.ref lp),("place",.int 0)]):=by rw [<- X,aI];kernel_rfl
 refine ⟨dB (by decide),λlk nk=>?_⟩;have B:lk≠x:=λz=>by rw [z,x6] at nk;cases nk
 have Y:lp≠lk:=λz=>by rw [<- z,p6] at nk;cases nk
 have c6:I m=some (.lst (mc.cs.map V.int)):=R _ _ C N;have Z:m≠lk:=λz=>by rw [<- z,c6] at nk;cases nk
 have ncp:m≠lp:=λz=>by rw [<- z,M _ _ C N] at np;cases np
 refine ⟨_,rfl,x,_,a,_,rfl,by rw [aS (PN B)];exact x6,T.SK,T.Ub,by show 5 < 1000;decide,?_⟩;refine ⟨_,rfl,x,_,a,_,rfl,aI,T.SK,T.Ur,by show 6 < 1000;decide,?_⟩;generalize e9:upd (upd (upd I lk _) x _) x _=S;have U:S6 x I S:=by rw [<- e9];exact S6.upd (S6.upd (aV nk _).but)
 have k9:S lk=some (.lst (XY [])):=by rw [<- e9,aS B,aS B,aI];rfl
 have x9:S x=some (.ins T.JW a (mF ⟨x,a,lp,lk,m,J⟩ mc ⟨r,0,[],false⟩)):=by rw [<- e9,aI];kernel_rfl
 have nH:∀ b,b≠x->I b=none->H b=none:=λb z n=>by
  cases e:H b with
  | none=>rfl
  | some o=>rw [R _ _ z e] at n;cases n
 have nH3:∀ b,b≠x->O b=none->H b=none:=λb z n=>by
  cases e:H b with
  | none=>rfl
  | some o=>rw [M _ _ z e] at n;cases n
 exact post ⟨x,a,lp,lk,m,J⟩ S rfl rfl rfl rfl (R.trans U) (nH3 _ u np) (nH _ B nk) ⟨x9,U _ _ C c6,Dat.mono (wK (R.trans U) L) _ hg,U _ _ u p6,k9,Y,ncp,Z⟩
theorem ur (ok:okC cs):oS (cD cs)=true:=by unfold oS;have l0:=ok.l0;have l1:=ok.l1;rw [Pz,Pz];refine ⟨⟨Py (by rw [Pf];lia),Py (by rw [Pf];lia)⟩,?_⟩;rw [QH];intro b a;obtain ⟨d,h,rfl⟩:=QB.mp a;obtain ⟨c,m,rfl⟩:=QB.mp h;obtain ⟨i,hi⟩:=List.mem_iff_getElem?.mp m;obtain ⟨q,s⟩:=ok.c i c hi;show (decide (0<=c) && decide (c<=99))=true;rw [Py q,Py s];rfl
section
variable {mc:MC} {st s:MS} {nm:Str} {num on:Nat}
theorem Ex {p:Nat × MS} (o:j6 mc st) (h:jS nm num on st=some p):j6 mc p.2/\p.2.ended=st.ended:=by
 unfold jS at h;split at h
 ·cases h;exact ⟨o,rfl⟩
 ·split at h
  ·obtain ⟨q,a,e⟩:=PX.mp h;cases e;exact ⟨(nA o a).1,(jv a).2.2.2⟩
  ·split at h
   ·split at h
    ·cases h
    ·rename_i b;cases h;have:=o.k;exact ⟨⟨o.p,o.l,by show st.kept.length+1<=16;lia⟩,rfl⟩
   ·split at h
    ·cases h
    ·rename_i k r e;cases h;have:=o.k;rw [e,Pr] at this;exact ⟨⟨o.p,o.l,by show r.length<=16;lia⟩,rfl⟩
theorem Cs (S:2<=mc.b) (o:j6 mc st) (h:cR mc nm num st=some s):j6 mc s/\s.ended=st.ended:=by
 have m:∀ {n:Int} {a b:MS},j6 mc a->cI mc n a=some b->j6 mc b/\b.ended=a.ended:=λC q=>⟨vw S C q,(gX q).2.2.2.2⟩
 have tk:∀ {p:Int × MS} {a:MS},j6 mc a->eG a=some p->j6 mc p.2/\p.2.ended=a.ended:=λC q=>⟨(nA C q).1,(jv q).2.2.2⟩
 unfold cR at h;split at h
 ·exact m o h
 ·split at h
  ·exact m o h
  ·obtain ⟨u,T,h⟩:=Qn.mp h;obtain ⟨z,B⟩:=tk o T;split at h
   ·obtain ⟨a,b⟩:=m z h;exact ⟨a,b.trans B⟩
   ·split at h
    ·obtain ⟨s1,I,J⟩:=Qn.mp h;obtain ⟨L,M⟩:=m z I;obtain ⟨a,b⟩:=m L J;exact ⟨a,b.trans (M.trans B)⟩
    ·split at h
     ·obtain ⟨l,N,h⟩:=Qn.mp h;obtain ⟨O,R⟩:=tk z N;obtain ⟨s1,I,J⟩:=Qn.mp h;obtain ⟨L,M⟩:=m O I;obtain ⟨a,b⟩:=m L J;exact ⟨a,b.trans (M.trans (R.trans B))⟩
     ·obtain ⟨l,N,h⟩:=Qn.mp h;obtain ⟨O,R⟩:=tk z N;obtain ⟨a,b⟩:=m O h;exact ⟨a,b.trans (R.trans B)⟩
theorem AL (q:qS mc) (o:j6 mc st) (h:fJ mc st=some s):j6 mc s/\(st.ended=false->s.ended=true->s.pile.length=1):=by
 unfold fJ at h;split at h
 ·cases h
 ·split at h
  ·cases h
  ·split at h
   ·cases h
   ·unfold W4 at h;split at h
    ·obtain ⟨p,m,e⟩:=PX.mp h;cases e;obtain ⟨a,b⟩:=Ex o m;exact ⟨⟨a.p,a.l,a.k⟩,λz w=>by rw [show p.2.ended=true from w,z] at b;cases b⟩
    ·split at h
     ·obtain ⟨p,m,e⟩:=PX.mp h;cases e;unfold jq at m;split at m
      ·rename_i u;cases m;exact ⟨⟨o.p,o.l,o.k⟩,λ_ _=>u⟩
      ·cases m
     ·obtain ⟨p,m,e⟩:=PX.mp h;cases e;obtain ⟨a,b⟩:=Cs q.b2 o m;exact ⟨⟨a.p,a.l,a.k⟩,λz w=>by rw [show p.ended=true from w,z] at b;cases b⟩
end
inductive Res where
 | ends (v:Int)
 | fault (p:Nat)
 | late
 deriving DecidableEq
noncomputable def jg (mc:MC):Nat->MS->Res
 | 0,_=>.late
 | n+1,st=>match fJ mc st with
  | none=>.fault st.place
  | some s=>if s.ended=true then .ends (s.pile.headD 0) else jg mc n s
noncomputable abbrev ZX:MS:=⟨[],0,[],false⟩
theorem Dm:j6 mc ZX:=⟨(λ_ h=>by cases h),by show 0<=64;decide,by show 0<=16;decide⟩
noncomputable def AK (K:W.Frag) (C:Addr):Sp:=λvs H Q _=>∃ (a:Addr) (h:V) (mc:MC) (n:Nat),vs=[.ref a,h,.int mc.b,.int n]/\qS mc/\H a=some (.lst (mc.cs.map V.int))/\Dat K H (.tup (mc.as.map D.int)) h/\1<=n/\n<=100000 /\
 ∀ (A:MA) (H':Hp),SJ H H'->H A.m=none->H A.lp=none->H A.lk=none->SX K C A mc ZX H'->Q (.ref A.m) H'
theorem yU (T:Txt P w K mg) (MO:Ok P w base (k+1) T.Lo (Xs K pY)) (Oi:Te P w K mg base WI (k+1) T.LN T.LO ["size","most"] (Tj K B9)) (Oh:Ok P w base (k+1) T.Mx (Tj K B1)) (JZ:Ok P w base (k+1) T.JX (Tj K fW)) (Na:Te P w K mg base WI k T.Kl T.Km ["self","cells","given","size","pile"] (Jr K T.JW)):Ok P w base (k+1+1) T.M5 (AK K T.JW):=by
 refine T.M5.f.ok XO (λvs H Q E h=>?_) (λcdv A outer s H vs Q E a h=>?_)
 ·obtain ⟨I,X,mc,n,rfl,_⟩:=h;rfl
 have nd:=XO.nd;obtain ⟨I,X,mc,n,rfl,m,Y,Z,n1,n9,post⟩:=h;refine ⟨_,(aE (bP (pc (D:=T.Lo) MO a (aD (pv 0) aC)))
 (aE (bP (Au Oi a rfl T.Nw T.LQ.kp (wH T) (yc T) gN (aD (pv 2) aC)))
 (aE (bP (pc (D:=T.Mx) Oh a (aD (pv 1) (aD (pv 2) aC))))
 (aE (bE (cW (bR (pc (D:=T.JX) JZ a (aD (pv 3) (aD aF (aD (bT (v:=.int 100000) rfl T.K5 ⟨_,rfl⟩) aC)))) (λ_=>rfl))) (aH dF) aQ)
 (aH (aP (Fp T.XS Na a rfl T.L8 (mL T) .nil gN (aD (pv 0) (aD (pv 1) (aD (pv 2) (aD (bY aC) aC))))))))))),?_⟩
 have Xv:=m.cs;have l1:=Xv.l1;have LC:LD K H (cD mc.cs) (.ref I):=LD.of Y (dN _);refine jf (RE.use (eF (R:=pY) (d:=.SO) (gB (a8 (K:=K) (k:=0) LC) dU) ⟨cD mc.cs,rfl,by rw [Pf];lia,ur Xv,rfl⟩) λv5 H1 s1 _=>?_);refine jf (RE.use (DP (R:=B9) (d:=.SO) (aB (aA (K:=K) (k:=2) (Dat.SN mc.b)) aM) (λ_=>SI.cons (Dat.SN _) SI.nil) ⟨mc.b,_,rfl,m.b2,m.b9,rfl⟩) λv6 H2 s2 _=>?_);have q:=s1.trans s2;refine jf (RE.use (bM (R:=B1) (d:=.SO) (aB (aA (K:=K) (k:=1) (q.dat Z)) (aB (aA (k:=2) (Dat.SN mc.b)) aM)) ⟨mc.as,mc.b,rfl,m.as,m.ai,rfl⟩) λv7 H3 s3 _=>?_);have Tc:=q.trans s3
 have ew:dM (.int (n:Int)) 1 100000=true:=by show (decide ((1:Int)<=n) && decide ((n:Int)<=100000))=true;rw [Py (by lia),Py (by lia)];rfl
 refine aR (K:=K) (b:=false) (RT.as (bZ (bO (bM (R:=fW) (aB (aA (k:=3) (Dat.SN (n:Int))) (aB aG (aB aG aM))) ⟨_,_,_,rfl,rfl⟩))) (by rw [ew];rfl)) (λc=>nomatch c) (λ_ H4 s4=>?_);have Ux:=Tc.trans s4;refine ⟨_,rfl,_,rfl,_,rfl,dB (by decide),λl0 J x L nx u N=>?_⟩;generalize e5:upd H4 l0 (.lst [])=C at nx u ⊢;have s5:SJ H4 C:=by rw [<- e5];exact aV J _
 have O:=Ux.trans s5;have s6:SJ C (upd (upd C L (.own x)) x (.ins T.JW L [])):=(aV u _).trans (aV (by rw [aS (PN N)];exact nx) _);have B:=O.trans s6;have h5:C l0=some (.lst []):=by rw [<- e5];exact aI
 refine ⟨x,L,I,X,.ref l0,mc,[],rfl,aI,B _ _ Y,B.dat Z,LD.of (s6 _ _ h5) (dN []),by decide,λA H' em edx elc evg b S U M=>⟨rfl,?_⟩⟩;subst em;refine post A H' (λb' o e=>?_) (O.free nx) (B.free S) (B.free U) M;exact b b' o (λz=>by rw [z,O.free nx] at e;cases e) (B _ _ e)
noncomputable def D7 (K:W.Frag):Sp:=λvs H Q _=>∃ (a:Addr) (h:V) (mc:MC) (n:Nat) (v:Int),vs=[.ref a,h,.int mc.b,.int n]/\qS mc/\H a=some (.lst (mc.cs.map V.int))/\Dat K H (.tup (mc.as.map D.int)) h/\1<=n/\n<=100000/\jg mc n ZX=.ends v/\∀ H',SJ H H'->Q (.int v) H'
theorem AW (s:SJ H G) (b:UP A G G') (a:H A.m=none) (h:H A.lp=none) (q:H A.lk=none):SJ H G':=λx o e =>
 b x o (λz=>by rw [z,a] at e;cases e) (λz=>by rw [z,h] at e;cases e) (λz=>by rw [z,q] at e;cases e) (s x o e)
theorem HF (T:Txt P w K mg) (OI:Ok P w base k T.M5 (AK K T.JW)) (NG:Te P w K mg base WI k T.KR T.KW ["self"] (D9 K T.JW T.JW)):Te P w K mg base WI (k+1) T.Ol T.NW ["code","args","size","steps"] (D7 K):=by
 refine T.ON.ok ZD (λvs H Q E h=>?_) (λcdv A outer s H vs Q E S h=>?_)
 ·obtain ⟨I,J,mc,n,U,rfl,_⟩:=h;rfl
 have X:=ZD.nd;obtain ⟨I,J,mc,n,U,rfl,L,hc,hg,n1,n9,B,pe⟩:=h;refine ⟨_,(aE (bQ (i:=4) X rfl (Or.inl rfl) (pc (D:=T.M5) OI S (aD (pv 0) (aD (pv 1) (aD (pv 2) (aD (pv 3) aC))))))
 (aE (jK Qv rfl (ko rfl T.MH (aD (pv 3) aC)) (a7 (i:=5) X rfl (Or.inl rfl)) (aE (bP (kn (pv 4) T.SK T.VQ NG S (qa T) .nil gN))
 (aH (bE (bR (gE (pv 4) rfl) (λ_=>rfl)) (aH (aP (aY bX (gE (pv 4) rfl) aF))) aQ))))
 (aH dF))),?_⟩
 refine fR ⟨_,rfl,_,rfl,_,rfl,_,rfl,I,J,mc,n,rfl,L,hc,hg,n1,n9,λA H1 s1 nm np nk M=>?_⟩;refine eB ⟨_,rfl,(n:Int),rfl,by lia,by lia,nY (n:=(n:Int).toNat) (λi σ G=>∃ (z:Option V) (st:MS),σ=[some (.ref I),some J,some (.int mc.b),some (.int n),some (.ref A.m),z]/\SX K T.JW A mc st G/\j6 mc st/\st.ended=false/\SJ H G/\jg mc n ZX=jg mc (n - i) st) ?_ ?_ ?_⟩
 ·exact ⟨none,ZX,rfl,M,Dm,rfl,s1,rfl⟩
 ·rintro i σ G hi ⟨z,st,rfl,M,os,Y,Z,a⟩;refine kJ ?_;dsimp only;obtain ⟨N,ek⟩:∃ N,n - i=N+1:=⟨n - i - 1,by lia⟩
  have O:n - (i+1)=N:=by lia
  rw [ek] at a;refine jf ⟨_,rfl,A.m,A.dx,_,rfl,M.ins,by kernel_rfl,A,mc,st,rfl,M,L,os,λv u e H2 b2 M2=>?_,λe=>?_⟩
  ·obtain ⟨s',hs,e2⟩:=PX.mp e;cases e2;obtain ⟨R,one⟩:=AL L os hs;have s2:=AW Z b2 nm np nk;rw [jg,hs] at a;dsimp only at a;refine jE (v:=.bl u.ended) M2 T.SK T.Ur ⟨u.ended,rfl,?_⟩
   cases C:u.ended with
   | true =>
    rw [Pk C] at a;have l1:=one Y C
    obtain ⟨x,hx⟩:∃ x,u.pile=[x]:=by
     match hq:u.pile,l1 with
     | [x],_=>exact ⟨x,rfl⟩
    refine j4 (bJ (K:=K) (d:=.int x) (iD (k:=0) (vQ M2 T.SK T.TU) aG (by rw [hx];rfl)) λv H3 s3 q=>?_);rw [q.SQ];rw [B,hx] at a;injection a with a;have a:U=x:=a;rw [<- a];exact pe H3 (s2.trans s3)
   | false =>rw [M1 (by rw [C];exact Pp)] at a;exact j0 ⟨_,u,rfl,M2,R,C,s2,by rw [a,O]⟩
  ·have e:fJ mc st=none:=by simpa using e
   rw [jg,e] at a;rw [B] at a;cases a
 rintro σ G ⟨z,st,rfl,M,os,Y,Z,a⟩;have e0:n - (n:Int).toNat=0:=by lia
 rw [e0] at a;rw [B] at a;cases a
noncomputable def bK (as:List Int) (b:Int):Tr->Int
 | .num n=>n % b
 | .arg k=>as.getD k.toNat 0
 | .two o x y=>two o (bK as b x) (bK as b y) b
 | .pick x y z=>if bK as b x=0 then bK as b z else bK as b y
inductive Go (mc:MC):Nat->MS->MS->Prop
 | nil {s:MS}:Go mc 0 s s
 | cons {n:Nat} {s s1 s2:MS}:fJ mc s=some s1->s1.ended=false->Go mc n s1 s2->Go mc (n+1) s s2
variable {s1 s2:MS}
theorem Go.trans {m:Nat} {h:MS} (a:Go mc n s1 s2) (b:Go mc m s2 h):Go mc (n+m) s1 h:=by
 induction a with
 | nil=>rw [Nat.zero_add];exact b
 | cons e d _ q=>rw [Nat.succ_add];exact .cons e d (q b)
variable {s':MS}
theorem Go.run {s:MS} (a:Go mc n s s') (k:Nat):jg mc (n+k) s=jg mc k s':=by
 induction a with
 | nil=>rw [Nat.zero_add]
 | cons e d _ b =>rw [Nat.succ_add];show (match fJ mc _ with | none=>_ | some s=>_)=_;rw [e];dsimp only;rw [d,M1 Pp];exact b
noncomputable abbrev at_ (s:List Int) (p:Nat) (k:List Nat):MS:=⟨s,p,k,false⟩
variable {a b args s:List Int}
theorem fZ {k:List Nat} (h:mc.cs=a++c::(args++b)) (C:c<=16) (m:args.length=cG c) :
  fJ mc (at_ s a.length k)=if iH (Vh c) (iJ args).toNat=true then none else W4 mc (Vh c) (iJ args).toNat (a.length+1+args.length) (at_ s a.length k):=by
 unfold fJ
 have q:mc.cs[(at_ s a.length k).place]?=some c:=by rw [h];show (a++c::(args++b))[a.length]?=some c;rw [Qs (Pu _),SH];rfl
 rw [q]
 have u:jn mc.cs (at_ s a.length k).place c=false:=by
  unfold jn
  rw [h,Po (by lia),Po (by
   show ¬ (a++c::(args++b)).length<=a.length+cG c;rw [tB,Pr,tB];lia)]
  rfl
 have z:lF mc.cs (at_ s a.length k).place c=(iJ args).toNat:=by
  unfold lF YC;rw [h];show (iJ (((a++c::(args++b)).drop (a.length+1)).take (cG c))).toNat=_
  have B:(a++c::(args++b)).drop (a.length+1)=args++b:=by rw [R6,List.drop_eq_nil_of_le (by lia),Ri,show a.length+1 - a.length=1 by lia];rfl
  rw [B,<- m,List.take_left'];rfl
 dsimp only;rw [u,z,M1 Pp,m]
theorem Zo {s:MS} (h:fJ mc s=some s1) (e:s1.ended=false):Go mc 1 s s1:=.cons h e .nil
theorem gW {n:Int} {k:List Nat} (h:s.length<=63):cI mc n (at_ s p k)=some (at_ (n % mc.b::s) p k):=by unfold cI;rw [M1 (show ¬ s.length=64 by lia)]
theorem je (h:¬ nm="load") (m:¬ nm="skip") (q:¬ nm="zero"):¬ iH nm n=true:=by
 unfold iH j9
 have e:KTD.datumAt nm Y8=none:=by show (if decide (nm="load")=true then _ else if decide (nm="skip")=true then _ else if decide (nm="zero")=true then _ else _)=_;rw [M1 (by simp [h]),M1 (by simp [m]),M1 (by simp [q])];rfl
 rw [e];simp
theorem JA (h:nm="skip"\/nm="zero") (m:n<=9):¬ iH nm n=true:=by
 unfold iH;have e:j9 nm Y8 n=9:=by rcases h with rfl | rfl <;> kernel_rfl
 rw [e];simp;lia
theorem JV (h:n<=3):¬ iH "load" n=true:=by
 unfold iH;have e:j9 "load" Y8 n=3:=by kernel_rfl
 rw [e];simp;lia
theorem iG {x:Int} {k:List Nat}:eG (at_ (x::s) p k)=some (x,at_ s p k):=rfl
theorem qC {n:Int} {k:List Nat} (h:mc.cs=a++1::n::b) (q:0<=n) (m:s.length<=63):Go mc 1 (at_ s a.length k) (at_ (n % mc.b::s) (a.length+2) k):=by
 refine Zo ?_ rfl;rw [fZ (args:=[n]) h (by decide) rfl,show Vh 1="put" from rfl,M1 (je (by decide +kernel) (by decide +kernel) (by decide +kernel))];unfold W4 cR;rw [M1 (by decide +kernel),M1 (by decide +kernel),Pk (by decide +kernel),gW m];have e:(((iJ [n]).toNat:Nat):Int)=n:=by simp [iJ];lia
 rw [e];rfl
theorem CJ {n m:Int} {k:List Nat} (h:mc.cs=a++2::n::m::b) (u:0<=n) (z:0<=m) (q:s.length<=63):Go mc 1 (at_ s a.length k) (at_ ((m * 100+n) % mc.b::s) (a.length+3) k):=by
 refine Zo ?_ rfl;rw [fZ (args:=[n,m]) h (by decide) rfl,show Vh 2="far" from rfl,M1 (je (by decide +kernel) (by decide +kernel) (by decide +kernel))];unfold W4 cR;rw [M1 (by decide +kernel),M1 (by decide +kernel),Pk (by decide +kernel),gW q];have e:(((iJ [n,m]).toNat:Nat):Int)=m * 100+n:=by simp [iJ];lia
 rw [e];rfl
theorem uG {n:Int} {k:List Nat} (h:mc.cs=a++3::n::b) (q:0<=n) (u:n<=3) (m:s.length<=63):Go mc 1 (at_ s a.length k) (at_ (mc.as.getD n.toNat 0 % mc.b::s) (a.length+2) k):=by
 refine Zo ?_ rfl;have e:(iJ [n]).toNat=n.toNat:=by simp [iJ]
 rw [fZ (args:=[n]) h (by decide) rfl,show Vh 3="load" from rfl,e,M1 (JV (by lia))];unfold W4 cR;rw [M1 (by decide +kernel),M1 (by decide +kernel),M1 (by decide +kernel),Pk rfl,gW m];rfl
theorem uF {x y:Int} {k:List Nat} (h:mc.cs=a++4::b) (m:2<=mc.b) (q:s.length<=63):Go mc 1 (at_ (y::x::s) a.length k) (at_ (two "add" x y mc.b::s) (a.length+1) k):=by refine Zo ?_ rfl;rw [fZ (args:=[]) h (by decide) rfl,show Vh 4="add" from rfl,M1 (je (by decide +kernel) (by decide +kernel) (by decide +kernel))];unfold W4 cR;rw [M1 (by decide +kernel),M1 (by decide +kernel),M1 (by decide +kernel),M1 (by decide +kernel),iG,P8];dsimp only;rw [M1 (by decide +kernel),M1 (by decide +kernel),M1 (by decide +kernel),iG,P8];dsimp only;rw [gW q,Qk (jR m).1 (jR m).2];rfl
theorem yC {x y:Int} {k:List Nat} (h:mc.cs=a++5::b) (m:2<=mc.b) (q:s.length<=63):Go mc 1 (at_ (y::x::s) a.length k) (at_ (two "sub" x y mc.b::s) (a.length+1) k):=by refine Zo ?_ rfl;rw [fZ (args:=[]) h (by decide) rfl,show Vh 5="sub" from rfl,M1 (je (by decide +kernel) (by decide +kernel) (by decide +kernel))];unfold W4 cR;rw [M1 (by decide +kernel),M1 (by decide +kernel),M1 (by decide +kernel),M1 (by decide +kernel),iG,P8];dsimp only;rw [M1 (by decide +kernel),M1 (by decide +kernel),M1 (by decide +kernel),iG,P8];dsimp only;rw [gW q,Qk (jR m).1 (jR m).2];rfl
theorem CK {x y:Int} {k:List Nat} (h:mc.cs=a++6::b) (m:2<=mc.b) (q:s.length<=63):Go mc 1 (at_ (y::x::s) a.length k) (at_ (two "mul" x y mc.b::s) (a.length+1) k):=by refine Zo ?_ rfl;rw [fZ (args:=[]) h (by decide) rfl,show Vh 6="mul" from rfl,M1 (je (by decide +kernel) (by decide +kernel) (by decide +kernel))];unfold W4 cR;rw [M1 (by decide +kernel),M1 (by decide +kernel),M1 (by decide +kernel),M1 (by decide +kernel),iG,P8];dsimp only;rw [M1 (by decide +kernel),M1 (by decide +kernel),M1 (by decide +kernel),iG,P8];dsimp only;rw [gW q,Qk (jR m).1 (jR m).2];rfl
theorem Ad {x y:Int} {k:List Nat} (h:mc.cs=a++7::b) (m:2<=mc.b) (q:s.length<=63):Go mc 1 (at_ (y::x::s) a.length k) (at_ (two "less" x y mc.b::s) (a.length+1) k):=by refine Zo ?_ rfl;rw [fZ (args:=[]) h (by decide) rfl,show Vh 7="less" from rfl,M1 (je (by decide +kernel) (by decide +kernel) (by decide +kernel))];unfold W4 cR;rw [M1 (by decide +kernel),M1 (by decide +kernel),M1 (by decide +kernel),M1 (by decide +kernel),iG,P8];dsimp only;rw [M1 (by decide +kernel),M1 (by decide +kernel),M1 (by decide +kernel),iG,P8];dsimp only;rw [gW q,Qk (jR m).1 (jR m).2];rfl
theorem uI {n x:Int} {k:List Nat} (h:mc.cs=a++12::n::b) (q:0<=n) (m:s.length<=63):Go mc 1 (at_ (x::s) a.length k) (at_ ((x+n) % mc.b::s) (a.length+2) k):=by
 refine Zo ?_ rfl;rw [fZ (args:=[n]) h (by decide) rfl,show Vh 12="more" from rfl,M1 (je (by decide +kernel) (by decide +kernel) (by decide +kernel))];have e:(((iJ [n]).toNat:Nat):Int)=n:=by simp [iJ];lia
 unfold W4 cR;rw [M1 (by decide +kernel),M1 (by decide +kernel),M1 (by decide +kernel),M1 (by decide +kernel),iG,P8];dsimp only;rw [Pk rfl,e,gW m];rfl
theorem CL {x:Int} {k:List Nat} (h:mc.cs=a++13::b) (m:0<=x/\x < mc.b) (q:s.length<=62):Go mc 1 (at_ (x::s) a.length k) (at_ (x::x::s) (a.length+1) k):=by refine Zo ?_ rfl;rw [fZ (args:=[]) h (by decide) rfl,show Vh 13="twice" from rfl,M1 (je (by decide +kernel) (by decide +kernel) (by decide +kernel))];unfold W4 cR;rw [M1 (by decide +kernel),M1 (by decide +kernel),M1 (by decide +kernel),M1 (by decide +kernel),iG,P8];dsimp only;rw [M1 (by decide +kernel),Pk rfl,gW (by lia),P8];rw [gW (by rw [Pr];lia),Qk m.1 m.2];rfl
theorem CI {x y:Int} {k:List Nat} (h:mc.cs=a++14::b) (m:0<=x/\x < mc.b) (q:0<=y/\y < mc.b) (u:s.length<=62):Go mc 1 (at_ (y::x::s) a.length k) (at_ (x::y::s) (a.length+1) k):=by refine Zo ?_ rfl;rw [fZ (args:=[]) h (by decide) rfl,show Vh 14="about" from rfl,M1 (je (by decide +kernel) (by decide +kernel) (by decide +kernel))];unfold W4 cR;rw [M1 (by decide +kernel),M1 (by decide +kernel),M1 (by decide +kernel),M1 (by decide +kernel),iG,P8];dsimp only;rw [M1 (by decide +kernel),M1 (by decide +kernel),Pk rfl,iG,P8];dsimp only;rw [gW (by lia),P8];rw [gW (by rw [Pr];lia),Qk m.1 m.2,Qk q.1 q.2];rfl
theorem E1 {k:List Nat} (h:mc.cs=a++(fN 8 9 n++b)):Go mc 1 (at_ s a.length k) (at_ s (a.length+(fN 8 9 n).length+n) k):=by
 refine Zo (s1:=at_ s (a.length+(fN 8 9 n).length+n) k) ?_ rfl;unfold fN at h ⊢;by_cases c:(n:Int)<=9
 ·rw [Pk c] at h ⊢;have e:(iJ [(n:Int)]).toNat=n:=by simp [iJ]
  rw [fZ (args:=[(n:Int)]) h (by decide) rfl,show Vh 8="skip" from rfl,e,M1 (JA (.inl rfl) (by lia))];unfold W4 jS;rw [Pk (by decide +kernel),Pk (by decide +kernel)];rfl
 ·rw [M1 c] at h ⊢;have e:(iJ [(n:Int) % 100,(n:Int) / 100]).toNat=n:=by simp [iJ];lia
  rw [fZ (args:=[(n:Int) % 100,(n:Int) / 100]) h (by decide) rfl,show Vh 9="jump" from rfl,e,M1 (je (by decide +kernel) (by decide +kernel) (by decide +kernel))];unfold W4 jS;rw [Pk (by decide +kernel),Pk (by decide +kernel)];rfl
theorem E2 {x:Int} {k:List Nat} (h:mc.cs=a++(fN 10 11 n++b)):Go mc 1 (at_ (x::s) a.length k) (at_ s (a.length+(fN 10 11 n).length+if x=0 then n else 0) k):=by
 refine Zo (s1:=at_ s (a.length+(fN 10 11 n).length+if x=0 then n else 0) k) ?_ rfl;unfold fN at h ⊢;by_cases c:(n:Int)<=9
 ·rw [Pk c] at h ⊢;have e:(iJ [(n:Int)]).toNat=n:=by simp [iJ]
  rw [fZ (args:=[(n:Int)]) h (by decide) rfl,show Vh 10="zero" from rfl,e,M1 (JA (.inr rfl) (by lia))];unfold W4 jS;rw [Pk (by decide +kernel),M1 (by decide +kernel),Pk (by decide +kernel),iG];by_cases m:x=0
  ·rw [Pk m];simp [m]
  ·rw [M1 m];simp [m]
 ·rw [M1 c] at h ⊢;have e:(iJ [(n:Int) % 100,(n:Int) / 100]).toNat=n:=by simp [iJ];lia
  rw [fZ (args:=[(n:Int) % 100,(n:Int) / 100]) h (by decide) rfl,show Vh 11="none" from rfl,e,M1 (je (by decide +kernel) (by decide +kernel) (by decide +kernel))];unfold W4 jS;rw [Pk (by decide +kernel),M1 (by decide +kernel),Pk (by decide +kernel),iG];by_cases m:x=0
  ·rw [Pk m];simp [m]
  ·rw [M1 m];simp [m]
theorem iV {i m:Int} {f:Vg} (h:cO (.gap i m) t=some f):∃ n,t=.num n/\n<=m/\f=([],[n],[]):=by
 cases t with
 | num n =>
  have h:(if n<=m then some ([],[n],[]) else none:Option Vg)=some f:=h;by_cases c:n<=m
  ·rw [Pk c] at h;cases h;exact ⟨n,rfl,c,rfl⟩
  ·rw [M1 c] at h;cases h
 | _=>cases h
theorem m9 {i:Int} {f:Vg} (h:cO (.slot i) t=some f):∃ n,t=.arg n/\f=([],[],[n]):=by
 cases t with
 | arg n=>cases h;exact ⟨n,rfl,rfl⟩
 | _=>cases h
theorem uC {m:Int} {f:Vg} (h:cO (.num m) t=some f):t=.num m/\f=([],[],[]):=by
 cases t with
 | num n =>
  have h:(if n=m then some ([],[],[]) else none:Option Vg)=some f:=h;by_cases c:n=m
  ·rw [Pk c] at h;cases h;exact ⟨by rw [c],rfl⟩
  ·rw [M1 c] at h;cases h
 | _=>cases h
theorem eE {i:Int} {f:Vg} (h:cO (.hole i) t=some f):f=([t],[],[]):=by cases h;rfl
theorem jD {a b:Pa} {f:Vg} (h:cO (.two o a b) t=some f):∃ x y m q,t=.two o x y/\cO a x=some m/\cO b y=some q/\f=Hf m q:=by
 cases t with
 | two C x y=>obtain ⟨e,m,q,u,z,B⟩:=fC h;subst e;exact ⟨x,y,m,q,rfl,u,z,B⟩
 | _=>cases h
structure okA (mc:MC):Prop where
 len:mc.as.length=4
 ar:∀ x ∈ mc.as,0<=x/\x < mc.b
 b2:2<=mc.b
theorem uj (h:okA mc) {n:Int} (q:0<=n) (u:n<=3):mc.as.getD n.toNat 0 % mc.b=mc.as.getD n.toNat 0:=by
 have l:=h.len;have m:n.toNat < mc.as.length:=by lia
 have e:mc.as.getD n.toNat 0=mc.as[n.toNat]:=by rw [PZ,Pg m];rfl
 have:=h.ar _ (List.getElem_mem m);rw [e];exact Qk this.1 this.2
theorem lY (h:okA mc):∀ t:Tr,UQ t->0<=bK mc.as mc.b t/\bK mc.as mc.b t < mc.b
 | .num n,_=>⟨Qp _ (by have:=h.b2;lia),Qj _ (by have:=h.b2;lia)⟩
 | .arg k,m=>by show 0<=mc.as.getD k.toNat 0/\mc.as.getD k.toNat 0 < mc.b;rw [<- uj h m.1 m.2];exact ⟨Qp _ (by have:=h.b2;lia),Qj _ (by have:=h.b2;lia)⟩
 | .two o x y,_=>jR h.b2
 | .pick x y z,m=>by
  show 0<=(if bK mc.as mc.b x=0 then bK mc.as mc.b z else bK mc.as mc.b y)/\(if bK mc.as mc.b x=0 then bK mc.as mc.b z else bK mc.as mc.b y) < mc.b;split
  ·exact lY h z m.2.2
  ·exact lY h y m.2.1
noncomputable def eI (p:Pc):Prop:=∀ (mc:MC) (t:Tr) (f:Vg) (a b s:List Int) (k:List Nat),okA mc->UQ t->cO p.pt t=some f->mc.cs=a++((cK p).map (kM f.2.1 f.2.2)++b)->s.length<=61 ->
 ∃ m,m<=(cK p).length/\Go mc m (at_ ((f.1.map (bK mc.as mc.b)).reverse++s) a.length k) (at_ (bK mc.as mc.b t::s) (a.length+(cK p).length) k)
theorem hZ {s m:MS} (h:Go mc n s s') (q:s=s2) (u:s'=m):Go mc n s2 m:=by subst q u;exact h
theorem eQ {s':List Int} {h:Nat} {k:List Nat} (m:s=s') (q:p=h):at_ s p k=at_ s' h k:=by rw [m,q]
theorem pT (x y b:Int):two "add" x y b=(x+y) % b:=by unfold two;rw [M1 (by decide +kernel),Pk rfl]
theorem F9 (x y b:Int):two "mul" x y b=x * y % b:=by unfold two;rw [M1 (by decide +kernel),M1 (by decide +kernel),M1 (by decide +kernel)]
theorem HR:eI ⟨"one",.gap 0 99,[.int 1,.tup [.str "low",.int 0]]⟩:=by
 intro mc t f a b s k z m q h B;have u:s.length<=63:=by lia
 have l2:s.length<=62:=by lia
 obtain ⟨n,rfl,C,rfl⟩:=iV q;have h:mc.cs=a++1::(n % 100)::b:=h;have e:n % 100=n:=Qk m.1 (by lia);rw [e] at h;exact ⟨1,by decide,qC (s:=s) h m.1 u⟩
theorem HS:eI ⟨"two",.gap 0 9999,[.int 2,.tup [.str "low",.int 0],.tup [.str "high",.int 0]]⟩:=by
 intro mc t f a b s k z m q h B;have u:s.length<=63:=by lia
 have l2:s.length<=62:=by lia
 obtain ⟨n,rfl,C,rfl⟩:=iV q;have h:mc.cs=a++2::(n % 100)::(n / 100)::b:=h;have I:=m.1;exact ⟨1,by decide,hZ (CJ (s:=s) h (by lia) (by lia) u) rfl (eQ (P1 (· % mc.b::s) (by lia)) rfl)⟩
theorem Fv:eI ⟨"slot",.slot 0,[.int 3,.tup [.str "arg",.int 0]]⟩:=by
 intro mc t f a b s k q h u m B;have z:s.length<=63:=by lia
 have l2:s.length<=62:=by lia
 obtain ⟨n,rfl,rfl⟩:=m9 u;have m:mc.cs=a++3::n::b:=m;exact ⟨1,by decide,hZ (uG (s:=s) m h.1 h.2 z) rfl (eQ (P1 (·::s) (uj q h.1 h.2)) rfl)⟩
theorem HM:eI ⟨"add",.two "add" (.hole 0) (.hole 1),[.int 4]⟩:=by
 intro mc t f a b s k m C q h I;have u:s.length<=63:=by lia
 have l2:s.length<=62:=by lia
 obtain ⟨x,y,J,L,rfl,z,B,rfl⟩:=jD q;cases eE z;cases eE B;have h:mc.cs=a++4::b:=h;exact ⟨1,by decide,uF (s:=s) h m.b2 u⟩
theorem vF:eI ⟨"sub",.two "sub" (.hole 0) (.hole 1),[.int 5]⟩:=by
 intro mc t f a b s k m C q h I;have u:s.length<=63:=by lia
 have l2:s.length<=62:=by lia
 obtain ⟨x,y,J,L,rfl,z,B,rfl⟩:=jD q;cases eE z;cases eE B;have h:mc.cs=a++5::b:=h;exact ⟨1,by decide,yC (s:=s) h m.b2 u⟩
theorem HQ:eI ⟨"mul",.two "mul" (.hole 0) (.hole 1),[.int 6]⟩:=by
 intro mc t f a b s k m C q h I;have u:s.length<=63:=by lia
 have l2:s.length<=62:=by lia
 obtain ⟨x,y,J,L,rfl,z,B,rfl⟩:=jD q;cases eE z;cases eE B;have h:mc.cs=a++6::b:=h;exact ⟨1,by decide,CK (s:=s) h m.b2 u⟩
theorem Fs:eI ⟨"less",.two "less" (.hole 0) (.hole 1),[.int 7]⟩:=by
 intro mc t f a b s k m C q h I;have u:s.length<=63:=by lia
 have l2:s.length<=62:=by lia
 obtain ⟨x,y,J,L,rfl,z,B,rfl⟩:=jD q;cases eE z;cases eE B;have h:mc.cs=a++7::b:=h;exact ⟨1,by decide,Ad (s:=s) h m.b2 u⟩
theorem Ft:eI ⟨"more",.two "add" (.hole 0) (.gap 0 99),[.int 12,.tup [.str "low",.int 0]]⟩:=by
 intro mc t f a b s k I q u h J;have z:s.length<=63:=by lia
 have l2:s.length<=62:=by lia
 obtain ⟨x,y,L,M,rfl,B,C,rfl⟩:=jD u;cases eE B;obtain ⟨n,rfl,N,rfl⟩:=iV C;have m:0<=n:=q.2.2.1;have e:n % 100=n:=Qk m (by lia);have h:mc.cs=a++12::(n % 100)::b:=h;rw [e] at h;exact ⟨1,by decide,hZ (uI (s:=s) h m z) rfl (eQ (P1 (·::s) (by show (bK mc.as mc.b x+n) % mc.b=two "add" (bK mc.as mc.b x) (n % mc.b) mc.b;rw [pT];simp [Int.add_emod])) rfl)⟩
theorem HP:eI ⟨"inc",.two "add" (.hole 0) (.num 1),[.int 12,.int 1]⟩:=by
 intro mc t f a b s k B C m h I;have q:s.length<=63:=by lia
 have l2:s.length<=62:=by lia
 obtain ⟨x,y,J,L,rfl,u,z,rfl⟩:=jD m;cases eE u;obtain ⟨rfl,rfl⟩:=uC z;have h:mc.cs=a++12::1::b:=h;exact ⟨1,by decide,hZ (uI (s:=s) h (by decide) q) rfl (eQ (P1 (·::s) (by show (bK mc.as mc.b x+1) % mc.b=two "add" (bK mc.as mc.b x) (1 % mc.b) mc.b;rw [pT];simp [Int.add_emod])) rfl)⟩
theorem Fq:eI ⟨"both",.two "add" (.slot 0) (.slot 1),[.int 3,.tup [.str "arg",.int 0],.int 3,.tup [.str "arg",.int 1],.int 4]⟩:=by
 intro mc t f a b s k u h M N S;have J:s.length<=63:=by lia
 have l2:s.length<=62:=by lia
 obtain ⟨x,y,T,U,rfl,O,R,rfl⟩:=jD M;obtain ⟨n,rfl,rfl⟩:=m9 O;obtain ⟨m,rfl,rfl⟩:=m9 R;have q:mc.cs=a++3::n::(3::m::4::b):=N;have z:mc.cs=(a++[3,n])++3::m::(4::b):=by rw [q];simp
 have B:mc.cs=(a++[3,n,3,m])++4::b:=by rw [q];simp
 have L:=uG (s:=s) (k:=k) q h.2.1.1 h.2.1.2 J;have C:=uG (s:=mc.as.getD n.toNat 0 % mc.b::s) (k:=k) z h.2.2.1 h.2.2.2 (by rw [Pr];lia);have I:=uF (x:=mc.as.getD n.toNat 0 % mc.b) (y:=mc.as.getD m.toNat 0 % mc.b) (s:=s) (k:=k) B u.b2 J;rw [uj u h.2.1.1 h.2.1.2] at L C I;rw [uj u h.2.2.1 h.2.2.2] at C I;exact ⟨3,by decide,(L.trans (hZ C (eQ rfl (by simp)) rfl)).trans (hZ I (eQ rfl (by simp)) (eQ rfl (by rw [tB];rfl)))⟩
theorem yW:eI ⟨"twofold",.two "mul" (.hole 0) (.num 2),[.int 13,.int 4]⟩:=by
 intro mc t f a b s k q u z B N;have C:s.length<=63:=by lia
 have l2:s.length<=62:=by lia
 obtain ⟨x,y,O,R,rfl,I,J,rfl⟩:=jD z;cases eE I;obtain ⟨rfl,rfl⟩:=uC J;have h:mc.cs=a++13::(4::b):=B;have m:mc.cs=(a++[13])++4::b:=by rw [h];simp
 have L:=CL (s:=s) (k:=k) h (lY q x u.2.1) l2;have M:=uF (x:=bK mc.as mc.b x) (y:=bK mc.as mc.b x) (s:=s) (k:=k) m q.b2 C;refine ⟨2,by decide,L.trans (hZ M (eQ rfl (by simp)) (eQ (P1 (·::s) ?_) (by rw [tB];rfl)))⟩;show two "add" _ _ _=two "mul" (bK mc.as mc.b x) (2 % mc.b) mc.b;rw [pT,F9,show bK mc.as mc.b x+bK mc.as mc.b x=bK mc.as mc.b x * 2 by lia];simp [Int.mul_emod]
theorem Du:eI ⟨"fewer",.two "sub" (.hole 0) (.gap 0 99),[.int 1,.tup [.str "low",.int 0],.int 5]⟩:=by
 intro mc t f a b s k u z B C O;have I:s.length<=63:=by lia
 have l2:s.length<=62:=by lia
 obtain ⟨x,y,R,S,rfl,J,L,rfl⟩:=jD B;cases eE J;obtain ⟨n,rfl,T,rfl⟩:=iV L;have q:0<=n:=z.2.2.1;have e:n % 100=n:=Qk q (by lia);have h:mc.cs=a++1::(n % 100)::(5::b):=C;rw [e] at h;have m:mc.cs=(a++[1,n])++5::b:=by rw [h];simp
 have M:=qC (s:=bK mc.as mc.b x::s) (k:=k) h q (by rw [Pr];lia);have N:=yC (x:=bK mc.as mc.b x) (y:=n % mc.b) (s:=s) (k:=k) m u.b2 I;exact ⟨2,by decide,M.trans (hZ N (eQ rfl (by simp)) (eQ rfl (by rw [tB];rfl)))⟩
theorem HN:eI ⟨"far",.two "add" (.hole 0) (.gap 0 9999),[.int 2,.tup [.str "low",.int 0],.tup [.str "high",.int 0],.int 4]⟩:=by
 intro mc t f a b s k u z B C N;have I:s.length<=63:=by lia
 have l2:s.length<=62:=by lia
 obtain ⟨x,y,O,R,rfl,J,L,rfl⟩:=jD B;cases eE J;obtain ⟨n,rfl,S,rfl⟩:=iV L;have T:0<=n:=z.2.2.1;have h:mc.cs=a++2::(n % 100)::(n / 100)::(4::b):=C;have m:mc.cs=(a++[2,n % 100,n / 100])++4::b:=by rw [h];simp
 have q:=CJ (s:=bK mc.as mc.b x::s) (k:=k) h (by lia) (by lia) (by rw [Pr];lia);rw [show n / 100 * 100+n % 100=n by lia] at q;have M:=uF (x:=bK mc.as mc.b x) (y:=n % mc.b) (s:=s) (k:=k) m u.b2 I;exact ⟨2,by decide,q.trans (hZ M (eQ rfl (by simp)) (eQ rfl (by rw [tB];rfl)))⟩
theorem By:eI ⟨"addmul",.two "add" (.two "mul" (.hole 0) (.hole 1)) (.gap 0 99),[.int 6,.int 12,.tup [.str "low",.int 0]]⟩:=by
 intro mc t f a b s k C I J L U;have q:s.length<=63:=by lia
 have l2:s.length<=62:=by lia
 obtain ⟨u,y,X,Y,rfl,M,N,rfl⟩:=jD J;obtain ⟨x,z,Z,f4,rfl,O,R,rfl⟩:=jD M;cases eE O;cases eE R;obtain ⟨n,rfl,hn,rfl⟩:=iV N;have B:0<=n:=I.2.2.1;have e:n % 100=n:=Qk B (by lia);have h:mc.cs=a++6::(12::(n % 100)::b):=L;rw [e] at h;have m:mc.cs=(a++[6])++12::n::b:=by rw [h];simp
 have S:=CK (x:=bK mc.as mc.b x) (y:=bK mc.as mc.b z) (s:=s) (k:=k) h C.b2 q;have T:=uI (x:=two "mul" (bK mc.as mc.b x) (bK mc.as mc.b z) mc.b) (s:=s) (k:=k) m B q;refine ⟨2,by decide,S.trans (hZ T (eQ rfl (by simp)) (eQ (P1 (·::s) ?_) (by rw [tB];rfl)))⟩;show _=two "add" (two "mul" (bK mc.as mc.b x) (bK mc.as mc.b z) mc.b) (n % mc.b) mc.b;rw [pT];simp [Int.add_emod]
theorem Bz:eI ⟨"turned",.two "less" (.gap 0 99) (.hole 0),[.int 1,.tup [.str "low",.int 0],.int 14,.int 7]⟩:=by
 intro mc t f a b s k m q C I S;have J:s.length<=63:=by lia
 have l2:s.length<=62:=by lia
 obtain ⟨y,x,T,U,rfl,L,M,rfl⟩:=jD C;cases eE M;obtain ⟨n,rfl,X,rfl⟩:=iV L;have B:0<=n:=q.2.1.1;have e:n % 100=n:=Qk B (by lia);have h:mc.cs=a++1::(n % 100)::(14::7::b):=I;rw [e] at h;have u:mc.cs=(a++[1,n])++14::(7::b):=by rw [h];simp
 have z:mc.cs=(a++[1,n,14])++7::b:=by rw [h];simp
 have N:=qC (s:=bK mc.as mc.b x::s) (k:=k) h B (by rw [Pr];lia);have O:=CI (x:=bK mc.as mc.b x) (y:=n % mc.b) (s:=s) (k:=k) u (lY m x q.2.2) (lY m (.num n) q.2.1) l2;have R:=Ad (x:=n % mc.b) (y:=bK mc.as mc.b x) (s:=s) (k:=k) z m.b2 J;exact ⟨3,by decide,(N.trans (hZ O (eQ rfl (by simp)) rfl)).trans (hZ R (eQ rfl (by simp)) (eQ rfl (by rw [tB];rfl)))⟩
theorem Fu:eI ⟨"pair",.two "sub" (.gap 0 99) (.gap 1 99),[.int 1,.tup [.str "low",.int 0],.int 1,.tup [.str "low",.int 1],.int 5]⟩:=by
 intro mc t f a b s k J z L M X;have B:s.length<=63:=by lia
 have l2:s.length<=62:=by lia
 obtain ⟨x,y,Y,Z,rfl,N,O,rfl⟩:=jD L;obtain ⟨m,rfl,hm,rfl⟩:=iV N;obtain ⟨n,rfl,hn,rfl⟩:=iV O;have C:0<=n:=z.2.2.1;have e:n % 100=n:=Qk C (by lia);have I:0<=m:=z.2.1.1;have R:m % 100=m:=Qk I (by lia);have h:mc.cs=a++1::(m % 100)::(1::(n % 100)::5::b):=M;rw [e,R] at h;have q:mc.cs=(a++[1,m])++1::n::(5::b):=by rw [h];simp
 have u:mc.cs=(a++[1,m,1,n])++5::b:=by rw [h];simp
 have S:=qC (s:=s) (k:=k) h I B;have T:=qC (s:=m % mc.b::s) (k:=k) q C (by rw [Pr];lia);have U:=yC (x:=m % mc.b) (y:=n % mc.b) (s:=s) (k:=k) u J.b2 B;exact ⟨3,by decide,(S.trans (hZ T (eQ rfl (by simp)) rfl)).trans (hZ U (eQ rfl (by simp)) (eQ rfl (by rw [tB];rfl)))⟩
noncomputable def Ws (mc:MC) (t:Tr) (ns:List Int) (d:Nat):Prop:=∀ (a b s:List Int) (k:List Nat),mc.cs=a++(ns++b)->s.length+d<=61->∃ m,m<=ns.length/\Go mc m (at_ s a.length k) (at_ (bK mc.as mc.b t::s) (a.length+ns.length) k)
theorem Ws.mono {d e:Nat} (h:Ws mc t ns d) (l:d<=e):Ws mc t ns e:=λa b s k m q=>h a b s k m (by lia)
theorem D1 {d:Nat}:∀ (l:List (Tr × List Int)),(∀ x ∈ l,Ws mc x.1 x.2 d)->∀ (a b s:List Int) (k:List Nat),mc.cs=a++((l.map (·.2)).flatten++b)->s.length+l.length+d<=62 ->
  ∃ m,m<=(l.map (·.2)).flatten.length/\Go mc m (at_ s a.length k) (at_ ((l.map λx=>bK mc.as mc.b x.1).reverse++s) (a.length+(l.map (·.2)).flatten.length) k)
 | [],_,a,b,s,k,_,_=>⟨0,Pu _,.nil⟩
 | x::l,h,a,b,s,k,q,u=>by
  rw [PD,Qy,Qd] at q;rw [Pr] at u;obtain ⟨z,l1,B⟩:=h x P4 a _ s k q (by lia);obtain ⟨C,l2,I⟩:=D1 l (λy J=>h y (PV _ J)) (a++x.2) b (bK mc.as mc.b x.1::s) k (by rw [q,Qd]) (by rw [Pr];lia);refine ⟨z+C,by rw [PD,Qy,tB];lia,B.trans (hZ I (eQ rfl (by rw [tB])) (eQ ?_ ?_))⟩
  ·rw [PD,RD,Qd];rfl
  ·rw [PD,Qy,tB,tB];lia
theorem Aq {mc:MC} {d:Nat} {f:Tr->D->Option (List D)}:∀ {ts:List Tr} {cs:List D} {S0:List (List D)},ts.length=cs.length->gM f ts cs=S0.map some->(∀ t ∈ ts,∀ c es,f t c=some es->∃ ns:List Int,es=ns.map D.int/\Ws mc t ns d) ->
  ∃ l:List (Tr × List Int),l.map (·.1)=ts/\S0.flatten=((l.map (·.2)).flatten).map D.int/\∀ x ∈ l,Ws mc x.1 x.2 d
 | [],[],S0,_,h,_=>by
  have:S0=[]:=by cases S0 with | nil=>rfl | cons _ _=>cases h
  subst this;exact ⟨[],rfl,rfl,λx q=>(nomatch q)⟩
 | [],c::cs,_,h,_,_=>by cases h
 | t::ts,[],_,h,_,_=>by cases h
 | t::ts,c::cs,S0,u,h,m=>by
  cases S0 with
  | nil=>cases h
  | cons x S0 =>
   have h':f t c::gM f ts cs=some x::S0.map some:=h;injection h' with z B;obtain ⟨ns,C,I⟩:=m t P4 c x z;obtain ⟨l,J,L,M⟩:=Aq (mc:=mc) (d:=d) (f:=f) (ts:=ts) (cs:=cs) (S0:=S0) (by simpa using u) B λt N=>m t (PV _ N);refine ⟨(t,ns)::l,by rw [PD,J],by rw [Qy,C,L,PD,Qy,P0],λy hy=>?_⟩;rcases PB.mp hy with rfl | hy
   ·exact I
   ·exact M y hy
theorem qJ {mc:MC} (J:okA mc) (M:∀ p ∈ ps,fY p.pt=true/\eI p/\∀ t f,cO p.pt t=some f->f.1.length<=2):∀ (n:Nat) (t:Tr) (c:D) (es:List D),UQ t->eY ps n t c=some es->∃ ns:List Int,es=ns.map D.int/\Ws mc t ns (2 * a9 t)
 | 0,_,_,_,_,h=>by cases h
 | n+1,t,c,es,ok,h=>by
  have h:(match nV c with | none=>none | some x=>if x.1="pick" then mx (eY ps n) t x.2 else kN (eY ps n) ps t x.1 x.2)=some es:=h
  cases ec:nV c with
  | none=>rw [ec] at h;cases h
  | some x =>
   rw [ec] at h;dsimp only at h;by_cases N:x.1="pick"
   ·rw [Pk N] at h;obtain ⟨q,u,B,ca,cb,cd,xa,xb,xd,rfl,_,la,lb,ld,rfl⟩:=iQ h;obtain ⟨O,Y,r1⟩:=qJ J M n q ca xa ok.1 la;obtain ⟨R,S,r2⟩:=qJ J M n u cb xb ok.2.1 lb;obtain ⟨m,e3,r3⟩:=qJ J M n B cd xd ok.2.2 ld;subst Y S e3;have hj:=i7 8 9 (m.length:Int);let L:=R++fN 8 9 (m.length:Int);refine ⟨O++(fN 10 11 (L.length:Int)++(L++m)),?_,?_⟩
    ·unfold f6 ml;have eL:((R.map D.int++(fN 8 9 ((m.map D.int).length:Int)).map D.int).length:Int)=(L.length:Int):=by simp [L]
     rw [eL,Pf];simp [L]
    ·intro a b s k C hs;have d1:a9 q+1<=a9 (.pick q u B):=by simp only [a9];lia
     have d2:a9 u+1<=a9 (.pick q u B):=by simp only [a9];lia
     have d3:a9 B+1<=a9 (.pick q u B):=by simp only [a9];lia
     obtain ⟨T,l1,U⟩:=r1 a (fN 10 11 (L.length:Int)++(L++m)++b) s k (by rw [C];simp) (by lia);have Z:=E2 (mc:=mc) (a:=a++O) (b:=L++m++b) (n:=L.length) (x:=bK mc.as mc.b q) (s:=s) (k:=k) (by rw [C];simp);have z:=U.trans (hZ Z (eQ rfl (by rw [tB])) rfl);by_cases X:bK mc.as mc.b q=0
     ·rw [Pk X] at z;obtain ⟨m3,l3,g3⟩:=r3 (a++O++fN 10 11 (L.length:Int)++L) b s k (by rw [C];simp) (by lia);refine ⟨T+1+m3,?_,z.trans (hZ g3 (eQ rfl ?_) (eQ ?_ ?_))⟩
      ·have:=i7 10 11 (L.length:Int);have j2:(2:Int)<=fU L.length:=by unfold fU;split <;> lia
       simp only [tB];lia
      ·simp only [tB]
      ·show bK mc.as mc.b B::s=(if bK mc.as mc.b q=0 then bK mc.as mc.b B else bK mc.as mc.b u)::s;rw [Pk X]
      ·simp only [tB];lia
     ·rw [M1 X] at z;obtain ⟨m3,l3,g3⟩:=r2 (a++O++fN 10 11 (L.length:Int)) (fN 8 9 (m.length:Int)++m++b) s k (by rw [C];simp [L]) (by lia);have g4:=E1 (mc:=mc) (a:=a++O++fN 10 11 (L.length:Int)++R) (b:=m++b) (n:=m.length) (s:=bK mc.as mc.b u::s) (k:=k) (by rw [C];simp [L]);refine ⟨T+1+(m3+1),?_,z.trans ((hZ g3 (eQ rfl ?_) rfl).trans (hZ g4 (eQ rfl ?_) (eQ ?_ ?_)))⟩
      ·have:=i7 10 11 (L.length:Int);have j2:(2:Int)<=fU L.length:=by unfold fU;split <;> lia
       have lL:L.length=R.length+(fN 8 9 (m.length:Int)).length:=tB;simp only [tB];lia
      ·simp only [tB];lia
      ·simp only [tB]
      ·show bK mc.as mc.b u::s=(if bK mc.as mc.b q=0 then bK mc.as mc.b B else bK mc.as mc.b u)::s;rw [M1 X]
      ·have lL:L.length=R.length+(fN 8 9 (m.length:Int)).length:=tB;simp only [tB];lia
   ·rw [M1 N] at h;obtain ⟨p,g,S0,Y,S,hl,e,rfl⟩:=iP h;have hpm:=(hE Y).1;obtain ⟨nh,pg,two⟩:=M p hpm;have I:=k8 nh S
    obtain ⟨l,f1,f2,r⟩:=Aq (mc:=mc) (d:=2 * a9 t - 2) (f:=eY ps n) hl e λx hx c es hq=>by have hs:=(iR (I x hx)).2;obtain ⟨ns,q1,q2⟩:=qJ J M n x c es (iA t x ok (mj (I x hx))) hq;exact ⟨ns,q1,q2.mono (by lia)⟩
    refine ⟨(l.map (·.2)).flatten++(cK p).map (kM g.2.1 g.2.2),?_,?_⟩
    ·unfold fQ;rw [f2,P0,Rc];rfl
    ·intro a b s k C hs
     have ll:l.length<=2:=by have:=P1 List.length f1;rw [Pf] at this;have:=two t g S;lia
     have dp:=kh t;obtain ⟨T,l1,U⟩:=D1 l r a ((cK p).map (kM g.2.1 g.2.2)++b) s k (by rw [C,Qd]) (by lia);obtain ⟨m2,l2,Z⟩:=pg mc t g (a++(l.map (·.2)).flatten) b s k J ok S (by rw [C];simp) (by lia);have el:(l.map λx=>bK mc.as mc.b x.1)=g.1.map (bK mc.as mc.b):=by rw [<- f1,Rc];rfl
     rw [el] at U;refine ⟨T+m2,by rw [tB,Pf];lia,U.trans (hZ Z (eQ rfl (by rw [tB])) (eQ rfl ?_))⟩;rw [tB,tB,Pf];lia
theorem EM {x:Int} (h:mc.cs=a++0::b):jg mc (n+1) (at_ [x] a.length [])=.ends x:=by
 have e:fJ mc (at_ [x] a.length [])=some ⟨[x],a.length+1,[],true⟩:=by rw [fZ (args:=[]) h (by decide) rfl,show Vh 0="end" from rfl,M1 (je (by decide +kernel) (by decide +kernel) (by decide +kernel))];unfold W4;rw [M1 (by decide +kernel),Pk rfl];rfl
 show (match fJ mc _ with | none=>_ | some s=>_)=_;rw [e];rfl
theorem Fd (I:okA mc) (J:∀ p ∈ ps,fY p.pt=true/\eI p/\∀ t f,cO p.pt t=some f->f.1.length<=2) {c:D} (ok:UQ t) (R:a9 t<=8) (h:eY ps n t c=some es) (L:mc.cs.map D.int=es++[.int 0]) {N:Nat} (M:mc.cs.length<=N):jg mc N ⟨[],0,[],false⟩=.ends (bK mc.as mc.b t):=by
 obtain ⟨ns,rfl,r⟩:=qJ I J n t c es ok h
 have inj:∀ (u v:List Int),u.map D.int=v.map D.int->u=v:=by
  intro u
  induction u with
  | nil=>intro v e;cases v with | nil=>rfl | cons _ _=>cases e
  | cons x u O =>
   intro v e
   cases v with
   | nil=>cases e
   | cons y v =>rw [PD,PD] at e;injection e with q B;injection q with q;rw [q,O v B]
 have C:mc.cs=ns++[0]:=inj _ _ (by rw [L,P0];rfl);obtain ⟨m,l,g⟩:=r [] [0] [] [] (by rw [C];rfl) (by show 0+2 * a9 t<=61;lia);rw [C,tB] at M;have l1:([0]:List Int).length=1:=rfl;obtain ⟨j,rfl⟩:∃ j,N=m+(j+1):=⟨N - m - 1,by lia⟩
 have B:=g.run (j+1);refine Eq.trans B ?_;have z:([]:List Int).length+ns.length=ns.length:=by simp
 rw [z];exact EM C
theorem hl2 {p:Pc} (h:iO p.pt<=2):∀ t f,cO p.pt t=some f->f.1.length<=2:=λt f e=>by rw [lZ _ _ _ e];exact h
noncomputable def argsOk (as:List Int) (b:Int):Prop:=as.length=4/\(∀ x ∈ as,0<=x/\x < b)/\2<=b/\b<=10000
noncomputable def okO (o:Str):Prop:=o="add"\/o="sub"\/o="mul"\/o="less"
theorem HC (h:okO o):¬ o="num"/\¬ o="arg"/\¬ o="pick":=by rcases h with rfl | rfl | rfl | rfl <;> decide +kernel
theorem Cd {as:List Int} {b k:Int} (h:argsOk as b) (m:0<=k) (q:k<=3):as[k.toNat]?=some (as.getD k.toNat 0):=by
 have u:=h.1;have hk:k.toNat < as.length:=by lia
 rw [PZ,Pg hk];rfl
theorem nP {as:List Int} {b:Int} (h:argsOk as b):∀ t:Tr,UQ t->0<=bK as b t/\bK as b t < b
 | .num n,_=>⟨Qp _ (by have:=h.2.2.1;lia),Qj _ (by have:=h.2.2.1;lia)⟩
 | .arg k,m=>h.2.1 _ (PM (Cd h m.1 m.2))
 | .two o x y,_=>jR h.2.2.1
 | .pick x y z,m=>by
  unfold bK;split
  ·exact nP h z m.2.2
  ·exact nP h y m.2.1
noncomputable def mq (n:Nat) (ds:List D) (d:D):Prop:=∃ t as b,ds=[toD t,.tup (as.map D.int),.int b]/\UQ t/\a9 t<=n/\argsOk as b/\d=.int (bK as b t)
theorem Eh {x y:Str} (h:x=y):decide (x=y)=true:=Py h
theorem sY {x y:Str} (h:¬ x=y):decide (x=y)=false:=Po h
noncomputable def D8 (K:W.Frag):Sp:=λvs H Q _=>∃ (a t:Addr) (ns:List Int) (p q:Int) (rest:List V),vs=[.ref a,.ref t]/\Yw K H a ns/\H t=some (.lst (.int p::.int q::rest))/\0<=p /\
 ∀ (b:Int) (H':Hp) (h q':Int),S6 t H H'->H' t=some (.lst (.int h::.int q'::rest))->0<=h->2<=b->b<=10000->Q (.int b) H'
noncomputable def D2 (K:W.Frag):Sp:=λvs H Q _=>∃ (a t:Addr) (ns:List Int) (b p q:Int) (rest:List V),vs=[.ref a,.ref t,.int b]/\Yw K H a ns/\H t=some (.lst (.int p::.int q::rest))/\0<=p/\2<=b/\b<=10000 /\
 ∀ (v:V) (H':Hp) (as:List Int) (h q':Int),S6 t H H'->H' t=some (.lst (.int h::.int q'::rest))->0<=h->argsOk as b->Dat K H' (.tup (as.map D.int)) v->Q v H'
theorem vc (T:Txt P w K mg) (J:Ok P w base k T.Kt (wc K)):Ok P w base (k+1) T.Mu (D8 K):=by
 refine T.Mu.f.ok WX (λvs H Q E h=>?_) (λL A outer s H vs Q E M h=>?_)
 ·obtain ⟨a,t,ns,p,q,rest,rfl,_⟩:=h;rfl
 have nd:=WX.nd;obtain ⟨a,t,ns,p,q,rest,rfl,N,C,O,post⟩:=h;refine ⟨_,(aH (aP (pc (D:=T.Kt) J M (aD (pv 0) (aD (pv 1) (aD (bY (aD aF (aD aF (aD aF (aD aF (aD aF (aD aF aC))))))) aC)))))),?_⟩;refine ⟨_,rfl,_,rfl,dB (by decide),λl u=>?_⟩;have B:l≠t:=λz=>by rw [z,C] at u;cases u
 have s1:SJ H (upd H l (.lst [.int 2,.int 3,.int 5,.int 10,.int 256,.int 10000])):=aV u _;refine ⟨a,t,l,ns,_,p,q,rest,rfl,N.same s1,SR.of aI,B,by decide,by decide,s1 _ _ C,O,λi x R S U X Y Z hx=>?_⟩
 obtain ⟨m,em,I⟩:∃ m:Int,x=.int m/\2<=m/\m<=10000:=by have:=PM hx;simp only [PB,Qa,Qz] at this;rcases this with e | e | e | e | e | e <;> exact ⟨_,e,by decide,by decide⟩
 subst em;exact post m R S U (s1.but.trans X) Y Z I.1 I.2
theorem uU (T:Txt P w K mg) (Kr:Ok P w base k T.Ka (rN K)) (Lf:Ok P w base k T.Kt (wc K)):Ok P w base (k+1) T.Mq (D2 K):=by
 refine T.Mq.f.ok WW (λvs H Q E h=>?_) (λcdv A outer s H vs Q E hr h=>?_)
 ·obtain ⟨a,t,ns,b,p,q,rest,rfl,_⟩:=h;rfl
 have nd:=WW.nd;obtain ⟨a,t,ns,b,p,q,rest,rfl,hS,L,hp,hb,Z,post⟩:=h;refine ⟨_,(aH (aP (eP dY rfl T.KN fP (aD (eV (own:=["_law_k"]) (fr:=[0,1,2]) (N':=["_law_k","_law_script","_law_town","_law_base"]) (ko rfl T.MH (aD aF aC)) rfl (by show dS ["_law_script","_law_town","_law_base"] (λx=>(aK lO).names.lookup x) _ _ _ _=true;decide +kernel) rfl (λ_ _ _ _ _=>(a7 (i:=0) (by show List.Nodup [("_law_k":Str),("_law_script":Str),("_law_town":Str),("_law_base":Str)];decide +kernel) rfl (Or.inl rfl))) (λ_ _ _ _ _=>c7) (λ_ _ _ _ _=>(pc (D:=T.Kt) Lf hr (aD (pv 1) (aD (pv 2) (aD (bY (aD aF (aD aF (aD (bL oy (pv 3) aF) (aD (pc (D:=T.Ka) Kr hr (aD (pv 1) (aD (pv 2) (aD (pv 3) aC)))) aC))))) aC)))))) aC)))),?_⟩;refine jO (iL ?_)
 refine rp 4 (λR hR=>hR) (by decide) rfl
  (λl i G'=>∃ (as:List Int) (J q':Int),S6 t H G'/\G' t=some (.lst (.int J::.int q'::rest))/\0<=J/\G' l=some (.lst (as.map V.int))/\as.length=i/\(∀ x ∈ as,0<=x/\x < b)) (λl B=>?_) (λl i G' B hi pn=>?_) (λl G' B pn=>?_)
 ·have U:l≠t:=λz=>by rw [z,L] at B;cases B
  exact ⟨[],p,q,(aV B _).but,(aV B _) _ _ L,hp,aI,rfl,λx hx=>absurd hx (by simp)⟩
 ·obtain ⟨as,J,q',X,Y,gp,C,la,I⟩:=pn;have U:l≠t:=λz=>by rw [z,L] at B;cases B
  refine ⟨_,rfl,_,rfl,_,rfl,b,1,rfl,rfl,_,rfl,_,rfl,_,rfl,a,t,ns,b,J,q',rest,rfl,hS.but X L,Y,gp,by lia,by lia,λr H1 p1 q1 b1 t1 g1 r0 r1=>⟨dB (by simp),λm M=>?_⟩⟩;have nm:m≠t:=λz=>by rw [z,t1] at M;cases M
  have N:=b1 l _ U C;have nml:m≠l:=λz=>by rw [z,N] at M;cases M
  have s2:SJ H1 (upd H1 m (.lst [.int 0,.int 1,.int (b - 1),.int r])):=aV M _;have O:=(X.trans b1).trans s2.but;refine ⟨a,t,m,ns,_,p1,q1,rest,rfl,hS.but O L,SR.of aI,nm,by simp,by simp,s2 _ _ t1,g1,λj x H5 p5 q5 b5 t5 g5 hx=>?_⟩
  obtain ⟨y,ey,hy⟩:∃ y:Int,x=.int y/\0<=y/\y < b:=by
   have:=PM hx;simp only [PB,Qa,Qz] at this;rcases this with e | e | e | e
   ·exact ⟨_,e,by lia,by lia⟩
   ·exact ⟨_,e,by lia,by lia⟩
   ·exact ⟨_,e,by lia,by lia⟩
   ·exact ⟨_,e,by lia,by lia⟩
  subst ey;have YE:=b5 l _ U (s2 _ _ N);refine ⟨as.map V.int,YE,cM (by rw [Pf];lia),⟨_,rfl⟩,as++[y],p5,q5,?_,?_,g5,?_,by simp [la],?_⟩
  ·intro c o hc S;have nc:c≠l:=aU S B;rw [aS nc];exact b5 c o hc (O c o hc S)
  ·rw [aS (PN U)];exact t5
  ·rw [aI,P0];rfl
  ·intro z hz;rcases Qc.mp hz with hz | hz
   ·exact I z hz
   ·rw [PU.mp hz];exact hy
 ·obtain ⟨as,J,q',X,Y,gp,C,la,I⟩:=pn;refine ⟨l,as.map V.int,rfl,.inl ⟨SR.of C,λu hu=>?_⟩⟩;have nu:u≠t:=λz=>by rw [z,Y] at hu;cases hu
  have s8:SJ G' (upd G' u (.tup (as.map V.int))):=aV hu _;exact post _ _ as J q' (X.trans s8.but) (s8 _ _ Y) gp ⟨la,I,hb,Z⟩ (Dat.tupI (Ti.of aI) (dN as))
noncomputable def Ca (ds:List D) (d:D):Prop:=∃ o x y b,ds=[.str o,.int x,.int y,.int b]/\okO o/\2<=b/\b<=10000/\0<=x/\x < b/\0<=y/\y < b/\d=.int (two o x y b)
theorem xA (T:Txt P w K mg)  : Ok P w base (k+1) T.LF (Tj K Ca):=by
 refine T.LF.f.ok Xn (λvs H Q E h=>?_) (λL A outer s H vs Q E hr h=>?_)
 ·obtain ⟨ds,d,I,⟨o,x,y,b,rfl,_⟩,_⟩:=h;exact I.length.symm
 have nd:=Xn.nd;obtain ⟨ds,d,I,⟨o,x,y,b,rfl,M,hb,N,hx,O,hy,R,rfl⟩,post⟩:=h;obtain ⟨v0,v1,v2,v3,rfl,B,m,u,C⟩:=Gh I;refine ⟨_,(aE (bE (aN bV (pv 0) aO (aT _)) (aH (aP (bL eZ (bL cJ (pv 1) (pv 2)) (pv 3)))) aQ)
 (aE (bE (aN bV (pv 0) aO (aT _)) (aH (aP (bL eZ (bL oy (pv 1) (pv 2)) (pv 3)))) aQ)
 (aE (bE (aN bV (pv 0) aO (aT _)) (aH (aP (bL eZ (bL ow (pv 1) (pv 2)) (pv 3)))) aQ)
 (aH (aP (fG (aN km (pv 1) (pv 2) (aT _)) aF aF)))))),?_⟩
 refine aR (K:=K) (b:=decide (o="add")) (aJ (bI (aA B) aL)) (λc H1 s1=>?_) (λc H1 s1=>?_)
 ·refine bJ (K:=K) (d:=.int (two o x y b)) ?_ λv H' s q=>post v H' (s1.trans s) q;have e:two o x y b=(x+y) % b:=by rw [Pq c];rfl
  rw [e];exact jN (c8 (aA (s1.dat m)) (aA (s1.dat u))) (aA (s1.dat C)) (by lia)
 have B:=s1.dat B;have m:=s1.dat m;have u:=s1.dat u;have C:=s1.dat C;have S:=Px c;refine aR (K:=K) (b:=decide (o="sub")) (aJ (bI (aA B) aL)) (λc H2 s2=>?_) (λc H2 s2=>?_)
 ·refine bJ (K:=K) (d:=.int (two o x y b)) ?_ λv H' s q=>post v H' (s1.trans (s2.trans s)) q;have e:two o x y b=(x - y) % b:=by rw [Pq c];rfl
  rw [e];exact jN (vN (aA (s2.dat m)) (aA (s2.dat u))) (aA (s2.dat C)) (by lia)
 have B:=s2.dat B;have m:=s2.dat m;have u:=s2.dat u;have C:=s2.dat C;have U:=Px c;refine aR (K:=K) (b:=decide (o="mul")) (aJ (bI (aA B) aL)) (λc X z=>?_) (λc X z=>?_)
 ·refine bJ (K:=K) (d:=.int (two o x y b)) ?_ λv H' s q=>post v H' (s1.trans (s2.trans (z.trans s))) q;have e:two o x y b=x * y % b:=by rw [Pq c];rfl
  rw [e];exact jN (vK (aA (z.dat m)) (aA (z.dat u)) (.inr ⟨by lia,by lia⟩)) (aA (z.dat C)) (by lia)
 have Y:=Px c;refine bJ (K:=K) (d:=.int (two o x y b)) ?_ λv H' s q=>post v H' (s1.trans (s2.trans (z.trans s))) q
 have Z:o="less":=by
  rcases M with h | h | h | h
  ·exact absurd h S
  ·exact absurd h U
  ·exact absurd h Y
  ·exact h
 have e:two o x y b=if x < y then 1 else 0:=by rw [Z];rfl
 rw [e];refine mC (b:=decide (x < y)) (aJ (cQ (p:=λi j=>decide (i < j)) (aA (z.dat m)) (aA (z.dat u)))) (λJ=>?_) (λJ=>?_)
 ·rw [Pk (Pq J)];exact aG
 ·rw [M1 (Px J)];exact aG
theorem su (T:Txt P w K mg) (Nb:Ok P w base k T.LF (Tj K Ca)) (U:Ok P w base k T.Kc (Tj K (mq n))):Ok P w base (k+1) T.Kc (Tj K (mq (n+1))):=by
 refine T.Kc.f.ok Wj (λvs H Q E h=>?_) (λcdv A outer s H vs Q E N h=>?_)
 ·obtain ⟨ds,d,Z,⟨t,as,b,rfl,_⟩,_⟩:=h;exact Z.length.symm
 have nd:=Wj.nd;obtain ⟨ds,d,Z,⟨t,as,b,rfl,C,O,I,rfl⟩,post⟩:=h;obtain ⟨X,v1,v2,rfl,u,M,L⟩:=sT Z;refine ⟨_,(aE (bE (aN bV (aY aZ (pv 0) aF) aO (aT _)) (aH (aP (bL eZ (aY aZ (pv 0) aF) (pv 2)))) aQ)
 (aE (bE (aN bV (aY aZ (pv 0) aF) aO (aT _)) (aH (aP (aY aZ (pv 1) (aY aZ (pv 0) aF)))) aQ)
 (aE (bE (aN bV (aY aZ (pv 0) aF) aO (aT _)) (aH (aP (pc (D:=T.Kc) U N (aD (fG (aN bV (pc (D:=T.Kc) U N (aD (aY aZ (pv 0) aF) (aD (pv 1) (aD (pv 2) aC)))) aF (aT _)) (aY aZ (pv 0) aF) (aY aZ (pv 0) aF)) (aD (pv 1) (aD (pv 2) aC)))))) aQ)
 (aH (aP (pc (D:=T.LF) Nb N (aD (aY aZ (pv 0) aF) (aD (pc (D:=T.Kc) U N (aD (aY aZ (pv 0) aF) (aD (pv 1) (aD (pv 2) aC)))) (aD (pc (D:=T.Kc) U N (aD (aY aZ (pv 0) aF) (aD (pv 1) (aD (pv 2) aC)))) (aD (pv 2) aC)))))))))),?_⟩
 have hb0:0 < b:=by have:=I.2.2.1;lia
 cases t with
 | num m =>have u:Dat K H (.tup [.str "num",.int m]) X:=u;refine aR (K:=K) (b:=true) (RT.as (aJ (bI (a6 (k:=0) (aA u) aG rfl) aL)) (Eh rfl)) (λc H2 s2=>?_) (λc=>nomatch c);exact bJ (K:=K) (d:=.int (m % b)) (jN (a6 (k:=1) (aA (s2.dat u)) aG rfl) (aA (s2.dat L)) hb0) λv H' s q=>post v H' (s2.trans s) q
 | arg m =>
  have u:Dat K H (.tup [.str "arg",.int m]) X:=u;refine aR (K:=K) (b:=false) (RT.as (aJ (bI (a6 (k:=0) (aA u) aG rfl) aL)) (sY (by decide +kernel))) (λc=>nomatch c) (λc H2 s2=>?_);refine aR (K:=K) (b:=true) (RT.as (aJ (bI (a6 (k:=0) (aA (s2.dat u)) aG rfl) aL)) (Eh rfl)) (λc H3 S=>?_) (λc=>nomatch c);have B:=s2.trans S;have em:m=((m.toNat:Nat):Int):=by have:=C.1;lia
  refine bJ (K:=K) (d:=.int (as.getD m.toNat 0)) (a6 (k:=m.toNat) (ds:=as.map D.int) (aA (B.dat M)) (RE.as (a6 (k:=1) (aA (B.dat u)) aG rfl) (P1 D.int em)) ?_) λv H' s q=>post v H' (B.trans s) q;rw [Pw,Cd I C.1 C.2];rfl
 | two o x y =>
  have u:Dat K H (.tup [.str o,toD x,toD y]) X:=u;obtain ⟨n1,n2,n3⟩:=HC C.1;have dx:a9 x<=n:=by simp only [a9] at O;lia
  have dy:a9 y<=n:=by simp only [a9] at O;lia
  refine aR (K:=K) (b:=false) (RT.as (aJ (bI (a6 (k:=0) (aA u) aG rfl) aL)) (sY n1)) (λc=>nomatch c) (λc H1 s1=>?_);refine aR (K:=K) (b:=false) (RT.as (aJ (bI (a6 (k:=0) (aA (s1.dat u)) aG rfl) aL)) (sY n2)) (λc=>nomatch c) (λc H2 s2=>?_);have J:=s1.trans s2;refine aR (K:=K) (b:=false) (RT.as (aJ (bI (a6 (k:=0) (aA (J.dat u)) aG rfl) aL)) (sY n3)) (λc=>nomatch c) (λc H3 S=>?_);have B:=J.trans S;have u:=B.dat u;have M:=B.dat M;have L:=B.dat L;have wx:=nP I x C.2.1;have wy:=nP I y C.2.2;refine bJ (K:=K) (d:=.int (two o (bK as b x) (bK as b y) b)) (bM (R:=Ca) (aB (a6 (k:=0) (aA u) aG rfl) (aB (bM (R:=mq n) (d:=.int (bK as b x)) (aB (a6 (k:=1) (aA u) aG rfl) (aB (aA M) (aB (aA L) aM))) ⟨x,as,b,rfl,C.2.1,dx,I,rfl⟩) (aB (bM (R:=mq n) (d:=.int (bK as b y)) (aB (a6 (k:=2) (aA u) aG rfl) (aB (aA M) (aB (aA L) aM))) ⟨y,as,b,rfl,C.2.2,dy,I,rfl⟩) (aB (aA L) aM)))) ⟨o,_,_,b,rfl,C.1,I.2.2.1,I.2.2.2,wx.1,wx.2,wy.1,wy.2,rfl⟩) λv H' s q=>post v H' (B.trans s) q
 | pick x y z =>
  have u:Dat K H (.tup [.str "pick",toD x,toD y,toD z]) X:=u;have dx:a9 x<=n:=by simp only [a9] at O;lia
  have dy:a9 y<=n:=by simp only [a9] at O;lia
  have dz:a9 z<=n:=by simp only [a9] at O;lia
  refine aR (K:=K) (b:=false) (RT.as (aJ (bI (a6 (k:=0) (aA u) aG rfl) aL)) (sY (by decide +kernel))) (λc=>nomatch c) (λc H1 s1=>?_);refine aR (K:=K) (b:=false) (RT.as (aJ (bI (a6 (k:=0) (aA (s1.dat u)) aG rfl) aL)) (sY (by decide +kernel))) (λc=>nomatch c) (λc H2 s2=>?_);have J:=s1.trans s2;refine aR (K:=K) (b:=true) (RT.as (aJ (bI (a6 (k:=0) (aA (J.dat u)) aG rfl) aL)) (Eh rfl)) (λc H3 S=>?_) (λc=>nomatch c);have B:=J.trans S;have u:=B.dat u;have M:=B.dat M;have L:=B.dat L;refine bJ (K:=K) (d:=.int (if bK as b x=0 then bK as b z else bK as b y)) (bM (R:=mq n) (ds:=[toD (if bK as b x=0 then z else y),.tup (as.map D.int),.int b]) (aB (mC (b:=decide (bK as b x=0)) (aJ (mV (bM (R:=mq n) (d:=.int (bK as b x)) (aB (a6 (k:=1) (aA u) aG rfl) (aB (aA M) (aB (aA L) aM))) ⟨x,as,b,rfl,C.1,dx,I,rfl⟩) aG)) (λc=>?_) (λc=>?_)) (aB (aA M) (aB (aA L) aM))) ?_) λv H' s q=>post v H' (B.trans s) q
  ·rw [Pk (Pq c)];exact a6 (k:=3) (aA u) aG rfl
  ·rw [M1 (Px c)];exact a6 (k:=2) (aA u) aG rfl
  ·by_cases Y:bK as b x=0
   ·rw [Pk Y,Pk Y];exact ⟨z,as,b,rfl,C.2.2,dz,I,rfl⟩
   ·rw [M1 Y,M1 Y];exact ⟨y,as,b,rfl,C.2.1,dy,I,rfl⟩
noncomputable def yk (ds es:List D):Prop:=ds=[]/\es=NM.map D.str
theorem sr (T:Txt P w K mg)  : Ok P w base (k+1) T.K6 (kL K yk):=by
 refine T.K6.f.ok Wl (λvs H Q E h=>?_) (λC A outer s H vs Q E R h=>?_)
 ·obtain ⟨ds,es,B,⟨rfl,_⟩,_⟩:=h;exact B.length.symm
 have I:=Wl.nd;obtain ⟨ds,es,B,⟨rfl,rfl⟩,post⟩:=h;have J:=B.V1;subst J;refine' ⟨_,?XX,?Za⟩
 case' XX=>refine' aE ?a ?b
 case' a=>refine' bQ (i:=0) ?c ?d ?e ?f
 case c=>exact I
 case d=>exact rfl
 case e=>exact Or.inl rfl
 case' f=>refine' bY ?g
 case' g=>refine' aD ?h ?i
 case h=>exact aO
 case' i=>refine' aD ?j ?k
 case j=>exact aO
 case' k=>refine' aD ?l ?m
 case l=>exact aO
 case' m=>refine' aD ?n ?o
 case n=>exact aO
 case' o=>refine' aD ?p ?q
 case p=>exact aO
 case' q=>refine' aD ?r ?s
 case r=>exact aO
 case' s=>refine' aD ?t ?u
 case t=>exact aO
 case' u=>refine' aD ?v ?w
 case v=>exact aO
 case' w=>refine' aD ?x ?y
 case x=>exact aO
 case' y=>refine' aD ?z ?aa
 case z=>exact aO
 case' aa=>refine' aD ?ab ?ac
 case ab=>exact aO
 case' ac=>refine' aD ?ad ?ae
 case ad=>exact aO
 case' ae=>refine' aD ?af ?ag
 case af=>exact aO
 case ag=>exact aC
 case' b=>refine' aH ?ah
 case ah=>exact (aP (bL jr (pv 0) (bY (aD aO (aD aO (aD aO (aD aO aC)))))))
 refine gY (K:=K) (iC (aB aL (aB aL (aB aL (aB aL (aB aL (aB aL (aB aL (aB aL (aB aL (aB aL (aB aL (aB aL (aB aL aM)))))))))))))) λl ys H1 S s1 L M=>?_;refine jO (RC.use (K:=K) (js (a8 (k:=0) (LD.of L M)) (jW (iC (aB aL (aB aL (aB aL (aB aL aM)))))) (by decide)) λl2 zs H2 hl2 s2 N O=>post l2 zs H2 (s1.trans s2) N (s1.free hl2) ?_);exact O
theorem EN (x y:Int):Zl (.int x) (.int y)=decide (x=y):=by unfold Zl;by_cases h:x=y <;> simp [h]
theorem Ah (x:Int):∀ ys:List Int,Zv (.int x) (ys.map V.int)=decide (x ∈ ys)
 | []=>by simp [Zv]
 | y::ys=>by
  have m:=Ah x ys;unfold Zv at m ⊢;rw [PD,QL,m,EN];by_cases h:y=x
  ·subst h;simp
  ·have h':¬ x=y:=λz=>h z.symm;simp [h,h']
theorem A5 (ys:List Int):(ys.map V.int).all lg=true:=by rw [QH];intro v h;obtain ⟨y,_,rfl⟩:=QB.mp h;rfl
theorem DQ {x:Int} {ys:List Int} (h:RE K ta σ H (.int x)) (m:RE K tb σ H (.tup (ys.map D.int))):RE K (VG (rIn K false) ta tb) σ H (.bl (decide (x ∈ ys))):=λH1 s Q q =>
 h H1 s _ λv H2 s2 u=>m H2 (s.trans s2) _ λw L z B=>by obtain ⟨a,vs,C,I,J⟩:=B.S9;have e:=qm J;subst e;rw [u.SQ];refine ⟨a,_,C,.inr I,rfl,A5 ys,?_⟩;rw [Ah];exact q _ _ (s2.trans z) (Dat.VY _)
noncomputable def GK (ds:List D) (d:D):Prop:=∃ i:Int,ds=[.int i]/\d=.int (cG i)
theorem qU (T:Txt P w K mg)  : Ok P w base (k+1) T.LH (Tj K GK):=by
 refine T.LH.f.ok V6 (λvs H Q E h=>?_) (λB A outer s H vs Q E C h=>?_)
 ·obtain ⟨ds,d,m,⟨i,rfl,rfl⟩,_⟩:=h;exact m.length.symm
 have I:=V6.nd;obtain ⟨ds,d,m,⟨i,rfl,rfl⟩,post⟩:=h;obtain ⟨J,rfl,z⟩:=ji m;refine ⟨_,(aE (bE (aN eO (pv 0) (bA (aD aF (aD aF (aD aF (aD aF aC))))) (by with_unfolding_all rfl)) (aH (aP aF)) aQ)
 (aH (aP (fG (aN eO (pv 0) (bA (aD aF (aD aF (aD aF (aD aF (aD aF aC)))))) (by with_unfolding_all rfl)) aF aF)))),?_⟩
 refine aR (K:=K) (b:=decide (i ∈ ([2,9,11,15]:List Int))) (aJ (DQ (ys:=[2,9,11,15]) (aA z) (bF (aB aG (aB aG (aB aG (aB aG aM))))))) (λc H1 s1=>?_) (λc H1 s1=>?_)
 ·have e:cG i=2:=by unfold cG;rw [Pk (Pq c)]
  rw [e] at post;exact bJ (K:=K) (d:=.int 2) aG λv H2 s2 q=>post v H2 (s1.trans s2) q
 ·have c:=Px c;refine bJ (K:=K) (d:=.int (cG i)) (mC (b:=decide (i ∈ ([1,3,8,10,12]:List Int))) (aJ (DQ (ys:=[1,3,8,10,12]) (aA (s1.dat z)) (bF (aB aG (aB aG (aB aG (aB aG (aB aG aM)))))))) (λu=>RE.as aG ?_) (λu=>RE.as aG ?_)) λv H2 s2 q=>post v H2 (s1.trans s2) q
  ·unfold cG;rw [M1 c,Pk (Pq u)];rfl
  ·unfold cG;rw [M1 c,M1 (Px u)];rfl
theorem nX (ds:List D):Tf ds []=ds.isEmpty:=by cases ds <;> rfl
noncomputable def Yc (a b:Addr) (H H':Hp):Prop:=∀ x o,x≠a->x≠b->H x=some o->H' x=some o
theorem oZ {a b:Addr} (s:SJ H H'):Yc a b H H':=λx o _ _ e=>s x o e
theorem Yc.trans {a b:Addr} (x:Yc a b H H1) (y:Yc a b H1 H2):Yc a b H H2:=λc o h m e=>y c o h m (x c o h m e)
theorem Iw {n:Int} (h:¬ nm="load") (m:¬ nm="skip") (q:¬ nm="zero"):j9 nm Y8 n=n:=by
 unfold j9
 have e:KTD.datumAt nm Y8=none:=by show (if decide (nm="load")=true then _ else if decide (nm="skip")=true then _ else if decide (nm="zero")=true then _ else _)=_;rw [M1 (by simp [h]),M1 (by simp [m]),M1 (by simp [q])];rfl
 rw [e]
theorem oK (h:¬ nm="load") (m:¬ nm="skip") (q:¬ nm="zero"):iH nm n=false:=by unfold iH;rw [Iw h m q];exact Po (by lia)
theorem El:iH "zero" n=decide (9 < n):=by unfold iH;rw [show j9 "zero" Y8 n=9 by kernel_rfl];exact i4 (by lia)
theorem Ek:iH "skip" n=decide (9 < n):=by unfold iH;rw [show j9 "skip" Y8 n=9 by kernel_rfl];exact i4 (by lia)
theorem Ej:iH "load" n=decide (3 < n):=by unfold iH;rw [show j9 "load" Y8 n=3 by kernel_rfl];exact i4 (by lia)
noncomputable def Zf (nm:Str) (num on:Nat) (st:MS):Option (Nat × MS):=if iH nm num=true then none else jS nm num on st
noncomputable def D5 (K:W.Frag):Sp:=λvs H Q _=>∃ (nm:Str) (num on:Nat) (lp lk:Addr) (st:MS),vs=[.str nm,.int num,.int on,.ref lp,.ref lk]/\nm ∈ WS/\H lp=some (.lst (pV st.pile))/\H lk=some (.lst (XY st.kept))/\lp≠lk/\st.kept.length<=16 /\
 (∀ p,Zf nm num on st=some p->∀ H',Yc lp lk H H'->H' lp=some (.lst (pV p.2.pile))->H' lk=some (.lst (XY p.2.kept))->Q (.int p.1) H') /\
 (Zf nm num on st=none->∀ H' zs h,Yc lp lk H H'->H' lp=some (.lst zs)->H' lk=some (.lst h)->Q .SO H')
theorem uY (T:Txt P w K mg)  : Ok P w base (k+1) T.Mt (D5 K):=by
 refine T.Mt.f.ok WY (λvs H Q E h=>?_) (λcdv A outer s H vs Q E hr h=>?_)
 ·obtain ⟨nm,num,on,lp,lk,st,rfl,_⟩:=h;rfl
 have nd:=WY.nd;obtain ⟨nm,num,on,lp,lk,st,rfl,Z,hp,hk,ne,k16,ok,bad⟩:=h;refine ⟨_,(aE (bE (aN eO (pv 0) (bA (aD aO (aD aO aC))) (by with_unfolding_all rfl)) (aE (bE (PW.pt (fH (aN (vA hr) (pv 3) (bY aC) (aT _)) (eR (PW.pt (rj (aN bV (pv 0) aO (aT _)) (nF (aN kl (pv 1) aF (aT _)))))))) (aH (aP gR)) aQ)
 (aH (aP (fG (aN bV (lJ PJ QM Q3 lD (pv 3)) aF (aT _)) (bL cJ (pv 2) (pv 1)) (pv 2))))) aQ)
 (aE (bE (aN eO (pv 0) (bA (aD aO (aD aO aC))) (by with_unfolding_all rfl)) (aH (aP (fG (PW.pt (rj (aN bV (pv 0) aO (aT _)) (nF (aN kl (pv 1) aF (aT _))))) gR (bL cJ (pv 2) (pv 1))))) aQ)
 (aE (bE (aN bV (pv 0) aO (aT _)) (aE (bE (aN kl (aX aW rfl T.J0 bU (aD (pv 4) aC)) aF (aT _)) (aH (aP gR)) aQ)
 (aE (bP (fF PJ P7 P9 cC (pv 4) (aD (pv 2) aC)))
 (aH (aP (pv 1))))) aQ)
 (aH (aP (fG (aN (Dq hr) (pv 4) (bY aC) (aT _)) (lJ PJ QM Q3 lD (pv 4)) gR)))))),?_⟩
 have dp:SI K H (st.pile.reverse.map D.int) (pV st.pile):=dN _;refine aR (K:=K) (b:=decide (nm ∈ (["zero","none"]:List Str))) (aJ (j7 (ys:=["zero","none"]) (aA (K:=K) (k:=0) (Dat.Th nm)) (bF (aB aL (aB aL aM))))) (λc H1 s1=>?_) (λc H1 s1=>?_)
 ·have c:=Pq c;have u:=s1 _ _ hp;have M:=s1 _ _ hk
  have U:iH nm num=(decide (nm="zero") && decide ((9:Int) < num)):=by
   rcases PB.mp c with rfl | c
   ·rw [El,Py (rfl:("zero":Str)="zero"),QJ];exact i4 (by lia)
   ·obtain rfl:=PU.mp c;rw [oK (by decide +kernel) (by decide +kernel) (by decide +kernel),Po (by decide +kernel:¬ ("none":Str)="zero")];rfl
  have q:jS nm num on st=(eG st).map λp=>(if p.1=0 then on+num else on,p.2):=by unfold jS;rw [M1 (by rcases PB.mp c with rfl | c;exact (by decide +kernel);obtain rfl:=PU.mp c;exact (by decide +kernel)),Pk c]
  have hn:=xR (K:=K) (k:=3) (σ:=start ["_law_name","_law_number","_law_on","_law_pile","_law_ways"] [.str nm,.int num,.int on,.ref lp,.ref lk]) u (s1.SV dp) (jy _) (by rw [i6];decide);rw [nX] at hn;refine aR (K:=K) (b:=(st.pile.reverse.map D.int).isEmpty || (decide (nm="zero") && decide ((9:Int) < num))) (dP (aJ hn) λ_=>vV (aJ (bI (aA (K:=K) (k:=0) (Dat.Th nm)) aL)) λ_=>aJ (cQ (p:=λi j=>decide (j < i)) (aA (K:=K) (k:=1) (Dat.SN (num:Int))) aG)) (λX H2 s2=>?_) (λX H2 s2=>?_)
  ·refine bad ?_ H2 _ _ (oZ (s1.trans s2)) (s2 _ _ u) (s2 _ _ M);unfold Zf;rw [U]
   cases N:(decide (nm="zero") && decide ((9:Int) < num)) with
   | true=>rfl
   | false =>
    rw [N,Bool.or_false] at X
    have hpn:st.pile=[]:=by
     cases Y:st.pile with
     | nil=>rfl
     | cons x r=>rw [Y] at X;simp at X
    rw [M1 Pp,q];unfold eG;rw [hpn];rfl
  ·rw [QI] at X
   obtain ⟨x,r,hx⟩:∃ x r,st.pile=x::r:=by
    cases Y:st.pile with
    | nil=>rw [Y] at X;exact nomatch X.1
    | cons x r=>exact ⟨x,r,rfl⟩
   have B:H2 lp=some (.lst (pV r++[.int x])):=by rw [<- gI,<- hx];exact s2 _ _ u
   have O:=s2 _ _ M
   have eg:∀ p,(if x=0 then on+num else on,{ st with pile:=r })=p->Zf nm num on st=some p:=λp e=>by unfold Zf;rw [U,X.2,M1 Pp,q];unfold eG;rw [hx];exact P1 some e
   refine ⟨_,rfl,.inl ⟨rfl,_,SR.of B⟩,lp,_,.int x,rfl,rfl,B,by simp,?_⟩;rw [Q4];have b3:Yc lp lk H (upd H2 lp (.lst (pV r))):=(oZ (s1.trans s2)).trans λy o n _ e=>by rw [aS n];exact e
   have k3:upd H2 lp (.lst (pV r)) lk=some (.lst (XY st.kept)):=by rw [aS (PN ne)];exact O
   refine ⟨rfl,_,rfl,?_⟩;have es:decide (V.int x=V.int 0)=decide (x=0):=i4 ⟨λz=>V.int.inj z,λz=>by rw [z]⟩;rw [es];by_cases N:x=0
   ·rw [Py N];refine j4 ⟨_,rfl,_,rfl,on,num,rfl,rfl,?_⟩;have:=ok _ (eg _ rfl) _ b3 aI k3;rw [Pk N,Sg] at this;exact this
   ·rw [Po N];refine j0 ⟨_,rfl,?_⟩;have:=ok _ (eg _ rfl) _ b3 aI k3;rw [M1 N] at this;exact this
 have n1:=Px c;have u:=s1 _ _ hp;have M:=s1 _ _ hk;refine aR (K:=K) (b:=decide (nm ∈ (["skip","jump"]:List Str))) (aJ (j7 (ys:=["skip","jump"]) (aA (K:=K) (k:=0) (Dat.Th nm)) (bF (aB aL (aB aL aM))))) (λc H2 s2=>?_) (λc H2 s2=>?_)
 ·have c:=Pq c
  have U:iH nm num=(decide (nm="skip") && decide ((9:Int) < num)):=by
   rcases PB.mp c with rfl | c
   ·rw [Ek,Py (rfl:("skip":Str)="skip"),QJ];exact i4 (by lia)
   ·obtain rfl:=PU.mp c;rw [oK (by decide +kernel) (by decide +kernel) (by decide +kernel),Po (by decide +kernel:¬ ("jump":Str)="skip")];rfl
  have q:jS nm num on st=some (on+num,st):=by unfold jS;rw [Pk c]
  refine RT.use (b:=decide (nm="skip") && decide ((9:Int) < num)) (vV (aJ (bI (aA (K:=K) (k:=0) (Dat.Th nm)) aL)) λ_=>aJ (cQ (p:=λi j=>decide (j < i)) (aA (K:=K) (k:=1) (Dat.SN (num:Int))) aG)) λH3 R=>?_;have C:=s1.trans (s2.trans R)
  cases N:(decide (nm="skip") && decide ((9:Int) < num)) with
  | true=>exact j4 (bad (by unfold Zf;rw [U,N];rfl) H3 _ _ (oZ C) (C _ _ hp) (C _ _ hk))
  | false =>refine j0 ⟨_,rfl,_,rfl,on,num,rfl,rfl,?_⟩;have:=ok (on+num,st) (by unfold Zf;rw [U,N,q];rfl) H3 (oZ C) (C _ _ hp) (C _ _ hk);rw [Sg] at this;exact this
 have n2:=Px c;have B:=s2 _ _ u;have O:=s2 _ _ M;have s12:=s1.trans s2;have U:iH nm num=false:=oK (λz=>by rw [z] at Z;revert Z;decide +kernel) (λz=>n2 (by rw [z];decide +kernel)) (λz=>n1 (by rw [z];decide +kernel));refine aR (K:=K) (b:=decide (nm="call")) (aJ (bI (aA (K:=K) (k:=0) (Dat.Th nm)) aL)) (λc H3 R=>?_) (λc H3 R=>?_)
 ·have c:=Pq c;have S:=R _ _ B;have m:=R _ _ O;have C:=s12.trans R;have q:Zf nm num on st=if st.kept.length=16 then none else some (num,{ st with kept:=on::st.kept }):=by unfold Zf jS;rw [U,M1 n2,M1 n1,Pk c];rfl
  have LK:LD K H3 ((st.kept.reverse.map λ(n:Nat)=>(n:Int)).map D.int) (.ref lk):=LD.of (m.trans (by rw [uQ])) (dN _);refine aR (K:=K) (b:=decide (st.kept.length=16)) (RT.as (aJ (cQ (p:=λi j=>decide (j < i)) (eA (a8 (k:=4) LK)) aG)) (i4 (by rw [Pf,Pf,Ql];lia))) (λc2 H4 I=>?_) (λc2 H4 I=>?_)
  ·exact bad (by rw [q,Pk (Pq c2)]) H4 _ _ (oZ (C.trans I)) (I _ _ S) (I _ _ m)
  ·have c2:=Px c2;have J:=I _ _ m;have ll:=Ak st.kept;refine iZ (K:=K) (d:=.int (on:Int)) (aA (k:=2) (Dat.SN (on:Int))) J (by lia) λy G5 b5 L dy5=>?_;rw [dy5.SQ] at L;refine ⟨_,rfl,ok (num,{ st with kept:=on::st.kept }) (by rw [q,M1 c2]) G5 ((oZ (C.trans I)).trans λx o _ n e=>b5 x o n e) (b5 _ _ ne (I _ _ S)) (by rw [nj];exact L)⟩
 have n3:=Px c;have S:=R _ _ B;have m:=R _ _ O;have C:=s12.trans R;have hn:=xT (K:=K) (k:=4) (σ:=start ["_law_name","_law_number","_law_on","_law_pile","_law_ways"] [.str nm,.int num,.int on,.ref lp,.ref lk]) m (by rw [uQ];exact dN (st.kept.reverse.map λ(n:Nat)=>(n:Int))) (jy _) (by rw [i6];decide);rw [nX] at hn;refine RT.use (aJ hn) λH4 I=>?_;have hp4:=I _ _ S;have J:=I _ _ m;have Ux:=C.trans I
 have q:Zf nm num on st=match st.kept with
  | []=>none
  | k::r=>some (k,{ st with kept:=r }):=by unfold Zf jS;rw [U,M1 n2,M1 n1,M1 n3];rfl
 cases Y:st.kept with
 | nil =>rw [Y] at q J;exact j0 (bad q H4 _ _ (oZ Ux) hp4 J)
 | cons x r =>
  rw [Y] at q;have L:H4 lk=some (.lst (XY r++[.int x])):=by rw [<- nj,<- Y];exact J
  have eb:(!((((x::r).reverse.map λ(n:Nat)=>(n:Int)).map D.int).isEmpty))=true:=by simp
  rw [eb];refine j4 ⟨_,rfl,.inl ⟨rfl,_,SR.of L⟩,lk,_,.int x,rfl,rfl,L,by simp,?_⟩;rw [Q4];exact ok (x,{ st with kept:=r }) q _ ((oZ Ux).trans λy o _ n e=>by rw [aS n];exact e) (by rw [aS ne];exact hp4) aI
noncomputable abbrev S10:List Str:=["put","far","load","add","sub","mul","less","more","twice","about"]
theorem rB (h:RE K te σ G d) (u:G l=some (.lst xs)) (z:xs.length<=1000)
  (q:∀ y G',S6 l G G'->G' l=some (.lst (xs++[y]))->Dat K G' d y->En.nx σ G') (B:σ[j]?=some (some (.ref l)):=by rfl):rR (Z6 K "list" kH (fT j) (bW te dW)) En σ G:=by
 refine ⟨_,B,.inl ⟨rfl,_,SR.of u⟩,h.use λy H1 s1 C=>?_⟩;have m:=s1 _ _ u;refine ⟨l,xs,y,rfl,rfl,m,cM z,?_⟩;have b:S6 l H1 (upd H1 l (.lst (xs++[y]))):=S6.upd (SJ.refl _).but;exact q y _ (s1.but.trans b) aI (Dat.mono (b.grow m aI) _ C)
theorem DW (h:RE K te σ G d) (m:G l=some (.lst xs)) (u:xs.length<=1000)
  (q:∀ y G',S6 l G G'->G' l=some (.lst (xs++[y]))->Dat K G' d y->us En σ G') (z:σ[j]?=some (some (.ref l)):=by rfl):lX (rR (Z6 K "list" kH (fT j) (bW te dW))) us En σ G:=eB (rB h m u q z)
noncomputable def ZM (mc:MC) (nm:Str) (num:Nat) (st:MS):Option MS:=if iH nm num=true then none else cR mc nm num st
noncomputable def D3 (K:W.Frag):Sp:=λvs H Q _=>∃ (nm:Str) (num:Nat) (lp:Addr) (h:V) (mc:MC) (st:MS),vs=[.str nm,.int num,.ref lp,h,.int mc.b]/\nm ∈ S10/\H lp=some (.lst (pV st.pile))/\Dat K H (.tup (mc.as.map D.int)) h/\qS mc/\j6 mc st /\
 (∀ s,ZM mc nm num st=some s->∀ H',S6 lp H H'->H' lp=some (.lst (pV s.pile))->Q (.bl true) H')/\(ZM mc nm num st=none->∀ H' zs,S6 lp H H'->H' lp=some (.lst zs)->Q (.bl false) H')
theorem DG {z:V} (h:H l=some (.lst (ys++[z]))) (q:Q z (upd H l (.lst ys))) (e:σ[j]?=some (some (.ref l)):=by rfl):Iq K "list" DF (fT j) σ H Q :=
 ⟨_,e,.inl ⟨rfl,_,SR.of h⟩,l,_,z,rfl,rfl,h,by simp,by rw [Q4];exact q⟩
theorem i8 {n:Int} (h:st.pile.length≠64):cI mc n st=some { st with pile:=n % mc.b::st.pile }:=by unfold cI;rw [M1 h]
theorem Az {n:Int} (h:st.pile.length=64):cI mc n st=none:=by unfold cI;rw [Pk h]
theorem h8 {x:Int} {r:List Int} (h:st.pile=x::r):eG st=some (x,{ st with pile:=r }):=by unfold eG;rw [h]
theorem qN {x b:Int} (h:0<=x) (m:x < b):x % b=x:=Qk h m
theorem uV (T:Txt P w K mg) (Nb:Ok P w base k T.LF (Tj K Ca)):Ok P w base (k+1) T.Mr (D3 K):=by
 refine T.Mr.f.ok WZ (λvs H Q E h=>?_) (λcdv A outer s H vs Q E hr h=>?_)
 ·obtain ⟨nm,num,lp,vg,mc,st,rfl,_⟩:=h;rfl
 have nd:=WZ.nd;obtain ⟨nm,num,lp,vg,mc,st,rfl,I,hp,hg,oc,os,ok,bad⟩:=h;refine ⟨_,(aE (bE (aN eO (pv 0) (bA (aD aO (aD aO (aD aO aC)))) (by with_unfolding_all rfl)) (aE (bE (PW.pt (fH (aN kl (aX aW rfl T.J0 bU (aD (pv 2) aC)) aF (aT _)) (eR (PW.pt (rj (aN bV (pv 0) aO (aT _)) (nF (aN kl (pv 1) aF (aT _)))))))) (aH (aP d8)) aQ)
 (aH (bP (fF PJ P7 P9 cC (pv 2) (aD (fG (aN bV (pv 0) aO (aT _)) (aY aZ (pv 3) (pv 1)) (bL eZ (pv 1) (pv 4))) aC))))) (aH (bE (aN eO (pv 0) (bA (aD aO (aD aO aC))) (by with_unfolding_all rfl)) (aE (bE (PW.pt (fH (aN (vA hr) (pv 2) (bY aC) (aT _)) (eR (PW.pt (rj (aN bV (pv 0) aO (aT _)) (nF (aN kl (aX aW rfl T.J0 bU (aD (pv 2) aC)) aF (aT _)))))))) (aH (aP d8)) aQ)
 (aH (bP (fF PJ P7 P9 cC (pv 2) (aD (fG (aN bV (pv 0) aO (aT _)) (aY bX (pv 2) (Av wt aF)) (bL eZ (bL cJ (lJ PJ QM Q3 lD (pv 2)) (pv 1)) (pv 4))) aC))))) (aE (bE (aN km (aX aW rfl T.J0 bU (aD (pv 2) aC)) aF (aT _)) (aH (aP d8)) aQ)
 (aE (rg (i:=5) (j:=6) rfl nd rfl rfl (by decide) rfl rfl (aD (lJ PJ QM Q3 lD (pv 2)) (aD (lJ PJ QM Q3 lD (pv 2)) aC)) (by kernel_rfl))
 (aH (bE (aN bV (pv 0) aO (aT _)) (aH (bP (fF PJ Ra Rw ki (pv 2) (aD (bY (aD (pv 5) (aD (pv 6) aC))) aC)))) (aH (bP (fF PJ P7 P9 cC (pv 2) (aD (pc (D:=T.LF) Nb hr (aD (pv 0) (aD (pv 6) (aD (pv 5) (aD (pv 4) aC))))) aC)))))))))))
 (aH (aP d8))),?_⟩
 have b2:=oc.b2;have L:=os.l;have ll:=vD st.pile;have LP:∀ {G:Hp},G lp=some (.lst (pV st.pile))->LD K G (st.pile.reverse.map D.int) (.ref lp):=λh=>LD.of h (dN _);refine eB (RT.use (b:=decide (nm ∈ (["put","far","load"]:List Str))) (aJ (j7 (ys:=["put","far","load"]) (aA (K:=K) (k:=0) (Dat.Th nm)) (bF (aB aL (aB aL (aB aL aM)))))) λH1 s1=>?_);have M:=s1 _ _ hp;by_cases B:nm ∈ (["put","far","load"]:List Str)
 ·rw [Py B]
  have et:iH nm num=(decide (nm="load") && decide ((3:Int) < num)):=by
   by_cases m:nm="load"
   ·subst m;rw [Ej,Py (rfl:("load":Str)="load"),QJ];exact i4 (by lia)
   ·rw [oK m (λz=>by rw [z] at B;revert B;decide +kernel) (λz=>by rw [z] at B;revert B;decide +kernel),Po m];rfl
  have ew:cR mc nm num st=cI mc (if nm="load" then mc.as.getD num 0 else num) st:=by
   unfold cR;by_cases m:nm="load"
   ·rw [M1 (by rw [m];decide +kernel),Pk m,Pk m]
   ·rw [Pk (by rcases PB.mp B with z | z;rw [z];exact P4;rcases PB.mp z with z | z;rw [z];exact PV _ P4;exact absurd (PU.mp z) m),M1 m]
  refine j4 (aR (K:=K) (b:=decide (st.pile.length=64) || (decide (nm="load") && decide ((3:Int) < num))) (dP (RT.as (aJ (cQ (p:=λi j=>decide (j < i)) (eA (a8 (k:=2) (LP M))) aG)) (i4 (by rw [Pf,Ql];lia))) λ_=>vV (aJ (bI (aA (K:=K) (k:=0) (Dat.Th nm)) aL)) λ_=>aJ (cQ (p:=λi j=>decide (j < i)) (aA (K:=K) (k:=1) (Dat.SN (num:Int))) aG)) (λc H2 s2=>?_) (λc H2 s2=>?_))
  ·refine bad ?_ H2 _ (s1.trans s2).but (s2 _ _ M);unfold ZM;rw [et]
   cases m:(decide (nm="load") && decide ((3:Int) < num)) with
   | true=>rfl
   | false =>rw [m,Bool.or_false] at c;rw [M1 Pp,ew,Az (Pq c)]
  ·rw [QI] at c;have nl:=Px c.1
   have ed:ZM mc nm num st=some { st with pile:=(if nm="load" then mc.as.getD num 0 else (num:Int) % mc.b)::st.pile }:=by
    unfold ZM;rw [et,c.2,M1 Pp,ew,i8 nl];by_cases m:nm="load"
    ·rw [Pk m,Pk m]
     have h3:num<=3:=by rw [Py m,QJ] at c;have:=Px c.2;lia
     have hm:=oc.ai (mc.as.getD num 0) (by
      rw [PZ,Pg (by have:=oc.as;lia:num < mc.as.length)];exact List.getElem_mem _)
     rw [qN hm.1 hm.2]
    ·rw [M1 m,M1 m]
   refine rB (K:=K) (d:=.int (if nm="load" then mc.as.getD num 0 else (num:Int) % mc.b)) (mC (b:=decide (nm="load")) (aJ (bI (aA (K:=K) (k:=0) (Dat.Th nm)) aL)) (λcz=>?_) (λcz=>?_)) (s2 _ _ M) (by lia) λy G b hG dy=>?_
   ·have cz:=Pq cz;rw [Pk cz]
    have h3:num<=3:=by rw [Py cz,QJ] at c;have:=Px c.2;lia
    have la:=oc.as
    exact a6 (k:=num) (aA (k:=3) ((s1.trans s2).dat hg)) (aA (k:=1) (Dat.SN (num:Int))) (by
     rw [Pw,Pg (by lia:num < mc.as.length),PZ,Pg (by lia:num < mc.as.length)];rfl)
   ·rw [M1 (Px cz)];exact jN (aA (k:=1) (Dat.SN (num:Int))) (aA (k:=4) (Dat.SN mc.b)) (by lia)
   ·rw [dy.SQ] at hG;exact ok _ ed G ((s1.trans s2).but.trans b) (by rw [gI];exact hG)
 rw [Po B];have et:iH nm num=false:=oK (λz=>B (by rw [z];decide +kernel)) (λz=>by rw [z] at I;revert I;decide +kernel) (λz=>by rw [z] at I;revert I;decide +kernel)
 have ew:ZM mc nm num st=(eG st).bind λu =>
  if nm="more" then cI mc (u.1+num) u.2
  else if nm="twice" then (cI mc u.1 u.2).bind λs=>cI mc u.1 s
  else if nm="about" then (eG u.2).bind λl=>(cI mc u.1 l.2).bind λs=>cI mc l.1 s
  else (eG u.2).bind λl=>cI mc (two nm l.1 u.1 mc.b) l.2:=by
  unfold ZM cR;rw [et,M1 Pp,M1 (λz=>B (by rcases PB.mp z with z | z;rw [z];exact P4;rw [PU.mp z];decide +kernel)),M1 (λz=>B (by rw [z];decide +kernel))]
 rw [ew] at ok bad;refine j0 (RT.use (b:=decide (nm ∈ (["more","twice"]:List Str))) (aJ (j7 (ys:=["more","twice"]) (aA (K:=K) (k:=0) (Dat.Th nm)) (bF (aB aL (aB aL aM))))) λH2 s2=>?_);have q:=s2 _ _ M;have N:=s1.trans s2;by_cases cB:nm ∈ (["more","twice"]:List Str)
 ·rw [Py cB];have hn:=xR (K:=K) (k:=2) (σ:=start ["_law_name","_law_number","_law_pile","_law_args_here","_law_base","_law_other","_law_one"] [.str nm,.int num,.ref lp,vg,.int mc.b]) q (dN st.pile.reverse) (jy _) (by rw [i6];decide);rw [nX] at hn;refine j4 (aR (K:=K) (b:=(st.pile.reverse.map D.int).isEmpty || (decide (nm="twice") && decide (st.pile.length=64))) (dP (aJ hn) λ_=>vV (aJ (bI (aA (K:=K) (k:=0) (Dat.Th nm)) aL)) λ_=>RT.as (aJ (cQ (p:=λi j=>decide (j < i)) (eA (a8 (k:=2) (LP q))) aG)) (i4 (by rw [Pf,Ql];lia))) (λc Z J=>?_) (λc Z J=>?_))
  ·refine bad ?_ Z _ (N.trans J).but (J _ _ q)
   cases O:st.pile with
   | nil=>unfold eG;rw [O];rfl
   | cons x r =>
    rw [O] at c;have e0:((x::r).reverse.map D.int).isEmpty=false:=by simp
    rw [e0,QE,Pz] at c;have ct:=Pq c.1;have cl:r.length+1=64:=Pq c.2;rw [h8 O,P8,M1 (by rw [ct];decide +kernel),Pk ct,i8 (by show r.length≠64;lia),P8,Az (by show r.length+1=64;exact cl)]
  ·rw [QI] at c
   obtain ⟨x,r,C⟩:∃ x r,st.pile=x::r:=by
    cases O:st.pile with
    | nil=>rw [O] at c;exact nomatch c.1
    | cons x r=>exact ⟨x,r,rfl⟩
   have xb:=os.p x (by rw [C];exact P4);have rl:r.length+1<=64:=by rw [C] at L;exact L
   have S:Z lp=some (.lst (pV r++[.int x])):=by rw [<- gI,<- C];exact J _ _ q
   have Tc:=N.trans J;have lr:=vD r;refine ⟨_,rfl,.inl ⟨rfl,_,SR.of S⟩,RT.use (b:=decide (nm="twice")) (aJ (bI (aA (K:=K) (k:=0) (Dat.Th nm)) aL)) λH4 s4=>?_⟩;have hp4:=s4 _ _ S;by_cases ct:nm="twice"
   ·rw [Py ct]
    have c64:r.length+1≠64:=by rw [Py ct,QJ,C] at c;exact Px c.2
    refine j4 (RE.use (mf (d:=.int x) (ds:=r.reverse.map D.int) (a8 (K:=K) (k:=2) (LD.of hp4 (SI.append (dN r.reverse) (SI.cons (Dat.SN x) SI.nil)))) (AH aG)) λv H5 s5 qv=>?_);rw [qv.SQ];refine ⟨lp,_,_,rfl,rfl,s5 _ _ hp4,cM (by rw [tB];show (pV r).length+1<=1000;lia),?_⟩;refine ok { st with pile:=x::x::r } ?_ _ ((Tc.trans (s4.trans s5)).but.trans (S6.upd (SJ.refl _).but)) (by rw [aI,gI,gI]);rw [h8 C,P8,M1 (by rw [ct];decide +kernel),Pk ct,i8 (by show r.length≠64;lia),P8,i8 (by show r.length+1≠64;exact c64),qN xb.1 xb.2]
   ·rw [Po ct]
    have cm:nm="more":=by
     rcases PB.mp cB with z | z
     ·exact z
     ·exact absurd (PU.mp z) ct
    refine j0 (DG hp4 ⟨_,rfl,x,num,rfl,rfl,_,rfl,x+num,mc.b,rfl,rfl,by show 0 < mc.b;lia,lp,pV r,_,rfl,rfl,aI,cM (by lia),?_⟩);refine ok { st with pile:=(x+num) % mc.b::r } ?_ _ ((Tc.trans s4).but.trans (S6.upd (S6.upd (SJ.refl _).but))) (by rw [aI,gI]);rw [h8 C,P8,Pk cm,i8 (by show r.length≠64;lia)]
 rw [Po cB];have U:¬ nm="more":=λz=>cB (by rw [z];decide +kernel);have X:¬ nm="twice":=λz=>cB (by rw [z];decide +kernel);refine j0 (aR (K:=K) (b:=decide (st.pile.length < 2)) (RT.as (aJ (cQ (p:=λi j=>decide (i < j)) (eA (a8 (k:=2) (LP q))) aG)) (i4 (by rw [Pf,Ql];lia))) (λc Z J=>?_) (λc Z J=>?_))
 ·have c:=Pq c;refine bad ?_ Z _ (N.trans J).but (J _ _ q)
  match O:st.pile,c with
  | [],_=>unfold eG;rw [O];rfl
  | [x],_ =>rw [h8 O,P8,M1 U,M1 X];have e:eG { st with pile:=[] }=none:=rfl;split <;> (rw [e];rfl)
  | _::_::_,c=>exact absurd c (by simp)
 ·have c:=Px c
  obtain ⟨u,l,r,C⟩:∃ u l r,st.pile=u::l::r:=by
   match O:st.pile,c with
   | [],c=>exact absurd c (by simp)
   | [x],c=>exact absurd c (by simp)
   | u::l::r,_=>exact ⟨u,l,r,rfl⟩
  have ub:=os.p u (by rw [C];exact P4);have lb:=os.p l (by rw [C];exact PV _ P4);have rl:r.length+2<=64:=by rw [C] at L;exact L
  have lr:=vD r;have Tc:=N.trans J;have S:Z lp=some (.lst ((pV r++[.int l])++[.int u])):=by rw [<- gI,<- gI,<- C];exact J _ _ q
  refine DG S (DG aI ⟨_,_,rfl,?_⟩);generalize e5:upd (upd Z lp _) lp (.lst (pV r))=H5;have hp5:H5 lp=some (.lst (pV r)):=by rw [<- e5];exact aI
  have b5:S6 lp H H5:=by rw [<- e5];exact Tc.but.trans (S6.upd (S6.upd (SJ.refl _).but))
  refine RT.use (b:=decide (nm="about")) (aJ (bI (aA (K:=K) (k:=0) (Dat.Th nm)) aL)) λH6 s6=>?_;have Y:=s6 _ _ hp5;have b6:=b5.trans s6.but;by_cases ca:nm="about"
  ·rw [Py ca];refine j4 ⟨_,rfl,.inl ⟨rfl,_,SR.of Y⟩,_,rfl,_,rfl,dB (show 2<=1000 by decide),λlb2 nb=>?_⟩;have nlb:lp≠lb2:=λz=>by rw [<- z,Y] at nb;cases nb
   refine ⟨lp,lb2,_,_,rfl,rfl,by rw [aS nlb];exact Y,aI,dB (by show (pV r).length+2<=1000;lia),?_⟩;refine ok { st with pile:=l::u::r } ?_ _ ((b6.trans (aV nb _).but).trans (S6.upd (SJ.refl _).but)) (by rw [aI,gI,gI,Qd];rfl);rw [h8 C,P8,M1 U,M1 X,Pk ca,h8 (st:={ st with pile:=l::r }) rfl,P8,i8 (by show r.length≠64;lia),P8,i8 (by show r.length+1≠64;lia),qN ub.1 ub.2,qN lb.1 lb.2]
  ·rw [Po ca]
   have okO:okO nm:=by
    have h:=I;simp only [S10,PB,Qa,Qz] at h;rcases h with h | h | h | h | h | h | h | h | h | h
    ·exact absurd (by rw [h];decide +kernel) B
    ·exact absurd (by rw [h];decide +kernel) B
    ·exact absurd (by rw [h];decide +kernel) B
    ·exact .inl h
    ·exact .inr (.inl h)
    ·exact .inr (.inr (.inl h))
    ·exact .inr (.inr (.inr h))
    ·exact absurd h U
    ·exact absurd h X
    ·exact absurd h ca
   have tw:=jR (o:=nm) (x:=l) (y:=u) b2;refine j0 (rB (K:=K) (d:=.int (two nm l u mc.b)) (bM (R:=Ca) (aB (aA (k:=0) (Dat.Th nm)) (aB (aA (k:=6) (Dat.SN l)) (aB (aA (k:=5) (Dat.SN u)) (aB (aA (k:=4) (Dat.SN mc.b)) aM)))) ⟨nm,l,u,mc.b,rfl,okO,b2,oc.b9,lb.1,lb.2,ub.1,ub.2,rfl⟩) Y (by lia) λy G b hG dy=>?_);rw [dy.SQ] at hG;refine ok { st with pile:=two nm l u mc.b::r } ?_ G (b6.trans b) (by rw [gI];exact hG);rw [h8 C,P8,M1 U,M1 X,M1 ca,h8 (st:={ st with pile:=l::r }) rfl,P8,i8 (by show r.length≠64;lia),qN tw.1 tw.2]
noncomputable def FP:Res->D
 | .ends v=>.tup [.str "ends",.int v]
 | .fault p=>.tup [.str "fault",.int p]
 | .late=>.tup [.str "late",.int 0]
theorem DV:RL K (kr (kL K yk) [] E dW) σ H (NM.map D.str):=jW λH1 s Q q=>⟨[],_,SI.nil,⟨rfl,rfl⟩,λr us H' s' h n d=>q r us H' n s' h d⟩
noncomputable def xW (st:MS):D:=.tup [.int st.place,.tup (st.pile.reverse.map D.int)]
noncomputable def hW (mc:MC):Nat->MS->List D
 | 0,_=>[]
 | n+1,st=>match fJ mc st with
  | none=>[]
  | some s=>xW st::if s.ended=true then [] else hW mc n s
theorem zm {t:TE} (h:RL K t σ H es):RE K (XA (λxs H Q=>∃ p ys,xs=[.ref p]/\((SR K H p ys/\∀ l,H l=none->Q (.ref l) (upd H l (.tup ys)))\/(Ti K H p ys/\Q (.ref p) H))) (bW t dW)) σ H (.tup es):=λH1 s Q q =>
 iL ((h.mono s).use λv H' s' m=>by
  obtain ⟨l,ys,rfl,z,m⟩:=m;exact ⟨l,ys,rfl,.inl ⟨z.WC,λp u=>q _ _ (s'.trans (aV u _)) (Dat.tupI (Ti.of aI) ((aV u _).SV m))⟩⟩)
theorem C8:∀ i:Fin 17,NM.getD i ""="end"\/NM.getD i "" ∈ WS\/NM.getD i "" ∈ S10:=by decide +kernel
theorem C7 (h:0<=c) (m:c<=16):Vh c="end"\/Vh c ∈ WS\/Vh c ∈ S10:=C8 ⟨c.toNat,by lia⟩
theorem F2 (u:mc.cs[st.place]?=some c) (z:jn mc.cs st.place c=false):fJ mc st =
  if Vh c="end" then (jq st).map λs=>{ s with place:=st.place+1+cG c }
  else if Vh c ∈ WS then (Zf (Vh c) (lF mc.cs st.place c) (st.place+1+cG c) st).map λp=>{ p.2 with place:=p.1 }
  else (ZM mc (Vh c) (lF mc.cs st.place c) st).map λs=>{ s with place:=st.place+1+cG c }:=by
 have e:fJ mc st=if iH (Vh c) (lF mc.cs st.place c)=true then none else W4 mc (Vh c) (lF mc.cs st.place c) (st.place+1+cG c) st:=by unfold fJ;rw [u];dsimp only;rw [M1 (by rw [z];exact Pp)]
 rw [e];by_cases m:Vh c="end"
 ·rw [Pk m,M1 (by rw [m,oK (by decide +kernel) (by decide +kernel) (by decide +kernel)];exact Pp)];unfold W4;rw [M1 (by rw [m];decide +kernel),Pk m]
 ·rw [M1 m];by_cases q:Vh c ∈ WS
  ·rw [Pk q];unfold Zf W4;by_cases h:iH (Vh c) (lF mc.cs st.place c)=true
   ·rw [Pk h,Pk h];rfl
   ·rw [M1 h,M1 h,Pk q]
  ·rw [M1 q];unfold ZM W4;by_cases h:iH (Vh c) (lF mc.cs st.place c)=true
   ·rw [Pk h,Pk h];rfl
   ·rw [M1 h,M1 h,M1 q,M1 m]
theorem Yc.grow {a b:Addr} {h m:List V} (t:Yc a b H H') (J:H a=some (.lst xs)) (L:H b=some (.lst ys)) (M:H' a=some (.lst h)) (N:H' b=some (.lst m)):gA K H H':=by
 have B:∀ {c:Addr} {o:HO},H c=some o->(∀ xs,o≠.lst xs)->H' c=some o:=λ{c o} e n =>
  t c o (λz=>n _ (by rw [z,J] at e;cases e;rfl)) (λz=>n _ (by rw [z,L] at e;cases e;rfl)) e
 refine ⟨λc xs q=>?_,λc zs q=>?_⟩
 ·rcases q with (q | ⟨u,q⟩) | q
  ·exact .inl (.inl (B q (λ_ z=>by cases z)))
  ·exact .inl (.inr ⟨u,B q (λ_ z=>by cases z)⟩)
  ·exact .inr q
 ·rcases q with (q | ⟨u,q⟩) | q
  ·by_cases C:c=a
   ·exact ⟨_,SR.of (by rw [C];exact M)⟩
   ·by_cases I:c=b
    ·exact ⟨_,SR.of (by rw [I];exact N)⟩
    ·exact ⟨zs,.inl (.inl (t c _ C I q))⟩
  ·exact ⟨zs,.inl (.inr ⟨u,B q (λ_ z=>by cases z)⟩)⟩
  ·exact ⟨zs,.inr q⟩
theorem Cr {s:MS} (h:cR mc nm num st=some s):s.kept=st.kept:=by
 unfold cR at h;split at h
 ·exact (gX h).2.1
 ·split at h
  ·exact (gX h).2.1
  ·obtain ⟨u,C,h⟩:=Qn.mp h;have m:=(jv C).2.1;split at h
   ·exact (gX h).2.1.trans m
   ·split at h
    ·obtain ⟨s1,q,z⟩:=Qn.mp h;exact (gX z).2.1.trans ((gX q).2.1.trans m)
    ·split at h
     ·obtain ⟨l,B,h⟩:=Qn.mp h;obtain ⟨s1,q,z⟩:=Qn.mp h;exact (gX z).2.1.trans ((gX q).2.1.trans ((jv B).2.1.trans m))
     ·obtain ⟨l,B,h⟩:=Qn.mp h;exact (gX h).2.1.trans ((jv B).2.1.trans m)
noncomputable def mB:Nat->List Int->List Int
 | _,[]=>[]
 | i,c::r=>c * ([1,100].getD i 0)::mB (i+1) r
theorem xM:∀ (i:Nat) (ns:List Int),(mB i ns).length=ns.length
 | _,[]=>rfl
 | i,c::r=>by rw [mB,Pr,Pr,xM]
theorem xK:∀ (ns:List Int) (i k:Nat),(mB i ns)[k]?=ns[k]?.map λc=>c * ([1,100].getD (i+k) 0)
 | [],_,_=>by simp [mB]
 | c::r,i,0=>by simp [mB]
 | c::r,i,k+1=>by
  rw [mB,List.getElem?_cons_succ,List.getElem?_cons_succ,xK r (i+1) k];congr 2
  funext c
  rw [show i+1+k=i+(k+1) by lia]
theorem DB:ns.length<=2->(mB 0 ns).sum=iJ ns:=by
 intro h
 match ns,h with
 | [],_=>rfl
 | [a],_=>show a * 1+0=(0:Int) * 100+a;lia
 | [a,b],_=>show a * 1+(b * 100+0)=((0:Int) * 100+b) * 100+a;lia
theorem FX (u:RE K te σ G d) (z:RC K tl σ G es)
  (q:∀ v m,SJ G m->Dat K m d v->∀ l ys h,SJ m h->h l=some (.lst ys)->SI K h es ys->∀ p,h p=none->En.rt (.ref p) (upd h p (.tup [v,.ref l]))):Ee (zB (bW te (bW tl dW))) En σ G :=
 u.use λv m s B=>(z.mono s).use λl ys h n s2 C I=>⟨dB (show 2<=1000 by decide),λp np=>q v m s B l ys h s2 C I p np⟩
theorem DY {tk:TE} {fs:List D} (h:RC K tl σ H es) (m:RC K tk σ H fs)
  (q:∀ l ys H1,H l=none->SJ H H1->H1 l=some (.lst ys)->SI K H1 es ys->∀ l2 zs H2,H1 l2=none->SJ H1 H2->H2 l2=some (.lst zs)->SI K H2 fs zs->us En ((σ.set i (some (.ref l))).set j (some (.ref l2))) H2):lX (Iv i j (bW tl (bW tk dW))) us En σ H :=
 h.use λl ys H1 n s u z=>(m.mono s).use λl2 zs H2 B s2 C I=>⟨_,_,rfl,q l ys H1 n s u z l2 zs H2 B s2 C I⟩
noncomputable def D4 (K:W.Frag):Sp:=λvs H Q _=>∃ (m lk:Addr) (q:V) (mc:MC) (n:Nat) (h:MS),vs=[.ref m,q,.int mc.b,.int n,.int h.place,.ref lk]/\qS mc/\j6 mc h/\h.pile=[]/\h.ended=false/\H m=some (.lst (mc.cs.map V.int))/\H lk=some (.lst (XY h.kept))/\m≠lk/\Dat K H (.tup (mc.as.map D.int)) q/\n<=1000 /\
 ∀ (p:Addr) (u:V) (ld:Addr) (ys:List V) (H':Hp),S6 lk H H'->H' p=some (.tup [u,.ref ld])->Dat K H' (FP (jg mc n h)) u->H' ld=some (.lst ys)->SI K H' (hW mc n h) ys->Q (.ref p) H'
theorem uX (T:Txt P w K mg) (NY:Ok P w base k T.K6 (kL K yk)) (NR:Ok P w base k T.LH (Tj K GK)) (Od:Ok P w base k T.Mt (D5 K)) (Ob:Ok P w base k T.Mr (D3 K)):Ok P w base (k+1) T.Ms (D4 K):=by
 refine T.Ms.f.ok W0 (λvs H Q E h=>?_) (λcdv A outer s H vs Q E hr h=>?_)
 ·obtain ⟨lc,lk,vg,mc,n,s0,rfl,_⟩:=h;rfl
 have nd:=W0.nd;obtain ⟨lc,lk,vg,mc,n,s0,rfl,oc,os,hpl,hen,hc,hk,nck,hg,n9,post⟩:=h;refine ⟨_,(aE (rg (i:=6) (j:=7) rfl nd rfl rfl (by decide) rfl rfl (aD (bY aC) (aD (bY aC) aC)) (by kernel_rfl))
 (aE (jK Qv rfl (ko rfl T.MH (aD (pv 3) aC)) (a7 (i:=8) nd rfl (Or.inl rfl)) (aE (bE (PW.pt (fH (aN km (pv 4) aF (aT _)) (fH (aN tH (pv 4) (aX aW rfl T.J0 bU (aD (pv 0) aC)) (aT _)) (eR (aN kl (aY bX (pv 0) (pv 4)) aF (aT _)))))) (aH (aP (bA (aD (bA (aD aO (aD (pv 4) aC))) (aD (pv 7) aC))))) aQ)
 (aE (rg (i:=9) (j:=10) rfl nd rfl rfl (by decide) rfl rfl (aD (aY bX (xH NY hr rfl T.K6.m T.K6.f.kp T.K6.b .nil gN) (aY bX (pv 0) (pv 4))) (aD (pc (D:=T.LH) NR hr (aD (aY bX (pv 0) (pv 4)) aC)) aC)) (by kernel_rfl))
 (aE (bQ (i:=11) nd rfl (Or.inl rfl) (jJ AJ (pv 0) (iY (bL cJ (pv 4) aF)) (iY (bL cJ (bL cJ (pv 4) aF) (pv 10)))))
 (aE (bE (aN km (aX aW rfl T.J0 bU (aD (pv 11) aC)) (pv 10) (aT _)) (aH (aP (bA (aD (bA (aD aO (aD (pv 4) aC))) (aD (pv 7) aC))))) aQ)
 (aE (bQ (i:=12) nd rfl (Or.inl rfl) (aX (qi rfl) rfl T.OB yr (aD (eV (own:=["_law_spot","_law_cell"]) (fr:=[]) (N':=["_law_spot","_law_cell"]) (Dv rfl T.Nz (aD (pv 11) aC)) rfl (by show dS ["_law_code","_law_args_here","_law_base","_law_most","_law_at","_law_ways","_law_pile","_law_did","_law_k","_law_name","_law_many","_law_cells","_law_number","_law_on","_law_now"] (λx=>(aK lP).names.lookup x) _ _ _ _=true;decide +kernel) rfl (λ_ _ _ _ _=>(Aw (K:=K) (n:=2) rfl rfl (bN (a7 (i:=0) (by show List.Nodup [("_law_spot":Str),("_law_cell":Str)];decide +kernel) rfl (Or.inl rfl)) (bN (a7 (i:=1) (by show List.Nodup [("_law_spot":Str),("_law_cell":Str)];decide +kernel) rfl (Or.inl rfl)) eH)))) (λ_ _ _ _ _=>c7) (λ_ _ _ _ _=>(bL ow (pv 1) (aY (r:=sD K) aZ (bA (aD aF (aD aF aC))) (pv 0))))) aC)))
 (aE (rg (i:=13) (j:=14) rfl nd rfl rfl (by decide) rfl rfl (aD (bL cJ (bL cJ (pv 4) aF) (aX aW rfl T.J0 bU (aD (pv 11) aC))) (aD (bA (aD (pv 4) (aD (eP dY rfl T.KN fP (aD (pv 6) aC)) aC))) aC)) (by kernel_rfl))
 (aE (bE (aN bV (pv 9) aO (aT _)) (aE (bE (aN lI (aX aW rfl T.J0 bU (aD (pv 6) aC)) aF (aT _)) (aH (aP (bA (aD (bA (aD aO (aD (pv 4) aC))) (aD (pv 7) aC))))) aQ)
 (aH (aP (bA (aD (bA (aD aO (aD (aY bX (pv 6) aF) aC))) (aD (bL jr (pv 7) (bY (aD (pv 14) aC))) aC)))))) aQ)
 (aE (bE (aN eO (pv 9) (bA (aD aO (aD aO (aD aO (aD aO (aD aO (aD aO aC))))))) (by with_unfolding_all rfl)) (aH (bQ (i:=13) nd rfl (Or.inl rfl) (pc (D:=T.Mt) Od hr (aD (pv 9) (aD (pv 12) (aD (pv 13) (aD (pv 6) (aD (pv 5) aC)))))))) (aH (bE (cW (bR (pc (D:=T.Mr) Ob hr (aD (pv 9) (aD (pv 12) (aD (pv 6) (aD (pv 1) (aD (pv 2) aC)))))) (λ_=>rfl))) (aH (bQ (i:=13) nd rfl (Or.inl rfl) gR)) aQ)))
 (aE (bE (aN vB (pv 13) gR (aT _)) (aH (aP (bA (aD (bA (aD aO (aD (pv 4) aC))) (aD (pv 7) aC))))) aQ)
 (aE (bP (fF PySem.F.plainAttrs_list PySem.F.slot_list_append PySem.F.type_list_append cC (pv 7) (aD (pv 14) aC)))
 (aH (bQ (i:=4) nd rfl (Or.inl rfl) (pv 13))))))))))))))
 (aH (aP (bA (aD (bA (aD aO (aD aF aC))) (aD (pv 7) aC))))))),?_⟩
 have Xv:=oc.cs;have l1:=Xv.l1;refine DY (K:=K) (es:=[]) (fs:=[]) (iC aM) (iC aM) λlp ysp H1 nlp t1 hyp dyp ld ysd H2 S t2 hyd dyd=>?_;obtain rfl:=dyp.V1;obtain rfl:=dyd.V1;have t12:=t1.trans t2;have Pd:lp≠lk:=λz=>by rw [z,hk] at nlp;cases nlp
 have O3:lp≠lc:=λz=>by rw [z,hc] at nlp;cases nlp
 have O8:ld≠lk:=λz=>by rw [z,t1 _ _ hk] at S;cases S
 have Pe:ld≠lc:=λz=>by rw [z,t1 _ _ hc] at S;cases S
 have OP:ld≠lp:=λz=>by rw [z,hyp] at S;cases S
 have Y:H lp=none:=nlp;have hld0:H ld=none:=t1.free S
 have Z:∀ {te:TE} {σ:L2.St} {G:Hp} {xs:List V} (r:Res),RE K te σ G (FP r)->jg mc n s0=r->G ld=some (.lst xs)->SI K G (hW mc n s0) xs->S6 lk H G->σ[7]?=some (some (.ref ld))->Ee (zB (bW te (bW (fT 7) dW))) { nx:=λ_ H'=>Q .SO H',rt:=Q } σ G:=λ{te σ G xs} r h1 h2 h3 h4 h5 h6 =>
  h1.use λv G1 U q1=>⟨_,h6,dB (show 2<=1000 by decide),λp np=>post p v ld xs _ ((h5.trans U.but).trans (aV np _).but) aI (by rw [h2];exact (aV np _).dat q1) ((aV np _) _ _ (U _ _ h3)) ((U.trans (aV np _)).SV h4)⟩
 refine eB ⟨_,rfl,(n:Int),rfl,by lia,by lia,nY (n:=(n:Int).toNat) (λi σ G=>∃ (st:MS) (xs:List V) (rows:List D) (z8 z9 z10 z11 z12 z13 z14:Option V),σ=[some (.ref lc),some vg,some (.int mc.b),some (.int n),some (.int st.place),some (.ref lk),some (.ref lp),some (.ref ld),z8,z9,z10,z11,z12,z13,z14] /\
  G lc=some (.lst (mc.cs.map V.int))/\Dat K G (.tup (mc.as.map D.int)) vg/\G lp=some (.lst (pV st.pile))/\G lk=some (.lst (XY st.kept))/\G ld=some (.lst xs)/\SI K G rows xs/\j6 mc st/\st.ended=false/\S6 lk H G/\jg mc n s0=jg mc (n - i) st/\rows++hW mc (n - i) st=hW mc n s0/\rows.length=i) ?_ ?_ ?_⟩
 ·exact ⟨s0,[],[],none,none,none,none,none,none,none,rfl,t12 _ _ hc,t12.dat hg,by rw [hpl];exact t2 _ _ hyp,t12 _ _ hk,hyd,SI.nil,os,hen,t12.but,rfl,rfl,rfl⟩
 ·rintro i σ G hi ⟨st,xs,rows,z8,z9,z10,z11,z12,z13,z14,rfl,gc,gg,gp,gk,gd,dG,os,he,bG,C,q,lrow⟩;refine kJ ?_;dsimp only;obtain ⟨k',ek⟩:∃ k',n - i=k'+1:=⟨n - i - 1,by lia⟩
  have ek2:n - (i+1)=k':=by lia
  rw [ek] at C q;have ll:=dG.length;have hin:i < n:=by lia
  have LC:∀ {F:Hp},SJ G F->LD K F (cD mc.cs) (.ref lc):=λs=>LD.of (s _ _ gc) (dN _)
  cases O:mc.cs[st.place]? with
  | none =>
   have hp:mc.cs.length<=st.place:=List.getElem?_eq_none_iff.mp O;have e:fJ mc st=none:=by unfold fJ;rw [O]
   refine aR (K:=K) (b:=true) (RT.as (dP (b:=false) (c:=true) (RT.as (aJ (cQ (p:=λi j=>decide (i < j)) (aA (K:=K) (k:=4) (Dat.SN (st.place:Int))) aG)) (Po (by lia))) λ_=>RT.as (dP (b:=true) (c:=true) (RT.as (aJ (cQ (p:=λi j=>decide (j<=i)) (aA (K:=K) (k:=4) (Dat.SN (st.place:Int))) (eA (a8 (k:=0) (LC (SJ.refl _)))))) (Py (by rw [Pf];lia))) λz=>nomatch z) rfl) rfl) (λ_ G1 U=>?_) (λc=>nomatch c);exact Z (.fault st.place) (bF (aB aL (aB (aA (K:=K) (k:=4) (Dat.SN (st.place:Int))) aM))) (by rw [C,jg,e]) (U _ _ gd) (by rw [hW,e] at q;dsimp only at q;rw [PR] at q;rw [<- q];exact U.SV dG) (bG.trans U.but) rfl
  | some c =>
  have hp:st.place < mc.cs.length:=(P5.mp O).1;obtain ⟨c0,c99⟩:=Xv.c _ _ O;have hx':=Gg O;have rc:∀ {F:Hp} {w8 w9 w10 w11 w12 w13 w14:Option V},SJ G F->RE K (VG (BC K) (fT 0) (fT 4)) [some (.ref lc),some vg,some (.int mc.b),some (.int n),some (.int st.place),some (.ref lk),some (.ref lp),some (.ref ld),w8,w9,w10,w11,w12,w13,w14] F (.int c):=λs=>iD (k:=st.place) (a8 (k:=0) (LC s)) (aA (K:=K) (k:=4) (Dat.SN (st.place:Int))) hx';refine aR (K:=K) (b:=decide (16 < c)) (RT.as (dP (b:=false) (c:=decide (16 < c)) (RT.as (aJ (cQ (p:=λi j=>decide (i < j)) (aA (K:=K) (k:=4) (Dat.SN (st.place:Int))) aG)) (Po (by lia))) λ_=>RT.as (dP (b:=false) (c:=decide (16 < c)) (RT.as (aJ (cQ (p:=λi j=>decide (j<=i)) (aA (K:=K) (k:=4) (Dat.SN (st.place:Int))) (eA (a8 (k:=0) (LC (SJ.refl _)))))) (Po (by rw [Pf];lia))) λ_=>aJ (cQ (p:=λi j=>decide (j < i)) (rc (SJ.refl _)) aG)) rfl) rfl) (λc16 G1 U=>?_) (λc16 G1 U=>?_)
  ·have e:fJ mc st=none:=rP (by unfold wI;rw [O];show jn _ _ _=true;unfold jn;rw [c16];rfl);exact Z (.fault st.place) (bF (aB aL (aB (aA (K:=K) (k:=4) (Dat.SN (st.place:Int))) aM))) (by rw [C,jg,e]) (U _ _ gd) (by rw [hW,e] at q;dsimp only at q;rw [PR] at q;rw [<- q];exact U.SV dG) (bG.trans U.but) rfl
  ·have c16:=Px c16;have hn:(NM.map D.str)[c.toNat]?=some (.str (Vh c)):=by rw [Pw,Hr c.toNat (by lia)];rfl
   have ec:c=((c.toNat:Nat):Int):=by lia
   refine DX (K:=K) (d:=.str (Vh c)) (e:=.int (cG c)) (aB (iD (k:=c.toNat) DV (RE.as (rc U) (P1 D.int ec)) hn) (aB (bM (R:=GK) (aB (rc U) aM) ⟨c,rfl,rfl⟩) aM)) λv9 v10 G2 u2 d9 d10=>?_;obtain rfl:=d9.S5;obtain rfl:=d10.SQ;have u12:=U.trans u2;have el:(st.place:Int)+1=((st.place+1:Nat):Int):=by lia
   have eh:(st.place:Int)+1+(cG c:Int)=((st.place+1+cG c:Nat):Int):=by lia
   refine gY (K:=K) (es:=(YC mc.cs st.place c).map D.int) (RC.as (AD (lo:=st.place+1) (hi:=st.place+1+cG c) (a8 (k:=0) (LC u12)) (RE.as (c8 (aA (K:=K) (k:=4) (Dat.SN (st.place:Int))) aG) (P1 D.int el)) (RE.as (c8 (c8 (aA (K:=K) (k:=4) (Dat.SN (st.place:Int))) aG) (aA (k:=10) (Dat.SN (cG c:Int)))) (P1 D.int eh))) (by rw [show st.place+1+cG c - (st.place+1)=cG c by lia];exact zM mc.cs st.place c)) λl11 ys11 G3 n11 u3 hy11 dy11=>?_;have u13:=u12.trans u3;have L11:LD K G3 ((YC mc.cs st.place c).map D.int) (.ref l11):=LD.of hy11 dy11;have lns:(YC mc.cs st.place c).length=min (cG c) (mc.cs.length - (st.place+1)):=by unfold YC;rw [Qh,Q7]
   refine aR (K:=K) (b:=jn mc.cs st.place c) (RT.as (aJ (cQ (p:=λi j=>decide (i < j)) (eA (a8 (k:=11) L11)) (aA (k:=10) (Dat.SN (cG c:Int))))) ?_) (λhb G4 u4=>?_) (λhb G4 u4=>?_)
   ·unfold jn;rw [Po c16,QE,Pf,lns];exact i4 (by lia)
   ·have e:fJ mc st=none:=rP (by unfold wI;rw [O];exact hb);exact Z (.fault st.place) (bF (aB aL (aB (aA (K:=K) (k:=4) (Dat.SN (st.place:Int))) aM))) (by rw [C,jg,e]) ((u13.trans u4) _ _ gd) (by rw [hW,e] at q;dsimp only at q;rw [PR] at q;rw [<- q];exact (u13.trans u4).SV dG) (bG.trans (u13.trans u4).but) rfl
   have u14:=u13.trans u4;have L11:=u4.ld L11;obtain ⟨h16,hlb⟩:=wJ hb;obtain ⟨en,n99⟩:=An (p:=st.place) (c:=c) Xv;obtain ⟨l2,nsb⟩:=Dj (p:=st.place) (c:=c) Xv;have lnb:(YC mc.cs st.place c).length=cG c:=by rw [lns];lia
   have se:=F2 O hb;have nmc:=C7 c0 h16;generalize Vh c=nm at *;generalize hnum:lF mc.cs st.place c=num at *;refine eJ (K:=K) (d:=.int num) (RE.as (vO (ns:=mB 0 (YC mc.cs st.place c)) (jW (DO (a8 (k:=11) L11) (by rw [Pf];lia) ((mB 0 (YC mc.cs st.place c)).map D.int) (by rw [Pf,Pf,xM]) (by decide) rfl (λF k cc e w s hcc hee hw=>?_)))) (by rw [DB l2,en])) λv12 G5 u5 d12=>?_
   ·rw [Pw] at hcc hee;rw [xK] at hee;obtain ⟨x,hx,rfl⟩:=PX.mp hcc;rw [hx] at hee;have ee:D.int (x * ([1,100]:List Int).getD (0+k) 0)=e:=Qg hee;subst ee;have xb:=nsb x (PM hx);have k2:k < 2:=by have:=(P5.mp hx).1;lia
    have hg2:([.int 1,.int 100]:List D)[k]?=some (.int (([1,100]:List Int).getD (0+k) 0)):=by
     match k,k2 with
     | 0,_=>rfl
     | 1,_=>rfl
    have gb:([1,100]:List Int).getD (0+k) 0=1\/([1,100]:List Int).getD (0+k) 0=100:=by
     match k,k2 with
     | 0,_=>exact .inl rfl
     | 1,_=>exact .inr rfl
    exact vK (aA (k:=1) hw) (a6 (k:=k) (bF (aB aG (aB aG aM))) (aA (k:=0) (Dat.SN (k:Int))) hg2) (.inr ⟨by lia,by lia⟩)
   obtain rfl:=d12.SQ;have u15:=u14.trans u5;have eo:(st.place:Int)+1+(((YC mc.cs st.place c).map D.int).length:Int)=((st.place+1+cG c:Nat):Int):=by rw [Pf,lnb];lia
   have LP:∀ {F:Hp},F lp=some (.lst (pV st.pile))->LD K F (st.pile.reverse.map D.int) (.ref lp):=λh=>LD.of h (dN _);refine DX (K:=K) (d:=.int ((st.place+1+cG c:Nat):Int)) (e:=xW st) (aB (RE.as (c8 (c8 (aA (K:=K) (k:=4) (Dat.SN (st.place:Int))) aG) (eA (a8 (k:=11) (u5.ld L11)))) (P1 D.int eo)) (aB (bF (aB (aA (K:=K) (k:=4) (Dat.SN (st.place:Int))) (aB (zm (a8 (k:=6) (LP (u15 _ _ gp)))) aM))) aM)) λv13 v14 G6 u6 d13 L=>?_;obtain rfl:=d13.SQ;have u16:=u15.trans u6;generalize st.place+1+cG c=on at *;refine aR (K:=K) (b:=decide (nm="end")) (aJ (bI (aA (K:=K) (k:=9) (Dat.Th nm)) aL)) (λce G7 u7=>?_) (λce G7 u7=>?_)
   ·have ce:=Pq ce;rw [Pk ce] at se;have X:=u16.trans u7;refine aR (K:=K) (b:=!decide (st.pile.length=1)) (RT.as (aJ (kI (eA (a8 (k:=6) (LP (X _ _ gp)))) aG)) (P1 Bool.not (i4 (by rw [Pf,Ql];lia)))) (λcl G8 I=>?_) (λcl G8 I=>?_)
    ·have cl:=Px ((Sz _).mp cl);have e:fJ mc st=none:=by rw [se];unfold jq;rw [M1 cl];rfl
     exact Z (.fault st.place) (bF (aB aL (aB (aA (K:=K) (k:=4) (Dat.SN (st.place:Int))) aM))) (by rw [C,jg,e]) ((X.trans I) _ _ gd) (by rw [hW,e] at q;dsimp only at q;rw [PR] at q;rw [<- q];exact (X.trans I).SV dG) (bG.trans (X.trans I).but) rfl
    ·have cl:=Pq ((RU _).mp cl)
     obtain ⟨x,hx⟩:∃ x,st.pile=[x]:=by
      match hq:st.pile,cl with
      | [x],_=>exact ⟨x,rfl⟩
     have e:fJ mc st=some { st with ended:=true,place:=on }:=by rw [se];unfold jq;rw [Pk cl];rfl
     have u:=X.trans I
     have hrE:jg mc n s0=.ends x:=by rw [C,jg,e];show (if true=true then Res.ends (st.pile.headD 0) else _)=_;rw [Pk rfl,hx];rfl
     have htE:rows++[xW st]=hW mc n s0:=by rw [<- q,hW,e];rfl
     have LDd:∀ {F:Hp},SJ G F->LD K F rows (.ref ld):=λs=>LD.of (s _ _ gd) (s.SV dG);refine FX (K:=K) (d:=.tup [.str "ends",.int x]) (bF (aB aL (aB (iD (k:=0) (a8 (k:=6) (LP (u _ _ gp))) aG (by rw [hx];rfl)) aM))) (js (a8 (k:=7) (LDd u)) (jW (iC (aB (aA (k:=14) ((u7.trans I).dat L)) aM))) (by show rows.length+1<=1000;lia)) λv1 G9 u9 q9 l2 ys2 GA ua hya dya p np=>?_;have u19:=u.trans u9;have uA:=(u19.trans ua).trans (aV np (.tup [v1,.ref l2]));refine post p v1 l2 ys2 _ (bG.trans uA.but) aI ?_ ((aV np _) _ _ hya) ?_
     ·rw [hrE];exact (ua.trans (aV np _)).dat q9
     ·rw [<- htE];exact (aV np _).SV dya
   have ce:=Px ce;rw [M1 ce] at se;have X:=u16.trans u7;have L:=u7.dat L
   have nmc:nm ∈ WS\/nm ∈ S10:=by
    rcases nmc with h | h | h
    ·exact absurd h ce
    ·exact .inl h
    ·exact .inr h
   refine pR (λσ' G'=>∃ w13:V,σ'=[some (.ref lc),some vg,some (.int mc.b),some (.int n),some (.int st.place),some (.ref lk),some (.ref lp),some (.ref ld),some (.int (0+(i:Int))),some (.str nm),some (.int (cG c)),some (.ref l11),some (.int num),some w13,some v14] /\
    G' lc=some (.lst (mc.cs.map V.int))/\Dat K G' (.tup (mc.as.map D.int)) vg/\G' ld=some (.lst xs)/\SI K G' rows xs/\Dat K G' (xW st) v14/\S6 lk H G' /\
    ((w13=.SO/\fJ mc st=none)\/∃ s',fJ mc st=some s'/\s'.ended=false/\w13=.int s'.place/\G' lp=some (.lst (pV s'.pile))/\G' lk=some (.lst (XY s'.kept)))) ?_ ?_
   ·rintro σ' G' ⟨w13,rfl,fc,fg,fd,fD,f14,fB,hor⟩;rcases hor with ⟨rfl,e⟩ | ⟨s',e,es,rfl,fp,fk⟩
    ·refine aR (K:=K) (b:=true) (RT.as (aJ (oC (K:=K) (d:=.SO) (aA (k:=13) Dat.X7))) rfl) (λ_ G8 I=>?_) (λc=>nomatch c);exact Z (.fault st.place) (bF (aB aL (aB (aA (K:=K) (k:=4) (Dat.SN (st.place:Int))) aM))) (by rw [C,jg,e]) (I _ _ fd) (by rw [hW,e] at q;dsimp only at q;rw [PR] at q;rw [<- q];exact I.SV fD) (fB.trans I.but) rfl
    ·refine aR (K:=K) (b:=false) (RT.as (aJ (oC (K:=K) (d:=.int (s'.place:Int)) (aA (k:=13) (Dat.SN _)))) rfl) (λc=>nomatch c) (λ_ G8 I=>?_);obtain ⟨os2,_⟩:=AL oc os e;have fd8:=I _ _ fd;refine DW (K:=K) (d:=xW st) (aA (k:=14) (I.dat f14)) fd8 (by lia) λy G9 B fd9 dy9=>?_;have N:=B.grow (K:=K) fd8 fd9;refine ⟨_,rfl,s',xs++[y],rows++[xW st],_,_,_,_,_,_,_,rfl,B _ _ (PN Pe) (I _ _ fc),Dat.mono N _ (I.dat fg),B _ _ (PN OP) (I _ _ fp),B _ _ (PN O8) (I _ _ fk),fd9,SI.append (SI.mono N _ (I.SV fD)) (SI.cons dy9 SI.nil),os2,es,λx o nx ex=>B x o (λz=>by rw [z,hld0] at ex;cases ex) (I _ _ (fB x o nx ex)),?_,?_,by rw [tB,lrow];rfl⟩
     ·rw [C,jg,e,ek2];show (if s'.ended=true then _ else _)=_;rw [es,M1 Pp]
     ·rw [<- q,hW,e,ek2,Qd];show _++([xW st]++_)=_++(xW st::if s'.ended=true then _ else _)
      rw [es,M1 Pp];rfl
   ·intro J;refine RT.use (b:=decide (nm ∈ WS)) (aJ (j7 (ys:=["skip","jump","zero","none","call","back"]) (aA (K:=K) (k:=9) (Dat.Th nm)) (bF (aB aL (aB aL (aB aL (aB aL (aB aL (aB aL aM))))))))) λG8 I=>?_;have u:=X.trans I;have L:=I.dat L;have gp8:=u _ _ gp;have gk8:=u _ _ gk;by_cases hw:nm ∈ WS
    ·rw [Py hw];rw [Pk hw] at se;refine j4 ⟨_,rfl,_,rfl,_,rfl,_,rfl,_,rfl,nm,num,on,lp,lk,st,rfl,hw,gp8,gk8,Pd,os.k,λp hp9 G9 B fp fk=>?_,λhn9 G9 zs ws B fp fk=>?_⟩
     ·have N:=B.grow (K:=K) gp8 gk8 fp fk;refine J _ G9 ⟨_,rfl,B _ _ (PN O3) nck (u _ _ gc),Dat.mono N _ (u.dat gg),B _ _ OP O8 (u _ _ gd),SI.mono N _ (u.SV dG),Dat.mono N _ L,λx o nx ex=>B x o (λz=>by rw [z,Y] at ex;cases ex) nx (u _ _ (bG x o nx ex)),.inr ⟨{ p.2 with place:=p.1 },by rw [se,hp9];rfl,?_,rfl,fp,fk⟩⟩;show p.2.ended=false;unfold Zf at hp9;split at hp9
      ·cases hp9
      ·rw [(Ex os hp9).2];exact he
     ·have N:=B.grow (K:=K) gp8 gk8 fp fk;exact J _ G9 ⟨_,rfl,B _ _ (PN O3) nck (u _ _ gc),Dat.mono N _ (u.dat gg),B _ _ OP O8 (u _ _ gd),SI.mono N _ (u.SV dG),Dat.mono N _ L,λx o nx ex=>B x o (λz=>by rw [z,Y] at ex;cases ex) nx (u _ _ (bG x o nx ex)),.inl ⟨rfl,by rw [se,hn9];rfl⟩⟩
    ·rw [Po hw];rw [M1 hw] at se;have hss:nm ∈ S10:=nmc.resolve_left hw;refine j0 ⟨_,rfl,_,rfl,_,rfl,_,rfl,_,rfl,nm,num,lp,vg,mc,st,rfl,hss,gp8,u.dat gg,oc,os,λs' M G9 B fp=>⟨true,rfl,?_⟩,λhn9 G9 zs B fp=>⟨false,rfl,?_⟩⟩
     ·have N:=B.grow (K:=K) gp8 fp;refine j0 (J _ G9 ⟨_,rfl,B _ _ (PN O3) (u _ _ gc),Dat.mono N _ (u.dat gg),B _ _ OP (u _ _ gd),SI.mono N _ (u.SV dG),Dat.mono N _ L,λx o nx ex=>B x o (λz=>by rw [z,Y] at ex;cases ex) (u _ _ (bG x o nx ex)),.inr ⟨{ s' with place:=on },by rw [se,M];rfl,?_,rfl,fp,?_⟩⟩)
      ·show s'.ended=false;unfold ZM at M;split at M
       ·cases M
       ·rw [(Cs oc.b2 os M).2];exact he
      ·show G9 lk=some (.lst (XY s'.kept))
       have ekk:s'.kept=st.kept:=by
        unfold ZM at M;split at M
        ·cases M
        ·exact Cr M
       rw [ekk];exact B _ _ (PN Pd) gk8
     ·have N:=B.grow (K:=K) gp8 fp;exact j4 (J _ G9 ⟨_,rfl,B _ _ (PN O3) (u _ _ gc),Dat.mono N _ (u.dat gg),B _ _ OP (u _ _ gd),SI.mono N _ (u.SV dG),Dat.mono N _ L,λx o nx ex=>B x o (λz=>by rw [z,Y] at ex;cases ex) (u _ _ (bG x o nx ex)),.inl ⟨rfl,by rw [se,hn9];rfl⟩⟩)
 ·rintro σ G ⟨st,xs,rows,z8,z9,z10,z11,z12,z13,z14,rfl,gc,gg,gp,gk,gd,dG,os,he,bG,C,q,lrow⟩;have e0:n - (n:Int).toNat=0:=by lia
  rw [e0] at C q;have q:rows++[]=hW mc n s0:=q;rw [PR] at q;exact Z .late (bF (aB aL (aB aG aM))) C gd (by rw [<- q];exact dG) bG rfl
noncomputable def zx (K:W.Frag):Sp:=λvs H Q _=>∃ (h:Addr) (m:V) (mc:MC) (n:Nat),vs=[.ref h,m,.int mc.b,.int n]/\qS mc/\H h=some (.lst (mc.cs.map V.int))/\Dat K H (.tup (mc.as.map D.int)) m/\n<=1000 /\
 ∀ (p:Addr) (q:V) (ld:Addr) (ys:List V) (H':Hp),SJ H H'->H' p=some (.tup [q,.ref ld])->Dat K H' (FP (jg mc n ZX)) q->H' ld=some (.lst ys)->SI K H' (hW mc n ZX) ys->Q (.ref p) H'
theorem xx (T:Txt P w K mg) (B:Ok P w base k T.Ms (D4 K)):Ok P w base (k+1) T.MI (zx K):=by
 refine T.MI.f.ok Xo (λvs H Q E h=>?_) (λC A outer s H vs Q E I h=>?_)
 ·obtain ⟨m,q,mc,n,rfl,_⟩:=h;rfl
 have Y:=Xo.nd;obtain ⟨m,q,mc,n,rfl,J,u,L,M,post⟩:=h;refine ⟨_,(aH (aP (pc (D:=T.Ms) B I (aD (pv 0) (aD (pv 1) (aD (pv 2) (aD (pv 3) (aD aF (aD (bY aC) aC))))))))),?_⟩;refine ⟨_,rfl,_,rfl,_,rfl,_,rfl,dB (by decide),λlk nk=>?_⟩;have N:m≠lk:=λz=>by rw [<- z,u] at nk;cases nk
 have s1:=aV nk (.lst []);refine ⟨m,lk,q,mc,n,ZX,rfl,J,Dm,rfl,rfl,s1 _ _ u,aI,N,s1.dat L,M,λp O ld ys H' b R S U X=>post p O ld ys H' (λx o e=>b x o (λz=>by rw [z,nk] at e;cases e) (s1 x o e)) R S U X⟩
noncomputable abbrev si (x:Int):Prop:=0<=x/\x<=99
theorem qy:∀ (p:Pa) (t:Tr) (f:Vg),UQ t->cO p t=some f->(∀ x ∈ f.2.1,0<=x/\x<=9999)/\∀ x ∈ f.2.2,0<=x/\x<=3
 | .hole i,t,f,_,h=>by cases h;exact ⟨λx q=>(nomatch q),λx q=>(nomatch q)⟩
 | .gap i m,t,f,ok,h=>by obtain ⟨n,rfl,_,rfl⟩:=iV h;exact ⟨λx q=>by rw [PU.mp q];exact ok,λx q=>(nomatch q)⟩
 | .slot i,t,f,ok,h=>by obtain ⟨n,rfl,rfl⟩:=m9 h;exact ⟨λx q=>(nomatch q),λx q=>by rw [PU.mp q];exact ok⟩
 | .num m,t,f,ok,h=>by obtain ⟨rfl,rfl⟩:=uC h;exact ⟨λx q=>(nomatch q),λx q=>(nomatch q)⟩
 | .two o a b,t,f,ok,h=>by obtain ⟨x,y,B,C,rfl,I,J,rfl⟩:=jD h;obtain ⟨L,M⟩:=qy a x B ok.2.1 I;obtain ⟨N,O⟩:=qy b y C ok.2.2 J;exact ⟨λz u=>(Qc.mp u).elim (L z) (N z),λz u=>(Qc.mp u).elim (M z) (O z)⟩
noncomputable def uq:Cl->Bool
 | .n i=>decide (0<=i) && decide (i<=99)
 | _=>true
theorem uE {l:List Int} {m:Int} (h:∀ x ∈ l,0<=x/\x<=m) (q:0<=m) (k:Nat):0<=l.getD k 0/\l.getD k 0<=m:=by
 rw [PZ]
 cases e:l[k]? with
 | none=>exact ⟨RP _,q⟩
 | some x=>exact h x (PM e)
variable {nums ks:List Int}
theorem EU (h:∀ x ∈ nums,0<=x/\x<=9999) (q:∀ x ∈ ks,0<=x/\x<=3) {c:Cl} (m:uq c=true):si (kM nums ks c):=by
 cases c with
 | n i=>simp only [uq,Pz,Qi] at m;exact m
 | arg k=>have:=uE q (by decide) k;exact ⟨this.1,by show ks.getD k 0<=99;lia⟩
 | low k=>have:=uE h (by decide) k;show 0<=nums.getD k 0 % 100/\nums.getD k 0 % 100<=99;lia
 | high k=>have:=uE h (by decide) k;show 0<=nums.getD k 0 / 100/\nums.getD k 0 / 100<=99;lia
theorem Ht {a f:Int} {m:Nat} (q:si a) (u:si f) (z:m<=9999):∀ x ∈ fN a f m,si x:=by
 unfold fN;intro x h;split at h
 ·simp only [PB,Qa,Qz] at h;rcases h with rfl | rfl
  ·exact q
  ·exact ⟨by lia,by lia⟩
 ·simp only [PB,Qa,Qz] at h;rcases h with rfl | rfl | rfl
  ·exact u
  ·exact ⟨by lia,by lia⟩
  ·exact ⟨by lia,by lia⟩
theorem As {f:Tr->D->Option (List D)}:∀ {ts:List Tr} {cs:List D} {S0:List (List D)},gM f ts cs=S0.map some->(∀ t ∈ ts,∀ c es,f t c=some es->es.length<=999->∀ x,D.int x ∈ es->si x)->S0.flatten.length<=999->∀ x,D.int x ∈ S0.flatten->si x
 | [],cs,S0,h,_,_=>by
  have:S0=[]:=by cases S0 with | nil=>rfl | cons _ _=>cases h
  subst this;intro x hx;cases hx
 | t::ts,[],S0,h,_,_=>by
  have:S0=[]:=by cases S0 with | nil=>rfl | cons _ _=>cases h
  subst this;intro x hx;cases hx
 | t::ts,c::cs,S0,h,m,q=>by
  cases S0 with
  | nil=>cases h
  | cons y S0 =>
   have h':f t c::gM f ts cs=some y::S0.map some:=h;injection h' with u z;rw [Qy,tB] at q;intro x hx;rw [Qy] at hx;rcases Qc.mp hx with hx | hx
   ·exact m t P4 c y u (by lia) x hx
   ·exact As z (λt B=>m t (PV _ B)) (by lia) x hx
theorem qK (B:∀ p ∈ ps,fY p.pt=true/\(cK p).all uq=true):∀ (n:Nat) (t:Tr) (c:D) (es:List D),UQ t->eY ps n t c=some es->es.length<=999->∀ x,D.int x ∈ es->si x
 | 0,_,_,_,_,h,_=>by cases h
 | n+1,t,c,es,ok,h,J=>by
  have h:(match nV c with | none=>none | some x=>if x.1="pick" then mx (eY ps n) t x.2 else kN (eY ps n) ps t x.1 x.2)=some es:=h
  cases N:nV c with
  | none=>rw [N] at h;cases h
  | some y =>
   rw [N] at h;dsimp only at h;intro x hx;by_cases C:y.1="pick"
   ·rw [Pk C] at h;obtain ⟨T,U,X,Y,Z,cd,xa,xb,xd,rfl,_,la,lb,ld,rfl⟩:=iQ h;unfold f6 ml at hx J;simp only [tB] at J;have q1:=qK B n T Y xa ok.1 la (by lia) x;have q2:=qK B n U Z xb ok.2.1 lb (by lia) x;have q3:=qK B n X cd xd ok.2.2 ld (by lia) x
    have O:∀ {a f:Int} {m:Nat},si a->si f->m<=9999->D.int x ∈ (fN a f m).map D.int->si x:=λha hf hm h=>by obtain ⟨z,L,e⟩:=QB.mp h;injection e with e;subst e;exact Ht ha hf hm z L
    rcases Qc.mp hx with hx | hx
    ·rcases Qc.mp hx with hx | hx
     ·rcases Qc.mp hx with hx | hx
      ·exact q1 hx
      ·exact O (by decide) (by decide) (by rw [tB];lia) hx
     ·rcases Qc.mp hx with hx | hx
      ·exact q2 hx
      ·exact O (by decide) (by decide) (by lia) hx
    ·exact q3 hx
   ·rw [M1 C] at h;obtain ⟨p,g,S0,e1,R,S,e,rfl⟩:=iP h;obtain ⟨nh,ci⟩:=B p (hE e1).1;have I:=k8 nh R;unfold fQ at hx J;rw [tB] at J;rcases Qc.mp hx with hx | hx
    ·exact As e (λu hu c es q l=>qK B n u c es (iA t u ok (mj (I u hu))) q l) (by lia) x hx
    ·obtain ⟨z,L,M⟩:=QB.mp hx;injection M with M;subst M;obtain ⟨v1,v2⟩:=qy p.pt t g ok R;exact EU v1 v2 (QH.mp ci z L)
structure goP (p:Pc):Prop where
 nh:fY p.pt=true
 pg:eI p
 hl:∀ t f,cO p.pt t=some f->f.1.length<=2
 ci:(cK p).all uq=true
theorem GX:∀ p ∈ YB,goP p:=by
 intro p h;simp only [YB,BP,ZK,List.cons_append,Ri,PR,PB,Qa,Qz] at h;rcases h with rfl | rfl | rfl | rfl | rfl | rfl | rfl | rfl | rfl | rfl | rfl | rfl | rfl | rfl | rfl | rfl
 ·exact ⟨rfl,HR,hl2 (by decide),by decide +kernel⟩
 ·exact ⟨rfl,HS,hl2 (by decide),by decide +kernel⟩
 ·exact ⟨rfl,Fv,hl2 (by decide),by decide +kernel⟩
 ·exact ⟨rfl,HM,hl2 (by decide),by decide +kernel⟩
 ·exact ⟨rfl,vF,hl2 (by decide),by decide +kernel⟩
 ·exact ⟨rfl,HQ,hl2 (by decide),by decide +kernel⟩
 ·exact ⟨rfl,Fs,hl2 (by decide),by decide +kernel⟩
 ·exact ⟨rfl,Ft,hl2 (by decide),by decide +kernel⟩
 ·exact ⟨rfl,HP,hl2 (by decide),by decide +kernel⟩
 ·exact ⟨rfl,Fq,hl2 (by decide),by decide +kernel⟩
 ·exact ⟨rfl,yW,hl2 (by decide),by decide +kernel⟩
 ·exact ⟨rfl,Du,hl2 (by decide),by decide +kernel⟩
 ·exact ⟨rfl,By,hl2 (by decide),by decide +kernel⟩
 ·exact ⟨rfl,Bz,hl2 (by decide),by decide +kernel⟩
 ·exact ⟨rfl,HN,hl2 (by decide),by decide +kernel⟩
 ·exact ⟨rfl,Fu,hl2 (by decide),by decide +kernel⟩
noncomputable def tP (cs:List Int):List D:=(iI cs (cs.length+1) 0).1
noncomputable def mP (cs:List Int):Option Nat:=(iI cs (cs.length+1) 0).2
theorem yf (h:cs.length<=p):iI cs (n+1) p=([],none):=by unfold iI;rw [RH h]
theorem Ew (h:cs[p]?=some c) (m:jn cs p c=true):iI cs (n+1) p=([],some p):=by unfold iI;rw [h];dsimp only;rw [Pk m]
theorem wu (h:cs[p]?=some c) (m:jn cs p c=false):iI cs (n+1) p=(zr cs p c::(iI cs n (p+1+cG c)).1,(iI cs n (p+1+cG c)).2):=by rw [iI,h];dsimp only;rw [M1 (by rw [m];exact Pp)]
structure ZN (cs:List Int) (p n:Nat) (rows:List D):Prop where
 hr:rows++(iI cs n p).1=tP cs
 hf:(iI cs n p).2=mP cs
 hp:p<=cs.length
 hn:cs.length+1<=n+p
 hl:rows.length<=p
theorem ZN.end {rows:List D} (S:ZN cs p n rows) (h:¬ p < cs.length):rows=tP cs/\mP cs=none:=by
 have q:=S.hn;have u:=S.hp;obtain ⟨n,rfl⟩:∃ m,n=m+1:=⟨n - 1,by lia⟩
 have r:=S.hr;have f:=S.hf;rw [yf (by lia)] at r f;rw [PR] at r;exact ⟨r,f.symm⟩
theorem ZN.bad {rows:List D} (S:ZN cs p n rows) (h:cs[p]?=some c) (q:jn cs p c=true):mP cs=some p:=by
 have u:=S.hn;have z:=S.hp;obtain ⟨n,rfl⟩:∃ m,n=m+1:=⟨n - 1,by lia⟩
 have f:=S.hf;rw [Ew h q] at f;exact f.symm
theorem ZN.on {rows:List D} (S:ZN cs p n rows) (h:cs[p]?=some c) (q:jn cs p c=false):∃ m,ZN cs (p+1+cG c) m (rows++[zr cs p c]):=by
 have z:=S.hn;have B:=S.hp;have C:=S.hl;obtain ⟨n,rfl⟩:∃ m,n=m+1:=⟨n - 1,by lia⟩
 have r:=S.hr;have f:=S.hf;rw [wu h q] at r f;obtain ⟨_,u⟩:=wJ q;refine ⟨n,⟨?_,f,by lia,by lia,?_⟩⟩
 ·rw [Qd];exact r
 ·rw [tB,Pr,Qm];lia
theorem ZN.start (cs:List Int):ZN cs 0 (cs.length+1) []:=⟨rfl,rfl,QA _,Pu _,Pu _⟩
noncomputable def D6 (K:W.Frag):Sp:=λvs H Q _=>∃ cs,okC cs/\Y6 K H [.l (cD cs)] vs/\mP cs=none/\∀ r us H',SJ H H'->H' r=some (.lst us)->H r=none->SI K H' (tP cs) us->Q (.ref r) H'
noncomputable def JS (σ:L2.St) (_:Hp):Nat:=match σ[2]? with
 | some (some (V.int p))=>(2000 - p).toNat
 | _=>0
theorem Bt (T:Txt P w K mg) (MO:Ok P w base k T.Lo (Xs K pY)) (Kw:Ok P w base k T.JY (Xs K wC)):Ok P w base (k+1) T.Nl (D6 K):=by
 refine T.Nl.f.ok Ym (λvs H Q E h=>?_) (λcdv A outer s H vs Q E hr h=>?_)
 ·obtain ⟨cs,ok,Z,_⟩:=h;exact Z.length.symm
 have C:=Ym.nd;obtain ⟨cs,ok,Z,nf,u⟩:=h;obtain ⟨v0,rfl,N⟩:=AS Z;have N:LD K H (cD cs) v0:=N;refine ⟨_,(aE (bP (pc (D:=T.Lo) MO hr (aD (pv 0) aC)))
 (aE (bQ (i:=1) C rfl (Or.inl rfl) (bY aC))
 (aE (bQ (i:=2) C rfl (Or.inl rfl) aF)
 (aE (rh Qv (aN km (pv 2) (aX aW rfl T.J0 bU (aD (pv 0) aC)) (aT _)) (aE (gH (pc (D:=T.JY) Kw hr (aD (pv 0) (aD (pv 2) aC))) (gF rfl (bN (a7 (i:=3) C rfl (Or.inl rfl)) (bN (a7 (i:=4) C rfl (Or.inl rfl)) eH))))
 (aE (bP (fF PJ P7 P9 cC (pv 1) (aD (bA (aD (pv 2) (aD (pv 3) (aD (pv 4) aC)))) aC)))
 (aH (yZ (i:=2) C rfl (Or.inl rfl) (bL cJ aF (aX aW rfl T.J0 bU (aD (pv 4) aC))) uN)))))
 (aH (aP (pv 1))))))),?_⟩
 have l1:=ok.l1;refine jf (RE.use (eF (R:=pY) (d:=.SO) (gB (a8 (K:=K) (k:=0) N) dU) ⟨cD cs,rfl,by rw [Pf];lia,ur ok,rfl⟩) λv4 H1 s1 _=>?_);refine gY (K:=K) (es:=[]) (iC aM) λl ys H2 hl s2 hy dy=>?_;refine eJ (K:=K) (d:=.int 0) aG λv2 H3 s3 q3=>?_;obtain rfl:=q3.SQ;have X6:H l=none:=s1.free hl;refine eB (rX (λσ G=>∃ (p n:Nat) (z3 z4:Option V) (xs:List V) (rows:List D),σ=[some v0,some (.ref l),some (.int p),z3,z4]/\SJ H G/\G l=some (.lst xs)/\SI K G rows xs/\ZN cs p n rows) JS ?_ ?_ ?_)
 ·exact ⟨0,_,none,none,ys,[],rfl,s1.trans (s2.trans s3),s3 _ _ hy,s3.SV dy,ZN.start cs⟩
 ·rintro σ G ⟨p,n,z3,z4,xs,rows,rfl,sG,hG,dG,S⟩;have O:=sG.ld N;refine RT.use (b:=decide ((p:Int) < ((cD cs).length:Int))) (aJ (cQ (p:=λi j=>decide (i < j)) (aA (K:=K) (Dat.SN (p:Int))) (eA (a8 O)))) λG1 I=>?_;by_cases J:p < cs.length
  ·rw [Py (by rw [Pf];lia:(p:Int) < ((cD cs).length:Int))];refine j4 ?_;have U:cs[p]?=some cs[p]:=Pg J;generalize cs[p]=c at U;have O:=I.ld O;have rA:RB K (bW (fT 0) (bW (fT 2) dW)) [some v0,some (.ref l),some (.int (p:Int)),z3,z4] G1 [.l (cD cs),.d (.int p)]:=gB (a8 (k:=0) O) (iK (aA (k:=2) (Dat.SN (p:Int))) dU)
   cases X:jn cs p c with
   | true =>have z:=S.bad U X;rw [nf] at z;cases z
   | false =>
    refine jX (K:=K) (d:=.str (Vh c)) (e:=.tup (kS cs p (cG c))) (eF (R:=wC) rA ⟨cs,p,c,rfl,ok,U,X,rfl⟩) λv3 v4 G2 t2 g3 Y=>?_;have B:=I.trans t2;have L:=B _ _ hG;have ll:=dG.length;have sl:=S.hl;refine iZ (K:=K) (d:=zr cs p c) (bF (aB (aA (k:=2) (Dat.SN (p:Int))) (aB (aA (k:=3) g3) (aB (aA (k:=4) Y) aM)))) L (by lia) λy G3 b3 M dy3=>?_;have gr:=b3.grow (K:=K) L M;have Y:=Dat.mono gr _ Y;obtain ⟨h16,hlb⟩:=wJ X;have lb:(kS cs p (cG c)).length=cG c:=by rw [qc];lia
    refine ⟨_,rfl,RE.use (c8 (K:=K) aG (fL (aA (k:=4) Y))) λv5 G4 t4 q5=>?_⟩;refine ⟨p,1+((kS cs p (cG c)).length:Int),rfl,q5.SQ,?_⟩;have ep:(p:Int)+(1+((kS cs p (cG c)).length:Int))=((p+1+cG c:Nat):Int):=by rw [lb];lia
    obtain ⟨m,S'⟩:=S.on U X;have sH:SJ H G3:=λb o e=>b3 b o (λz=>by rw [z,X6] at e;cases e) ((sG.trans B) b o e);refine ⟨⟨p+1+cG c,m,some v3,some v4,xs++[y],rows++[zr cs p c],by rw [<- ep];rfl,sH.trans t4,t4 _ _ M,t4.SV (SI.append (SI.mono gr _ (B.SV dG)) (SI.cons dy3 SI.nil)),S'⟩,?_⟩;show (2000 - ((p:Int)+(1+((kS cs p (cG c)).length:Int)))).toNat < (2000 - (p:Int)).toNat;lia
  ·rw [Po (by rw [Pf];lia:¬ (p:Int) < ((cD cs).length:Int))];refine j0 ?_;obtain ⟨e1,e2⟩:=S.end J;subst e1;exact ⟨_,rfl,u l xs G1 (sG.trans I) (I _ _ hG) X6 (I.SV dG)⟩
 ·intro σ G Q1 Q2 hQ hc;obtain ⟨v,e,v',e',p,ys,e2,hq,i,j,e3,e4,b,e5,q⟩:=hc;exact ⟨v,e,v',e',p,ys,e2,hq,i,j,e3,e4,b,e5,hQ _ _ q⟩
inductive Wk (cs:List Int):Nat->Nat->Nat->Prop
 | nil {p:Nat}:Wk cs 0 p p
 | cons {m p q:Nat} {c:Int}:cs[p]?=some c->jn cs p c=false->Wk cs m (p+1+cG c) q->Wk cs (m+1) p q
variable {q:Nat}
theorem Wk.trans {m r:Nat} (a:Wk cs m p q) (b:Wk cs n q r):Wk cs (n+m) p r:=by
 induction a with
 | nil=>exact b
 | cons h u _ z=>exact .cons h u (z b)
theorem Wk.le {m:Nat} (a:Wk cs m p q):p+m<=q:=by
 induction a with
 | nil=>exact Pu _
 | cons _ _ _ h=>lia
theorem Wk.rows {m:Nat} (a:Wk cs m p q):∃ rows,∀ n,iI cs (n+m) p=(rows++(iI cs n q).1,(iI cs n q).2):=by
 induction a with
 | nil=>exact ⟨[],λn=>rfl⟩
 | cons u z _ B =>obtain ⟨rows,h⟩:=B;exact ⟨_::rows,λn=>by rw [<- Nat.add_assoc,wu u z,h n];rfl⟩
noncomputable def iU (ns:List Int):Prop:=∀ cs a b:List Int,cs=a++(ns++b)->∃ m,Wk cs m a.length (a.length+ns.length)
theorem iS {x y:List Int} (u:iU x) (z:iU y):iU (x++y):=λcs a b e=>by obtain ⟨m,B⟩:=u cs a (y++b) (by rw [e,Qd]);obtain ⟨n,h⟩:=z cs (a++x) b (by rw [e,Qd,Qd]);rw [tB] at h;rw [tB,<- Nat.add_assoc];exact ⟨_,B.trans h⟩
theorem oM:iU []:=λ_ a _ _=>⟨0,.nil⟩
theorem oN (u:c<=16) (h:args.length=cG c):iU (c::args):=λcs a b e=>by
 have m:cs[a.length]?=some c:=by rw [e,Qs (Pu _),SH];rfl
 refine ⟨1,.cons m ?_ ?_⟩
 ·unfold jn;rw [Po (by lia),Po]
  ·rfl
  ·rw [e];simp only [tB,Pr];lia
 ·rw [Pr,h,Nat.add_assoc,Nat.add_comm 1];exact .nil
noncomputable def oO:Nat->List Cl->Bool
 | _,[]=>true
 | n+1,.n i::r=>decide (i<=16) && decide (cG i<=r.length) && oO n (r.drop (cG i))
 | _,_=>false
theorem yg:∀ (n:Nat) (m:List Cl),oO n m=true->iU (m.map (kM nums ks))
 | _,[],_=>oM
 | 0,c::r,h=>by cases c <;> cases h
 | n+1,.n i::r,h=>by
  have h:(decide (i<=16) && decide (cG i<=r.length) && oO n (r.drop (cG i)))=true:=h;rw [Pz,Pz] at h;have l:=Pq h.1.2
  have e:(Cl.n i::r).map (kM nums ks)=(i::(r.take (cG i)).map (kM nums ks))++(r.drop (cG i)).map (kM nums ks):=by rw [List.cons_append,<- P0,RI];rfl
  rw [e];exact iS (oN (Pq h.1.1) (by rw [Pf,Qh];lia)) (yg n _ h.2)
 | n+1,.arg _::r,h=>by cases h
 | n+1,.low _::r,h=>by cases h
 | n+1,.high _::r,h=>by cases h
theorem uf {a f:Int} {m:Int} (h:a<=16/\cG a=1) (u:f<=16/\cG f=2):iU (fN a f m):=by
 unfold fN;split
 ·exact oN h.1 h.2.symm
 ·exact oN u.1 u.2.symm
theorem qZ {f:Tr->D->Option (List D)} (h:∀ t c es,f t c=some es->∃ ns:List Int,es=ns.map D.int/\iU ns):∀ {ts:List Tr} {cs:List D} {S0:List (List D)},gM f ts cs=S0.map some->∃ ns:List Int,S0.flatten=ns.map D.int/\iU ns
 | [],cs,S0,e=>by
  have:S0=[]:=by cases S0 with | nil=>rfl | cons _ _=>cases e
  subst this;exact ⟨[],rfl,oM⟩
 | t::ts,[],S0,e=>by
  have:S0=[]:=by cases S0 with | nil=>rfl | cons _ _=>cases e
  subst this;exact ⟨[],rfl,oM⟩
 | t::ts,c::cs,S0,e=>by
  cases S0 with
  | nil=>cases e
  | cons y S0 =>have m:f t c::gM f ts cs=some y::S0.map some:=e;injection m with u z;obtain ⟨B,rfl,C⟩:=h t c y u;obtain ⟨I,J,L⟩:=qZ h z;exact ⟨B++I,by rw [Qy,J,P0],iS C L⟩
theorem jw (m:∀ p ∈ ps,∃ n,oO n (cK p)=true):∀ (n:Nat) (t:Tr) (c:D) (es:List D),eY ps n t c=some es->∃ ns:List Int,es=ns.map D.int/\iU ns
 | 0,_,_,_,h=>by cases h
 | n+1,t,c,es,h=>by
  have h:(match nV c with | none=>none | some x=>if x.1="pick" then mx (eY ps n) t x.2 else kN (eY ps n) ps t x.1 x.2)=some es:=h
  cases z:nV c with
  | none=>rw [z] at h;cases h
  | some y =>
   rw [z] at h;dsimp only at h;by_cases u:y.1="pick"
   ·rw [Pk u] at h;obtain ⟨C,I,J,L,M,N,O,R,S,rfl,_,T,U,ld,rfl⟩:=iQ h;obtain ⟨na,rfl,X⟩:=jw m n C L O T;obtain ⟨nb,rfl,Y⟩:=jw m n I M R U;obtain ⟨nd,rfl,Z⟩:=jw m n J N S ld;unfold f6 ml;rw [<- P0,<- P0,<- P0,<- P0];exact ⟨_,rfl,iS (iS (iS X (uf (by decide) (by decide))) (iS Y (uf (by decide) (by decide)))) Z⟩
   ·rw [M1 u] at h;obtain ⟨p,g,S0,e1,e2,B,e,rfl⟩:=iP h;obtain ⟨k,hk⟩:=m p (hE e1).1;obtain ⟨ns,e3,w⟩:=qZ (jw m n) e;unfold fQ;refine ⟨ns++(cK p).map (kM g.2.1 g.2.2),?_,iS w (yg k _ hk)⟩;rw [e3,P0,Rc];rfl
theorem sO:∀ p ∈ YB,oO 12 (cK p)=true:=QH.mp (by decide +kernel)
theorem xi:∀ {u v:List Int},u.map D.int=v.map D.int->u=v
 | [],[],_=>rfl
 | x::u,y::v,e=>by rw [PD,PD] at e;injection e with h m;injection h with h;rw [h,xi m]
 | [],_::_,e=>by cases e
 | _::_,[],e=>by cases e
variable {nn:List Int}
theorem CZ (J:∀ p ∈ ps,∃ n,oO n (cK p)=true) {c:D} (h:eY ps n t c=some (nn.map D.int)):mP (nn++[0])=none/\∃ rows,tP (nn++[0])=rows++[zr (nn++[0]) nn.length 0]:=by
 obtain ⟨ns,e,w⟩:=jw J n t c _ h;have e:=xi e;subst e;obtain ⟨m,B⟩:=w (nn++[0]) [] [0] rfl;have C:=B.le;obtain ⟨rows,I⟩:=B.rows;have z:([]:List Int).length+nn.length=nn.length:=by simp
 rw [z] at C I;have l:(nn++[0]).length=nn.length+1:=by simp
 have L:(nn++[0])[nn.length]?=some 0:=by rw [Qs (Pu _),SH];rfl
 have M:jn (nn++[0]) nn.length 0=false:=by unfold jn;rw [l,Po (by decide),Po (show ¬ nn.length+1<=nn.length+cG 0 by rw [show cG 0=0 by decide];lia)];rfl
 obtain ⟨k,hk⟩:∃ k,nn.length+1+1=k+1+m:=⟨nn.length+1 - m,by simp at C;lia⟩
 have N:iI (nn++[0]) k (nn.length+1+cG 0)=([],none):=by
  cases k with
  | zero=>rfl
  | succ k=>exact yf (by rw [l];exact Pu _)
 have u:=I (k+1);rw [wu L M,N] at u;unfold mP tP;rw [l,hk];have u:iI (nn++[0]) (k+1+m) 0=(rows++[zr (nn++[0]) nn.length 0],none):=u;rw [u];exact ⟨rfl,rows,rfl⟩
theorem Fc (m:∀ p ∈ ps,goP p) {c:D} (ok:UQ t) (h:eY ps n t c=some (nn.map D.int)) (l:nn.length<=800):okC (nn++[0]):=by
 refine ⟨by simp,by simp;lia,λi x u=>?_⟩;rcases Qc.mp (PM u) with hm | hm
 ·exact qK (λp h=>⟨(m p h).nh,(m p h).ci⟩) n t c _ ok h (by rw [Pf];lia) x (QB.mpr ⟨x,hm,rfl⟩)
 ·rw [PU.mp hm];decide
variable {lc:Addr} {vg:V}
theorem FN (m:qS mc) (u:H lc=some (.lst (mc.cs.map V.int))) (z:Dat K H (.tup (mc.as.map D.int)) vg) (B:n<=1000)
  (C:∀ H1 Q,Q [V.ref lc,vg,V.int mc.b,V.int n] H1->tA σ H1 Q):RE K (VG (sD K) (kr (zx K) [] E tA) (tC (.int 0))) σ H (FP (jg mc n ZX)):=λH1 s Q q =>
 C H1 _ ⟨lc,vg,mc,n,rfl,m,s _ _ u,s.dat z,B,λp h ld ys H' s' I J _ _=>⟨p,[h,.ref ld],0,h,rfl,rfl,Ti.of I,rfl,q h H' s' J⟩⟩
theorem BK {k:Nat} (ok:okC cs) (u:mP cs=none) (h:LD K H (cD cs) v) (e:σ[k]?=some (some v):=by rfl):RC K (kr (D6 K) [] E (bW (fT k) dW)) σ H (tP cs):=λH1 s Q q =>
 RB.use (K:=K) (gB (a8 (k:=k) (s.ld h) e) dU) λvs H2 s2 z=>⟨cs,ok,by rw [PR];exact z,u,λr us H' s' B m C=>q r us H' (s2.free m) (s2.trans s') B C⟩
theorem FO {h:TA} {v:Int} (m:qS mc) (u:H lc=some (.lst (mc.cs.map V.int))) (z:Dat K H (.tup (mc.as.map D.int)) vg) (r:jg mc 1000 ZX=.ends v)
  (B:∀ H1 Q,Q [V.ref lc,vg] H1->tA σ H1 Q) (C:∀ H1 Q,Q [V.int mc.b] H1->h σ H1 Q):RE K (Ec (D7 K) CF E tA h) σ H (.int v):=λH1 s Q q =>
 B H1 _ (C H1 _ ⟨lc,vg,mc,1000,v,rfl,m,s _ _ u,s.dat z,by decide,by decide,r,λH' s'=>q _ H' s' (Dat.SN v)⟩)
noncomputable def xZ (K:W.Frag):Sp:=λvs H Q _=>∃ (a:Addr) (ns:List Int),vs=[.ref a]/\Yw K H a ns/\∀ H',Q (.bl true) H'
theorem Jm {t:TE} {m:List D} (e:es=m) (h:RC K t σ H es):RC K t σ H m:=by subst e;exact h
theorem HD (T:Txt P w K mg) (MN:Ok P w base k T.K0 (rO K 8)) (Os:Ok P w base k T.MJ (GB K)) (O9:Ok P w base k T.OC (lV K nQ)) (Np:Ok P w base k T.L9 (Xs K wB)) (L4:Ok P w base k T.Ks (Xs K (jA 8))) (OL:Ok P w base k T.Nl (D6 K)) (Oe:Ok P w base k T.Mu (D8 K)) (Oa:Ok P w base k T.Mq (D2 K)) (K1:Ok P w base k T.Kc (Tj K (mq 8))) (Oq:Ok P w base k T.MI (zx K)) (Pb:Te P w K mg base WI k T.Ol T.NW ["code","args","size","steps"] (D7 K)):Ok P w base (k+1) T.Oo (xZ K):=by
 refine T.Oo.f.ok ZE (λvs H Q E h=>?_) (λcdv A outer s H vs Q E z h=>?_)
 ·obtain ⟨a,ns,rfl,_⟩:=h;rfl
 have S:=ZE.nd;obtain ⟨a,ns,rfl,hS,post⟩:=h;refine' ⟨_,?XX,?Za⟩
 case XX =>
  refine' aE ?y14 ?y15
  case y14=>exact (bQ (i:=1) S rfl (Or.inl rfl) (bY (aD aF (aD aF (aD aF aC)))))
  case y15 =>
   refine' aE ?y12 ?y13
   case y12=>exact (rg (i:=2) (j:=3) rfl S rfl rfl (by decide) rfl rfl (aD (pc (D:=T.K0) MN z (aD (pv 0) (aD (pv 1) (aD aF aC)))) (aD (pc (D:=T.MJ) Os z (aD (pv 0) (aD (pv 1) aC))) aC)) (by kernel_rfl))
   case y13 =>
    refine' aE ?y10 ?y11
    case y10=>exact (bQ (i:=4) S rfl (Or.inl rfl) (pc (D:=T.OC) O9 z (aD (pv 2) (aD (pv 3) aC))))
    case y11 =>
     refine' aE ?y8 ?y9
     case y8 =>
      refine' bE ?y2 ?y3 ?y4
      case y2=>exact (PW.pt (fH (aN Bv (pc (D:=T.L9) Np z (aD (pv 4) aC)) d8 (aT _)) (fH (aN lI (aX aW rfl T.J0 bU (aD (pv 4) aC)) (bL cJ (pc (D:=T.Ks) L4 z (aD (pv 2) (aD (pv 3) aC))) aF) (aT _)) (eR (aN lI (aY aZ (aY bX (pc (D:=T.Nl) OL z (aD (pv 4) aC)) (Av wt aF)) aF) aO (aT _))))))
      case y3 =>
       refine' aH ?y1
       case y1=>exact (aP d8)
      case y4=>exact aQ
     case y9 =>
      refine' aE ?y6 ?y7
      case y6=>exact (jK Qv rfl (ko rfl T.MH (aD aF aC)) (a7 (i:=5) S rfl (Or.inl rfl)) (aE (bQ (i:=6) S rfl (Or.inl rfl) (pc (D:=T.Mu) Oe z (aD (pv 0) (aD (pv 1) aC))))
 (aE (bQ (i:=7) S rfl (Or.inl rfl) (pc (D:=T.Mq) Oa z (aD (pv 0) (aD (pv 1) (aD (pv 6) aC)))))
 (aE (bQ (i:=8) S rfl (Or.inl rfl) (pc (D:=T.Kc) K1 z (aD (pv 2) (aD (pv 7) (aD (pv 6) aC)))))
 (aH (bE (PW.pt (fH (aN (HH z) (aY aZ (pc (D:=T.MI) Oq z (aD (pv 4) (aD (pv 7) (aD (pv 6) (aD aF aC))))) aF) (bA (aD aO (aD (pv 8) aC))) (aT _)) (eR (aN lI (Ds Pb z rfl T.O4 T.ON.kp (IH T) gN (aD (pv 4) (aD (pv 7) aC)) (Fy (pv 6) HX)) (pv 8) (aT _))))) (aH (aP d8)) aQ))))))
      case y7 =>
       refine' aH ?y5
       case y5=>exact (aP d8)
 case Za =>
  refine fR ⟨dB (by decide),λt ht=>?_⟩;have U:=hS.same (aV ht (.lst [.int 0,.int 0,.int 10]));refine eB ?_;refine ⟨_,rfl,_,rfl,a,t,ns,8,0,0,10,rfl,U,aI,by decide,by decide,by decide,by decide,by decide,λv1 H1 X p1 q1 c1 b1 t1 g1 gc1 gd1 ZR dp1 sz1 dX=>?_⟩;refine ⟨_,rfl,_,rfl,a,t,ns,p1,q1,[.int c1],rfl,U.but b1 aI,t1,g1,λsub l ys H3 p3 q3 b3 t3 g3 L hl hy dy=>⟨v1,.ref l,rfl,?_⟩⟩;have ZQ:=(U.but b1 aI).but b3 t1;have dX3:Dat K H3 (toD X) v1:=Dat.mono (b3.grow t1 t3) _ dX;have B:a9 X<=8:=by lia
  have sz31:bB X<=31:=by lia
  have sz40:bB X<=40:=by lia
  have J:(BP++sub).Sublist YB:=(Sy BP).append L;have F:=EY L;generalize BP++sub=ps at J dy F;have gi:BY ps X:=⟨F.ok,F.gs,ZR,B,sz40⟩
  have hL:LD K H3 (ps.map VF) (.ref l):=LD.of hy dy;have go:∀ p ∈ ps,goP p:=λp C=>GX p (J.subset C);obtain ⟨b,hb,_⟩:=AU (λp C=>(F.hp p C).1) (ke F.bp X ZR);obtain ⟨es,eS,eL⟩:=GZ F.ok F.la B hb
  obtain ⟨nn,rfl⟩:∃ nn:List Int,es=nn.map D.int:=by obtain ⟨nn,e,_⟩:=jw (λp C=>⟨12,sO p (J.subset C)⟩) 8 X b.2 es eS;exact ⟨nn,e⟩
  rw [Pf] at eL;have l4:nn.length<=400:=by have:=jF F.ok.ok 8 X b.2 _ eS;rw [Pf] at this;lia
  have Xv:=Fc go ZR eS (by lia);obtain ⟨nf,rows,er⟩:=CZ (λp C=>⟨12,sO p (J.subset C)⟩) eS;have ec:(nn++[0]).map D.int=nn.map D.int++[D.int 0]:=by simp
  dsimp only;refine gY (K:=K) (gU (R:=nQ) (iK (aA (k:=2) dX3) (gB (a8 (k:=3) hL) dU)) ⟨ps,X,b,_,rfl,gi,F.la,hb,eS,rfl⟩) λl5 y5 H5 YE s5 hy5 Y=>?_;rw [<- ec] at Y;have LC:LD K H5 (cD (nn++[0])) (.ref l5):=LD.of hy5 Y;have y5e:=qm Y;subst y5e;have nl5:l5≠t:=PN (aU t3 YE);have dX5:=s5.dat dX3;have lc5:(cD (nn++[0])).length=nn.length+1:=by simp
  refine aR (K:=K) (b:=false) (RT.as (dP (b:=false) (c:=false) (RT.as (aJ (BE (eF (R:=wB) (d:=.bl true) (gB (a8 (k:=4) LC) dU) ⟨_,rfl,by rw [lc5];lia,by rw [ur Xv]⟩) f7)) rfl) λ_=>dP (b:=false) (c:=false) (RT.as (aJ (kI (eA (a8 (k:=4) LC)) (c8 (eF (R:=jA 8) (d:=.int b.1) (iK (aA (k:=2) dX5) (gB (a8 (k:=3) (s5.ld hL)) dU)) ⟨ps,X,rfl,F.ok,ZR,B,by decide,by rw [hb];rfl⟩) aG))) (by rw [lc5,Py (by lia)];rfl)) λ_=>RT.as (aJ (vM (x:="end") (y:="end") (a6 (k:=1) (mf (jW (Jm er (BK (k:=4) Xv nf LC))) (AH aG)) aG rfl) aL)) (by rw [Py rfl];rfl)) rfl) (λc=>nomatch c) (λ_ H7 s7=>?_);have s57:=s5.trans s7;refine eB ⟨3,rfl,by decide,by decide,nY (n:=3) (λi σ G=>∃ (z5 z6 z7 z8:Option V) (p q:Int),σ=[some (.ref a),some (.ref t),some v1,some (.ref l),some (.ref l5),z5,z6,z7,z8]/\Yw K G a ns/\G t=some (.lst [.int p,.int q,.int c1])/\0<=p/\Dat K G (toD X) v1/\G l5=some (.lst ((nn++[0]).map V.int))) ?_ ?_ ?_⟩
  ·exact ⟨none,none,none,none,p3,q3,rfl,ZQ.same s57,s57 _ _ t3,g3,s7.dat dX5,s7 _ _ hy5⟩
  ·rintro i σ G hi ⟨z5,z6,z7,z8,p,q,rfl,Z,tG,gp,dG,lG⟩;refine kJ ?_;dsimp only;refine fR ⟨_,rfl,_,rfl,a,t,ns,p,q,[.int c1],rfl,Z,tG,gp,λI H8 p8 q8 b8 t8 g8 hb1 hb2=>?_⟩;refine fR ⟨_,rfl,_,rfl,_,rfl,a,t,ns,I,p8,q8,[.int c1],rfl,Z.but b8 tG,t8,g8,hb1,hb2,λu H9 as p9 q9 b9 t9 g9 M dA=>?_⟩;have dX9:=Dat.mono (b9.grow t8 t9) _ (Dat.mono (b8.grow tG t8) _ dG);have l9:=b9 _ _ nl5 (b8 _ _ nl5 lG);have oc:qS ⟨nn++[0],as,I⟩:=⟨Xv,M.1,M.2.1,M.2.2.1,M.2.2.2⟩
   have run:=Fd (mc:=⟨nn++[0],as,I⟩) ⟨M.1,M.2.1,M.2.2.1⟩ (λp C=>⟨(go p C).nh,(go p C).pg,(go p C).hl⟩) ZR B eS ec (N:=1000) (by show (nn++[0]).length<=1000;rw [tB];show nn.length+1<=1000;lia);refine eJ (K:=K) (d:=.int (bK as I X)) (bM (R:=mq 8) (aB (aA (k:=2) dX9) (aB (aA (k:=7) dA) (aB (aA (k:=6) (Dat.SN I)) aM))) ⟨X,as,I,rfl,ZR,B,M,rfl⟩) λvd H10 s10 qd=>?_;obtain rfl:=qd.SQ;have O:=s10.dat dA;have l10:=s10 _ _ l9;refine jk (b:=false) (RT.as (dP (b:=false) (c:=false) (RT.as (aJ (FM (K:=K) (d:=.tup [.str "ends",.int (bK as I X)]) (e:=.tup [.str "ends",.int (bK as I X)]) (RE.as (FN (mc:=⟨nn++[0],as,I⟩) (n:=1000) oc l10 O (by decide) (λ_ _ q=>⟨_,rfl,_,rfl,_,rfl,q⟩)) (by rw [run];rfl)) (bF (aB aL (aB (aA (k:=8) (Dat.SN _)) aM))) rfl rfl (show 1<=20 by decide))) (by rw [kZ _ rfl];rfl)) λ_=>RT.as (aJ (kI (FO (mc:=⟨nn++[0],as,I⟩) oc l10 O run (λ_ _ q=>⟨_,rfl,_,rfl,q⟩) (λ_ _ q=>⟨_,rfl,q⟩)) (aA (k:=8) (Dat.SN _)))) (by rw [Py rfl];rfl)) rfl) (λc=>nomatch c) (λ_ H11 s11=>?_);have m:=s10.trans s11;exact mi ⟨_,_,_,_,p9,q9,rfl,((Z.but b8 tG).but b9 t8).same m,m _ _ t9,g9,m.dat dX9,m _ _ l9⟩
  rintro σ G ⟨z5,z6,z7,z8,p,q,rfl,_⟩;exact post G
end
end My
end
namespace My
open PySem L2 PyProof.Rows
section
variable {P:Program} {w:World} {K:W.Frag} {mg:Str->Option Value} {base:Heap} {k:Nat}
theorem Dd (vs:List V) (H:Hp) (Q:VK) (E:XK):¬ rO K 0 vs H Q E:=λ⟨a,t,ns,room,p,q,c,_,_,_,_,_,_,_,h,_⟩=>by lia
theorem Bo (vs:List V) (H:Hp) (Q:VK) (E:XK):¬ kL K (kU 0) vs H Q E:=λ⟨ds,es,_,⟨x,k,_,_,h,_⟩,_⟩=>nomatch h
theorem Da (vs:List V) (H:Hp) (Q:VK) (E:XK):¬ Tj K (Gf 0) vs H Q E:=λ⟨ds,es,_,h,_⟩=>h
theorem Bp (vs:List V) (H:Hp) (Q:VK) (E:XK):¬ kL K (nR 0) vs H Q E:=λ⟨ds,es,_,⟨t,_,_,h,_⟩,_⟩=>by have:=kh t;lia
theorem Bn (vs:List V) (H:Hp) (Q:VK) (E:XK):¬ Xs K (jA 0) vs H Q E:=λ⟨as,d,_,h,_⟩=>Bm as d h
theorem C9 (vs:List V) (H:Hp) (Q:VK) (E:XK):¬ lV K (kT 0) vs H Q E:=λ⟨as,es,_,⟨ps,t,c,_,_,_,_,h,_⟩,_⟩=>by
 have:1<=a9 t:=by cases t <;> simp [a9]
 lia
theorem Dc (vs:List V) (H:Hp) (Q:VK) (E:XK):¬ Tj K (mq 0) vs H Q E:=λ⟨ds,es,_,⟨t,_,_,_,_,h,_⟩,_⟩=>by have:=kh t;lia
theorem chain (T:Txt P w K mg):Ok P w base 25 T.Oo (xZ K):=by
 have b:=xD (P:=P) (w:=w) (base:=base) (k:=0) T;have l:=vi (P:=P) (w:=w) (base:=base) (k:=0) T;have m:=yR (k:=1) T l b;have c:=pG (P:=P) (w:=w) (base:=base) (k:=0) T;have Q:=yS (k:=2) T m (c.mono (by decide));have R:=vt (k:=3) T Q
 have S:∀ n:Nat,Ok P w base (n+1) T.Mm (kL K (nR n)):=by
  intro n
  induction n with
  | zero=>exact iz Bp
  | succ n a=>exact Bu (k:=n+1) T (c.mono (by lia)) a
 have nm:=yQ (P:=P) (w:=w) (base:=base) (k:=0) T;have L:=yP (k:=1) T l b
 have pp:∀ n:Nat,Ok P w base (n+3) T.J8 (Tj K (Rpp n)):=by
  intro n
  induction n with
  | zero=>exact jG (k:=2) (n:=0) T L m (c.mono (by decide)) (iz Da)
  | succ n a=>exact jG (k:=n+3) (n:=n+1) T (L.mono (by lia)) (m.mono (by lia)) (c.mono (by lia)) a
 have M:∀ n:Nat,Ok P w base (n+1) T.KJ (kL K (kU n)):=by
  intro n
  induction n with
  | zero=>exact iz Bo
  | succ n a=>exact xE (k:=n+1) T (c.mono (by lia)) a
 have U:=qX (k:=4) T (M 3);have V:=sy (k:=6) T (pp 3) (U.mono (by decide));have X:=sv (k:=4) T (l.mono (by decide)) (M 3) (b.mono (by decide));have Y:=yN (k:=5) T (b.mono (by decide)) X;have o:=nz (P:=P) (w:=w) (base:=base) (k:=0) T;have Z:=mn (k:=6) T (b.mono (by decide)) (o.mono (by decide)) Y;have pc:=xC (k:=7) T (nm.mono (by decide)) V Z;have ms:=oo (P:=P) (w:=w) (base:=base) (k:=0) T
 have mt:∀ n:Nat,Ok P w base (n+1) T.Ln (mK K oD n):=by
  intro n
  induction n with
  | zero=>exact iz Am
  | succ n a=>exact yT (k:=n+1) T (ms.mono (by lia)) a
 have N:=xB (k:=4) T (mt 3)
 have lf:∀ n:Nat,Ok P w base n T.KZ (mK K oL n):=by
  intro n
  induction n with
  | zero=>exact iz Am
  | succ n a=>exact xw (k:=n) T a
 have jo:=vj (P:=P) (w:=w) (base:=base) (k:=0) T;have O:=om (k:=1) T jo;have wo:=yV (k:=5) T N;have lb:=vm (k:=2) T O;have bw:=pF (k:=6) T wo (lb.mono (by decide));have bc:=oj (k:=9) T (S 8) (bw.mono (by decide));have st:=Bs (k:=9) T (pc.mono (by decide));have ns:=xF (k:=10) T st;have fc:=qW (P:=P) (w:=w) (base:=base) (k:=0) T
 have lc:∀ n:Nat,Ok P w base (2 * n+6) T.Kh (lV K (kT n)):=by
  intro n
  induction n with
  | zero=>exact iz C9
  | succ n a =>have d:=vk (k:=2 * n+6) T a (O.mono (by lia));have pp:=sC (k:=2 * n+6) T a (N.mono (by lia)) (fc.mono (by lia));exact sA (k:=2 * n+7) T d pp
 have co:=yM (k:=22) T (bc.mono (by decide)) (lc 8);have ly:=HE (k:=23) T (R.mono (by decide)) (ns.mono (by decide)) co;have ov:=uZ (P:=P) (w:=w) (base:=base) (k:=0) T
 have le:∀ n:Nat,Ok P w base (n+3) T.Ks (Xs K (jA n)):=by
  intro n
  induction n with
  | zero=>exact iz Bn
  | succ n a=>exact sk (k:=n+3) T a (ov.mono (by lia)) ((lf 3).mono (by lia))
 have lp:=qV (P:=P) (w:=w) (base:=base) (k:=0) T;have j:=uW (P:=P) (w:=w) (base:=base) (k:=0) T;have d:=va (k:=1) T j
 have tr:∀ n:Nat,Ok P w base (n+2) T.K0 (rO K n):=by
  intro n
  induction n with
  | zero=>exact iz Dd
  | succ n a=>exact ve (k:=n+2) T (j.mono (by lia)) (d.mono (by lia)) a
 have ls:=xy (k:=1) T (lp.mono (by decide)) (j.mono (by decide));have p:=vc (k:=2) T d;have q:=uU (k:=2) T (j.mono (by decide)) d;have e:=xA (P:=P) (w:=w) (base:=base) (k:=0) T
 have lw:∀ n:Nat,Ok P w base (n+1) T.Kc (Tj K (mq n)):=by
  intro n
  induction n with
  | zero=>exact iz Dc
  | succ n a=>exact su (k:=n+1) T (e.mono (by lia)) a
 have r:=sr (P:=P) (w:=w) (base:=base) (k:=0) T;have s:=qU (P:=P) (w:=w) (base:=base) (k:=0) T;have t:=uY (P:=P) (w:=w) (base:=base) (k:=0) T;have lds:=uV (k:=1) T e;have u:=uX (k:=2) T (r.mono (by decide)) (s.mono (by decide)) (t.mono (by decide)) lds;have v:=xx (k:=3) T u;have x:=vq (k:=1) T b;have y:=vn (k:=1) T b;have z:=oq (P:=P) (w:=w) (base:=base) (k:=0) T;have f:=yO (k:=1) T b;have g:=vp (k:=2) T f;have h:=mS (P:=P) (w:=w) (base:=base) (k:=0) T;have A:=qY (P:=P) (w:=w) (base:=base) (k:=0) T;have B:=mm (P:=P) (w:=w) (base:=base) (k:=0) T;have i:=pE (P:=P) (w:=w) (base:=base) (k:=0) T;have C:=pC (P:=P) (w:=w) (base:=base) (k:=0) T;have D:=ny (P:=P) (w:=w) (base:=base) (k:=0) T;have E:=qT (k:=1) T i;have F:=nv (k:=1) T i C z;have G:=pD (k:=2) T (h.mono (by decide)) (A.mono (by decide)) E (D.mono (by decide)) F;have H:=yU (k:=2) T g (x.mono (by decide)) (y.mono (by decide)) (b.mono (by decide)) (B.mono (by decide));have I:=HF (k:=4) T H (G.mono (by decide));have J:=Bt (k:=3) T g (h.mono (by decide));exact HD (k:=24) T ((tr 8).mono (by decide)) (ls.mono (by decide)) ly (f.mono (by decide)) ((le 8).mono (by decide)) (J.mono (by decide)) (p.mono (by decide)) (q.mono (by decide)) ((lw 8).mono (by decide)) (v.mono (by decide)) (I.mono (by decide))
end
noncomputable def df_mk {K:W.Frag} {h:Heap} {mg:Str->Option Value} {n:Str} {st:Stmt} {ps:List Str} {f:Addr} {i:Value} {j e:Option Addr} {d:Array (Option Value)} {kV doc g b ct:Value} (X:K.In h) (G:h.Ns mainGlobals mg) (a:W.nsIn K mainGlobals n=some (some (.ref f))) (l:K.lookup f=some ⟨i,j,.func (W.fnOf n n (cX st) (cP st) (aK st) .none kV doc g e b ct),d⟩) (c:W.codeIn K b n=true) (k:W.keepIn K (.ref f)=true)
  (m:∀ us:List Value,us.length=ps.length->bindArgs (W.fnOf n n (cX st) (cP st) (aK st) .none kV doc g e b ct) ⟨us,[]⟩=pure (ps.zip us)):Df K mg n st ps:=⟨f,_,kC l c k,W.mg_of X G a,.all m⟩
noncomputable abbrev NsD (K:W.Frag) (n:Str) (f:Addr):Prop:=W.nsIn K mainGlobals n=some (some (.ref f))
noncomputable abbrev LkD (K:W.Frag) (n:Str) (st:Stmt) (f:Addr) (a:Value) (b:Option Addr) (c:Array (Option Value)) (kV d e:Value) (g:Option Addr) (h ct:Value):Prop:=K.lookup f=some ⟨a,b,.func (W.fnOf n n (cX st) (cP st) (aK st) .none kV d e g h ct),c⟩
variable {l:W.OpenLaw}
theorem all_mk {w:World} {K:W.Frag} {h:Heap} {mg:Str->Option Value} {fa:Addr} (X:K.In h) (G:h.Ns mainGlobals mg) (Zi:mg "law"=some (.ref fa)) (DD:Dfs K mg) {r:Addr} {F:Tok} {H:Value} {I:Option Addr} {J:Array (Option Value)} {L:Nat} {O:Tok} {t u:Addr} {P Q y g:Option Addr} {R S:Array (Option Value)} {U V A i B j C k o c D q:Value} {a:Addr} {Y:Addr} {V9 Us:Option Addr} {Wa:Array (Option Value)} {Wb Ut Uu Uv TN Uw:Value} {Z:Addr} {W9 Vq:Option Addr} {Xa:Array (Option Value)} {Xb Vr Vs Vt Um Vu:Value} {Tq:Addr} {Xc Vv:Option Addr} {Xd:Array (Option Value)} {Xe Vw Vx Vy Uo Vz:Value} {TQ:Addr} {Xw VR:Option Addr} {Xx:Array (Option Value)} {Xy VS VT VU Uy VW:Value} {S7:Addr} {Wt UW:Option Addr} {Wu:Array (Option Value)} {Wv UX UY UZ T9 U0:Value} {S8:Addr} {Ww U1:Option Addr} {Wx:Array (Option Value)} {Wz U3 U4 U5 Ua U6:Value} {Tt:Addr} {Xf VA:Option Addr} {Xg:Array (Option Value)} {Xh VB VC VD Up VE:Value} {Lv:Tok} {LV:Tok} {KY:Tok} {LU:Tok} {Kg:Tok} {Ml:Tok} {Kp:Tok} {La:Tok} {LX:Tok} {Ls:Tok} {On:Tok} {NO:Tok} {Lu:Tok} {LS:Tok} {LZ:Tok} {Lw:Tok} {LY:Tok} {LW:Tok} {Md:Addr} {Lr:Addr} {E:Addr} {MB:Addr} {MP:Addr} {Mc:Addr} {Nf:Addr} {N4:Addr} {NK:Addr} {Ov:Addr} {N5:Addr} {Xz:Obj}
  (a36:NsD K "need_size" t) (l36:K.lookup t=some ⟨U,P,.func (W.fnOf "need_size" "need_size" (cX fV) (cP fV) (aK fV) (.ref r) A B C y o D),R⟩) (c36:W.codeIn K o "need_size"=true) (k36:W.keepIn K (.ref t)=true)
  (a43:NsD K "run" u) (l43:LkD K "run" mI u V Q S i j k g c q) (c43:W.codeIn K c "run"=true) (k43:W.keepIn K (.ref u)=true)
  (e36:K.lookup r=some ⟨H,I,.seq #[.int 10000 F] L,J⟩)
  (e43:∀ (z:Setting) (d XQ XR:Value),W.peek K z (bindArgs (W.fnOf "run" "run" (cX mI) (cP mI) (aK mI) .none i j k g c q) ⟨[d,XQ],[("size",XR)]⟩)=some ([("code",d),("args",XQ),("size",XR),("steps",.int 1000 O)]:List (Str × Value)))
  (L8:W.nsIn K mainGlobals "Machine"=some (some (.ref a)))
  (TV:W.findIn K (.ref a) "__init__"=some (some (.ref Y))) (TX:K.lookup Y=some ⟨Wb,V9,.func (W.fnOf "__init__" "Machine.__init__" (cX cH) (cP cH) (aK cH) .none Ut Uu Uv Us TN Uw),Wa⟩) (TY:W.codeIn K TN "Machine.__init__"=true) (TZ:W.keepIn K (.ref Y)=true) (T3:W.isFn K (.ref Y)=true)
  (WA:W.makesIn K a=true) (WB:W.keepIn K (.ref a)=true)
  (Uz:W.findIn K (.ref a) "take"=some (some (.ref Z))) (UA:K.lookup Z=some ⟨Xb,W9,.func (W.fnOf "take" "Machine.take" (cX dJ) (cP dJ) (aK dJ) .none Vr Vs Vt Vq Um Vu),Xa⟩) (UB:W.codeIn K Um "Machine.take"=true) (T6:W.keepIn K (.ref Z)=true) (UC:W.isFn K (.ref Z)=true)
  (UD:W.findIn K (.ref a) "push"=some (some (.ref Tq))) (UE:K.lookup Tq=some ⟨Xe,Xc,.func (W.fnOf "push" "Machine.push" (cX dH) (cP dH) (aK dH) .none Vw Vx Vy Vv Uo Vz),Xd⟩) (UG:W.codeIn K Uo "Machine.push"=true) (T7:W.keepIn K (.ref Tq)=true) (UH:W.isFn K (.ref Tq)=true)
  (U7:W.findIn K (.ref a) "way"=some (some (.ref TQ))) (U8:K.lookup TQ=some ⟨Xy,Xw,.func (W.fnOf "way" "Machine.way" (cX dZ) (cP dZ) (aK dZ) .none VS VT VU VR Uy VW),Xx⟩) (U9:W.codeIn K Uy "Machine.way"=true) (Uc:W.keepIn K (.ref TQ)=true) (Va:W.isFn K (.ref TQ)=true)
  (Ud:W.findIn K (.ref a) "finish"=some (some (.ref S7))) (Ue:K.lookup S7=some ⟨Wv,Wt,.func (W.fnOf "finish" "Machine.finish" (cX cV) (cP cV) (aK cV) .none UX UY UZ UW T9 U0),Wu⟩) (Ug:W.codeIn K T9 "Machine.finish"=true) (Tw:W.keepIn K (.ref S7)=true) (Uh:W.isFn K (.ref S7)=true)
  (Ui:W.findIn K (.ref a) "change"=some (some (.ref S8))) (Uj:K.lookup S8=some ⟨Wz,Ww,.func (W.fnOf "change" "Machine.change" (cX cU) (cP cU) (aK cU) .none U3 U4 U5 U1 Ua U6),Wx⟩) (Uk:W.codeIn K Ua "Machine.change"=true) (Tz:W.keepIn K (.ref S8)=true) (Ul:W.isFn K (.ref S8)=true)
  (UI:W.findIn K (.ref a) "step"=some (some (.ref Tt))) (UJ:K.lookup Tt=some ⟨Xh,Xf,.func (W.fnOf "step" "Machine.step" (cX dI) (cP dI) (aK dI) .none VB VC VD VA Up VE),Xg⟩) (UK:W.codeIn K Up "Machine.step"=true) (T8:W.keepIn K (.ref Tt)=true) (UL:W.isFn K (.ref Tt)=true)
  (SK:X5 K a)
  (US:W.findIn K (.ref a) "cells"=some none)
  (UT:W.findIn K (.ref a) "given"=some none)
  (Vf:W.findIn K (.ref a) "size"=some none)
  (TU:W.findIn K (.ref a) "pile"=some none)
  (TJ:W.findIn K (.ref a) "place"=some none)
  (Ub:W.findIn K (.ref a) "kept"=some none)
  (Ur:W.findIn K (.ref a) "ended"=some none)
  (K4:W.nsIn K mainGlobals "MOST_PARTS"=some (some (.int 40 Lv)))
  (Lh:W.nsIn K mainGlobals "MOST_DEEP"=some (some (.int 8 LV)))
  (KF:W.nsIn K mainGlobals "LONGEST_NAME"=some (some (.int 8 KY)))
  (KG:W.nsIn K mainGlobals "MOST_CELL"=some (some (.int 99 LU)))
  (J9:W.nsIn K mainGlobals "MOST_PATTERN_DEEP"=some (some (.int 3 Kg)))
  (LA:W.nsIn K mainGlobals "MOST_GAP"=some (some (.int 9999 Ml)))
  (Kb:W.nsIn K mainGlobals "MOST_PIECE_CELLS"=some (some (.int 12 Kp)))
  (KL:W.nsIn K mainGlobals "MOST_PIECES"=some (some (.int 16 La)))
  (Lj:W.nsIn K mainGlobals "MOST_NEAR"=some (some (.int 9 LX)))
  (K2:W.nsIn K mainGlobals "CALL_CELLS"=some (some (.int 3 Ls)))
  (NX:W.nsIn K mainGlobals "END"=some (some (.int 0 On)))
  (Nr:W.nsIn K mainGlobals "CALL"=some (some (.int 15 NO)))
  (K3:W.nsIn K mainGlobals "MOST_CELLS"=some (some (.int 1000 Lu)))
  (Lg:W.nsIn K mainGlobals "MANY_ARGS"=some (some (.int 4 LS)))
  (LR:W.nsIn K mainGlobals "MOST_SIZE"=some (some (.int 10000 LZ)))
  (K5:W.nsIn K mainGlobals "MOST_STEPS"=some (some (.int 100000 Lw)))
  (Lk:W.nsIn K mainGlobals "MOST_PILE"=some (some (.int 64 LY)))
  (Li:W.nsIn K mainGlobals "MOST_KEPT"=some (some (.int 16 LW)))
  (Kn:W.nsIn K mainGlobals "MOST_IN_LEAF"=some (some (.ref Md))) (Ko:KTD.tabLook (KTD.datLooks λb=>K.lookup b) (λb=>K.lookup b) Md TL=true)
  (J3:W.nsIn K mainGlobals "TREES_IN_BRANCH"=some (some (.ref Lr))) (J4:KTD.tabLook (KTD.datLooks λb=>K.lookup b) (λb=>K.lookup b) Lr TB=true)
  (Ke:W.nsIn K mainGlobals "MARK_LENGTHS"=some (some (.ref E))) (J1:KTD.tabLook (KTD.datLooks λb=>K.lookup b) (λb=>K.lookup b) E TM=true)
  (Ku:W.nsIn K mainGlobals "FILLED_FROM"=some (some (.ref MB))) (Kv:KTD.tabLook (KTD.datLooks λb=>K.lookup b) (λb=>K.lookup b) MB TF=true)
  (Ll:W.nsIn K mainGlobals "MOST_TOLD"=some (some (.ref MP))) (Lm:KTD.tabLook (KTD.datLooks λb=>K.lookup b) (λb=>K.lookup b) MP Y8=true)
  (J7:W.nsIn K mainGlobals "INSTRUCTIONS"=some (some (.ref Mc))) (Mn:hX K (.tup INS) (.ref Mc)=true)
  (LB:W.nsIn K mainGlobals "STRAIGHT"=some (some (.ref Nf))) (Nh:hX K (.tup STR) (.ref Nf)=true)
  (MV:W.nsIn K mainGlobals "AHEAD"=some (some (.ref N4))) (N6:hX K (.tup AHE) (.ref N4)=true)
  (ME:W.nsIn K mainGlobals "BEHIND"=some (some (.ref NK))) (NP:hX K (.tup BEH) (.ref NK)=true)
  (Nt:W.nsIn K mainGlobals "WAYS"=some (some (.ref Ov))) (Ow:hX K (.tup WAY) (.ref Ov)=true)
  (MW:W.nsIn K mainGlobals "BASIC"=some (some (.ref N5))) (N7:qL K BAS N5=true)
  (Mi:K.lookup E=some Xz) (Me:KTD.tabLook KTD.flatLooks (λb=>K.lookup b) E ([("hole",.int 2),("gap",.int 3),("slot",.int 2)]:List (Str × PyData))=true) (Mj:KTD.hashesOf (λb=>K.lookup b) E=([("hole",.int 2),("gap",.int 3),("slot",.int 2)]:List (Str × PyData)).map λp=>(PySem.strKind l.prog w).hash p.1)
  (OX:W.nsIn K mainGlobals "len"=some none)
  (MM:W.nsIn K mainGlobals "isinstance"=some none)
  (OW:W.nsIn K mainGlobals "int"=some none)
  (Ox:W.nsIn K mainGlobals "bool"=some none)
  (O0:W.nsIn K mainGlobals "str"=some none)
  (N9:W.nsIn K mainGlobals "tuple"=some none)
  (Oy:W.nsIn K mainGlobals "list"=some none)
  (N8:W.nsIn K mainGlobals "range"=some none)
  (OU:W.nsIn K mainGlobals "all"=some none)
  (OV:W.nsIn K mainGlobals "any"=some none)
  (OZ:W.nsIn K mainGlobals "set"=some none)
  (O1:W.nsIn K mainGlobals "sum"=some none)
  (Ni:W.nsIn K mainGlobals "reversed"=some none)
  (O2:W.nsIn K mainGlobals "zip"=some none)
  (MT:W.nsIn K mainGlobals "enumerate"=some none)
  (OY:W.nsIn K mainGlobals "min"=some none) :
  ∃ fd:FuncData,(∀ (s:Shared) (v:Value),BindsTo s fd ⟨[v],[]⟩ [("_law_script",v)])/\∀ base:Heap,K.In base->base.Ns mainGlobals mg->Te l.prog w K mg base WI 25 fa fd ["_law_script"] (xZ K):=by
 have M:∀ {n:Str} {v:Value},W.nsIn K mainGlobals n=some (some v)->mg n=some v:=W.mg_of X G;have N:∀ {n:Str},W.nsIn K mainGlobals n=some none->mg n=none:=W.mg_none_of X G;have e:=Zi.symm.trans DD.Oo.m;cases e
 let T:Txt l.prog w K mg :=
  {toDfs:=DD,
   LN:=t,LO:=W.fnOf "need_size" "need_size" (cX fV) (cP fV) (aK fV) (.ref r) A B C y o D,MR:=r,Mp:=F,LQ:=⟨⟨_,_,_,_,_,_,_,_,_,rfl,l36,c36⟩,k36,⟨_,_,e36,rfl⟩⟩,Nw:=M a36,
   Ol:=u,NW:=W.fnOf "run" "run" (cX mI) (cP mI) (aK mI) .none i j k g c q,OT:=O,ON:=kC (st:=mI) l43 c43 k43,O4:=M a43,w_run:=e43,
   JW:=a,L8:=M L8,
   Kl:=Y,Km:=W.fnOf "__init__" "Machine.__init__" (cX cH) (cP cH) (aK cH) .none Ut Uu Uv Us TN Uw,Le:=kC (st:=cH) TX TY TZ,
   XS:=⟨WA,TV,T3,WB⟩,
   Kz:=Z,KD:=W.fnOf "take" "Machine.take" (cX dJ) (cP dJ) (aK dJ) .none Vr Vs Vt Vq Um Vu,Mh:=kC (st:=dJ) UA UB T6,
   To:=⟨Uz,UC,T6⟩,
   KQ:=Tq,KU:=W.fnOf "push" "Machine.push" (cX dH) (cP dH) (aK dH) .none Vw Vx Vy Vv Uo Vz,Mf:=kC (st:=dH) UE UG T7,
   SW:=⟨UD,UH,T7⟩,
   K8:=TQ,K9:=W.fnOf "way" "Machine.way" (cX dZ) (cP dZ) (aK dZ) .none VS VT VU VR Uy VW,MD:=kC (st:=dZ) U8 U9 Uc,
   V8:=⟨U7,Va,Uc⟩,
   Ky:=S7,KC:=W.fnOf "finish" "Machine.finish" (cX cV) (cP cV) (aK cV) .none UX UY UZ UW T9 U0,Lz:=kC (st:=cV) Ue Ug Tw,
   Vd:=⟨Ud,Uh,Tw⟩,
   Kx:=S8,KB:=W.fnOf "change" "Machine.change" (cX cU) (cP cU) (aK cU) .none U3 U4 U5 U1 Ua U6,Ly:=kC (st:=cU) Uj Uk Tz,
   Ve:=⟨Ui,Ul,Tz⟩,
   KR:=Tt,KW:=W.fnOf "step" "Machine.step" (cX dI) (cP dI) (aK dI) .none VB VC VD VA Up VE,Mg:=kC (st:=dI) UJ UK T8,
   VQ:=⟨UI,UL,T8⟩,
   SK:=SK,
   US:=US,
   UT:=UT,
   Vf:=Vf,
   TU:=TU,
   TJ:=TJ,
   Ub:=Ub,
   Ur:=Ur,
   Lv:=Lv,K4:=M K4,
   LV:=LV,Lh:=M Lh,
   KY:=KY,KF:=M KF,
   LU:=LU,KG:=M KG,
   Kg:=Kg,J9:=M J9,
   Ml:=Ml,LA:=M LA,
   Kp:=Kp,Kb:=M Kb,
   La:=La,KL:=M KL,
   LX:=LX,Lj:=M Lj,
   Ls:=Ls,K2:=M K2,
   On:=On,NX:=M NX,
   NO:=NO,Nr:=M Nr,
   Lu:=Lu,K3:=M K3,
   LS:=LS,Lg:=M Lg,
   LZ:=LZ,LR:=M LR,
   Lw:=Lw,K5:=M K5,
   LY:=LY,Lk:=M Lk,
   LW:=LW,Li:=M Li,
   KP:=Md,Kn:=M Kn,Ko:=λh x=>Sh x Ko,
   Kf:=Lr,J3:=M J3,J4:=λh x=>Sh x J4,
   Kk:=E,Ke:=M Ke,J1:=λh x=>Sh x J1,
   K7:=MB,Ku:=M Ku,Kv:=λh x=>Sh x Kv,
   Mo:=MP,Ll:=M Ll,Lm:=λh x=>Sh x Lm,
   Kj:=Mc,J7:=M J7,KS:=Mn,
   MG:=Nf,LB:=M LB,NJ:=Nh,
   ND:=N4,MV:=M MV,Oz:=N6,
   Nj:=NK,ME:=M ME,Om:=NP,
   N3:=Ov,Nt:=M Nt,OM:=Ow,
   NF:=N5,MW:=M MW,OA:=N7,
   MQ:=⟨⟨_,Mi⟩,λh x=>⟨_,W.kt_tab_in l.prog w x Me (by decide +kernel) Mj,rfl⟩⟩,
   J0:=N OX,
   J6:=N MM,
   OQ:=N OW,
   OO:=N Ox,
   OR:=N O0,
   KN:=N N9,
   NL:=N Oy,
   MH:=N N8,
   Ny:=N OU,
   O5:=N OV,
   O7:=N OZ,
   OB:=N O1,
   Ng:=N Ni,
   OS:=N O2,
   Nz:=N MT,
   O6:=N OY }
 obtain ⟨_,_,_,_,_,_,_,_,_,e,_⟩:=DD.Oo.f.ex;exact ⟨_,λs v=>by rw [e];exact .of_eq rfl,λbase _ _=>chain T⟩
theorem walk {q:Program} {loose:List Str} {XP:(Str->Option Value)->Heap->Prop} {YP:World->Heap->Prop} {d:DefRec} {K:Params->W.Frag} (g:l.most=some 63) (b:d.params.defaults=[])
  (i:∀ (w:World) (h:Heap),YP w h->(K w.params).In h)
  (F:∀ (w:World) (mg:Str->Option Value) (c:Addr) (h:Heap),(K w.params).In h->h.Ns mainGlobals mg->mg d.name=some (.ref c) ->
   ∃ e:FuncData,(∀ (s:Shared) (u:Value),BindsTo s e ⟨[u],[]⟩ [("_law_script",u)])/\∀ base:Heap,(K w.params).In base->base.Ns mainGlobals mg->Te l.prog w (K w.params) mg base WI 25 c e ["_law_script"] (xZ (K w.params))) :
  W.WalkO q loose XP YP l.row.toRowW d [] (λf vs=>PySem.call f vs) :=
 L2.Z8 (n:=63) (k:=25) (x:="_law_script") (CX:=λ_=>WI) (sp:=λw=>xZ (K w.params)) g (by decide) b ⟨rfl,by decide,by decide⟩ i F (λ_ _ a ns o j m=>⟨a,ns,rfl,Im j m,λ_=>rfl⟩) λ_ _ _ _ _ z=>z
end My
open PySem PySem.W PyProof.Rows
set_option maxRecDepth 100000 in
set_option maxHeartbeats 0 in
theorem PySem.Challenge.cw_piecelay_k16_whole_lay_holds : PySem.Challenge.rw_piecelay_k16_whole_lay.Holds := by
 w_on;refine holds_law My.said λsaid=>?_
 refine holds_open (q:=My.view) (loose:=My.loose) (Xt:=My.xt) (XP:=XL My.view []) (Yf:=Hook.obs (kHook My.k0.heap_1 My.kas My.kas_ok)) (Ya:=Hook.val (kHook My.k0.heap_1 My.kas My.kas_ok)) (YP:=Hook.says (kHook My.k0.heap_1 My.kas My.kas_ok)) (N:=My.NN) My.left (Hook.of (kHook My.k0.heap_1 My.kas My.kas_ok)) (Hook.keeps (kHook My.k0.heap_1 My.kas My.kas_ok)) (λs e=>xl_of s (Bool.and_eq_true_iff.mp e).1) XL.keeps (by rfl) (by rfl) (by rfl) (λs e=>recFacts_of (Bool.and_eq_true_iff.mp e).2) (by rfl) (by first | assumption | decide +kernel) (by decide +kernel) ⟨rfl,rfl,rfl,rfl,rfl,by decide +kernel⟩ ?hw ?hc
 case hw=>w_witness2
 k_fill
 refine My.walk (l:=PySem.Challenge.rw_piecelay_k16_whole_lay) rfl rfl (λw h Y=>PySem.W.kIn_of Y) ?F
 case F =>
  intro w mg i h g G f;refine' My.all_mk g G f ?DD ?a36 ?l36 ?c36 ?k36 ?a43 ?l43 ?c43 ?k43 ?e36 ?e43 ?L8 ?TV ?TX ?TY ?TZ ?T3 ?WA ?WB ?Uz ?UA ?UB ?T6 ?UC ?UD ?UE ?UG ?T7 ?UH ?U7 ?U8 ?U9 ?Uc ?Va ?Ud ?Ue ?Ug ?Tw ?Uh ?Ui ?Uj ?Uk ?Tz ?Ul ?UI ?UJ ?UK ?T8 ?UL ?SK ?US ?UT ?Vf ?TU ?TJ ?Ub ?Ur ?K4 ?Lh ?KF ?KG ?J9 ?LA ?Kb ?KL ?Lj ?K2 ?NX ?Nr ?K3 ?Lg ?LR ?K5 ?Lk ?Li ?Kn ?Ko ?J3 ?J4 ?Ke ?J1 ?Ku ?Kv ?Ll ?Lm ?J7 ?Mn ?LB ?Nh ?MV ?N6 ?ME ?NP ?Nt ?Ow ?MW ?N7 ?Mi ?Me ?Mj ?OX ?MM ?OW ?Ox ?O0 ?N9 ?Oy ?N8 ?OU ?OV ?OZ ?O1 ?Ni ?O2 ?MT ?OY
  case DD =>
   constructor
   all_goals
    refine' My.df_mk g G ?a ?l ?c ?k ?b
    case a=>k_is
    case l=>change _=_;k_is
    case c=>k_is
    case k=>k_is
    case b=>exact λus d=>by first | (match us,d with | [],_=>rfl) | (match us,d with | [_],_=>rfl) | (match us,d with | [_,_],_=>rfl) | (match us,d with | [_,_,_],_=>rfl) | (match us,d with | [_,_,_,_],_=>rfl) | (match us,d with | [_,_,_,_,_],_=>rfl) | (match us,d with | [_,_,_,_,_,_],_=>rfl)
  case a36 | a43=>change _=_;k_is
  case l36 | l43=>change _=_;k_is
  case c36 | c43 | k36 | k43=>k_is
  case e36 | L8 | TV | TX | TY | TZ | Uz | UA | UB | T6 | UD | UE | UG | T7 | U7 | U8 | U9 | Uc | Ud | Ue | Ug | Tw | Ui | Uj | Uk | Tz | UI | UJ | UK | T8 | K4 | Lh | KF | KG | J9 | LA | Kb | KL | Lj | K2 | NX | Nr | K3 | Lg | LR | K5 | Lk | Li | Kn | J3 | Ke | Ku | Ll | J7 | LB | MV | ME | Nt | MW | Mi | OX | MM | OW | Ox | O0 | N9 | Oy | N8 | OU | OV | OZ | O1 | Ni | O2 | MT | OY=>k_is
  case e43=>intros;rfl
  case T3 | WA | WB | UC | UH | Va | Uh | Ul | UL | US | UT | Vf | TU | TJ | Ub | Ur | Mj=>first | rfl | kernel_rfl | decide +kernel
  case SK=>refine ⟨?_,?_,?_,?_⟩ <;> (first | rfl | kernel_rfl | decide +kernel)
  case Ko | J4 | J1 | Kv | Lm | Mn | Nh | N6 | NP | Ow | N7 | Me=>first | rfl | decide +kernel
