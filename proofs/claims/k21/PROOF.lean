import PyProof.Rows.All
import Lean
import KE.KTops
import KE.KRevSl
import KE.KFromBytes
import KE.KTryMore
import KE.KItem
import KE.KUnpack
import KE.KRevIter
import PySem.Challenge.RW_piecelay_k21_sharing_refused
set_option Elab.async false
set_option linter.all false
set_option maxRecDepth 100000
set_option maxHeartbeats 0
abbrev pg:=@PySem.wpAny_bind
abbrev LD:=@PySem.Heap.get?_push_of_some
abbrev Mk:=@List.getElem?_eq_some_iff
abbrev Mq:=@PySem.wpAny_pure
abbrev Mr:=@PySem.Heap.lt_size
abbrev Ms:=@List.getElem?_eq_getElem
abbrev Mt:=@List.size_toArray
abbrev Mu:=@Nat.le_refl
abbrev Mv:=@Nat.ne_of_lt
abbrev Mw:=@Nat.lt_of_lt_of_le
abbrev Mx:=@Bool.false_ne_true
abbrev Mz:=@if_neg
abbrev MA:=@List.mem_cons
abbrev MB:=@Option.some.inj
abbrev MC:=@Bool.and_eq_true
abbrev MD:=@Ne.symm
abbrev ME:=@PySem.F.slot_list_extend
abbrev MF:=@if_pos
abbrev MG:=@PySem.F.type_list_extend
abbrev MH:=@List.getElem?_map
abbrev MI:=@PySem.Heap.get?_push_size
abbrev MJ:=@PySem.Heap.get?_push_at
abbrev MK:=@List.length_map
abbrev ML:=@Nat.eq_of_beq_eq_true
abbrev MM:=@PySem.Heap.size_push
abbrev MN:=@List.mem_append_right
abbrev MO:=@List.length_append
abbrev MP:=@PySem.wpAny_field
abbrev MQ:=@Nat.le_trans
abbrev MR:=@List.not_mem_nil
abbrev MS:=@List.mem_singleton
abbrev MT:=@PySem.wpAny_mono
abbrev MU:=@List.mem_cons_of_mem
abbrev MV:=@PySem.F.excBase_ValueError
abbrev MW:=@List.mem_cons_self
abbrev MX:=@PySem.wpAny_setField_rec
abbrev MY:=@Nat.le_of_ble_eq_true
abbrev MZ:=@List.map_cons
abbrev M0:=@Nat.ne_of_gt
abbrev M1:=@of_decide_eq_true
abbrev M3:=@List.getElem?_append_left
abbrev M4:=@decide_eq_false
abbrev M5:=@congrArg
abbrev M6:=@PySem.wpAny_truthy_bool
abbrev M7:=@PyProof.Rows.slot_tuple_getitem
abbrev M8:=@PySem.wpAny_callSpecial?_slot
abbrev M9:=@List.getElem?_append_right
abbrev Na:=@PySem.sizeLine_eq
abbrev Nb:=@PySem.wpAny_pyIter_list
abbrev Nc:=@List.mem_append
abbrev Nd:=@Nat.zero_le
abbrev Nf:=@PyProof.Rows.callWith_type1
abbrev Ng:=@PySem.F.slot_list_append
abbrev Nh:=@Int.emod_lt_of_pos
abbrev Ni:=@List.mem_of_getElem?
abbrev Nj:=@PySem.wpAny_holding
abbrev Nk:=@PySem.wpAny_seqItems
abbrev Nl:=@List.replicate_succ
abbrev Nm:=@List.lookup_cons
abbrev Nn:=@Nat.le_add_right
abbrev Np:=@PySem.F.type_list_append
abbrev Nq:=@Nat.lt_irrefl
abbrev Nr:=@PySem.wpAny_newObj_type
abbrev Nt:=@Int.emod_nonneg
abbrev Nu:=@PySem.mem_of_lookup
abbrev Nv:=@Array.getElem?_eq_some_iff
abbrev Ny:=@PySem.wpAny_call_entry
abbrev Nz:=@List.length_cons
abbrev NB:=@List.getElem?_eq_none_iff
abbrev NC:=@List.find?_cons
abbrev ND:=@List.forIn_cons
abbrev NF:=@or_false
abbrev NG:=@PySem.F.slot_zip_next
abbrev NH:=@PySem.F.plainAttrs_list
abbrev NI:=@PySem.wpAny_standAt
abbrev NJ:=@PySem.W.hideAll_none
abbrev NK:=@List.getElem?_set_self
abbrev NL:=@PySem.Heap.get?_update_other
abbrev NO:=@List.take_of_length_le
abbrev NP:=@Nat.le_of_lt
abbrev NQ:=@PySem.codeAny_mono
abbrev NR:=@PySem.wpAny_Call_Name_kw
abbrev NS:=@PySem.W.kia_one
abbrev NT:=@PyProof.Rows.F.plain_set_update_loop
abbrev NU:=@PySem.wpAny_passesOwn
abbrev NV:=@Bool.eq_iff_iff
abbrev NW:=@List.any_cons
abbrev NX:=@List.getD_eq_getElem?_getD
abbrev NY:=@PySem.F.slot_tuple_iterator_next
abbrev NZ:=@List.flatten_cons
abbrev N1:=@PySem.call_meets
abbrev N2:=@decide_eq_true
abbrev N3:=@List.length_take
abbrev N4:=@PySem.F.called_set
abbrev N5:=@List.all_cons
abbrev N6:=@PySem.wpAny_onRaise
abbrev N7:=@List.nodup_cons
abbrev N8:=@PySem.wpAny_nextOf_list_item
abbrev N9:=@List.append_assoc
abbrev Oa:=@PySem.F.slot_list_index
abbrev Ob:=@PySem.wpAny_loadPart_at
abbrev Oc:=@List.length_replicate
abbrev Od:=@PySem.Heap.get?_update_self
abbrev Oe:=@Nat.ble_eq_true_of_le
abbrev Of:=@List.drop_zero
abbrev Og:=@List.mem_append_left
abbrev Oh:=@List.getElem?_set_ne
abbrev Oi:=@PySem.wpAny_call
abbrev Oj:=@Nat.lt_succ_self
abbrev Ol:=@PySem.codeAny_call_builtin
abbrev Om:=@PySem.W.hideAll_get
abbrev Oo:=@PySem.wpAny_attempt
abbrev Oq:=@Array.length_toList
abbrev Ot:=@PySem.wpAny_isSubtype_exc
abbrev Ou:=@Int.negSucc_lt_zero
abbrev Ov:=@List.append_nil
abbrev Ow:=@Array.getElem?_eq_getElem
abbrev Ox:=@PyProof.Rows.IsTup.new
abbrev Oz:=@List.mem_filterMap
abbrev OA:=@Nat.lt_trans
abbrev OB:=@PySem.wpAny_comprehension_free
abbrev OC:=@PyProof.Rows.F.entry_set_update_loop
abbrev OD:=@PySem.Code.quiet_builtin
abbrev OE:=@Bool.not_not
abbrev OF:=@PySem.wpAny_rule
abbrev OG:=@List.getElem?_replicate
abbrev OH:=@PySem.F.args_zip_next_1
abbrev OI:=@List.getElem?_inj
abbrev OJ:=@Option.map_eq_some_iff
abbrev OL:=@PySem.Calls.callWith_builtin
abbrev OM:=@Prod.ext
abbrev ON:=@List.all_eq_true
abbrev OO:=@PySem.Heap.IsList.push
abbrev OP:=@PySem.F.entry_zip_next
abbrev OQ:=@PySem.wpAny_pyIter_zip
abbrev OR:=@if_true
abbrev OS:=@Array.getElem?_modify
abbrev OT:=@PySem.W.of_hideAll
abbrev OU:=@PySem.wpAny_execs_nil
abbrev OV:=@PySem.W.callWith_K
abbrev OW:=@List.of_mem_zip
abbrev OX:=@PySem.Calls.evalArgs_plain
abbrev OY:=@PySem.F.slot_int_rmul
abbrev OZ:=@Option.map_some
abbrev O0:=@PySem.codeAny_builtin
abbrev O1:=@beq_iff_eq
abbrev O2:=@Nat.beq_refl
abbrev O3:=@beq_eq_false_iff_ne
abbrev O4:=@List.filterMap_cons
abbrev O5:=@Bool.false_and
abbrev O6:=@Int.negSucc_eq
abbrev O7:=@PySem.wpAny_letGo
abbrev O8:=@PySem.SeqAt.EqAt.int_str
abbrev O9:=@PySem.SeqAt.EqAt.str_int
abbrev Pa:=@PyProof.Rows.assignInOrder_cons
abbrev Pb:=@PySem.Calls.spliced_cons
abbrev Pc:=@PySem.F.args_tuple_add_2
abbrev Pd:=@Bool.false_eq_true
abbrev Pe:=@PyProof.Rows.KTD.isSome_datumAt
abbrev Pf:=@Array.append_empty
abbrev Pg:=@PySem.wpAny_assign_Name
abbrev Ph:=@PySem.F.entry_tuple_add
abbrev Pj:=@Int.toNat_natCast
abbrev Pk:=@List.length_range
abbrev Po:=@Nat.lt_succ_of_lt
abbrev Pp:=@PySem.Heap.get?_push_ne
abbrev Pq:=@PySem.F.type_list_index
abbrev Pr:=@PySem.typeIs_int
abbrev Pu:=@if_false
abbrev Pw:=@Nat.le_of_eq
abbrev Px:=@PySem.W.looks_findIn
abbrev Py:=@PySem.W.kt_text_in
section
namespace LT
open PySem PySem.W PyProof.Rows
noncomputable def W0 (p:Program) (w:World) (n₀:Nat) (ann:Option Value):Nat->SharedT->Thread->Option SharedT
 | 0,_,_=>none
 | k+1,s,t=>bif through t then some s else bif Fast.tw6613529449190102663 n₀ ann t then
   (Fast.tw10156331382660048174 (Fast.tw11892475500146522536 Fast.tw14364793385576792824) p w s t).bind λx=>W0 p w n₀ ann k x.1 x.2
  else none
variable {p:Program}
theorem zQ {w:World} {n₀:Nat} {ann:Option Value} (k:Nat):∀ {s s':SharedT} {t:Thread},W0 p w n₀ ann k s t=some s'->topRun treeTable p w n₀ ann k s.abs t=some s'.abs:=by
 induction k with
 | zero=>intro s s' t h;cases h
 | succ k ih =>
  intro s s' t h;unfold W0 at h;rw [<- Fast.te6613529449190102663,<- Fast.te10156331382660048174,<- Fast.te11892475500146522536,<- Fast.te14364793385576792824] at h;unfold topRun;cases c1:through t
  ·cases c2:stepOk n₀ ann t
   ·rw [c1,c2] at h;cases h
   ·rw [c1,c2] at h;obtain ⟨x,hx,hr⟩:=Option.bind_eq_some_iff.mp (show (stepT (denote treeTable) p w s t).bind _=some s' from h);rw [stepT_spec (s':=x.1) (t':=x.2) hx];exact ih hr
  ·rw [c1] at h;cases h;rfl
noncomputable def vd (P:Params):BT:=((boot_heap P).objs.toList.foldl (λ(x:BT × Nat) o=>(x.1.ins x.2 o,x.2+1)) (BT.nil,0)).1
theorem ve:∀ P,absHeap (vd P) 11 {}=boot_heap P:=λP=>by kernel_rfl
noncomputable abbrev boot (P:Params) (os:OsState):SharedT:=⟨vd P,11,{},#[],boot_drawn,boot_toks,os⟩
theorem vf (P:Params) (os:OsState):(boot P os).abs=⟨boot_heap P,#[],boot_drawn,boot_toks,os⟩:=by show (⟨absHeap (vd P) 11 {},#[],boot_drawn,boot_toks,os⟩:Shared)=_;rw [ve]
noncomputable def AG (p q:Program) (loose:List Str) (Xt:Shared->Bool) (P:Params) (s:Shared) :=
 (staticsOk (Fast.tw5923862056798008813 p.main.body) (boot_heap P) s.heap && namesBound p s.heap && gensDone s && laidKept (boot_heap P) s.heap,Fast.tw4187177175401517315 q loose (Fast.tw5923862056798008813 p.main.body) Xt true s)
theorem zX:∀ P:Params,((boot_heap P).isNs mainGlobals && (#[]:Array GenState).size == 0,(boot_heap P).objs.size,(boot_heap P).nsMap mainGlobals "__annotations__")=(true,11,some (.ref 6)):=λP=>by kernel_rfl
theorem left {q:Program} {loose:List Str} {Xt:Shared->Bool} {α:Type} {Yf:Shared->α} {Ya:World->α} {N:Nat} (e:opening p=plainProg p.main.scope.names) (hN:Nat.ble 600 N=true) (f:∀ s,fenceModules? p s=some s)
  (h:∀ (w:World) (os:OsState),(W0 p w 11 (some (.ref 6)) N (boot w.params os) (topStub p)).map (λs=>(AG p q loose Xt w.params s.abs,Yf s.abs))=some ((true,openGood q loose),Ya w)):LeftO p q loose Xt Yf Ya N:=λw=>by
 obtain ⟨⟨h0,gs,d,k,os⟩,e,e'⟩:=OJ.mp (boot_open e hN f w);obtain ⟨rfl,rfl,rfl,rfl⟩:h0=boot_heap w.params/\gs=Array.mk []/\d=boot_drawn/\k=boot_toks:=by simpa using e'
 obtain ⟨s1,hr,hs⟩:=OJ.mp (h w os);have r:=zQ N hr;rw [vf] at r;obtain ⟨hs,hy⟩:=Prod.mk.inj hs;unfold AG at hs;rw [<- Fast.te4187177175401517315,<- Fast.te5923862056798008813] at hs;obtain ⟨hl,hg⟩:=Prod.mk.inj (show (staticsOk (importedModules p.main.body) (boot_heap w.params) s1.abs.heap && namesBound p s1.abs.heap && gensDone s1.abs && laidKept (boot_heap w.params) s1.abs.heap,openSeen q loose (importedModules p.main.body) Xt true s1.abs)=(true,openGood q loose) from hs);obtain ⟨z1,z2,z3⟩:_/\_/\_:=by simpa only [Prod.mk.injEq] using zX w.params
 have t:topFrom treeTable p w N ⟨boot_heap w.params,Array.mk [],boot_drawn,boot_toks,os⟩=some s1.abs:=by unfold topFrom;dsimp only;rw [z1,z2,z3,r];show (match staticsOk (importedModules p.main.body) (boot_heap w.params) s1.abs.heap && namesBound p s1.abs.heap && gensDone s1.abs && laidKept (boot_heap w.params) s1.abs.heap with | true=>_ | false=>_)=_;rw [hl]
 unfold openEnds;rw [e];show (topFrom treeTable p w N _).map _=_;rw [t];exact M5 some (OM hg hy)
end LT
namespace LT
section
universe u1 u2 u3 u4 u5 u6 u7 u8 u9
variable {S:Type u1} {A:Type u2} {B:Type u3} {C:Type u4} {D:Type u5} {E:Type u6} {F:Type u7} {R:Type u8} {V:Type u9}
noncomputable def Ef (x:A × B × C × D × E × F × R):A × B × C:=match x with | (a,b,c,_)=>(a,b,c)
noncomputable def W2 (x:A × B × C × D × E × F × R):A × B:=match x with | (a,b,_)=>(a,b)
noncomputable def W3 (x:A × B × C × D × E × F × R):C:=match x with | (_,_,c,_)=>c
variable {o:Option S} {f:S->A × B × C × D × E × F × R}
theorem VF {a:A} {b:B} {c:C} (h:o.map (λs=>W2 (f s))=some (a,b)) (h':o.map (λs=>W3 (f s))=some c):o.map (λs=>Ef (f s))=some (a,b,c):=by
 cases o with
 | none=>cases h
 | some s =>have k1:((f s).1,(f s).2.1)=(a,b):=MB h;have k2:(f s).2.2.1=c:=MB h';cases k1;cases k2;rfl
noncomputable def W4 (x:A × B × C × D × E × F × R):D × E × R:=match x with | (_,_,_,d,e,_,r)=>(d,e,r)
noncomputable def W5 (x:A × B × C × D × E × F × R):F:=match x with | (_,_,_,_,_,f,_)=>f
theorem Ys {y:A × B × C × D × E × F × R} {st:S->Bool} {ob:S->V} {v:V} (h1:o.map (λs=>Ef (f s))=some (y.1,y.2.1,y.2.2.1)) (h2:o.map (λs=>W4 (f s))=some (y.2.2.2.1,y.2.2.2.2.1,y.2.2.2.2.2.2))
  (h3:o.map (λs=>W5 (f s))=some y.2.2.2.2.2.1) (h4:o.map (λs=>(st s,ob s))=some (true,v)):o.map (λs=>((st s,f s),ob s))=some ((true,y),v):=by
 cases o with
 | none=>cases h1
 | some s =>have k1:((f s).1,(f s).2.1,(f s).2.2.1)=(y.1,y.2.1,y.2.2.1):=MB h1;have k2:((f s).2.2.2.1,(f s).2.2.2.2.1,(f s).2.2.2.2.2.2)=(y.2.2.2.1,y.2.2.2.2.1,y.2.2.2.2.2.2):=MB h2;have k3:(f s).2.2.2.2.2.1=y.2.2.2.2.2.1:=MB h3;have k4:(st s,ob s)=(true,v):=MB h4;have ef:f s=y:=OM (M5 (λz=>z.1) k1) (OM (M5 (λz=>z.2.1) k1) (OM (M5 (λz=>z.2.2) k1) (OM (M5 (λz=>z.1) k2) (OM (M5 (λz=>z.2.1) k2) (OM k3 (M5 (λz=>z.2.2) k2))))));have e1:st s=true:=M5 (λz=>z.1) k4;have e2:ob s=v:=M5 (λz=>z.2) k4;show some ((st s,f s),ob s)=some ((true,y),v);rw [e1,e2,ef]
end
end LT
namespace My
open PySem
noncomputable def top (i:Nat):Stmt:=PySem.Challenge.pw_piecelay_k21_sharing_refused.main.body.getD i (.Pass ⟨0,0,0,0⟩)
end My
namespace My
open PySem PySem.W PyProof.Rows
noncomputable abbrev lw:=PySem.Challenge.rw_piecelay_k21_sharing_refused
noncomputable abbrev lp:=lw.row.prog
theorem sd1:namesResolve lp=true:=by kernel_rfl
theorem sd2:(namesMeet lp lp.main.body λ_ n=>attrL n)=true:=by kernel_rfl
theorem sd3:looksOpen lp=true:=by unfold looksOpen;rw [sd1,sd2];kernel_rfl
theorem said:OpenLaw.wellSaid lw=true:=by unfold OpenLaw.wellSaid OpenRow.wellSaid OpenRow.partSaid;rw [sd3];kernel_rfl
end My
end
section
open PySem PySem.W PyProof.Rows
section
local macro_rules | `(tactic| o_head $H:term)=>`(tactic| (have ZA:=$H;assumption))
theorem My.k0 (h:PySem.Challenge.rw_piecelay_k21_sharing_refused.row.Holds):PySem.Challenge.rw_piecelay_k21_sharing_refused.row.Holds:=by
 k_head
end
namespace My
noncomputable def view:Program:={ PySem.Challenge.pw_piecelay_k21_sharing_refused with main:={ PySem.Challenge.pw_piecelay_k21_sharing_refused.main with body:=[top 1,top 2,top 3,top 4,top 5,top 6,top 7,top 8,top 9,top 10,top 11,top 12,top 13,top 14,top 15,top 17,top 18,top 19,top 20,top 22,top 23,top 24,top 25,top 26,top 27,top 28,top 29,top 30,top 32,top 33,top 34,top 36,top 37,top 38,top 39,top 40,top 41,top 42,top 43,top 44,top 45,top 46,top 47,top 48,top 49,top 50,top 51,top 52,top 53,top 54,top 55,top 56,top 57,top 58,top 60,top 61,top 62,top 63,top 64,top 65,top 66,top 67,top 68,top 69,top 70,top 71,top 72,top 73,top 74,top 76,top 77,top 78,top 79,top 80,top 81,top 82,top 83,top 85,top 86,top 87,top 88,top 89,top 90,top 91,top 92,top 93,top 94,top 96,top 97,top 98,top 99,top 100,top 101,top 102,top 103,top 104,top 105,top 106] } }
noncomputable abbrev WH:Program:=PySem.Challenge.pw_piecelay_k21_sharing_refused
noncomputable abbrev loose:List Str:=["MOST_IN_LEAF","TREES_IN_BRANCH","MARK_LENGTHS","FILLED_FROM","BASIC"]
noncomputable abbrev xt (s:Shared):Bool:=xlAt view [] s && recOk (RowW.records (OpenRow.toRowW (OpenLaw.row PySem.Challenge.rw_piecelay_k21_sharing_refused))) s
noncomputable abbrev kas:List Addr:=[2,3,15,22,23,24,25,28,35,36,37,40,47,48,49,52,59,60,61,64,71,72,73,76,83,84,85,88,95,96,97,100,107,108,109,112,119,120,121,124,131,132,133,136,143,144,145,148,155,156,157,160,167,168,169,172,179,181,182,184,185,186,187,188,191,198,200,201,203,204,205,206,207,210,212,213,215,216,217,219,220,222,223,224,227,228,229,230,231,233,234,236,237,238,240,241,243,244,245,248,249,250,252,253,255,256,257,259,260,262,263,264,265,266,267,268,269,270,271,272,273,274,275,276,277,278,279,280,281,282,284,285,287,288,289,290,291,292,293,294,295,296,297,298,299,300,301,302,303,304,305,306,307,308,309,310,311,312,313,314,315,316,317,318,319,320,321,322,323,324,325,326,327,328,329,330,331,332,334,335,337,338,339,342,343,344,346,347,349,350,351,354,355,356,359,360,361,363,364,366,367,368,370,371,373,374,375,378,379,380,382,383,385,386,387,390,391,392,394,395,397,398,399,401,402,404,405,406,408,409,411,412,413,415,416,418,419,420,422,423,425,426,427,428,429,431,432,434,435,436,438,439,441,442,443,445,446,448,449,450,452,453,455,456,457,460,461,462,464,465,467,468,469,471,472,474,475,476,479,480,481,483,484,486,487,488,490,491,493,494,495,497,498,500,501,502,505,506,507,510,511,512,514,515,517,518,519,521,522,524,525,526,528,529,531,532,533,535,536,538,539,540,543,544,545,547,548,550,551,552,554,555,557,558,559,562,563,564,567,568,569,571,572,574,575,576,578,579,581,582,583,585,586,588,589,590,592,593,595,596,597,599,600,602,603,621,623,624,626,627,628,630,631,633,634,635,637,638,640,641,642,644,645,647,648,649,651,652,654,655,656,659,660]
theorem kas_ok:∀ P,kas=(My.k0.heap_1 P).map (·.1):=λ_=>by kernel_rfl
noncomputable abbrev hk:Hook:=kHook My.k0.heap_1 kas kas_ok
noncomputable abbrev NN:Nat:=9000
noncomputable abbrev wo (w:World) (os:OsState):=LT.W0 WH w 11 (some (.ref 6)) NN (LT.boot w.params os) (topStub WH)
noncomputable abbrev iY (P:Params) (s:SharedT):Bool:=staticsOk (Fast.tw5923862056798008813 WH.main.body) (boot_heap P) s.abs.heap && namesBound WH s.abs.heap && gensDone s.abs && laidKept (boot_heap P) s.abs.heap
noncomputable abbrev zW (s:SharedT):=Fast.tw4187177175401517315 view loose (Fast.tw5923862056798008813 WH.main.body) xt true s.abs
noncomputable abbrev pS:=openGood view loose
noncomputable abbrev xG (w:World) (os:OsState):Prop:=(wo w os).map (λs=>LT.W2 (zW s))=some (pS.1,pS.2.1)
noncomputable abbrev xH (w:World) (os:OsState):Prop:=(wo w os).map (λs=>LT.W3 (zW s))=some pS.2.2.1
noncomputable abbrev xD (w:World) (os:OsState):Prop:=(wo w os).map (λs=>LT.W4 (zW s))=some (pS.2.2.2.1,pS.2.2.2.2.1,pS.2.2.2.2.2.2)
noncomputable abbrev xE (w:World) (os:OsState):Prop:=(wo w os).map (λs=>LT.W5 (zW s))=some pS.2.2.2.2.2.1
noncomputable abbrev xF (w:World) (os:OsState):Prop:=(wo w os).map (λs=>(iY w.params s,Hook.obs hk s.abs))=some (true,Hook.val hk w)
set_option maxHeartbeats 0 in
theorem ra5:∀ (w:World) (os:OsState),xG (w.withFollow "special-get-raises" false) os:=λw os=>by unfold xG;kernel_rfl
set_option maxHeartbeats 0 in
theorem rb5:∀ (w:World) (os:OsState),xG (w.withFollow "special-get-raises" true) os:=λw os=>by unfold xG;kernel_rfl
set_option maxHeartbeats 0 in
theorem ra6:∀ (w:World) (os:OsState),xH (w.withFollow "special-get-raises" false) os:=λw os=>by unfold xH;kernel_rfl
set_option maxHeartbeats 0 in
theorem rb6:∀ (w:World) (os:OsState),xH (w.withFollow "special-get-raises" true) os:=λw os=>by unfold xH;kernel_rfl
set_option maxHeartbeats 0 in
theorem ra2:∀ (w:World) (os:OsState),xD (w.withFollow "special-get-raises" false) os:=λw os=>by unfold xD;kernel_rfl
set_option maxHeartbeats 0 in
theorem rb2:∀ (w:World) (os:OsState),xD (w.withFollow "special-get-raises" true) os:=λw os=>by unfold xD;kernel_rfl
set_option maxHeartbeats 0 in
theorem ra3:∀ (w:World) (os:OsState),xE (w.withFollow "special-get-raises" false) os:=λw os=>by unfold xE;kernel_rfl
set_option maxHeartbeats 0 in
theorem rb3:∀ (w:World) (os:OsState),xE (w.withFollow "special-get-raises" true) os:=λw os=>by unfold xE;kernel_rfl
set_option maxHeartbeats 0 in
theorem ra4:∀ (w:World) (os:OsState),xF (w.withFollow "special-get-raises" false) os:=λw os=>by unfold xF;kernel_rfl
set_option maxHeartbeats 0 in
theorem rb4:∀ (w:World) (os:OsState),xF (w.withFollow "special-get-raises" true) os:=λw os=>by unfold xF;kernel_rfl
theorem left:LeftO WH view loose xt (Hook.obs hk) (Hook.val hk) NN :=
 LT.left (by rfl) (by decide) (λs=>by rfl) λw os=>LT.Ys (LT.VF (byRow2 "special-get-raises" (P:=λw=>xG w os) (λw=>ra5 w os) (λw=>rb5 w os) w) (byRow2 "special-get-raises" (P:=λw=>xH w os) (λw=>ra6 w os) (λw=>rb6 w os) w)) (byRow2 "special-get-raises" (P:=λw=>xD w os) (λw=>ra2 w os) (λw=>rb2 w os) w) (byRow2 "special-get-raises" (P:=λw=>xE w os) (λw=>ra3 w os) (λw=>rb3 w os) w) (byRow2 "special-get-raises" (P:=λw=>xF w os) (λw=>ra4 w os) (λw=>rb4 w os) w)
end My
end
section
namespace L2
open PySem PySem.Spec PyProof.Rows
noncomputable abbrev Key:=Sum Int Str
noncomputable def lM:Key->Value->Bool
 | .inl k,v=>Value.isInt k v
 | .inr x,v=>Value.isStrOf x v
noncomputable def Fz (w:World):Key->Int
 | .inl k=>hashInt k
 | .inr x=>hashStr w x
theorem bQ:∀ {k:Key} {v:Value},lM k v=true->(∃ i t,k=Sum.inl i/\v=Value.int i t)\/(∃ x t,k=Sum.inr x/\v=Value.str x t)
 | .inl i,v,h=>by obtain ⟨t,e⟩:=Value.isInt_shape (k:=i) (v:=v) h;exact .inl ⟨i,t,rfl,e⟩
 | .inr x,v,h=>by obtain ⟨t,e⟩:=Value.isStrOf_shape (x:=x) (v:=v) h;exact .inr ⟨x,t,rfl,e⟩
theorem t8 (i:Int) (t:Tok):lM (.inl i) (.int i t)=true:=by simp [lM,Value.isInt]
theorem t9 (x:Str) (t:Tok):lM (.inr x) (.str x t)=true:=by simp [lM,Value.isStrOf]
theorem B0 (a b:Int):decide ((Sum.inl a:Key)=Sum.inl b)=(a == b):=by
 by_cases e:a=b
 ·subst e;simp
 ·have h:¬ (Sum.inl a:Key)=Sum.inl b:=λq=>e (Sum.inl.inj q);rw [M4 h];exact (O3.mpr e).symm
theorem B3 (a b:Str):decide ((Sum.inr a:Key)=Sum.inr b)=decide (a=b):=by
 by_cases e:a=b
 ·subst e;simp
 ·have h:¬ (Sum.inr a:Key)=Sum.inr b:=λq=>e (Sum.inr.inj q);rw [M4 h,M4 e]
theorem B1 (a:Int) (b:Str):decide ((Sum.inl a:Key)=Sum.inr b)=false:=M4 (λq=>nomatch q)
theorem B2 (a:Str) (b:Int):decide ((Sum.inr a:Key)=Sum.inl b)=false:=M4 (λq=>nomatch q)
noncomputable def b9 (prog:Program) (w:World):PySem.KeyKind prog w Key where
 is:=lM
 hash:=Fz w
 inj:=λv a b ha hb=>by
  rcases bQ ha with ⟨i,t,rfl,rfl⟩ | ⟨x,t,rfl,rfl⟩
  ·rcases bQ hb with ⟨j,u,rfl,e⟩ | ⟨y,u,rfl,e⟩
   ·injection e with e1 _;rw [e1]
   ·exact nomatch e
  ·rcases bQ hb with ⟨j,u,rfl,e⟩ | ⟨y,u,rfl,e⟩
   ·exact nomatch e
   ·injection e with e1 _;rw [e1]
 byValue:=λk v h=>by rcases bQ h with ⟨i,t,rfl,rfl⟩ | ⟨x,t,rfl,rfl⟩ <;> rfl
 pyHash:=λhv h=>by
  rcases bQ hv with ⟨i,t,rfl,rfl⟩ | ⟨x,t,rfl,rfl⟩
  ·exact wpAny_pyHash_int h
  ·exact wpAny_pyHash_str h
 eqBool:=λhu hv h=>by
  rcases bQ hu with ⟨i,t,rfl,rfl⟩ | ⟨x,t,rfl,rfl⟩
  ·rcases bQ hv with ⟨j,u,rfl,rfl⟩ | ⟨y,u,rfl,rfl⟩
   ·rw [B0] at h;exact wpAny_eqBool_int h
   ·rw [B1] at h;exact O8 i t y u _ _ _ _ h
  ·rcases bQ hv with ⟨j,u,rfl,rfl⟩ | ⟨y,u,rfl,rfl⟩
   ·rw [B2] at h;exact O9 x t j u _ _ _ _ h
   ·rw [B3] at h;exact wpAny_eqBool_str h
 «strs»:=λk x t v h=>by
  rcases bQ h with ⟨i,u,rfl,e⟩ | ⟨y,u,rfl,e⟩
  ·exact nomatch e
  ·injection e with e1 _;subst e1;cases v <;> rfl
theorem oF (prog:Program) (w:World) (i:Int) (t:Tok):(b9 prog w).is (.inl i) (.int i t)=true:=t8 i t
theorem oG (prog:Program) (w:World) (x:Str) (t:Tok):(b9 prog w).is (.inr x) (.str x t)=true:=t9 x t
inductive V where
 | PJ | bl (b:Bool) | int (i:Int) | str (x:Str) | U3 (b:Array UInt8) | XT (b:UInt64) | ref (a:Addr) | ty (n:String)
 deriving DecidableEq
noncomputable def RelV:V->Value->Prop
 | .PJ,u=>u=Value.none
 | .bl b,u=>u=Value.bool b
 | .int i,u=>∃ t,u=Value.int i t
 | .str x,u=>∃ t,u=Value.str x t
 | .U3 b,u=>∃ t,u=Value.bytes b t
 | .XT b,u=>∃ t,u=Value.float b t
 | .ref a,u=>u=Value.ref a
 | .ty n,u=>u=Value.type n
noncomputable abbrev Vals:List V->List Value->Prop:=Paired RelV
variable {us:List Value}
theorem Vals.length {xs:List V} (r:Vals xs us):xs.length=us.length:=Paired.length r
theorem Vals.get:∀ {xs:List V} {us:List Value} {i:Nat} {x:V},Vals xs us->xs[i]?=some x->∃ u,us[i]?=some u/\RelV x u
 | _,_,_,_,.nil,e=>by simp at e
 | _,_,0,_,.cons r _,e=>by simp at e;subst e;exact ⟨_,rfl,r⟩
 | _,_,i+1,x,.cons _ t,e=>by obtain ⟨u,h1,h2⟩:=Vals.get (i:=i) (x:=x) t (by simpa using e);exact ⟨u,by simpa using h1,h2⟩
variable {u:Value}
theorem Vals.set {x:V} (r:RelV x u):∀ {xs:List V} {us:List Value} (i:Nat),Vals xs us->Vals (xs.set i x) (us.set i u)
 | _,_,_,.nil=>.nil
 | _,_,0,.cons _ t=>.cons r t
 | _,_,i+1,.cons q t=>.cons q (Vals.set r i t)
theorem Vals.append:∀ {xs ys:List V} {us ws:List Value},Vals xs us->Vals ys ws->Vals (xs++ys) (us++ws)
 | _,_,_,_,.nil,s=>s
 | _,_,_,_,.cons r t,s=>.cons r (Vals.append t s)
theorem Vals.take:∀ {xs:List V} {us:List Value} (n:Nat),Vals xs us->Vals (xs.take n) (us.take n)
 | _,_,0,_=>.nil
 | _,_,_+1,.nil=>.nil
 | _,_,n+1,.cons r t=>.cons r (Vals.take n t)
theorem Vals.drop:∀ {xs:List V} {us:List Value} (n:Nat),Vals xs us->Vals (xs.drop n) (us.drop n)
 | _,_,0,r=>r
 | _,_,_+1,.nil=>.nil
 | _,_,n+1,.cons _ t=>Vals.drop n t
noncomputable def T7:Option V->Option Value->Prop
 | some v,some u=>RelV v u
 | none,none=>True
 | _,_=>False
noncomputable def KV {κ:Type}:List (κ × V)->List (κ × Value)->Prop:=Paired λ(p:κ × V) (q:κ × Value)=>p.1=q.1/\RelV p.2 q.2
noncomputable def kV:Key->V
 | .inl i=>.int i
 | .inr x=>.str x
inductive HO where
 | lst (xs:List V)
 | tup (xs:List V)
 | dK (kvs:List (Key × V)) | dT (kvs:List (List Key × V))
 | set (S:Int->Bool) (n:Nat)
 | ins (C dx:Addr) (fs:List (Str × V))
 | own (x:Addr)
 | xd (fs:List (Str × V))
 | met (f x:Addr)
 | R5 (lo hi:Int)
 | U4 (o:Obj) (u:HO)
 | VT (ps:Array Value)
 | ext (φ:Heap->Prop)
noncomputable abbrev Hp:=Addr->Option HO
noncomputable def upd (H:Hp) (a:Addr) (o:HO):Hp:=λb=>if b=a then some o else H b
variable {H:Hp} {a:Addr} {o:HO}
theorem aF:upd H a o a=some o:=by unfold upd;rw [MF rfl]
theorem aE {b:Addr} (h:b≠a):upd H a o b=H b:=by unfold upd;rw [Mz h]
theorem oJ {b:Addr} {u:HO} (h:H a=some o) (h':H b=some u) (d:o≠u):a≠b:=by intro e;subst e;rw [h] at h';exact d (MB h')
theorem aV {b:Addr} (h:H a=some o) (h':H b=none):a≠b:=by intro e;subst e;rw [h] at h';cases h'
section
variable (P:Program) (w:World)
noncomputable def P1 (H:Hp) (h:Heap) (a:Addr):HO->Prop
 | .lst xs=>xs.length<=sizeLine/\∃ (its:List Value) (n:Nat),Vals xs its/\h.get? a=some { cls:=.type "list",data:=.seq its.toArray n }
 | .tup xs=>xs.length<=sizeLine/\∃ its:List Value,Vals xs its/\IsTup h a its.toArray
 | .dK kvs=>kvs.length<=sizeLine/\(a == sysModules)=false/\∃ vs,KV kvs vs/\h.DictOf (b9 P w) a vs
 | .dT kvs=>kvs.length<=sizeLine/\(a == sysModules)=false/\∃ xs:List (List Key × Addr × Value),
   Paired (λ(p:List Key × V) (q:List Key × Addr × Value)=>p.1=q.1/\H q.2.1=some (.tup (p.1.map kV))/\RelV p.2 q.2.2) kvs xs /\
   ∃ o es ep,h.get? a=some o/\o.ExactDict/\o.data=.dict es ep/\es.toList=xs.map (entryOfKey (tupleKind (b9 P w)))/\(xs.map (·.1)).Nodup
 | .set S n=>h.SetOf (intKind P w) a S n
 | .ins C dx fs=>H dx=some (.own a)/\fs.length<=1000/\dx≠a/\h.get? a=some (W.instObj C dx) /\
   ∃ mA,h.Ns1 dx mA/\(∀ f,T7 (fs.lookup f) (mA f))/\PySem.Within mA (fs.map (·.1))
 | .own _=>∃ o,h.get? a=some o
 | .xd fs=>∃ mA,h.Ns1 a mA/\∀ f,T7 (fs.lookup f) (mA f)
 | .R5 lo hi=>∃ t u v,h.get? a=some { cls:=.type "range",data:=.fields #[.int lo t,.int hi u,.int 1 v] }
 | .U4 o u=>h.get? a=some o/\P1 H h a u
 | .VT ps=>h.get? a=some { cls:=.none,data:=.fields ps }
 | .met f x=>h.get? a=some (W.methodObj (.ref f) (.ref x))
 | .ext φ=>φ h/\(∃ o,h.get? a=some o)/\∀ h1 h2:Heap,φ h1->(∀ o,h1.get? a=some o->h2.get? a=some o)->φ h2
noncomputable def QM (H:Hp) (h:Heap):Prop:=∀ a o,H a=some o->P1 P w H h a o
end
section
variable {P:Program} {w:World} {H H':Hp} {h h':Heap} {a:Addr} {o:HO}
theorem P1.lt (x:P1 P w H h a o):a < h.objs.size:=by
 cases o with
 | lst xs=>obtain ⟨_,_,_,_,e⟩:=x;exact Mr e
 | tup xs=>obtain ⟨_,_,_,p⟩:=x;exact p.lt
 | dK kvs=>obtain ⟨_,_,_,_,o,_,_,e,_⟩:=x;exact Mr e
 | dT kvs=>obtain ⟨_,_,_,_,o,_,_,e,_⟩:=x;exact Mr e
 | set S n=>obtain ⟨o,_,_,_,e,_⟩:=x;exact Mr e
 | ins C dx fs=>obtain ⟨_,_,_,e,_⟩:=x;exact Mr e
 | own y=>obtain ⟨_,e⟩:=x;exact Mr e
 | xd fs=>obtain ⟨_,⟨_,_,_,e,_⟩,_⟩:=x;exact Mr e
 | R5 lo hi=>obtain ⟨_,_,_,e⟩:=x;exact Mr e
 | U4 ob u=>obtain ⟨e,_⟩:=x;exact Mr e
 | VT ps=>exact Mr (show h.get? a=some _ from x)
 | met f y=>exact Mr (show h.get? a=some _ from x)
 | ext φ=>obtain ⟨_,⟨_,e⟩,_⟩:=x;exact Mr e
theorem Paired.W6 {α β:Type} {F G:α->β->Prop}:∀ {l₁:List α} {l₂:List β},Paired F l₁ l₂->(∀ a b,F a b->G a b)->Paired G l₁ l₂
 | _,_,.nil,_=>.nil
 | _,_,.cons r t,f=>.cons (f _ _ r) (Paired.W6 t f)
theorem P1.stay (x:P1 P w H h a o) (k:∀ b u,(b=a\/H b=some (.own a))->h.get? b=some u->h'.get? b=some u)
  (ho:∀ b,H b=some (.own a)->H' b=some (.own a)) (ht:∀ b xs,H b=some (.tup xs)->H' b=some (.tup xs)):P1 P w H' h' a o:=by
 induction o with
 | lst xs=>obtain ⟨z,its,n,r,e⟩:=x;exact ⟨z,its,n,r,k _ _ (.inl rfl) e⟩
 | tup xs=>obtain ⟨z,its,r,ob,e,c⟩:=x;exact ⟨z,its,r,ob,k _ _ (.inl rfl) e,c⟩
 | dK kvs=>obtain ⟨z,y,vs,r,ob,es,ep,e,c⟩:=x;exact ⟨z,y,vs,r,ob,es,ep,k _ _ (.inl rfl) e,c⟩
 | dT kvs =>obtain ⟨z,y,xs,r,ob,es,ep,e,c⟩:=x;exact ⟨z,y,xs,Paired.W6 r λp q z=>⟨z.1,ht _ _ z.2.1,z.2.2⟩,ob,es,ep,k _ _ (.inl rfl) e,c⟩
 | set S n=>obtain ⟨ob,es,ep,t,e,c⟩:=x;exact ⟨ob,es,ep,t,k _ _ (.inl rfl) e,c⟩
 | ins C dx fs =>obtain ⟨d,z,ne,e,mA,⟨od,es,ep,e2,c⟩,r⟩:=x;exact ⟨ho _ d,z,ne,k _ _ (.inl rfl) e,mA,⟨od,es,ep,k _ _ (.inr d) e2,c⟩,r⟩
 | own y=>obtain ⟨ob,e⟩:=x;exact ⟨ob,k _ _ (.inl rfl) e⟩
 | xd fs=>obtain ⟨mA,⟨od,es,ep,e,c⟩,r⟩:=x;exact ⟨mA,⟨od,es,ep,k _ _ (.inl rfl) e,c⟩,r⟩
 | R5 lo hi=>obtain ⟨t,u,v,e⟩:=x;exact ⟨t,u,v,k _ _ (.inl rfl) e⟩
 | U4 ob u ih=>obtain ⟨e,q⟩:=x;exact ⟨k _ _ (.inl rfl) e,ih q⟩
 | VT ps =>have e:h.get? a=some { cls:=.none,data:=.fields ps }:=x;show h'.get? a=some { cls:=.none,data:=.fields ps };exact k a _ (.inl rfl) e
 | met f y =>have e:h.get? a=some (W.methodObj (.ref f) (.ref y)):=x;show h'.get? a=some (W.methodObj (.ref f) (.ref y));exact k a _ (.inl rfl) e
 | ext φ=>obtain ⟨p,⟨o,e⟩,st⟩:=x;exact ⟨st _ _ p λo q=>k _ _ (.inl rfl) q,⟨o,k _ _ (.inl rfl) e⟩,st⟩
theorem QM.lt (x:QM P w H h) (e:H a=some o):a < h.objs.size:=(x a o e).lt
theorem QM.fresh (x:QM P w H h) (e:h.objs.size<=a):H a=none:=by
 cases q:H a with
 | none=>rfl
 | some u=>exact absurd (Mw (x.lt q) e) (Nq _)
theorem QM.kept (x:QM P w H h) (k:∀ b u,h.get? b=some u->h'.get? b=some u):QM P w H h':=λa o e =>
 (x a o e).stay (λb u _ q=>k b u q) (λ_ q=>q) λ_ _ q=>q
theorem QM.laid (x:QM P w H h) (k:∀ b u,h.get? b=some u->h'.get? b=some u) (hp:h.objs.size<=a) (new:P1 P w (upd H a o) h' a o):QM P w (upd H a o) h':=λb u e=>by
 have hn:=x.fresh hp;by_cases hb:b=a
 ·subst hb;rw [aF] at e;cases e;exact new
 ·rw [aE hb] at e;exact (x b u e).stay (λc v _ q=>k c v q) (λc q=>by rw [aE (aV q hn)];exact q) λc xs q=>by rw [aE (aV q hn)];exact q
end
noncomputable def Rd (H:Hp) (a:Addr) (u:HO):Prop:=H a=some u\/∃ o,H a=some (.U4 o u)
variable {P:Program} {w:World}
theorem Rd.ok {h:Heap} {u:HO} (r:Rd H a u) (x:QM P w H h):P1 P w H h a u:=by
 rcases r with r | ⟨o,r⟩
 ·exact x a u r
 ·obtain ⟨_,q⟩:=x a _ r;exact q
noncomputable def W7:Option HO->Prop
 | some (.lst _)=>True
 | some (.dK _)=>True
 | some (.dT _)=>True
 | some (.set _ _)=>True
 | some (.ins _ _ _)=>True
 | some (.ext _)=>True
 | _=>False
section
variable {P:Program} {w:World} {H:Hp} {h h':Heap} {x e:Addr} {o':HO}
theorem QM.write (ok:QM P w H h) (mu:W7 (H x)) (he:e=x\/H e=some (.own x)) (k:∀ b u,b≠e->h.get? b=some u->h'.get? b=some u) (WI:∃ u,h'.get? e=some u)
  (new:P1 P w (upd H x o') h' x o'):QM P w (upd H x o') h':=λb u q=>by
 have W8:∀ c y,H c=some (.own y)->c≠x:=λc y r z=>by subst z;rw [r] at mu;exact mu
 have Yt:∀ c xs,H c=some (.tup xs)->c≠x:=λc xs r z=>by subst z;rw [r] at mu;exact mu
 by_cases hb:b=x
 ·subst hb;rw [aF] at q;cases q;exact new
 ·rw [aE hb] at q;by_cases V7:b=e
  ·have q':H b=some (.own x):=by
    rcases he with z | z
    ·exact absurd (V7.trans z) hb
    ·rw [V7];exact z
   rw [q] at q';cases q';obtain ⟨v,hv⟩:=WI;exact ⟨v,by rw [V7];exact hv⟩
  ·refine (ok b u q).stay (λc v hc r=>k c v ?_ r) (λc r=>by rw [aE (W8 c b r)];exact r) λc xs r=>by rw [aE (Yt c xs r)];exact r
   rcases hc with rfl | hc
   ·exact V7
   ·rintro rfl;rcases he with z | z
    ·exact W8 c b hc z
    ·rw [hc] at z;cases z;exact hb rfl
end
structure Un (fs ex:List Addr) (H H':Hp) (h h':Heap):Prop where
 keep:∀ b o,h.get? b=some o->H b=none->b ∉ fs->b ∉ ex->h'.get? b=some o
 slot:∀ b o,h.get? b=some o->H b=none->b ∈ fs->b ∉ ex->∃ sl,h'.get? b=some { o with slots:=sl }
 free:∀ b o,h.get? b=some o->H b=none->b ∉ ex->H' b=none
 there:∀ b o,h.get? b=some o->b ∉ ex->∃ o',h'.get? b=some o'
 tups:∀ b xs,H b=some (.tup xs)->H' b=some (.tup xs)
 R6:∀ b o u,H b=some (.U4 o u)->H' b=some (.U4 o u)
 Sk:∀ b ps,H b=some (.VT ps)->∃ more,H' b=some (.VT (ps++more))
section
variable {fs fs' ex ex':List Addr} {H H1 H2:Hp} {h h1 h2 h':Heap} {a x e:Addr} {o:HO}
theorem Un.any (u:Un fs ex H H1 h h1) {b:Addr} {ob:Obj} (q:h.get? b=some ob) (n:H b=none) (hx:b ∉ ex):∃ sl,h1.get? b=some { ob with slots:=sl }:=by
 by_cases hb:b ∈ fs
 ·exact u.slot b ob q n hb hx
 ·exact ⟨ob.slots,u.keep b ob q n hb hx⟩
theorem Un.kept (k:∀ b u,h.get? b=some u->h'.get? b=some u):Un fs ex H H h h' :=
 ⟨λb ob q _ _ _=>k b ob q,λb ob q _ _ _=>⟨ob.slots,k b ob q⟩,λ_ _ _ n _=>n,λb ob q _=>⟨ob,k b ob q⟩,λ_ _ q=>q,λ_ _ _ q=>q,λ_ ps q=>⟨#[],by rw [q];simp⟩⟩
theorem Un.refl:Un fs ex H H h h:=Un.kept λ_ _ q=>q
theorem Un.laid (k:∀ b u,h.get? b=some u->h'.get? b=some u) (hp:h.objs.size<=a) (hn:H a=none):Un fs ex H (upd H a o) h h' where
 keep:=λb u q _ _ _=>k b u q
 slot:=λb u q _ _ _=>⟨u.slots,k b u q⟩
 free:=λb u q n _=>by rw [aE (Mv (Mw (Mr q) hp))];exact n
 there:=λb u q _=>⟨u,k b u q⟩
 tups:=λb xs q=>by rw [aE (aV q hn)];exact q
 R6:=λb u xs q=>by rw [aE (aV q hn)];exact q
 Sk:=λb ps q=>⟨#[],by rw [aE (aV q hn),q];simp⟩
theorem Un.write (mu:W7 (H x)) (he:e=x\/H e=some (.own x)) (k:∀ b u,b≠e->h.get? b=some u->h'.get? b=some u) (WI:∃ u,h'.get? e=some u):Un fs ex H (upd H x o) h h':=by
 have hx:∀ b,H b=none->b≠x:=λb n z=>by subst z;rw [n] at mu;exact mu
 have hb:∀ b,H b=none->b≠e:=λb n z=>by
  subst z;rcases he with r | r
  ·exact hx b n r
  ·rw [n] at r;cases r
 have hm:∀ b u,H b=some u->¬ W7 (some u)->b≠x:=λb u q nm z=>by subst z;rw [q] at mu;exact nm mu
 refine ⟨λb u q n _ _=>k b u (hb b n) q,λb u q n _ _=>⟨u.slots,k b u (hb b n) q⟩,λb u q n _=>by rw [aE (hx b n)];exact n,λb u q _=>?_,
  λb xs q=>by rw [aE (hm b _ q λz=>z)];exact q,λb u xs q=>by rw [aE (hm b _ q λz=>z)];exact q,λb ps q=>⟨#[],by rw [aE (hm b _ q λz=>z),q];simp⟩⟩
 by_cases V7:b=e
 ·subst V7;exact WI
 ·exact ⟨u,k b u V7 q⟩
end
noncomputable def XU (h:Heap) (H:Hp):List Addr:=(List.range h.objs.size).filter λa=>(H a).isSome
noncomputable def mG (h:Heap) (H:Hp):Heap:=W.hideAll h (XU h H)
theorem tY (h:Heap) (H:Hp):(mG h H).objs.size=h.objs.size:=W.hideAll_size _ _
theorem wt {h:Heap} {b:Addr} {o:Obj} (e:h.get? b=some o) (n:H b=none):(mG h H).get? b=some o :=
 Om _ e λhm=>by have q:(H b).isSome=true:=(List.mem_filter.mp hm).2;rw [n] at q;simp at q
theorem y7 {h:Heap} {b:Addr} {o:Obj} (e:(mG h H).get? b=some o):h.get? b=some o/\H b=none:=by
 have e':h.get? b=some o:=OT (XU h H) e;refine ⟨e',?_⟩
 cases q:H b with
 | none=>rfl
 | some x =>have hm:b ∈ XU h H:=List.mem_filter.mpr ⟨List.mem_range.mpr (Mr e'),by simp [q]⟩;have z:(mG h H).get? b=none:=NJ (XU h H) hm;rw [z] at e;cases e
structure Mod (K:W.Frag) (mg:Str->Option Value) (base:Heap):Prop where
 VG:K.In base
 glob:base.Ns mainGlobals mg
 blt:∃ mb,base.Ns builtinsNs mb/\∀ x:Str,x≠"__name__"->mb x=bootBuiltins x
 nolimit:base.NoLimit
structure Cx where
 prog:Program
 w:World
 K:W.Frag
 mg:Str->Option Value
 base:Heap
 A:Around
 N:List Str
 s₀:Shared
 H₀:Hp
 env:Env
 outer:List Env
 stack:List Env
 ex:List Addr
 fn:Str->Bool
 calm:Bool
 pn:List (Addr × Obj)
 xe:Value->Shared->Prop
noncomputable def frs (l:List Env):List Addr:=l.filterMap (·.frame)
noncomputable abbrev Cx.fs (X:Cx):List Addr:=frs X.outer
noncomputable def V8 (sc:Scope) (x:Str):Prop:=sc.names.lookup x=some .local\/sc.names.lookup x=some .cell\/sc.names.lookup x=some .free
noncomputable def Loc (sc:Scope) (x:Str):Prop:=sc.names.lookup x=some .local\/sc.names.lookup x=some .cell
noncomputable def E6 (env:Env) (h:Heap) (m:Str->Option Value) (x:Str) (u:Value):Prop :=
 (env.kindOf x=some .local/\m x=some u)\/((env.kindOf x=some .cell\/env.kindOf x=some .free)/\∃ c,env.cells.lookup x=some c/\h.IsCell c (some u))
structure Cx.Ok (X:Cx):Prop where
 mod:Mod X.K X.mg X.base
 kind:X.env.scope.kind=.function
 glob:X.env.globals=mainGlobals
 blt:X.env.builtins=builtinsNs
 above:X.s₀.heap.objs.size<=X.env.locals
 inj:∀ x y c,X.env.cells.lookup x=some c->X.env.cells.lookup y=some c->x=y
 has:∀ x,(X.env.kindOf x=some .cell\/X.env.kindOf x=some .free)->∃ c,X.env.cells.lookup x=some c
 VB:∀ x c,X.fn x=true->X.env.cells.lookup x=some c->X.s₀.heap.objs.size<=c
 hd:X.calm=true->X.A.handled=none
 frames:X.A.frames=some X.stack
 stk:X.stack=X.outer\/(X.stack=X.env::X.outer/\X.env.frame=some X.env.locals)
 W9:∀ b ∈ X.ex,b≠X.env.locals/\∀ x c,X.env.cells.lookup x=some c->c≠b
 bs:∀ b o,X.base.get? b=some o->X.s₀.heap.get? b=some o/\X.H₀ b=none
 UJ:X.base.objs.size<=X.s₀.heap.objs.size
 T8:∀ b o,X.base.get? b=some o->b ∉ X.ex
 Uo:∀ b ∈ X.ex,b ∉ X.fs
 Ro:X.s₀.heap.FunFrames X.base X.outer
 Vb:∀ b ∈ X.fs,X.H₀ b=none
structure Inv (X:Cx) (pins:List (Addr × Obj)) (σ:List (Option V)) (H:Hp) (s:Shared):Prop where
 ok:X.Ok
 os:s.os=X.s₀.os
 bare:AllBare s.gens
 base:Un X.fs X.ex X.H₀ H X.s₀.heap s.heap
 loc:∃ m,s.heap.Ns X.env.locals m/\∀ (i:Nat) (x:Str) (v:V),X.N[i]?=some x->σ[i]?=some (some v)->V8 X.env.scope x->∃ u,RelV v u/\E6 X.env s.heap m x u
 cell:∀ x c,X.env.cells.lookup x=some c->∃ v,s.heap.IsCell c v
 free:H X.env.locals=none
 Qx:∀ x c,X.env.cells.lookup x=some c->H c=none
 pin:∀ p ∈ X.pn++pins,s.heap.get? p.1=some p.2/\H p.1=none/\p.1≠X.env.locals/\p.1 ∉ X.fs/\∀ v,p.2.data≠.cell v
 hok:QM X.prog X.w H s.heap
 len:σ.length=X.N.length
section
variable {X:Cx} {pins:List (Addr × Obj)} {σ:List (Option V)} {H H':Hp} {s:Shared} {h':Heap}
theorem Cx.Ok.Yu (ok:X.Ok) {b:Addr} {o:Obj} (e:X.base.get? b=some o):b ∉ X.fs:=λhb=>by have:=(ok.Ro.mem hb).1;rw [e] at this;cases this
theorem Inv.bs (I:Inv X pins σ H s):∀ b o,X.base.get? b=some o->s.heap.get? b=some o/\H b=none:=λb o e =>
 ⟨I.base.keep b o (I.ok.bs b o e).1 (I.ok.bs b o e).2 (I.ok.Yu e) (I.ok.T8 b o e),I.base.free b o (I.ok.bs b o e).1 (I.ok.bs b o e).2 (I.ok.T8 b o e)⟩
theorem Inv.bk (I:Inv X pins σ H s):∀ b o,X.base.get? b=some o->s.heap.get? b=some o:=λb o e=>(I.bs b o e).1
theorem Inv.mod (I:Inv X pins σ H s):Mod X.K X.mg X.base:=I.ok.mod
theorem Inv.QK (I:Inv X pins σ H s):X.K.In s.heap:=I.ok.mod.VG.keeps I.bk
theorem Inv.lt (I:Inv X pins σ H s):X.env.locals < s.heap.objs.size:=let ⟨_,hn,_⟩:=I.loc;hn.lt
theorem Inv.sz (I:Inv X pins σ H s):X.s₀.heap.objs.size<=s.heap.objs.size:=MQ I.ok.above (NP I.lt)
variable {a:Addr}
theorem Inv.Yv (I:Inv X pins σ H s) (h:s.heap.objs.size<=a):a ∉ X.fs:=λhb=>by obtain ⟨_,o,ho,_⟩:=I.ok.Ro.mem hb;exact absurd (Mw (Mr ho) (MQ I.sz h)) (Nq _)
theorem Inv.Vc (I:Inv X pins σ H s):∀ x c,X.env.cells.lookup x=some c->c≠X.env.locals:=λx c e z=>by obtain ⟨v,o,ho,hd⟩:=I.cell x c e;obtain ⟨m,⟨o',es,ep,ho',hd',_⟩,_⟩:=I.loc;rw [z,ho'] at ho;cases ho;rw [hd'] at hd;cases hd
theorem Inv.Ro (I:Inv X pins σ H s):s.heap.FunFrames X.base X.outer:=by
 have all:∀ (l:List Env),(∀ b ∈ frs l,b ∈ X.fs)->X.s₀.heap.FunFrames X.base l->s.heap.FunFrames X.base l:=by
  intro l
  induction l with
  | nil=>intro _ _;trivial
  | cons env r ih =>intro hs hl;obtain ⟨hk,⟨L,o,hf,hn,ho,hd⟩,hr⟩:=hl;have hL:L ∈ X.fs:=hs L (by unfold frs;rw [O4,hf];exact MW);obtain ⟨sl,e⟩:=I.base.slot L o ho (I.ok.Vb L hL) hL λz=>I.ok.Uo L z hL;exact ⟨hk,⟨L,_,hf,hn,e,hd⟩,ih (λb hb=>hs b (by unfold frs;rw [O4,hf];exact MU _ hb)) hr⟩
 exact all X.outer (λ_ hb=>hb) I.ok.Ro
theorem Inv.stack (I:Inv X pins σ H s):s.heap.FunFrames X.base X.stack:=by
 rcases I.ok.stk with e | ⟨e,hf⟩
 ·rw [e];exact I.Ro
 ·rw [e];obtain ⟨m,hn,_⟩:=I.loc;refine .cons (by rw [I.ok.kind];decide) hf hn ?_ I.Ro;exact Heap.get?_none_of_le (MQ I.ok.UJ I.ok.above)
theorem Inv.Sx (I:Inv X pins σ H s):∀ b ∈ frs X.stack,b ∈ X.env.locals::X.fs:=λb hb=>by
 rcases I.ok.stk with e | ⟨e,hf⟩
 ·rw [e] at hb;exact MU _ hb
 ·rw [e] at hb;unfold frs at hb;rw [O4,hf] at hb;exact hb
theorem Inv.RH (I:Inv X pins σ H s):∀ b ∈ frs X.stack,H b=none:=λb hb=>by
 rcases MA.mp (I.Sx b hb) with e | hb
 ·rw [e];exact I.free
 ·obtain ⟨_,o,ho,_⟩:=I.ok.Ro.mem hb;exact I.base.free b o ho (I.ok.Vb b hb) λz=>I.ok.Uo b z hb
variable {g':Array GenState} {t':Nat} {d':Drawn} {ch:List Addr}
theorem Inv.step (I:Inv X pins σ H s)
  (hch:∀ b ∈ ch,(b ∈ X.ex\/X.s₀.heap.objs.size<=b)/\b≠X.env.locals/\(∀ x c,X.env.cells.lookup x=some c->c≠b)/\∀ p ∈ X.pn++pins,p.1≠b)
  (keep:∀ b o,b≠X.env.locals->b ∉ X.fs->b ∉ ch->s.heap.get? b=some o->H b=none->h'.get? b=some o)
  (slot:∀ b o,b≠X.env.locals->b ∈ X.fs->b ∉ ch->s.heap.get? b=some o->H b=none->∃ sl,h'.get? b=some { o with slots:=sl }) (free:∀ b o,b ∉ ch->s.heap.get? b=some o->H b=none->H' b=none)
  (there:∀ b o,b ∉ ch->s.heap.get? b=some o->∃ o',h'.get? b=some o')
  (tups:∀ b xs,H b=some (.tup xs)->H' b=some (.tup xs)) (R6:∀ b o u,H b=some (.U4 o u)->H' b=some (.U4 o u)) (Sk:∀ b ps,H b=some (.VT ps)->∃ more,H' b=some (.VT (ps++more)))
  (ns:∀ m,s.heap.Ns X.env.locals m->h'.Ns X.env.locals m) (hok:QM X.prog X.w H' h') (hg:AllBare g') :
  Inv X pins σ H' { s with heap:=h',gens:=g',drawn:=d',toks:=t' }:=by
 have WJ:∀ b o,X.s₀.heap.get? b=some o->b≠X.env.locals:=λb o e=>Mv (Mw (Mr e) I.ok.above)
 have XW:∀ b o,X.s₀.heap.get? b=some o->b ∉ X.ex->b ∉ ch:=λb o e hx hb=>by
  rcases (hch b hb).1 with z | z
  ·exact hx z
  ·exact absurd (Mw (Mr e) z) (Nq _)
 have cellK:∀ x c,X.env.cells.lookup x=some c->∀ v,s.heap.IsCell c v->h'.IsCell c v:=λx c e v ⟨o,ho,hd⟩=>by
  have Xa:c ∉ ch:=λz=>(hch c z).2.2.1 x c e rfl;by_cases hc:c ∈ X.fs
  ·obtain ⟨sl,q⟩:=slot c o (I.Vc x c e) hc Xa ho (I.Qx x c e);exact ⟨_,q,hd⟩
  ·exact ⟨o,keep c o (I.Vc x c e) hc Xa ho (I.Qx x c e),hd⟩
 refine ⟨I.ok,I.os,hg,⟨λb o e n hb hx=>?_,λb o e n hb hx=>?_,λb o e n hx=>?_,λb o e hx=>?_,λb xs e=>tups b xs (I.base.tups b xs e),λb o xs e=>R6 b o xs (I.base.R6 b o xs e),λb ps e=>?_⟩,?_,λx c e=>?_,?_,λx c e=>?_,λp hp=>?_,hok,I.len⟩
 ·exact keep b o (WJ b o e) hb (XW b o e hx) (I.base.keep b o e n hb hx) (I.base.free b o e n hx)
 ·obtain ⟨sl,e1⟩:=I.base.slot b o e n hb hx;obtain ⟨Yw,e2⟩:=slot b _ (WJ b o e) hb (XW b o e hx) e1 (I.base.free b o e n hx);exact ⟨Yw,e2⟩
 ·obtain ⟨o',e1⟩:=I.base.there b o e hx;exact free b o' (XW b o e hx) e1 (I.base.free b o e n hx)
 ·obtain ⟨o',e1⟩:=I.base.there b o e hx;exact there b o' (XW b o e hx) e1
 ·obtain ⟨m1,e1⟩:=I.base.Sk b ps e;obtain ⟨m2,e2⟩:=Sk b _ e1;exact ⟨m1++m2,by rw [e2,Array.append_assoc]⟩
 ·obtain ⟨m,hn,hl⟩:=I.loc;refine ⟨m,ns m hn,λi x v e1 e2 e3=>?_⟩;obtain ⟨u,r,l⟩:=hl i x v e1 e2 e3;refine ⟨u,r,?_⟩;rcases l with l | ⟨k,c,e,z⟩
  ·exact .inl l
  ·exact .inr ⟨k,c,e,cellK x c e _ z⟩
 ·obtain ⟨v,z⟩:=I.cell x c e;exact ⟨v,cellK x c e v z⟩
 ·obtain ⟨m,⟨o,_,_,ho,_⟩,_⟩:=I.loc;exact free _ o (λz=>(hch _ z).2.1 rfl) ho I.free
 ·obtain ⟨v,o,ho,hd⟩:=I.cell x c e;exact free c o (λz=>(hch c z).2.2.1 x c e rfl) ho (I.Qx x c e)
 ·obtain ⟨e,n,ne,nf,d⟩:=I.pin p hp;have Xa:p.1 ∉ ch:=λz=>(hch p.1 z).2.2.2 p hp rfl;exact ⟨keep p.1 p.2 ne nf Xa e n,free p.1 p.2 Xa e n,ne,nf,d⟩
theorem Inv.un (I:Inv X pins σ H s) (u:Un X.fs [] H H' s.heap h') (hok:QM X.prog X.w H' h'):Inv X pins σ H' { s with heap:=h',toks:=t' }:=by
 obtain ⟨m,⟨o,es,ep,ho,r⟩,_⟩:=id I.loc;obtain ⟨sl,hL⟩:=u.any ho I.free (by simp)
 exact I.step (g':=s.gens) (d':=s.drawn) (ch:=[]) (λ_ z=>nomatch z) (λb o _ hb _ e n=>u.keep b o e n hb (by simp)) (λb o _ hb _ e n=>u.slot b o e n hb (by simp)) (λb o _ e n=>u.free b o e n (by simp)) (λb o _ e=>u.there b o e (by simp)) u.tups u.R6 u.Sk (λm' hm=>by
  obtain ⟨o',es',Yx,ho',r'⟩:=hm;rw [ho] at ho';cases ho';exact ⟨_,es',Yx,hL,r'⟩) hok I.bare
theorem Inv.call (I:Inv X pins σ H s) (u:Un (frs X.stack) ch H H' s.heap h') (hok:QM X.prog X.w H' h') (hg:AllBare g')
  (hch:∀ b ∈ ch,(b ∈ X.ex\/X.s₀.heap.objs.size<=b)/\b≠X.env.locals/\(∀ x c,X.env.cells.lookup x=some c->c≠b)/\∀ p ∈ X.pn++pins,p.1≠b) :
  Inv X pins σ H' { s with heap:=h',gens:=g',drawn:=d',toks:=t' }:=by
 obtain ⟨m,⟨o,es,ep,ho,r⟩,_⟩:=id I.loc;obtain ⟨sl,hL⟩:=u.any ho I.free λz=>(hch _ z).2.1 rfl
 exact I.step (ch:=ch) hch (λb o hL hb hc e n=>u.keep b o e n (λz=>(MA.mp (I.Sx b z)).elim hL hb) hc) (λb o _ _ hc e n=>u.any e n hc) (λb o hc e n=>u.free b o e n hc) (λb o hc e=>u.there b o e hc) u.tups u.R6 u.Sk (λm' hm=>by
  obtain ⟨o',es',Yx,ho',r'⟩:=hm;rw [ho] at ho';cases ho';exact ⟨_,es',Yx,hL,r'⟩) hok hg
theorem Inv.turned {it:Addr} (I:Inv X pins σ H s) (k:∀ b o,b≠it->s.heap.get? b=some o->h'.get? b=some o) (hn:H it=none) (hL:it≠X.env.locals)
  (h1:it ∈ X.ex\/X.s₀.heap.objs.size<=it) (h2:∀ x c,X.env.cells.lookup x=some c->c≠it) (h3:∀ p ∈ X.pn++pins,p.1≠it):Inv X pins σ H { s with heap:=h',toks:=t' }:=by
 have ZC:∀ b u,H b=some u->b≠it:=λb u e z=>by rw [z,hn] at e;cases e
 refine I.step (g':=s.gens) (d':=s.drawn) (ch:=[it]) (λb hb=>?_) (λb o _ _ hc e _=>k b o (λz=>hc (by simp [z])) e) (λb o _ _ hc e _=>⟨o.slots,k b o (λz=>hc (by simp [z])) e⟩) (λ_ _ _ _ n=>n)
  (λb o hc e=>⟨o,k b o (λz=>hc (by simp [z])) e⟩) (λ_ _ e=>e) (λ_ _ _ e=>e) (λb ps e=>⟨#[],by rw [e];simp⟩) (λm hm=>?_) (λb u e=>?_) I.bare
 ·have e:b=it:=by simpa using hb
  subst e;exact ⟨h1,hL,h2,h3⟩
 ·obtain ⟨o,es,ep,ho,r⟩:=hm;exact ⟨o,es,ep,k _ o (MD hL) ho,r⟩
 ·refine (I.hok b u e).stay (λc v hc q=>k c v ?_ q) (λ_ q=>q) λ_ _ q=>q;rcases hc with z | z
  ·rw [z];exact ZC b u e
  ·exact ZC c _ z
theorem Inv.tok (I:Inv X pins σ H s) (t:Nat):Inv X pins σ H { s with toks:=t }:=I.un (h':=s.heap) (t':=t) Un.refl I.hok
theorem Inv.kept (I:Inv X pins σ H s) (k:∀ b u,s.heap.get? b=some u->h'.get? b=some u):Inv X pins σ H { s with heap:=h',toks:=t' }:=I.un (Un.kept k) (I.hok.kept k)
variable {o:HO}
theorem Inv.laid (I:Inv X pins σ H s) (k:∀ b u,s.heap.get? b=some u->h'.get? b=some u) (hp:s.heap.objs.size<=a) (new:P1 X.prog X.w (upd H a o) h' a o) :
  Inv X pins σ (upd H a o) { s with heap:=h',toks:=t' }:=I.un (Un.laid k hp (I.hok.fresh hp)) (I.hok.laid k hp new)
theorem Inv.write {x e:Addr} (I:Inv X pins σ H s) (mu:W7 (H x)) (he:e=x\/H e=some (.own x)) (k:∀ b u,b≠e->s.heap.get? b=some u->h'.get? b=some u) (WI:∃ u,h'.get? e=some u)
  (new:P1 X.prog X.w (upd H x o) h' x o):Inv X pins σ (upd H x o) { s with heap:=h',toks:=t' }:=I.un (Un.write mu he k WI) (I.hok.write mu he k WI new)
theorem Inv.UA {QN:List (Addr × Obj)} (I:Inv X pins σ H s) (h:∀ p ∈ QN,s.heap.get? p.1=some p.2/\H p.1=none/\p.1≠X.env.locals/\p.1 ∉ X.fs/\∀ v,p.2.data≠.cell v):Inv X QN σ H s :=
 ⟨I.ok,I.os,I.bare,I.base,I.loc,I.cell,I.free,I.Qx,λp hp=>(Nc.mp hp).elim (λz=>I.pin p (Og _ z)) (h p),I.hok,I.len⟩
variable {i:Nat}
theorem kh {N:List Str} (hN:N.Nodup) {j:Nat} {x:Str} (a:N[i]?=some x) (b:N[j]?=some x):i=j:=by obtain ⟨h1,e1⟩:=Mk.mp a;obtain ⟨h2,e2⟩:=Mk.mp b;exact (List.getElem_inj hN).mp (e1.trans e2.symm)
variable {M:Model} {v:V} {u:Value}
theorem iZ {A:Around} {E:Value->Shared->Prop} {x:Str} {Q:Unit->Shared->Prop} (I:Inv X pins σ H s) (hN:X.N.Nodup) (hi:X.N[i]?=some x) (hx:Loc X.env.scope x) (r:RelV v u)
  (h:∀ s',Inv X pins (σ.set i (some v)) H s'->(∃ a,Heap.SameBut a s.heap s'.heap/\(a=X.env.locals\/X.env.cells.lookup x=some a))->Q () s') (hf:X.fn x=true\/X.env.scope.names.lookup x=some .local:=by first | exact .inl rfl | exact .inr rfl | assumption):wpAny M A (storeName X.env x u) Q E s:=by
 obtain ⟨m,hn,hl⟩:=id I.loc;have hcls:(X.env.scope.kind == .class || (X.env.scope.kind == .module && X.env.locals != X.env.globals))=false:=by rw [I.ok.kind];rfl
 have hiσ:i < σ.length:=by rw [I.len];exact (Mk.mp hi).1
 have Vc:=I.Vc
 have tracked:∀ {a:Addr} {h':Heap},(∃ o,s.heap.get? a=some o/\H a=none)->Heap.SameBut a s.heap h'->QM X.prog X.w H h':=λ{a h'} ha hs b ob e=>by
  obtain ⟨_,_,hfree⟩:=ha;refine (I.hok b ob e).stay (λc w' hc q=>(hs.2 c ?_).trans q) (λ_ q=>q) λ_ _ q=>q;rintro rfl;rcases hc with rfl | hc
  ·rw [hfree] at e;cases e
  ·rw [hfree] at hc;cases hc
 rcases hx with hk | hk
 ·refine wpAny_storeName_local hk hn (λh' hn' hs=>?_) hcls;obtain ⟨oL,_,_,ZD,_⟩:=id hn;refine h _ ⟨I.ok,I.os,I.bare,⟨λb o e n hb hx=>?_,λb o e n hb hx=>?_,I.base.free,λb o e hx=>?_,I.base.tups,I.base.R6,I.base.Sk⟩,⟨_,hn',λj y v' e1 e2 e3=>?_⟩,λy c e=>?_,I.free,I.Qx,λp hp=>?_,tracked ⟨oL,ZD,I.free⟩ hs,by simpa using I.len⟩ ⟨_,hs,.inl rfl⟩
  ·exact (hs.2 b (Mv (Mw (Mr e) I.ok.above))).trans (I.base.keep b o e n hb hx)
  ·obtain ⟨sl,e1⟩:=I.base.slot b o e n hb hx;exact ⟨sl,(hs.2 b (Mv (Mw (Mr e) I.ok.above))).trans e1⟩
  ·obtain ⟨o',e1⟩:=I.base.there b o e hx;exact ⟨o',(hs.2 b (Mv (Mw (Mr e) I.ok.above))).trans e1⟩
  ·by_cases hj:j=i
   ·subst hj;rw [hi] at e1;cases e1;rw [NK hiσ] at e2;cases e2;exact ⟨u,r,.inl ⟨hk,by simp⟩⟩
   ·rw [Oh (MD hj)] at e2;obtain ⟨u',r',q⟩:=hl j y v' e1 e2 e3;refine ⟨u',r',?_⟩;rcases q with ⟨k,e⟩ | ⟨k,c,e,z⟩
    ·refine .inl ⟨k,?_⟩;have:y≠x:=λe=>hj (kh hN e1 (e ▸ hi));simp [this,e]
    ·exact .inr ⟨k,c,e,z.sameBut hs (Vc y c e)⟩
  ·obtain ⟨w',z⟩:=I.cell y c e;exact ⟨w',z.sameBut hs (Vc y c e)⟩
  ·obtain ⟨e,n,ne,nf,d⟩:=I.pin p hp;exact ⟨(hs.2 p.1 ne).trans e,n,ne,nf,d⟩
 ·have hfn:X.fn x=true:=by
   rcases hf with z | z
   ·exact z
   ·rw [z] at hk;cases hk
  obtain ⟨c,hc⟩:=I.ok.has x (.inl hk);obtain ⟨w',z⟩:=I.cell x c hc;refine wpAny_storeName_cell I.ok.kind hk hc z (λh' hc' hs=>?_);obtain ⟨oc,hoc,Yy⟩:=id z;refine h { s with heap:=h' } ⟨I.ok,I.os,I.bare,⟨λb o e n hb hx=>?_,λb o e n hb hx=>?_,I.base.free,λb o e hx=>?_,I.base.tups,I.base.R6,I.base.Sk⟩,⟨m,hn.sameBut hs (MD (Vc x c hc)),λj y v' e1 e2 e3=>?_⟩,λy c' e=>?_,I.free,I.Qx,λp hp=>?_,tracked ⟨oc,hoc,I.Qx x c hc⟩ hs,by simpa using I.len⟩ ⟨c,hs,.inr hc⟩
  ·exact (hs.2 b (Mv (Mw (Mr e) (I.ok.VB x c hfn hc)))).trans (I.base.keep b o e n hb hx)
  ·obtain ⟨sl,e1⟩:=I.base.slot b o e n hb hx;exact ⟨sl,(hs.2 b (Mv (Mw (Mr e) (I.ok.VB x c hfn hc)))).trans e1⟩
  ·obtain ⟨o',e1⟩:=I.base.there b o e hx;exact ⟨o',(hs.2 b (Mv (Mw (Mr e) (I.ok.VB x c hfn hc)))).trans e1⟩
  ·by_cases hj:j=i
   ·subst hj;rw [hi] at e1;cases e1;rw [NK hiσ] at e2;cases e2;exact ⟨u,r,.inr ⟨.inl hk,c,hc,hc'⟩⟩
   ·rw [Oh (MD hj)] at e2;obtain ⟨u',r',q⟩:=hl j y v' e1 e2 e3;refine ⟨u',r',?_⟩;rcases q with q | ⟨k,c',e,z'⟩
    ·exact .inl q
    ·refine .inr ⟨k,c',e,z'.sameBut hs ?_⟩;rintro rfl;exact hj (kh hN e1 (I.ok.inj _ _ _ e hc ▸ hi))
  ·by_cases hcc:c'=c
   ·subst hcc;exact ⟨_,hc'⟩
   ·obtain ⟨w2,z2⟩:=I.cell y c' e;exact ⟨w2,z2.sameBut hs hcc⟩
  ·obtain ⟨e,n,ne,nf,d⟩:=I.pin p hp;refine ⟨(hs.2 p.1 ?_).trans e,n,ne,nf,d⟩;intro q;rw [q,hoc] at e;have q':oc=p.2:=MB e;exact d w' (by rw [<- q'];exact Yy)
theorem eM {A:Around} {E:Value->Shared->Prop} {x:Str} {Q:Unit->Shared->Prop} (I:Inv X pins σ H s) (hN:X.N.Nodup) (hi:X.N[i]?=some x) (hx:Loc X.env.scope x) (r:RelV v u)
  (h:∀ s',Inv X pins (σ.set i (some v)) H s'->Q () s') (hf:X.fn x=true\/X.env.scope.names.lookup x=some .local:=by first | exact .inl rfl | exact .inr rfl | assumption):wpAny M A (storeName X.env x u) Q E s :=
 iZ I hN hi hx r (λs' I' _=>h s' I') hf
theorem Inv.Rp {s':Shared} (I:Inv X pins σ H s) (ho:s'.os=s.os) (u:Un (frs X.stack) ch H H' s.heap s'.heap) (hok:QM X.prog X.w H' s'.heap) (hg:AllBare s'.gens)
  (hch:∀ b ∈ ch,(b ∈ X.ex\/X.s₀.heap.objs.size<=b)/\b≠X.env.locals/\(∀ x c,X.env.cells.lookup x=some c->c≠b)/\∀ p ∈ X.pn++pins,p.1≠b):Inv X pins σ H' s':=by
 obtain ⟨h',g',d',t',o'⟩:=s';have e:o'=s.os:=ho;subst e;exact I.call (g':=g') (t':=t') (d':=d') u hok hg hch
end
noncomputable abbrev XK:=Value->Option Addr->Hp->Prop
noncomputable abbrev St:=List (Option V)
noncomputable abbrev VK:=V->Hp->Prop
noncomputable abbrev TE:=St->Hp->VK->Prop
noncomputable abbrev TT:=St->Hp->(Bool->Hp->Prop)->Prop
noncomputable abbrev TA:=St->Hp->(List V->Hp->Prop)->Prop
structure Ends where
 nx:St->Hp->Prop
 rt:VK
 bk:St->Hp->Prop:=λ_ _=>False
 ct:St->Hp->Prop:=λ_ _=>False
noncomputable abbrev TS:=Ends->St->Hp->Prop
noncomputable def EP (X:Cx) (pins:List (Addr × Obj)) (σ:St) (Q:VK) (u:Value) (s':Shared):Prop:=∃ v H',Inv X pins σ H' s'/\RelV v u/\Q v H'
noncomputable def TP (X:Cx) (pins:List (Addr × Obj)) (σ:St) (Q:Bool->Hp->Prop) (b:Bool) (s':Shared):Prop:=∃ H',Inv X pins σ H' s'/\Q b H'
noncomputable def AP (X:Cx) (pins:List (Addr × Obj)) (σ:St) (Q:List V->Hp->Prop) (us:List Value) (s':Shared):Prop:=∃ vs H',Inv X pins σ H' s'/\Vals vs us/\Q vs H'
noncomputable def SP (X:Cx) (pins:List (Addr × Obj)) (D:Ends) (f:Flow) (s':Shared):Prop :=
 match f with
 | .next=>∃ σ' H',Inv X pins σ' H' s'/\D.nx σ' H'
 | .brk=>∃ σ' H',Inv X pins σ' H' s'/\D.bk σ' H'
 | .cont=>∃ σ' H',Inv X pins σ' H' s'/\D.ct σ' H'
 | .ret u=>∃ v σ' H',Inv X pins σ' H' s'/\RelV v u/\D.rt v H'
noncomputable def PE (X:Cx) (e:Expr) (t:TE):Prop :=
 ∀ (pins:List (Addr × Obj)) (s:Shared) (σ:St) (H:Hp) (Q:VK),Inv X pins σ H s->t σ H Q->wpAny (model X.prog X.w) X.A (eval e X.env) (EP X pins σ Q) X.xe s
noncomputable def PT (X:Cx) (e:Expr) (t:TT):Prop :=
 ∀ (pins:List (Addr × Obj)) (s:Shared) (σ:St) (H:Hp) (Q:Bool->Hp->Prop),Inv X pins σ H s->t σ H Q->wpAny (model X.prog X.w) X.A (isTrue e X.env (eval e X.env)) (TP X pins σ Q) X.xe s
noncomputable def PW (X:Cx) (e:Expr) (t:TT):Prop :=
 ∀ (whole:Sem Value) (pins:List (Addr × Obj)) (s:Shared) (σ:St) (H:Hp) (Q:Bool->Hp->Prop),Inv X pins σ H s->t σ H Q->wpAny (model X.prog X.w) X.A (isTrue e X.env whole) (TP X pins σ Q) X.xe s
variable {X:Cx}
theorem PW.pt {e:Expr} {t:TT} (h:PW X e t):PT X e t:=h _
noncomputable def PA (X:Cx) (es:List Expr) (t:TA):Prop :=
 ∀ (pos:Pos) (pins:List (Addr × Obj)) (s:Shared) (σ:St) (H:Hp) (Q:List V->Hp->Prop),Inv X pins σ H s->t σ H Q->wpAny (model X.prog X.w) X.A (spliced (backTo pos (starEach es X.env))) (AP X pins σ Q) X.xe s
noncomputable def PS (X:Cx) (st:Stmt) (t:TS):Prop :=
 ∀ (pins:List (Addr × Obj)) (s:Shared) (σ:St) (H:Hp) (D:Ends),Inv X pins σ H s->t D σ H->wpAny (model X.prog X.w) X.A (exec st X.env) (SP X pins D) X.xe s
noncomputable def QI (X:Cx) (st:List Stmt) (t:TS):Prop :=
 ∀ (pins:List (Addr × Obj)) (s:Shared) (σ:St) (H:Hp) (D:Ends),Inv X pins σ H s->t D σ H->wpAny (model X.prog X.w) X.A (execs st X.env) (SP X pins D) X.xe s
variable {M:Model}
theorem PR {α:Type} {t:Sem α} {Q Q':α->Shared->Prop} {A:Around} {E:Value->Shared->Prop} {s:Shared} (h:wpAny M A t Q E s) (hQ:∀ a s,Q a s->Q' a s):wpAny M A t Q' E s:=MT h hQ λ_ _ x=>x
section
variable {X:Cx}
noncomputable def eO (i:Nat):TE:=λσ H Q=>∃ v,σ[i]?=some (some v)/\Q v H
noncomputable def tC (v:V):TE:=λ_ H Q=>Q v H
theorem xf {i:Nat} {x:Str} {pos:Pos} (hN:X.N[i]?=some x) (hv:V8 X.env.scope x) (hd:(x == ("__debug__":Str))=false:=by decide) (hcd:(x == ("__classdict__":Str))=false:=by decide):PE X (.Name x pos) (eO i):=by
 intro pins s σ H Q I h;obtain ⟨v,e,h⟩:=h;obtain ⟨m,hn,hl⟩:=I.loc;obtain ⟨u,r,l⟩:=hl i x v hN e hv;have fin:EP X pins σ Q u s:=⟨v,H,I,r,h⟩
 rcases l with ⟨hk,hm⟩ | ⟨hk,c,hc,hcell⟩
 ·exact wpAny_Name (wpAny_loadName_local I.ok.kind hk hn hm fin) hd
 ·rcases hk with hk | hk
  ·exact wpAny_Name (wpAny_loadName_cell I.ok.kind hk hc hcell fin) hd
  ·exact wpAny_Name (wpAny_loadName_free I.ok.kind hk hc hcell fin hcd) hd
theorem bB {i j pos}:PE X (.Constant (.int i) j pos) (tC (.int i)):=λ_ _ _ H _ I h=>wpAny_Constant_int ⟨.int i,H,I.tok _,⟨_,rfl⟩,h⟩
theorem rq {b j pos}:PE X (.Constant (.bool b) j pos) (tC (.bl b)):=λ_ _ _ H _ I h=>Constant_bool ⟨.bl b,H,I,rfl,h⟩
theorem Co {j pos}:PE X (.Constant .none j pos) (tC .PJ):=λ_ _ _ H _ I h=>Constant_none ⟨.PJ,H,I,rfl,h⟩
theorem iK {x j pos}:PE X (.Constant (.str x) j pos) (tC (.str x)):=λ_ _ _ H _ I h=>Calls.Constant_str ⟨.str x,H,I.tok _,⟨_,rfl⟩,h⟩
noncomputable def Gl (X:Cx) (x:Str):Prop:=X.env.kindOf x=some .globalImplicit
variable {pins:List (Addr × Obj)} {σ:St} {H:Hp} {u:Value}
theorem dX {E:Value->Shared->Prop} {s:Shared} {x:Str} {pos:Pos} {Q:Value->Shared->Prop} (I:Inv X pins σ H s) (hg:Gl X x) (hm:X.mg x=some u) (h:Q u s)
  (hd:(x == ("__debug__":Str))=false:=by decide):wpAny (model X.prog X.w) X.A (eval (.Name x pos) X.env) Q E s :=
 Calls.Name_function_global I.ok.kind hg (Calls.loadGlobal_global (by rw [I.ok.glob];exact I.mod.glob.keeps I.bk) hm h) hd
theorem fH {E:Value->Shared->Prop} {s:Shared} {x:Str} {pos:Pos} {Q:Value->Shared->Prop} (I:Inv X pins σ H s) (hg:Gl X x) (hm:X.mg x=none) (hv:bootBuiltins x=some u) (h:Q u s)
  (hn:x≠"__name__":=by decide) (hd:(x == ("__debug__":Str))=false:=by decide):wpAny (model X.prog X.w) X.A (eval (.Name x pos) X.env) Q E s:=by
 obtain ⟨mb,h1,h2⟩:=I.mod.blt;exact Calls.Name_function_global I.ok.kind hg (Calls.loadGlobal_builtin (by rw [I.ok.glob];exact I.mod.glob.keeps I.bk) hm (by rw [I.ok.blt];exact h1.keeps I.bk) ((h2 x hn).trans hv) h) hd
variable {v:V}
theorem aW {x:Str} {pos:Pos} (hg:Gl X x) (hm:X.mg x=some u) (r:RelV v u) (hd:(x == ("__debug__":Str))=false:=by decide):PE X (.Name x pos) (tC v) :=
 λ_ _ _ H _ I h=>dX I hg hm ⟨v,H,I,r,h⟩ hd
theorem cx {x:Str} {pos:Pos} (hg:Gl X x) (hm:X.mg x=none) (hv:bootBuiltins x=some u) (r:RelV v u) (hn:x≠"__name__":=by decide) (hd:(x == ("__debug__":Str))=false:=by decide):PE X (.Name x pos) (tC v) :=
 λ_ _ _ H _ I h=>fH I hg hm hv ⟨v,H,I,r,h⟩ hn hd
variable {a b:Expr} {ta tb:TE} {pos:Pos}
noncomputable def PC (X:Cx) (op:CmpOp) (a b:Expr) (t:TE):Prop :=
 ∀ (pins:List (Addr × Obj)) (s:Shared) (σ:St) (H:Hp) (Q:VK),Inv X pins σ H s->t σ H Q ->
  wpAny (model X.prog X.w) X.A (eval a X.env) (λv s₁=>wpAny (model X.prog X.w) X.A (eval b X.env) (λu s₂=>wpAny (model X.prog X.w) X.A (compareOp op v u) (EP X pins σ Q) X.xe s₂) X.xe s₁) X.xe s
variable {op:CmpOp}
theorem oK (b:Expr) (h:op≠.In) (h2:op≠.NotIn):behindInMarks op b=false:=by
 have e1:(op == CmpOp.In)=false:=by cases op <;> first | rfl | exact absurd rfl h
 have e2:(op == CmpOp.NotIn)=false:=by cases op <;> first | rfl | exact absurd rfl h2
 cases b <;> simp [behindInMarks,e1,e2]
noncomputable def FT (ta:TE):TE:=λσ H Q=>ta σ H λx H1=>Q (.bl (decide (x=.PJ))) H1
noncomputable def EX (ta:TE):TE:=λσ H Q=>ta σ H λx H1=>Q (.bl (!decide (x=.PJ))) H1
theorem RelV.T9 {x:V} {v:Value} (r:RelV x v):(v == Value.none)=decide (x=.PJ):=by
 cases x with
 | PJ=>cases r;rfl
 | bl _=>cases r;rfl
 | int _=>obtain ⟨t,rfl⟩:=r;rfl
 | str _=>obtain ⟨t,rfl⟩:=r;rfl
 | U3 _=>obtain ⟨t,rfl⟩:=r;rfl
 | XT _=>obtain ⟨t,rfl⟩:=r;rfl
 | ref _=>cases r;rfl
 | ty _=>cases r;rfl
theorem w9 {j pos'} (ha:PE X a ta):PC X .Is a (.Constant .none j pos') (FT ta):=by intro pins s σ H Q I h;refine PR (ha pins s σ H _ I h) λv s1 ⟨x,H1,I1,r1,q1⟩=>?_;exact Constant_none (is_none_gen ⟨.bl _,H1,I1,by rw [r1.T9];rfl,q1⟩)
theorem zw {j pos'} (ha:PE X a ta):PC X .IsNot a (.Constant .none j pos') (EX ta):=by intro pins s σ H Q I h;refine PR (ha pins s σ H _ I h) λv s1 ⟨x,H1,I1,r1,q1⟩=>?_;exact Constant_none (isnot_none_gen ⟨.bl _,H1,I1,by rw [r1.T9];rfl,q1⟩)
noncomputable def tB (t:TE):TT:=λσ H Q=>t σ H λx H1=>∃ c,x=.bl c/\Q c H1
variable {t:TE}
theorem Cn (h:PC X op a b t) (h1:behindInMarks op b=false:=by first | exact oK _ (by decide) (by decide) | rfl):PE X (.Compare a [op] [b] pos) t:=λpins s σ H Q I hw=>wpAny_Compare1 (h pins s σ H Q I hw) h1
theorem xp (h:PC X op a b t) (h1:behindInMarks op b=false:=by first | exact oK _ (by decide) (by decide) | rfl):PT X (.Compare a [op] [b] pos) (tB t):=by intro pins s σ H Q I hw;refine wpAny_isTrue_Compare1 (PR (h pins s σ H _ I hw) λv s1 h1=>PR h1 λu s2 h2=>PR h2 λc s3 ⟨x,H1,I1,r1,q1⟩=>?_) h1;obtain ⟨d,rfl,q⟩:=q1;cases r1;exact M6 ⟨H1,I1,q⟩
variable {tA XX:TT} {rest:List Expr}
noncomputable def FL (t u:TT):TT:=λσ H Q=>t σ H λc H1=>if c=true then u σ H1 Q else Q false H1
noncomputable def ZE (t u:TT):TT:=λσ H Q=>t σ H λc H1=>if c=true then Q true H1 else u σ H1 Q
noncomputable def EW (t:TT):TT:=λσ H Q=>t σ H λc H1=>Q (!c) H1
theorem zI (ha:PT X a tA):PW X (.BoolOp .And [a] pos) tA:=by
 intro wh pins s σ H Q I h;refine isTrue_and (PR (ha pins s σ H Q I h) λc s1 e=>?_)
 cases c with
 | true=>exact isTrue_and_nil e
 | false=>exact e
theorem bT (ha:PT X a tA):PW X (.BoolOp .Or [a] pos) tA:=by
 intro wh pins s σ H Q I h;refine isTrue_or (PR (ha pins s σ H Q I h) λc s1 e=>?_)
 cases c with
 | false=>exact isTrue_or_nil e
 | true=>exact e
theorem CC (ha:PT X a tA) (hb:PW X (.BoolOp .And (b::rest) pos) XX):PW X (.BoolOp .And (a::b::rest) pos) (FL tA XX):=by
 intro wh pins s σ H Q I h;refine isTrue_and (PR (ha pins s σ H _ I h) λc s1 ⟨H1,I1,q1⟩=>?_)
 cases c with
 | true=>exact hb wh pins s1 σ H1 Q I1 q1
 | false=>exact ⟨H1,I1,q1⟩
theorem xr (ha:PT X a tA) (hb:PW X (.BoolOp .Or (b::rest) pos) XX):PW X (.BoolOp .Or (a::b::rest) pos) (ZE tA XX):=by
 intro wh pins s σ H Q I h;refine isTrue_or (PR (ha pins s σ H _ I h) λc s1 ⟨H1,I1,q1⟩=>?_)
 cases c with
 | true=>exact ⟨H1,I1,q1⟩
 | false=>exact hb wh pins s1 σ H1 Q I1 q1
theorem mU (ha:PT X a tA):PT X (.UnaryOp .Not a pos) (EW tA):=by intro pins s σ H Q I h;exact isTrue_not (ha pins s σ H (λc H1=>Q (!c) H1) I h)
noncomputable def EO (ta tb:TE):TE:=λσ H Q=>ta σ H λx H1=>∃ c,x=.bl c/\if c=true then tb σ H1 Q else Q (.bl false) H1
noncomputable def FU (ta tb:TE):TE:=λσ H Q=>ta σ H λx H1=>∃ c,x=.bl c/\if c=true then Q (.bl true) H1 else tb σ H1 Q
noncomputable def EY (ta:TE):TE:=λσ H Q=>ta σ H λx H1=>∃ c,x=.bl c/\Q (.bl (!c)) H1
theorem dI {op} (h:PE X a t):PE X (.BoolOp op [a] pos) t:=λpins s σ H Q I hw=>BoolOp_one (h pins s σ H Q I hw)
theorem Ck (ha:PE X a ta) (hb:PE X (.BoolOp .And (b::rest) pos) tb):PE X (.BoolOp .And (a::b::rest) pos) (EO ta tb):=by
 intro pins s σ H Q I h;refine BoolOp_and (PR (ha pins s σ H _ I h) λv s1 ⟨x,H1,I1,r1,q1⟩=>?_);obtain ⟨c,rfl,q1⟩:=q1;cases r1;refine M6 ?_
 cases c with
 | true=>exact hb pins s1 σ H1 Q I1 q1
 | false=>exact ⟨.bl false,H1,I1,rfl,q1⟩
theorem Ep (ha:PE X a ta) (hb:PE X (.BoolOp .Or (b::rest) pos) tb):PE X (.BoolOp .Or (a::b::rest) pos) (FU ta tb):=by
 intro pins s σ H Q I h;refine BoolOp_or (PR (ha pins s σ H _ I h) λv s1 ⟨x,H1,I1,r1,q1⟩=>?_);obtain ⟨c,rfl,q1⟩:=q1;cases r1;refine M6 ?_
 cases c with
 | false=>exact hb pins s1 σ H1 Q I1 q1
 | true=>exact ⟨.bl true,H1,I1,rfl,q1⟩
theorem Cp (ha:PE X a ta):PE X (.UnaryOp .Not a pos) (EY ta):=by intro pins s σ H Q I h;refine UnaryOp_ (PR (ha pins s σ H _ I h) λv s1 ⟨x,H1,I1,r1,q1⟩=>?_);obtain ⟨c,rfl,q1⟩:=q1;cases r1;exact not_of (M6 ⟨.bl (!c),H1,I1,rfl,q1⟩)
noncomputable def tIf (t:TT) (ta tb:TE):TE:=λσ H Q=>t σ H λc H1=>if c=true then ta σ H1 Q else tb σ H1 Q
theorem xc {c:Expr} (hc:PT X c tA) (ha:PE X a ta) (hb:PE X b tb):PE X (.IfExp c a b pos) (tIf tA ta tb):=by
 intro pins s σ H Q I h;refine wpAny_IfExp (PR (hc pins s σ H _ I h) λd s1 ⟨H1,I1,q1⟩=>?_)
 cases d with
 | true=>exact ha pins s1 σ H1 Q I1 q1
 | false=>exact hb pins s1 σ H1 Q I1 q1
end
noncomputable def P6 (K:W.Frag) (H:Hp) (a:Addr) (xs:List V):Prop :=
 Rd H a (.lst xs) \/
  ∃ (o:Obj) (its:Array Value) (n:Nat),K.lookup a=some o/\o.cls=.type "list"/\o.dict=none/\o.data=.seq its n/\its.size<=sizeLine/\Vals xs its.toList
noncomputable def Qq (K:W.Frag) (H:Hp) (a:Addr) (xs:List V):Prop :=
 Rd H a (.tup xs) \/
  ∃ (o:Obj) (its:Array Value) (n:Nat),K.lookup a=some o/\o.cls=.type "tuple"/\o.data=.seq its n/\its.size<=sizeLine/\Vals xs its.toList
noncomputable def E8:Value->Option V
 | .none=>some .PJ
 | .bool b=>some (.bl b)
 | .int i _=>some (.int i)
 | .str x _=>some (.str x)
 | .bytes b _=>some (.U3 b)
 | .float b _=>some (.XT b)
 | .ref a=>some (.ref a)
 | .type n=>some (.ty n)
 | _=>none
theorem RelV.abs {x:V} (r:RelV x u):E8 u=some x:=by
 cases x with
 | PJ=>cases r;rfl
 | bl _=>cases r;rfl
 | int _=>obtain ⟨t,rfl⟩:=r;rfl
 | str _=>obtain ⟨t,rfl⟩:=r;rfl
 | U3 _=>obtain ⟨t,rfl⟩:=r;rfl
 | XT _=>obtain ⟨t,rfl⟩:=r;rfl
 | ref _=>cases r;rfl
 | ty _=>cases r;rfl
theorem RelV.inj {x y:V} (r:RelV x u) (q:RelV y u):x=y:=MB (r.abs.symm.trans q.abs)
theorem Vals.inj:∀ {xs ys:List V} {us:List Value},Vals xs us->Vals ys us->xs=ys
 | _,_,_,.nil,.nil=>rfl
 | _,_,_,.cons r t,.cons r' t'=>by rw [r.inj r',Vals.inj t t']
section
variable {X:Cx} {pins:List (Addr × Obj)} {σ:St} {H:Hp} {s:Shared} {a:Addr} {xs ys:List V}
variable {K:W.Frag}
theorem P6.of (h:H a=some (.lst xs)):P6 K H a xs:=.inl (.inl h)
theorem Qq.of (h:H a=some (.tup xs)):Qq K H a xs:=.inl (.inl h)
theorem Inv.list (I:Inv X pins σ H s) (h:P6 X.K H a xs):∃ its:List Value,Vals xs its/\PlainL s.heap a its.toArray/\xs.length<=sizeLine:=by
 rcases h with h | ⟨o,its,n,hk,hc,hd,hs,hz,r⟩
 ·obtain ⟨z,its,n,r,e⟩:=h.ok I.hok;exact ⟨its,r,⟨_,n,e,rfl,rfl,rfl⟩,z⟩
 ·refine ⟨its.toList,r,⟨o,n,I.QK a o hk,hc,hd,by simpa using hs⟩,?_⟩;have e:=r.length;simp only [Oq] at e;lia
theorem Inv.tuple (I:Inv X pins σ H s) (h:Qq X.K H a xs):∃ its:List Value,Vals xs its/\IsTup s.heap a its.toArray/\xs.length<=sizeLine:=by
 rcases h with h | ⟨o,its,n,hk,hc,hs,hz,r⟩
 ·obtain ⟨z,its,r,p⟩:=h.ok I.hok;exact ⟨its,r,p,z⟩
 ·refine ⟨its.toList,r,⟨o,I.QK a o hk,hc,n,by simpa using hs⟩,?_⟩;have e:=r.length;simp only [Oq] at e;lia
theorem Inv.Vd (I:Inv X pins σ H s) (h:P6 X.K H a xs) (h':P6 X.K H a ys):xs=ys:=by
 obtain ⟨its,r,⟨o,n,e,_,_,d⟩,_⟩:=I.list h;obtain ⟨its',r',⟨o',n',e',_,_,d'⟩,_⟩:=I.list h';rw [e] at e';cases e';rw [d] at d';injection d' with d1 _;have:its=its':=by simpa using M5 Array.toList d1
 subst this;exact r.inj r'
theorem Inv.Th (I:Inv X pins σ H s) (h:Qq X.K H a xs) (h':Qq X.K H a ys):xs=ys:=by
 obtain ⟨its,r,⟨o,e,_,n,d⟩,_⟩:=I.tuple h;obtain ⟨its',r',⟨o',e',_,n',d'⟩,_⟩:=I.tuple h';rw [e] at e';cases e';rw [d] at d';injection d' with d1 _;have:its=its':=by simpa using M5 Array.toList d1
 subst this;exact r.inj r'
end
noncomputable abbrev Cx.Qe (X:Cx) (E:Value->Shared->Prop):Cx:={ X with xe:=E }
noncomputable abbrev Cx.UK (X:Cx):Cx:=X.Qe λ_ _=>False
theorem Cx.Ok.Qe (ok:X.Ok) (E:Value->Shared->Prop):(X.Qe E).Ok :=
 ⟨ok.mod,ok.kind,ok.glob,ok.blt,ok.above,ok.inj,ok.has,ok.VB,ok.hd,ok.frames,ok.stk,ok.W9,ok.bs,ok.UJ,ok.T8,ok.Uo,ok.Ro,ok.Vb⟩
theorem Cx.Ok.QY {E:Value->Shared->Prop} (ok:(X.Qe E).Ok):X.Ok :=
 ⟨ok.mod,ok.kind,ok.glob,ok.blt,ok.above,ok.inj,ok.has,ok.VB,ok.hd,ok.frames,ok.stk,ok.W9,ok.bs,ok.UJ,ok.T8,ok.Uo,ok.Ro,ok.Vb⟩
section
variable {X:Cx} {pins:List (Addr × Obj)} {σ:St} {H:Hp} {s:Shared} {E:Value->Shared->Prop}
theorem Inv.Qe (I:Inv X pins σ H s) (E:Value->Shared->Prop):Inv (X.Qe E) pins σ H s:=⟨I.ok.Qe E,I.os,I.bare,I.base,I.loc,I.cell,I.free,I.Qx,I.pin,I.hok,I.len⟩
theorem Inv.QY (I:Inv (X.Qe E) pins σ H s):Inv X pins σ H s:=⟨I.ok.QY,I.os,I.bare,I.base,I.loc,I.cell,I.free,I.Qx,I.pin,I.hok,I.len⟩
theorem SP.QY {D:Ends} {f:Flow} {s':Shared} (h:SP (X.Qe E) pins D f s'):SP X pins D f s':=by
 cases f with
 | next=>obtain ⟨σ',H',I,q⟩:=h;exact ⟨σ',H',I.QY,q⟩
 | brk=>obtain ⟨σ',H',I,q⟩:=h;exact ⟨σ',H',I.QY,q⟩
 | cont=>obtain ⟨σ',H',I,q⟩:=h;exact ⟨σ',H',I.QY,q⟩
 | ret u=>obtain ⟨v,σ',H',I,r,q⟩:=h;exact ⟨v,σ',H',I.QY,r,q⟩
theorem QI.UK {st:List Stmt} {t:TS} (h:QI X.UK st t):QI X st t:=λpins s σ H D I hw =>
 MT (h pins s σ H D (I.Qe _) hw) (λ_ _ q=>q.QY) λ_ _ z=>False.elim z
end
section
variable {X:Cx} {st:Stmt} {rest:List Stmt} {t u:TS} {e:Expr} {te:TE} {pos:Pos}
noncomputable def AI:TS:=λD σ H=>D.nx σ H
noncomputable def bK (t u:TS):TS:=λD σ H=>t { D with nx:=u D } σ H
theorem eV:QI X [] AI:=λ_ _ σ H _ I h=>OU ⟨σ,H,I,h⟩
theorem aS (h1:PS X st t) (h2:QI X rest u):QI X (st::rest) (bK t u):=by
 intro pins s σ H D I h;refine wpAny_execs_cons (PR (h1 pins s σ H { D with nx:=u D } I h) λf s1 q=>?_)
 cases f with
 | next =>obtain ⟨σ',H',I',q⟩:=q;exact h2 pins s1 σ' H' D I' q
 | ret v=>exact q
 | brk=>exact q
 | cont=>exact q
theorem cy (h1:PS X st t):QI X [st] t:=by
 intro pins s σ H D I h;refine wpAny_execs_cons (PR (h1 pins s σ H D I h) λf s1 q=>?_)
 cases f with
 | next=>exact OU q
 | ret v=>exact q
 | brk=>exact q
 | cont=>exact q
noncomputable def ES:TS:=λD σ H=>D.ct σ H
theorem oS:PS X (.Continue pos) ES:=λ_ _ σ H _ I h=>wpAny_Continue ⟨σ,H,I,h⟩
theorem Inv.quiet {pins:List (Addr × Obj)} {σ:St} {H:Hp} {s:Shared} (I:Inv X pins σ H s):interactive X.env=false:=by simp [interactive,I.ok.kind]
noncomputable def AH (te:TE):TS:=λD σ H=>te σ H λ_ H1=>D.nx σ H1
theorem jK (he:PE X e te) (hs:swapsWith e none pos.line X.env=pure false:=by rfl):PS X (.Expr e pos) (AH te):=by intro pins s σ H D I h;exact wpAny_Expr_any (PR (he pins s σ H _ I h) λv s1 ⟨x,H1,I1,r1,q1⟩=>⟨σ,H1,I1,q1⟩) I.quiet hs
noncomputable def xW (te:TE):TS:=λD σ H=>te σ H D.rt
theorem dc (he:PE X e te):PS X (.Return (some e) pos) (xW te):=by intro pins s σ H D I h;exact wpAny_Return_some (PR (he pins s σ H _ I h) λv s1 ⟨x,H1,I1,r1,q1⟩=>⟨x,σ,H1,I1,r1,q1⟩)
noncomputable def C2 (c:TT) (t u:TS):TS:=λD σ H=>c σ H λb H1=>if b=true then t D σ H1 else u D σ H1
theorem lT {c:Expr} {a b:List Stmt} {tc:TT} (hc:PT X c tc) (ha:QI X a t) (hb:QI X b u):PS X (.If c a b pos) (C2 tc t u):=by
 intro pins s σ H D I h;refine wpAny_If (PR (hc pins s σ H _ I h) λd s1 ⟨H1,I1,q1⟩=>?_)
 cases d with
 | true=>exact ha pins s1 σ H1 D I1 q1
 | false=>exact hb pins s1 σ H1 D I1 q1
end
noncomputable abbrev TG:=V->St->Hp->(St->Hp->Prop)->Prop
noncomputable abbrev VC:=List V->St->Hp->(St->Hp->Prop)->Prop
noncomputable def PG (X:Cx) (target:Expr) (t:TG):Prop :=
 ∀ (pins:List (Addr × Obj)) (s:Shared) (σ:St) (H:Hp) (v:V) (u:Value) (Q:St->Hp->Prop),Inv X pins σ H s->RelV v u->t v σ H Q ->
  wpAny (model X.prog X.w) X.A (assign target X.env u) (λ_ s'=>∃ σ' H',Inv X pins σ' H' s'/\Q σ' H') X.xe s
noncomputable def VD (X:Cx) (ts:List Expr) (t:VC):Prop :=
 ∀ (pins:List (Addr × Obj)) (s:Shared) (σ:St) (H:Hp) (vs:List V) (us:List Value) (Q:St->Hp->Prop),Inv X pins σ H s->Vals vs us->t vs σ H Q ->
  wpAny (model X.prog X.w) X.A (assignInOrder ((assignEach ts X.env).map (·.2)) us) (λ_ s'=>∃ σ' H',Inv X pins σ' H' s'/\Q σ' H') X.xe s
noncomputable abbrev uO:=V->V->V->Hp->(Hp->Prop)->Prop
noncomputable def AM (X:Cx) (t:uO):Prop :=
 ∀ (pins:List (Addr × Obj)) (s:Shared) (σ:St) (H:Hp) (o i v:V) (ov iv u:Value) (Q:Hp->Prop),Inv X pins σ H s->RelV o ov->RelV i iv->RelV v u->t o i v H Q ->
  wpAny (model X.prog X.w) X.A (setItem ov iv u) (λ_ s'=>∃ H',Inv X pins σ H' s'/\Q H') X.xe s
noncomputable abbrev WK:=V->V->Hp->VK->Prop
noncomputable def Yz (X:Cx) (op:Operator) (t:WK):Prop :=
 ∀ (pins:List (Addr × Obj)) (s:Shared) (σ:St) (H:Hp) (x y:V) (v u:Value) (Q:VK),Inv X pins σ H s->RelV x v->RelV y u->t x y H Q ->
  wpAny (model X.prog X.w) X.A (inplaceOp op v u) (EP X pins σ Q) X.xe s
section
variable {X:Cx} {pos:Pos}
noncomputable def ff (i:Nat):TG:=λv σ H Q=>Q (σ.set i (some v)) H
variable {i:Nat}
theorem rC {x:Str} (hN:X.N.Nodup) (hi:X.N[i]?=some x) (hx:Loc X.env.scope x) (hf:X.fn x=true\/X.env.scope.names.lookup x=some .local:=by first | exact .inl rfl | exact .inr rfl | assumption):PG X (.Name x pos) (ff i):=by intro pins s σ H v u Q I r h;exact Pg (eM I hN hi hx r (λs' I'=>⟨_,H,I',h⟩) hf)
noncomputable def Fv:VC:=λvs σ H Q=>vs=[]/\Q σ H
noncomputable def DY (t:TG) (u:VC):VC:=λvs σ H Q=>∃ v r,vs=v::r/\t v σ H λσ' H'=>u r σ' H' Q
theorem zB:VD X [] Fv:=by intro pins s σ H vs us Q I r h;obtain ⟨e,h⟩:=h;subst e;cases r;exact assignInOrder_nil ⟨σ,H,I,h⟩
variable {e:Expr} {es:List Expr}
theorem xh {t:TG} {u:VC} (h1:PG X e t) (h2:VD X es u)
  (hs:(assignEach (e::es) X.env).map (·.2)=assign e X.env::(assignEach es X.env).map (·.2):=by rfl):VD X (e::es) (DY t u):=by
 intro pins s σ H vs us Q I r h;obtain ⟨v,vr,e1,h⟩:=h;subst e1
 cases r with
 | cons r rr =>rw [hs];refine Pa (PR (h1 pins s σ H _ _ _ I r h) λ_ s1 ⟨σ1,H1,I1,q1⟩=>?_);exact h2 pins s1 σ1 H1 _ _ Q I1 rr q1
noncomputable def Fx (K:W.Frag) (n:Nat) (t:VC):TG:=λv σ H Q=>∃ a xs,v=.ref a/\Qq K H a xs/\xs.length=n/\t xs σ H Q
theorem Cq {k:Nat} {t:VC} {n:Nat} (hc:X.calm=true) (h:VD X es t)
  (hn:(assignEach es X.env).length=n:=by rfl) (hst:(assignEach es X.env).findIdx? (·.1)=none:=by rfl):PG X (.Tuple es k pos) (Fx X.K n t):=by
 intro pins s σ H v u Q I r hw;obtain ⟨a,xs,e1,hq,hl,hw⟩:=hw;subst e1;cases r;obtain ⟨its,rv,ht,hz⟩:=I.tuple hq;refine assign_Tuple_tuple (I.ok.hd hc) ht (by simp [hn,<- hl,rv.length]) hst λh' hx=>?_;have I1:Inv X pins σ H { s with heap:=h' }:=I.kept (t':=s.toks) λb o e=>hx b o (Mv (Mr e)) e;exact h pins _ σ H xs _ Q I1 (by simpa using rv) hw
noncomputable def Fw (to ti:TE) (t:uO):TG:=λv σ H Q=>to σ H λo H1=>ti σ H1 λi H2=>t o i v H2 λH3=>Q σ H3
variable {o:Expr} {to ti:TE}
theorem xg {i:Expr} {t:uO} (ho:PE X o to) (hi:PE X i ti) (hs:AM X t)
  (ha:∀ v,assign (.Subscript o i pos) X.env v=(do
   let ov <- holding [v] (eval o X.env);let iv <- holding [v,ov] (eval i X.env)
   standAt pos
   holding [v,ov,iv] (setItem ov iv v)
   release [v,ov,iv] []):=by intro _;rfl):PG X (.Subscript o i pos) (Fw to ti t):=by
 intro pins s σ H v u Q I r h;rw [ha];refine pg (Nj (PR (ho pins s σ H _ I h) λov s1 ⟨x,H1,I1,r1,q1⟩=>?_));refine pg (Nj (PR (hi pins s1 σ H1 _ I1 q1) λiv s2 ⟨y,H2,I2,r2,q2⟩=>?_));refine pg (NI (pg (Nj (PR (hs pins s2 σ H2 x y v ov iv u _ I2 r1 r2 r q2) λ_ s3 ⟨H3,I3,q3⟩=>?_))));exact wpAny_release ⟨σ,H3,I3,q3⟩
noncomputable def RI (te:TE) (g:TG):TS:=λD σ H=>te σ H λx H1=>g x σ H1 D.nx
variable {te:TE}
theorem kl {tg:Expr} {g:TG} (he:PE X e te) (hg:PG X tg g) (hs:swapsWithSole [tg] e pos.line X.env=pure false:=by rfl) (hw:swappedStores [tg] e X.env=pure none:=by rfl)
  (h1:(assignEach [tg] X.env).map (·.2)=[assign tg X.env]:=by rfl):PS X (.Assign [tg] e pos) (RI te g):=by
 intro pins s σ H D I h;refine wpAny_Assign_stores (PR (he pins s σ H _ I h) λv s1 ⟨x,H1,I1,r1,q1⟩=>?_) hs hw;rw [h1];exact PR (hg pins s1 σ H1 x v _ I1 r1 q1) λ_ s2 q=>q
variable {pos':Pos}
theorem gE {x:Str} (hN:X.N.Nodup) (hi:X.N[i]?=some x) (hx:Loc X.env.scope x) (he:PE X e te) (hs:swapsWith e (some (.Name x pos')) pos.line X.env=pure false:=by rfl) (hf:X.fn x=true\/X.env.scope.names.lookup x=some .local:=by first | exact .inl rfl | exact .inr rfl | assumption) :
  PS X (.Assign [.Name x pos'] e pos) (RI te (ff i)):=by
 intro pins s σ H D I h;refine wpAny_Assign_Name (PR (he pins s σ H _ I h) λv s1 ⟨y,H1,I1,r1,q1⟩=>?_) hs;exact eM I1 hN hi hx r1 (λs2 I2=>⟨_,H1,I2,q1⟩) hf
noncomputable def FV (i j:Nat) (ta:TA):TS:=λD σ H=>ta σ H λvs H1=>∃ v w,vs=[v,w]/\D.nx ((σ.set i (some v)).set j (some w)) H1
theorem CB {j:Nat} {x y:Str} {a b:Expr} {ta:TA} {px py pt:Pos} {kt k2 V9} (hc:X.calm=true) (hN:X.N.Nodup) (hi:X.N[i]?=some x) (hj:X.N[j]?=some y) (hij:i≠j)
  (hx:X.env.scope.names.lookup x=some .local) (hy:X.env.scope.names.lookup y=some .local) (ha:PA X [a,b] ta)
  (hw:swappedStores [.Tuple [.Name x px,.Name y py] kt pt] (.Tuple [a,b] k2 V9) X.env=pure (some [x,y]))
  (hs:swapsWithSole [.Tuple [.Name x px,.Name y py] kt pt] (.Tuple [a,b] k2 V9) pos.line X.env=pure false:=by rfl) :
  PS X (.Assign [.Tuple [.Name x px,.Name y py] kt pt] (.Tuple [a,b] k2 V9) pos) (FV i j ta):=by
 intro pins s σ H D I h;rw [exec_Assign_arm];refine pg (NI ?_);rw [hs];refine pg (Mq ?_);rw [Mz (by decide)];refine pg (Tuple_ (PR (ha _ pins s σ H _ I h) λus s1 ⟨vs,H1,I1,r1,q1⟩=>?_));obtain ⟨v,w,e1,q1⟩:=q1;subst e1
 obtain ⟨u1,u2,rfl,rv,rw'⟩:∃ u1 u2,us=[u1,u2]/\RelV v u1/\RelV w u2:=by
  cases r1 with
  | cons p q =>
   cases q with
   | cons p' q' =>cases q';exact ⟨_,_,rfl,p,p'⟩
 refine Nr ?_ (by show 2<=sizeLine;decide);have I2:Inv X pins σ H1 { s1 with heap:=s1.heap.push { cls:=.type "tuple",data:=.seq [u1,u2].toArray } }:=I1.kept (t':=s1.toks) λb o e=>LD _ e;rw [hw];refine pg (Mq ?_);show wpAny (model X.prog X.w) X.A (do rule "assign.swapped-stores";let items <- unpackItems (.ref s1.heap.objs.size) 2 none;assignInOrder [λv=>bindName X.env y v,λv=>bindName X.env x v] items.reverse;pure Flow.next) _ _ _;refine pg (OF (pg (unpackItems_tuple (items:=#[u1,u2]) (I.ok.hd hc) (Ox s1.heap _) λh' hx'=>?_)));have I3:=I2.kept (h':=h') (t':=s1.toks) λb o e=>hx' b o (Mv (Mr e)) e;show wpAny _ _ (assignInOrder [λv=>bindName X.env y v,λv=>bindName X.env x v] [u2,u1] >>= λ_=>pure Flow.next) _ _ _;refine pg (Pa (wpAny_bindName (eM I3 hN hj (.inl hy) rw' (λs2 I4=>?_) (.inr hy))));refine Pa (wpAny_bindName (eM I4 hN hi (.inl hx) rv (λs3 I5=>assignInOrder_nil (Mq ?_)) (.inr hx)));rw [List.set_comm _ _ (MD hij)] at I5;exact ⟨_,H1,I5,q1⟩
noncomputable def FM (i:Nat) (te:TE) (ti:WK):TS:=λD σ H=>∃ x,σ[i]?=some (some x)/\te σ H λy H1=>ti x y H1 λz H2=>D.nx (σ.set i (some z)) H2
variable {op:Operator}
theorem Cz {x:Str} {ti:WK} (hN:X.N.Nodup) (hi:X.N[i]?=some x) (hx:Loc X.env.scope x) (he:PE X e te) (ho:Yz X op ti) (hf:X.fn x=true\/X.env.scope.names.lookup x=some .local:=by first | exact .inl rfl | exact .inr rfl | assumption) :
  PS X (.AugAssign (.Name x pos') op e pos) (FM i te ti):=by
 intro pins s σ H D I h;obtain ⟨v,e1,h⟩:=h;obtain ⟨m,hn,hl⟩:=I.loc;have vis:V8 X.env.scope x:=by rcases hx with k | k;exact .inl k;exact .inr (.inl k)
 obtain ⟨u,r,l⟩:=hl i x v hi e1 vis;refine wpAny_AugAssign_Name ?_
 have go:wpAny (model X.prog X.w) X.A (eval e X.env) (λw s₂=>wpAny (model X.prog X.w) X.A (inplaceOp op u w) (λr s₃=>wpAny (model X.prog X.w) X.A (storeName X.env x r) (λ_=>SP X pins D .next) X.xe s₃) X.xe s₂) X.xe s:=by refine PR (he pins s σ H _ I h) λw s1 ⟨y,H1,I1,r1,q1⟩=>?_;refine PR (ho pins s1 σ H1 v y u w _ I1 r r1 q1) λz s2 ⟨zv,H2,I2,r2,q2⟩=>?_;exact eM I2 hN hi hx r2 (λs3 I3=>⟨_,H2,I3,q2⟩) hf
 rcases l with ⟨hk,hm⟩ | ⟨hk,c,hc,hcell⟩
 ·exact wpAny_loadName_local I.ok.kind hk hn hm go
 ·rcases hk with hk | hk
  ·exact wpAny_loadName_cell I.ok.kind hk hc hcell go
  ·rcases hx with k | k
   ·have:X.env.scope.names.lookup x=some .free:=hk;rw [k] at this;cases this
   ·have:X.env.scope.names.lookup x=some .free:=hk;rw [k] at this;cases this
noncomputable def ER (to ti te:TE) (VH:V->V->Hp->VK->Prop) (XY:WK) (VI:uO):TS:=λD σ H=>to σ H λo H1=>ti σ H1 λi H2=>VH o i H2 λx H3=>te σ H3 λy H4=>XY x y H4 λz H5=>VI o i z H5 λH6=>D.nx σ H6
noncomputable def Dj (X:Cx) (t:V->V->Hp->VK->Prop):Prop :=
 ∀ (pins:List (Addr × Obj)) (s:Shared) (σ:St) (H:Hp) (o i:V) (ov iv:Value) (Q:VK),Inv X pins σ H s->RelV o ov->RelV i iv->t o i H Q ->
  wpAny (model X.prog X.w) X.A (getItem ov iv) (EP X pins σ Q) X.xe s
theorem zG {i:Expr} {VH:V->V->Hp->VK->Prop} {XY:WK} {VI:uO} {tpos:Pos} (ho:PE X o to) (hi:PE X i ti) (hg:Dj X VH) (he:PE X e te) (hp:Yz X op XY) (hs:AM X VI)
  (ha:∀ ov iv new,augStore i ov iv new=(do holding [new,ov,iv] (setItem ov iv new);release [new,ov,iv] [];pure .next):=by intros;rfl):PS X (.AugAssign (.Subscript o i tpos) op e pos) (ER to ti te VH XY VI):=by
 intro pins s σ H D I h;refine wpAny_AugAssign_SubscriptAny (PR (ho pins s σ H _ I h) λov s1 ⟨x1,H1,I1,r1,q1⟩=>?_) ha;refine PR (hi pins s1 σ H1 _ I1 q1) λiv s2 ⟨x2,H2,I2,r2,q2⟩=>?_;refine PR (hg pins s2 σ H2 x1 x2 ov iv _ I2 r1 r2 q2) λold s3 ⟨x3,H3,I3,r3,q3⟩=>?_;refine PR (he pins s3 σ H3 _ I3 q3) λv s4 ⟨x4,H4,I4,r4,q4⟩=>?_;refine PR (hp pins s4 σ H4 x3 x4 old v _ I4 r3 r4 q4) λnew s5 ⟨x5,H5,I5,r5,q5⟩=>?_;exact PR (hs pins s5 σ H5 x1 x2 x5 ov iv new _ I5 r1 r2 r5 q5) λ_ s6 ⟨H6,I6,q6⟩=>⟨σ,H6,I6,q6⟩
noncomputable def ipI (f:Int->Int->Int):WK:=λx y H Q=>∃ i j,x=.int i/\y=.int j/\Q (.int (f i j)) H
theorem wx:Yz X .Add (ipI λi j=>i+j):=by intro pins s σ H x y v u Q I r1 r2 h;obtain ⟨i,j,e1,e2,q⟩:=h;subst e1;subst e2;obtain ⟨t,rfl⟩:=r1;obtain ⟨t',rfl⟩:=r2;exact iadd_int ⟨.int _,H,I.tok _,⟨_,rfl⟩,q⟩
noncomputable def C3 (c:TT) (tb:TS):TS:=λD σ H=>∃ W:Nat->St->Hp->Prop,(∃ m,W m σ H)/\∀ m σ H,W m σ H ->
 c σ H λb H1=>if b=true then ∃ N:St->Hp->Prop,(∀ σ' H',N σ' H'->∃ m',m' < m/\W m' σ' H')/\tb { D with nx:=N,ct:=N,bk:=D.nx } σ H1 else D.nx σ H1
theorem xo {c:Expr} {body:List Stmt} {tc:TT} {tb:TS} (hp:PassesOwn (model X.prog X.w) X.A X.env X.xe) (hc:PT X c tc) (hb:QI X body tb):PS X (.While c body [] pos) (C3 tc tb):=by
 intro pins s σ H D I h;obtain ⟨W,⟨m0,w0⟩,turn⟩:=h;refine wpAny_While (codeAny_whileLoop (λn s'=>∃ σ' H',Inv X pins σ' H' s'/\W n σ' H') ?_ m0 ⟨σ,H,I,w0⟩);rintro n s1 ⟨σ1,H1,I1,w1⟩;refine NU hp (PR (hc pins s1 σ1 H1 _ I1 (turn n σ1 H1 w1)) λb s2 ⟨H2,I2,q2⟩=>?_)
 cases b with
 | true =>
  obtain ⟨N,hN,q2⟩:=q2;rw [MF rfl];refine NU hp (PR (hb pins s2 σ1 H2 _ I2 q2) λf s3 q3=>?_)
  cases f with
  | next =>obtain ⟨σ3,H3,I3,n3⟩:=q3;obtain ⟨m',hm,w3⟩:=hN σ3 H3 n3;exact ⟨m',hm,σ3,H3,I3,w3⟩
  | cont =>obtain ⟨σ3,H3,I3,n3⟩:=q3;obtain ⟨m',hm,w3⟩:=hN σ3 H3 n3;exact ⟨m',hm,σ3,H3,I3,w3⟩
  | brk=>exact q3
  | ret v=>exact q3
 | false =>rw [Mz Mx];exact OU ⟨σ1,H2,I2,q2⟩
end
structure It where
 go:Nat->Hp->Prop
 VE:Nat->Hp->V->Hp->Prop
 stop:Nat->Hp->Prop
noncomputable def iC (X:Cx) (pins:List (Addr × Obj)) (H:Hp) (b:Addr):Prop :=
 H b=none/\b≠X.env.locals/\b ∉ X.fs/\(b ∈ X.ex\/X.s₀.heap.objs.size<=b)/\(∀ x c,X.env.cells.lookup x=some c->c≠b)/\∀ p ∈ X.pn++pins,p.1≠b
theorem Inv.Te {pins:List (Addr × Obj)} {σ:St} {H':Hp} {s:Shared} {b:Addr} (I:Inv X pins σ H s) (hb:s.heap.objs.size<=b) (hn:H' b=none):iC X pins H' b:=by
 refine ⟨hn,M0 (Mw I.lt hb),I.Yv hb,.inr (MQ I.sz hb),λx c e z=>?_,λp hp z=>?_⟩
 ·obtain ⟨v,q⟩:=I.cell x c e;exact absurd (Mw q.lt (by rw [z];exact hb)) (Nq _)
 ·exact absurd (Mw (Mr (I.pin p hp).1) (by rw [z];exact hb)) (Nq _)
structure iD (P:Program) (w:World) (K:W.Frag) (tg:Expr) (J:It) (fp:List Addr) (it:Addr) (tn:Nat->Heap->Prop):Prop where
 mem:it ∈ fp
 obj:∀ i h,tn i h->∀ b ∈ fp,∃ o,h.get? b=some o/\∀ v,o.data≠.cell v
 keep:∀ i h h',tn i h->(∀ b ∈ fp,∀ o,h.get? b=some o->h'.get? b=some o)->tn i h'
 item:∀ (X:Cx),X.prog=P->X.w=w->X.K=K->X.calm=true->∀ (i:Nat) (pins:List (Addr × Obj)) (s:Shared) (σ:St) (H:Hp) (E:Value->Shared->Prop),Inv X pins σ H s->(∀ b ∈ fp,iC X pins H b)->tn i s.heap->J.go i H ->
  wpAny (model P w) X.A (pyNext (.ref it)) (λr s1=>∃ u,r=some u /\
   wpAny (model P w) X.A (letOwnedTupleGo tg (.ref it) u) (λ_ s2=>∃ x H',Inv X pins σ H' s2/\RelV x u/\J.VE i H x H'/\tn (i+1) s2.heap/\∀ b ∈ fp,H' b=none) E s1) E s
 done:∀ (X:Cx),X.prog=P->X.w=w->X.K=K->X.calm=true->∀ (i:Nat) (pins:List (Addr × Obj)) (s:Shared) (σ:St) (H:Hp) (E:Value->Shared->Prop),Inv X pins σ H s->(∀ b ∈ fp,iC X pins H b)->tn i s.heap->J.stop i H ->
  wpAny (model P w) X.A (pyNext (.ref it)) (λr s1=>r=none/\Inv X pins σ H s1) E s
 self:∀ (A:Around) (i:Nat) (s:Shared) (Q:Value->Shared->Prop) (E:Value->Shared->Prop),tn i s.heap->Q (.ref it) s->wpAny (model P w) A (pyIter (.ref it)) Q E s
noncomputable abbrev TI:=St->Hp->(It->Hp->Prop)->Prop
noncomputable def YA (X:Cx) (pins:List (Addr × Obj)) (σ:St) (tg:Expr) (R:It->Hp->Prop) (itv:Value) (s2:Shared):Prop :=
 ∃ (it:Addr) (fp:List Addr) (tn:Nat->Heap->Prop) (J:It) (H':Hp),itv=.ref it/\Inv X pins σ H' s2/\iD X.prog X.w X.K tg J fp it tn/\tn 0 s2.heap/\(∀ b ∈ fp,iC X pins H' b)/\R J H'
noncomputable def PI (X:Cx) (tg iter:Expr) (wi:TI):Prop :=
 ∀ (pins:List (Addr × Obj)) (s:Shared) (σ:St) (H:Hp) (R:It->Hp->Prop),Inv X pins σ H s->wi σ H R ->
  wpAny (model X.prog X.w) X.A (eval iter X.env) (λv s1=>wpAny (model X.prog X.w) X.A (pyIter v) (YA X pins σ tg R) X.xe s1) X.xe s
variable {tg:Expr}
theorem ou {A:Around} {E:Value->Shared->Prop} {s:Shared} {it:Addr} {o:Obj} {n:String} {vs:Array Value} {Q:Unit->Shared->Prop} (ho:s.heap.get? it=some o) (hc:o.cls=.type n) (hd:o.data=.fields vs)
  (hn:["enumerate","zip","dict_itemiterator","dict_reverseitemiterator","odict_iterator","itertools.zip_longest","itertools.pairwise"].contains n=false) (hQ:Q () s):wpAny M A (letOwnedTupleGo tg (.ref it) u) Q E s:=by
 unfold letOwnedTupleGo
 cases tg <;> first
  | exact Mq hQ
  | (cases u <;> first
    | exact Mq hQ
    | (refine pg (wpAny_load ho ?_)
       rw [hc,hd];show wpAny M A (if (["enumerate","zip","dict_itemiterator","dict_reverseitemiterator","odict_iterator","itertools.zip_longest","itertools.pairwise"].contains n && vs[0]? == some (rawInt _))=true then _ else _) Q E s;rw [Mz (by intro h;rw [hn,O5] at h;cases h)];exact Mq hQ))
noncomputable def ZF (K:W.Frag) (a:Addr):It :=
 ⟨λi H=>∃ xs x,P6 K H a xs/\xs[i]?=some x,λi H x H'=>H'=H/\∀ xs,P6 K H a xs->xs[i]?=some x,λi H=>∃ xs,P6 K H a xs/\xs.length<=i⟩
noncomputable def ZG (K:W.Frag) (a:Addr):It :=
 ⟨λi H=>∃ xs x,Qq K H a xs/\xs[i]?=some x,λi H x H'=>H'=H/\∀ xs,Qq K H a xs->xs[i]?=some x,λi H=>∃ xs,Qq K H a xs/\xs.length<=i⟩
noncomputable def YB (lo:Int) (n:Nat):It:=⟨λi _=>i < n,λi H x H'=>H'=H/\x=.int (lo+i),λi _=>n<=i⟩
variable {K:W.Frag}
theorem uD (a it:Addr):iD P w K tg (ZF K a) [it] it (λi h=>h.IsListIter it a i) where
 mem:=by simp
 obj:=λi h st b hb=>by
  have e:b=it:=by simpa using hb
  subst e;obtain ⟨o,e,c,d⟩:=st;exact ⟨o,e,λv z=>by rw [d] at z;cases z⟩
 keep:=λi h h' st k=>st.at λo e=>k it (by simp) o e
 item:=by intro X hP hw hK hc i pins s σ H E I hf st hg;subst hP hw hK;obtain ⟨xs,x,hq,hx⟩:=hg;obtain ⟨its,rv,p,hz⟩:=I.list hq;obtain ⟨u,hu,ru⟩:=rv.get hx;obtain ⟨f0,f1,f2,f3,f4,f5⟩:=hf it (by simp);refine wpAny_pyNext_list_item st p.isList (x:=u) (by simpa using hu) λh' st' sb=>?_;have I1:Inv X pins σ H { s with heap:=h' }:=I.turned (t':=s.toks) (λb o hb e=>(sb.2 b hb).trans e) f0 f1 f3 f4 f5;obtain ⟨o,e,c,d⟩:=id st';exact ⟨u,rfl,ou (s:={ s with heap:=h' }) e c d (by decide) ⟨x,H,I1,ru,⟨rfl,λys hy=>by rw [I.Vd hy hq];exact hx⟩,st',λb hb=>(hf b hb).1⟩⟩
 done:=by intro X hP hw hK hc i pins s σ H E I hf st hg;subst hP hw hK;obtain ⟨xs,hq,hx⟩:=hg;obtain ⟨its,rv,p,hz⟩:=I.list hq;obtain ⟨f0,f1,f2,f3,f4,f5⟩:=hf it (by simp);have hl:=rv.length;exact wpAny_pyNext_list_end (I.ok.hd hc) st p.isList (by simp;lia) λh' eb=>⟨rfl,I.turned (t':=s.toks) (λb o hb e=>eb b o hb e) f0 f1 f3 f4 f5⟩
 self:=λ_ _ _ _ _ st h=>wpAny_pyIter_listiter st h
theorem qP (a it:Addr):iD P w K tg (ZG K a) [it] it (λi h=>h.IsTupleIter it a i) where
 mem:=by simp
 obj:=λi h st b hb=>by
  have e:b=it:=by simpa using hb
  subst e;obtain ⟨o,e,c,d⟩:=st;exact ⟨o,e,λv z=>by rw [d] at z;cases z⟩
 keep:=λi h h' st k=>st.at λo e=>k it (by simp) o e
 item:=by intro X hP hw hK hc i pins s σ H E I hf st hg;subst hP hw hK;obtain ⟨xs,x,hq,hx⟩:=hg;obtain ⟨its,rv,p,hz⟩:=I.tuple hq;obtain ⟨u,hu,ru⟩:=rv.get hx;obtain ⟨f0,f1,f2,f3,f4,f5⟩:=hf it (by simp);refine wpAny_pyNext_tuple_item st (show s.heap.IsTuple a its.toArray from p) (x:=u) (by simpa using hu) λh' st' sb=>?_;have I1:Inv X pins σ H { s with heap:=h' }:=I.turned (t':=s.toks) (λb o hb e=>(sb.2 b hb).trans e) f0 f1 f3 f4 f5;obtain ⟨o,e,c,d⟩:=id st';exact ⟨u,rfl,ou (s:={ s with heap:=h' }) e c d (by decide) ⟨x,H,I1,ru,⟨rfl,λys hy=>by rw [I.Th hy hq];exact hx⟩,st',λb hb=>(hf b hb).1⟩⟩
 done:=by intro X hP hw hK hc i pins s σ H E I hf st hg;subst hP hw hK;obtain ⟨xs,hq,hx⟩:=hg;obtain ⟨its,rv,p,hz⟩:=I.tuple hq;obtain ⟨f0,f1,f2,f3,f4,f5⟩:=hf it (by simp);have hl:=rv.length;exact wpAny_pyNext_tuple_end (I.ok.hd hc) st (show s.heap.IsTuple a its.toArray from p) (by simp;lia) λh' eb=>⟨rfl,I.turned (t':=s.toks) (λb o hb e=>eb b o hb e) f0 f1 f3 f4 f5⟩
 self:=λ_ _ _ _ _ st h=>wpAny_pyIter_tupleiter st h
theorem qO {K:PySem.W.Frag} (it:Addr) (lo:Int) (n:Nat):iD P w K tg (YB lo n) [it] it (λi h=>IsRangeIter h it (lo+(i:Nat) * 1) ((n:Int) - (i:Nat)) 1) where
 mem:=by simp
 obj:=λi h st b hb=>by
  have e:b=it:=by simpa using hb
  subst e
  exact ⟨_,st,λv z=>by
   have z':Data.fields _=Data.cell v:=z;cases z'⟩
 keep:=λi h h' st k=>k it (by simp) _ st
 item:=by intro X hP hw hK hc i pins s σ H E I hf st hg;subst hP hw hK;obtain ⟨f0,f1,f2,f3,f4,f5⟩:=hf it (by simp);have W:=Walks.range (prog:=X.prog) (w:=X.w) (I.ok.hd hc) it lo 1 n;refine W.item i s _ _ hg st λv h' tk hv st' kk=>?_;obtain ⟨t,rfl⟩:=hv;have I1:Inv X pins σ H { s with heap:=h',toks:=tk }:=I.turned (λb o hb e=>kk b o (by simpa using hb) e) f0 f1 f3 f4 f5;refine ⟨_,rfl,ou (s:={ s with heap:=h',toks:=tk }) (n:="range_iterator") st' rfl rfl (by decide) ⟨.int (lo+i),H,I1,⟨t,?_⟩,⟨rfl,rfl⟩,st',λb hb=>(hf b hb).1⟩⟩;rw [Int.mul_one]
 done:=by intro X hP hw hK hc i pins s σ H E I hf st hg;subst hP hw hK;obtain ⟨f0,f1,f2,f3,f4,f5⟩:=hf it (by simp);exact wpAny_pyNext_range_end (I.ok.hd hc) st (by have:n<=i:=hg;lia) λh' eb=>⟨rfl,I.turned (t':=s.toks) (λb o hb e=>eb b o hb e) f0 f1 f3 f4 f5⟩
 self:=λ_ _ _ _ _ st h=>wpAny_pyIter_rangeiter st h
section
variable {X:Cx} {tg:Expr}
noncomputable def D4 (K:W.Frag) (tl:TE):TI:=λσ H R=>tl σ H λx H1=>∃ a,x=.ref a/\(∃ xs,P6 K H1 a xs)/\R (ZF K a) H1
noncomputable def Fy (K:W.Frag) (tl:TE):TI:=λσ H R=>tl σ H λx H1=>∃ a,x=.ref a/\(∃ xs,Qq K H1 a xs)/\R (ZG K a) H1
variable {l:Expr} {tl:TE}
theorem zC (hl:PE X l tl):PI X tg l (D4 X.K tl):=by
 intro pins s σ H R I h;refine PR (hl pins s σ H _ I h) λv s1 ⟨x,H1,I1,r1,q1⟩=>?_;obtain ⟨a,e,⟨xs,hq⟩,q⟩:=q1;subst e;cases r1;obtain ⟨its,rv,p,hz⟩:=I1.list hq;refine Nb p.isList ?_;refine ⟨s1.heap.objs.size,[s1.heap.objs.size],_,_,H1,rfl,I1.kept (t':=s1.toks) λb o e=>LD _ e,uD a _,⟨_,MI _ rfl,rfl,rfl⟩,λb hb=>?_,q⟩;have e:b=s1.heap.objs.size:=by simpa using hb
 subst e;exact I1.Te (Mu _) (I1.hok.fresh (Mu _))
theorem Cw (hl:PE X l tl):PI X tg l (Fy X.K tl):=by
 intro pins s σ H R I h;refine PR (hl pins s σ H _ I h) λv s1 ⟨x,H1,I1,r1,q1⟩=>?_;obtain ⟨a,e,⟨xs,hq⟩,q⟩:=q1;subst e;cases r1;obtain ⟨its,rv,p,hz⟩:=I1.tuple hq;refine wpAny_pyIter_tuple (show s1.heap.IsTuple a its.toArray from p) ?_;refine ⟨s1.heap.objs.size,[s1.heap.objs.size],_,_,H1,rfl,I1.kept (t':=s1.toks) λb o e=>LD _ e,qP a _,⟨_,MI _ rfl,rfl,rfl⟩,λb hb=>?_,q⟩;have e:b=s1.heap.objs.size:=by simpa using hb
 subst e;exact I1.Te (Mu _) (I1.hok.fresh (Mu _))
variable {pins:List (Addr × Obj)} {σ:St} {H:Hp}
theorem xJ {s:Shared} {R:It->Hp->Prop} {E:Value->Shared->Prop} {lo hi:Int} {t u v:Tok} {tk:Nat} (I:Inv X pins σ H s) (h1:-(2 ^ 62)<=lo) (h2:lo < 2 ^ 62) (h3:-(2 ^ 62)<=hi) (h4:hi < 2 ^ 62)
  (q:R (YB lo (hi - lo).toNat) H):wpAny (model X.prog X.w) X.A (pyIter (.ref s.heap.objs.size)) (YA X pins σ tg R) E { s with heap:=s.heap.push { cls:=.type "range",data:=.fields #[.int lo t,.int hi u,.int 1 v] },toks:=tk }:=by
 refine wpAny_pyIter_range (IsRange.new ..) (small_one h1 h2 h3 h4) ?_;have I1:Inv X pins σ H { s with heap:=s.heap.push { cls:=.type "range",data:=.fields #[.int lo t,.int hi u,.int 1 v] },toks:=tk }:=I.kept λb o e=>LD _ e
 refine ⟨(s.heap.push { cls:=.type "range",data:=.fields #[.int lo t,.int hi u,.int 1 v] }).objs.size,[(s.heap.push { cls:=.type "range",data:=.fields #[.int lo t,.int hi u,.int 1 v] }).objs.size],_,_,H,rfl,
  I1.kept (t':=tk) λb o e=>LD _ e,qO _ lo (hi - lo).toNat,?_,λb hb=>?_,q⟩
 ·have e1:lo+((0:Nat):Int) * 1=lo:=by simp
  have e2:(((hi - lo).toNat:Nat):Int) - ((0:Nat):Int)=Builtin.Range.rangeSize lo hi 1:=by rw [rangeSize_one];split <;> lia
  show IsRangeIter _ _ (lo+((0:Nat):Int) * 1) ((((hi - lo).toNat:Nat):Int) - ((0:Nat):Int)) 1;rw [e1,e2];exact MI _ rfl
 ·have e:b=(s.heap.push { cls:=.type "range",data:=.fields #[.int lo t,.int hi u,.int 1 v] }).objs.size:=by simpa using hb
  subst e;exact I1.Te (Mu _) (I1.hok.fresh (Mu _))
noncomputable def D5 (ta:TA):TI:=λσ H R=>ta σ H λvs H1=>∃ j:Int,vs=[.int j]/\-(2 ^ 62)<=j/\j < 2 ^ 62/\R (YB 0 j.toNat) H1
variable {pos:Pos}
theorem uq {a:Expr} {ta:TA} {p:Pos} (hg:Gl X "range") (hm:X.mg "range"=none) (ha:PA X [a] ta) (hs:starEach [a] X.env=[(false,eval a X.env)]:=by rfl):PI X tg (.Call (.Name "range" p) [a] [] pos) (D5 ta):=by
 intro pins s σ H R I h;refine Call_ (fH I hg hm boot_range (Nf (PR (ha pos pins s σ H _ I h) λus s1 ⟨vs,H1,I1,r1,q1⟩=>?_) hs rfl));obtain ⟨j,e,q1,q2,q⟩:=q1;subst e
 cases r1 with
 | cons r rr =>cases rr;obtain ⟨t,rfl⟩:=r;exact call_range_1 (xJ I1 (by lia) (by lia) q1 q2 (by simpa using q))
noncomputable def FS (wi:TI) (g:TG) (tb:TS):TS:=λD σ H=>wi σ H λJ H1=>∃ W:Nat->Nat->St->Hp->Prop,(∃ m,W 0 m σ H1)/\∀ i m σ H,W i m σ H ->
 (J.stop i H/\D.nx σ H)\/(J.go i H/\∃ N:St->Hp->Prop,(∀ σ' H',N σ' H'->∃ m',m' < m/\W (i+1) m' σ' H')/\∀ x H',J.VE i H x H'->g x σ H' λσ2 H2=>tb { D with nx:=N,ct:=N,bk:=D.nx } σ2 H2)
noncomputable def iM (fp:List Addr) (h:Heap):List (Addr × Obj):=fp.filterMap λb=>(h.get? b).map λo=>(b,o)
variable {fp:List Addr}
theorem c8 {h:Heap} {b:Addr} {o:Obj} (hb:b ∈ fp) (e:h.get? b=some o):(b,o) ∈ iM fp h:=Oz.mpr ⟨b,hb,by rw [e];rfl⟩
theorem ug {h:Heap} {p:Addr × Obj} (hp:p ∈ iM fp h):p.1 ∈ fp/\h.get? p.1=some p.2:=by
 obtain ⟨b,hb,e⟩:=Oz.mp hp
 cases q:h.get? b with
 | none=>rw [q] at e;cases e
 | some o =>rw [q] at e;have e':(b,o)=p:=MB e;subst e';exact ⟨hb,q⟩
theorem Inv.pinned {s:Shared} (I:Inv X pins σ H s) (hf:∀ b ∈ fp,iC X pins H b) (ho:∀ b ∈ fp,∃ o,s.heap.get? b=some o/\∀ v,o.data≠.cell v):Inv X (pins++iM fp s.heap) σ H s :=
 I.UA λp hp=>(Nc.mp hp).elim (λz=>I.pin p (MN _ z)) λz=>by obtain ⟨hb,e⟩:=ug z;obtain ⟨f0,f1,f2,_⟩:=hf p.1 hb;obtain ⟨o,e',d⟩:=ho p.1 hb;rw [e] at e';cases e';exact ⟨e,f0,f1,f2,d⟩
theorem Inv.Q7 {pl:List (Addr × Obj)} {s:Shared} (I:Inv X (pins++pl) σ H s):Inv X pins σ H s:=I.UA λp hp=>I.pin p (MN _ (Og _ hp))
theorem CA {iter:Expr} {body:List Stmt} {wi:TI} {g:TG} {tb:TS} (hp:PassesOwn (model X.prog X.w) X.A X.env X.xe) (hc:X.calm=true) (hi:PI X tg iter wi) (hg:PG X tg g) (hb:QI X body tb)
  (hs:∀ x,foldedSetIterable iter X.env x=pure x:=by intro _;rfl):PS X (.For tg iter body [] pos) (FS wi g tb):=by
 intro pins s σ H D I h;refine wpAny_For (PR (hi pins s σ H _ I h) λv s1 h1=>PR h1 λitv s2 h2=>?_) hs;obtain ⟨it,fp,tn,J,H2,e,I2,T,st2,f2,W,⟨m0,w0⟩,turn⟩:=h2;subst e;have iY:∀ {H':Hp},(∀ b ∈ fp,H' b=none)->∀ b ∈ fp,iC X pins H' b:=λhn b hb=>⟨hn b hb,(f2 b hb).2⟩
 refine codeAny_forLoop_any (λn s'=>∃ i σ' H',Inv X pins σ' H' s'/\tn i s'.heap/\(∀ b ∈ fp,H' b=none)/\W i n σ' H') ?_ m0 ⟨0,σ,H2,I2,st2,λb hb=>(f2 b hb).1,w0⟩;rintro n s3 ⟨i,σ3,H3,I3,st3,VU,w3⟩;rcases turn i n σ3 H3 w3 with ⟨stop,qn⟩ | ⟨go,N,hN,step⟩
 ·refine NU hp (PR (T.done X rfl rfl rfl hc i pins s3 σ3 H3 X.xe I3 (iY VU) st3 stop) λr s4 ⟨hr,I4⟩=>?_);subst hr;exact OU ⟨σ3,H3,I4,qn⟩
 ·refine NU hp (PR (T.item X rfl rfl rfl hc i pins s3 σ3 H3 X.xe I3 (iY VU) st3 go) λr s4 ⟨u,hr,h4⟩=>?_);subst hr;refine NU hp (PR h4 λ_ s5 ⟨x,H5,I5,r5,y5,Ve,Xb⟩=>?_);have Xc:=I5.pinned (iY Xb) (T.obj _ _ Ve);refine NU hp (PR (hg _ s5 σ3 H5 x u _ Xc r5 (step x H5 y5)) λ_ s6 ⟨σ6,H6,I6,q6⟩=>?_);refine NU hp (PR (hb _ s6 σ6 H6 _ I6 q6) λf s7 q7=>?_)
  have again:∀ {σ7:St} {H7:Hp},Inv X (pins++iM fp s5.heap) σ7 H7 s7->N σ7 H7->∃ m,m < n/\∃ i σ' H',Inv X pins σ' H' s7/\tn i s7.heap/\(∀ b ∈ fp,H' b=none)/\W i m σ' H':=λ{σ7 H7} I7 n7=>by obtain ⟨m',hm,w7⟩:=hN σ7 H7 n7;refine ⟨m',hm,i+1,σ7,H7,I7.Q7,T.keep _ _ _ Ve λb hb o e=>(I7.pin (b,o) (MN _ (MN _ (c8 hb e)))).1,λb hb=>?_,w7⟩;obtain ⟨o,e,d⟩:=T.obj _ _ Ve b hb;exact (I7.pin (b,o) (MN _ (MN _ (c8 hb e)))).2.1
  cases f with
  | next=>obtain ⟨σ7,H7,I7,n7⟩:=q7;exact again I7 n7
  | cont=>obtain ⟨σ7,H7,I7,n7⟩:=q7;exact again I7 n7
  | brk=>obtain ⟨σ7,H7,I7,q7⟩:=q7;exact ⟨σ7,H7,I7.Q7,q7⟩
  | ret v=>obtain ⟨x7,σ7,H7,I7,r7,q7⟩:=q7;exact ⟨x7,σ7,H7,I7.Q7,r7,q7⟩
end
noncomputable abbrev R2:=V->V->Hp->VK->Prop
noncomputable def QA (X:Cx) (f:Value->Value->Sem Value) (r:R2):Prop :=
 ∀ (pins:List (Addr × Obj)) (s:Shared) (σ:St) (H:Hp) (x y:V) (v u:Value) (Q:VK),Inv X pins σ H s->RelV x v->RelV y u->r x y H Q ->
  wpAny (model X.prog X.w) X.A (f v u) (EP X pins σ Q) X.xe s
noncomputable def XZ (X:Cx) (f:Value->Sem Value) (r:V->Hp->VK->Prop):Prop :=
 ∀ (pins:List (Addr × Obj)) (s:Shared) (σ:St) (H:Hp) (x:V) (v:Value) (Q:VK),Inv X pins σ H s->RelV x v->r x H Q ->
  wpAny (model X.prog X.w) X.A (f v) (EP X pins σ Q) X.xe s
noncomputable def cZ (X:Cx) (f:Value) (r:List V->Hp->VK->Prop):Prop :=
 ∀ (pins:List (Addr × Obj)) (s:Shared) (σ:St) (H:Hp) (xs:List V) (us:List Value) (Q:VK),Inv X pins σ H s->Vals xs us->r xs H Q ->
  wpAny (model X.prog X.w) X.A (call f us) (EP X pins σ Q) X.xe s
noncomputable def E7 (X:Cx) (r:V->Hp->(Bool->Hp->Prop)->Prop):Prop :=
 ∀ (pins:List (Addr × Obj)) (s:Shared) (σ:St) (H:Hp) (x:V) (v:Value) (Q:Bool->Hp->Prop),Inv X pins σ H s->RelV x v->r x H Q ->
  wpAny (model X.prog X.w) X.A (truthy v) (TP X pins σ Q) X.xe s
noncomputable def Vf (r:R2) (ta tb:TE):TE:=λσ H Q=>ta σ H λx H1=>tb σ H1 λy H2=>r x y H2 Q
noncomputable def VJ (r:V->Hp->VK->Prop) (ta:TE):TE:=λσ H Q=>ta σ H λx H1=>r x H1 Q
noncomputable def rI (C:Int->Int->Prop) (g:Int->Int->V):R2:=λx y H Q=>∃ i j,x=.int i/\y=.int j/\C i j/\Q (g i j) H
noncomputable def Tz (g:Int->Int->V):R2:=λx y H Q=>∃ i j,x=.int i/\y=.int j/\Q (g i j) H
noncomputable def rU (g:Int->V):V->Hp->VK->Prop:=λx H Q=>∃ i,x=.int i/\Q (g i) H
section
variable {X:Cx} {a b c:Expr} {ta tb tc:TE} {pos:Pos}
variable {f:Value->Value->Sem Value}
theorem AQ (ha:PE X a ta) (hb:PE X b tb) {pins:List (Addr × Obj)} {s:Shared} {σ:St} {H:Hp} {R:V->V->Hp->Prop} (I:Inv X pins σ H s)
  (h:ta σ H λx H1=>tb σ H1 λy H2=>R x y H2) {Q:Value->Shared->Prop}
  (hf:∀ v u s2 x y H2,Inv X pins σ H2 s2->RelV x v->RelV y u->R x y H2->wpAny (model X.prog X.w) X.A (f v u) Q X.xe s2) :
  wpAny (model X.prog X.w) X.A (eval a X.env) (λv s₁=>wpAny (model X.prog X.w) X.A (eval b X.env) (λu s₂=>wpAny (model X.prog X.w) X.A (f v u) Q X.xe s₂) X.xe s₁) X.xe s:=by
 refine PR (ha pins s σ H _ I h) λv s1 ⟨x,H1,I1,r1,q1⟩=>?_;refine PR (hb pins s1 σ H1 _ I1 q1) λu s2 ⟨y,H2,I2,r2,q2⟩=>?_;exact hf v u s2 x y H2 I2 r1 r2 q2
theorem cE {op:Operator} {r:R2} (ho:QA X (binaryOp op) r) (ha:PE X a ta) (hb:PE X b tb):PE X (.BinOp a op b pos) (Vf r ta tb):=by intro pins s σ H Q I h;exact wpAny_BinOp (AQ ha hb I h λv u s2 x y H2 I2 rx ry q=>ho pins s2 σ H2 x y v u Q I2 rx ry q)
theorem Au {op:UnaryOp} {r:V->Hp->VK->Prop} (ho:XZ X (unaryOp op) r) (ha:PE X a ta):PE X (.UnaryOp op a pos) (VJ r ta):=by intro pins s σ H Q I h;exact UnaryOp_ (PR (ha pins s σ H _ I h) λv s1 ⟨x,H1,I1,r1,q1⟩=>ho pins s1 σ H1 x v Q I1 r1 q1)
variable {g:Int->Int->Int}
theorem Xd {C:Int->Int->Prop}
  (rule:∀ (i j:Int) (t u:Tok) (s:Shared) (Q:Value->Shared->Prop) (E:Value->Shared->Prop),C i j->Q (.int (g i j) s.toks) { s with toks:=s.toks+1 }->wpAny (model X.prog X.w) X.A (f (.int i t) (.int j u)) Q E s) :
  QA X f (rI C λi j=>.int (g i j)):=by
 intro pins s σ H x y v u Q I rx ry h;obtain ⟨i,j,rfl,rfl,hc,q⟩:=h;obtain ⟨t,rfl⟩:=rx;obtain ⟨t',rfl⟩:=ry;exact rule i j t t' s _ _ hc ⟨.int (g i j),H,I.tok _,⟨_,rfl⟩,q⟩
theorem El
  (rule:∀ (i j:Int) (t u:Tok) (s:Shared) (Q:Value->Shared->Prop) (E:Value->Shared->Prop),Q (.int (g i j) s.toks) { s with toks:=s.toks+1 }->wpAny (model X.prog X.w) X.A (f (.int i t) (.int j u)) Q E s) :
  QA X f (Tz λi j=>.int (g i j)):=by
 intro pins s σ H x y v u Q I rx ry h;obtain ⟨i,j,rfl,rfl,q⟩:=h;obtain ⟨t,rfl⟩:=rx;obtain ⟨t',rfl⟩:=ry;exact rule i j t t' s _ _ ⟨.int (g i j),H,I.tok _,⟨_,rfl⟩,q⟩
theorem zm {g:Int->Int->Bool}
  (rule:∀ (i j:Int) (t u:Tok) (s:Shared) (Q:Value->Shared->Prop) (E:Value->Shared->Prop),Q (.bool (g i j)) s->wpAny (model X.prog X.w) X.A (f (.int i t) (.int j u)) Q E s) :
  QA X f (Tz λi j=>.bl (g i j)):=by
 intro pins s σ H x y v u Q I rx ry h;obtain ⟨i,j,rfl,rfl,q⟩:=h;obtain ⟨t,rfl⟩:=rx;obtain ⟨t',rfl⟩:=ry;exact rule i j t t' s _ _ ⟨.bl (g i j),H,I,rfl,q⟩
noncomputable def Dg (i j:Int):Prop:=0 < j/\j < 1073741824
noncomputable def E3 (i j:Int):Prop:=0<=j/\j<=1000000/\i.natAbs < 2 ^ 64
noncomputable def Wa (i j:Int):Prop:=(-(2 ^ 64) < i/\i < 2 ^ 64)\/(-(2 ^ 64) < j/\j < 2 ^ 64)
theorem Wa.ok {i j:Int} (h:Wa i j):IntMulOk i j:=by
 rcases h with ⟨h1,h2⟩ | ⟨h1,h2⟩
 ·exact .of_left (intBits_le_64 h1 h2)
 ·exact .of_right (intBits_le_64 h1 h2)
theorem P0:QA X (binaryOp .Add) (Tz λi j=>.int (i+j)):=El λ_ _ _ _ _ _ _ q=>add_int q
theorem mQ:QA X (binaryOp .Sub) (Tz λi j=>.int (i - j)):=El λ_ _ _ _ _ _ _ q=>sub_int q
theorem wZ:QA X (binaryOp .Mult) (rI Wa λi j=>.int (i * j)):=Xd λ_ _ _ _ _ _ _ hc q=>mul_int q hc.ok
theorem ic:QA X (binaryOp .FloorDiv) (rI Dg λi j=>.int (i / j)):=Xd λi j _ _ _ _ _ hc q=>by have h1:(0:Int) < j:=hc.1;have h2:j < 1073741824:=hc.2;exact floordiv_int (by lia) (by rw [Int.fdiv_eq_ediv_of_nonneg i (by lia)];exact q) (.inl (PyProof.noPylong_small (by lia)))
theorem dB:QA X (binaryOp .Mod) (rI (λ_ j=>0 < j) λi j=>.int (i % j)):=Xd λi j _ _ _ _ _ hc q=>by have h1:(0:Int) < j:=hc;exact mod_int' (by lia) (by rw [Int.fmod_eq_emod_of_nonneg i (by lia)];exact q)
theorem mP:QA X (binaryOp .Pow) (rI E3 λi j=>.int (i ^ j.toNat)):=Xd λ_ _ _ _ _ _ _ hc q=>pow_int_small hc.1 hc.2.1 hc.2.2 q
theorem unI {f:Value->Sem Value} {g:Int->Int}
  (rule:∀ (i:Int) (t:Tok) (s:Shared) (Q:Value->Shared->Prop) (E:Value->Shared->Prop),Q (.int (g i) s.toks) { s with toks:=s.toks+1 }->wpAny (model X.prog X.w) X.A (f (.int i t)) Q E s) :
  XZ X f (rU λi=>.int (g i)):=by
 intro pins s σ H x v Q I rx h;obtain ⟨i,rfl,q⟩:=h;obtain ⟨t,rfl⟩:=rx;exact rule i t s _ _ ⟨.int (g i),H,I.tok _,⟨_,rfl⟩,q⟩
theorem kO:XZ X (unaryOp .USub) (rU λi=>.int (-i)):=unI λ_ _ _ _ _ q=>neg_int q
end
noncomputable def FK:V->V->Bool
 | .PJ,.PJ=>true | .PJ,.int _=>true | .int _,.PJ=>true | .PJ,.bl _=>true | .bl _,.PJ=>true | .PJ,.str _=>true | .str _,.PJ=>true
 | .int _,.int _=>true | .bl _,.bl _=>true | .str _,.str _=>true | .U3 _,.U3 _=>true
 | .int _,.str _=>true | .str _,.int _=>true | .bl _,.str _=>true | .str _,.bl _=>true
 | _,_=>false
noncomputable def ZH:R2:=λx y H Q=>FK x y=true/\Q (.bl (!decide (x=y))) H
theorem yu {i j:Int}:decide (V.int i=V.int j)=(i == j):=by rw [NV];simp
theorem A0 {i j:Bool}:decide (V.bl i=V.bl j)=(i == j):=by rw [NV];simp
theorem yv {i j:Str}:decide (V.str i=V.str j)=(i == j):=by rw [NV];simp
theorem yt {i j:Array UInt8}:decide (V.U3 i=V.U3 j)=(i.toList == j.toList):=by rw [NV];cases i;cases j;simp
section
variable {X:Cx} {a b c:Expr} {ta tb tc:TE} {pos:Pos}
theorem cK {pins:List (Addr × Obj)} {σ:St} {H:Hp} {s:Shared} {Q:VK} {k k':Bool} (I:Inv X pins σ H s) (q:Q (.bl k) H) (e:k=k'):EP X pins σ Q (.bool k') s:=by subst e;exact ⟨.bl k,H,I,rfl,q⟩
theorem Em:QA X (compareOp .NotEq) ZH:=by
 intro pins s σ H x y v u Q I rx ry h;obtain ⟨hs,q⟩:=h
 cases x with
 | PJ =>
  cases rx
  cases y with
  | PJ=>cases ry;exact PySem.EqNone.ne_none_none (cK I q (by simp))
  | bl j=>cases ry;exact PySem.EqNone.ne_none_bool (cK I q (by simp))
  | int j=>obtain ⟨t',rfl⟩:=ry;exact PySem.EqNone.ne_none_int (cK I q (by simp))
  | str j=>obtain ⟨t',rfl⟩:=ry;exact PySem.EqNone.ne_none_str (cK I q (by simp))
  | _=>exact absurd (show false=true from hs) Mx
 | bl i =>
  cases rx
  cases y with
  | PJ=>cases ry;exact PySem.EqNone.ne_bool_none (cK I q (by simp))
  | bl j=>cases ry;exact ne_bool (cK I q (M5 not A0))
  | str j=>obtain ⟨t',rfl⟩:=ry;exact PySem.EqMixed.ne_bool_str (cK I q (by simp))
  | _=>exact absurd (show false=true from hs) Mx
 | int i =>
  obtain ⟨t,rfl⟩:=rx
  cases y with
  | PJ=>cases ry;exact PySem.EqNone.ne_int_none (cK I q (by simp))
  | int j=>obtain ⟨t',rfl⟩:=ry;exact ne_int (cK I q (M5 not yu))
  | str j=>obtain ⟨t',rfl⟩:=ry;exact PySem.EqMixed.ne_int_str (cK I q (by simp))
  | _=>exact absurd (show false=true from hs) Mx
 | str i =>
  obtain ⟨t,rfl⟩:=rx
  cases y with
  | PJ=>cases ry;exact PySem.EqNone.ne_str_none (cK I q (by simp))
  | bl j=>cases ry;exact PySem.EqMixed.ne_str_bool (cK I q (by simp))
  | int j=>obtain ⟨t',rfl⟩:=ry;exact PySem.EqMixed.ne_str_int (cK I q (by simp))
  | str j=>obtain ⟨t',rfl⟩:=ry;exact ne_str (cK I q (M5 not yv))
  | _=>exact absurd (show false=true from hs) Mx
 | U3 i =>
  obtain ⟨t,rfl⟩:=rx
  cases y with
  | U3 j=>obtain ⟨t',rfl⟩:=ry;exact W.ne_bytes (cK I q (M5 not yt))
  | _=>exact absurd (show false=true from hs) Mx
 | _=>cases y <;> exact absurd (show false=true from hs) Mx
theorem lQ:QA X (compareOp .Lt) (Tz λi j=>.bl (decide (i < j))):=zm λ_ _ _ _ _ _ _ q=>lt_int q
theorem jn:QA X (compareOp .LtE) (Tz λi j=>.bl (decide (i<=j))):=zm λ_ _ _ _ _ _ _ q=>le_int q
theorem ki:QA X (compareOp .Gt) (Tz λi j=>.bl (decide (j < i))):=zm λ_ _ _ _ _ _ _ q=>gt_int q
theorem wW:QA X (compareOp .GtE) (Tz λi j=>.bl (decide (j<=i))):=zm λ_ _ _ _ _ _ _ q=>ge_int q
variable {r r':R2}
theorem QA.or {f:Value->Value->Sem Value} (h:QA X f r) (h':QA X f r'):QA X f (λx y H Q=>r x y H Q\/r' x y H Q):=by
 intro pins s σ H x y v u Q I rx ry q;rcases q with q | q
 ·exact h pins s σ H x y v u Q I rx ry q
 ·exact h' pins s σ H x y v u Q I rx ry q
variable {op:CmpOp}
theorem aI (b:Expr) (h:op≠.In:=by decide) (h2:op≠.NotIn:=by decide):behindInMarks op b=false:=by
 have e1:(op == CmpOp.In)=false:=by cases op <;> first | rfl | exact absurd rfl h
 have e2:(op == CmpOp.NotIn)=false:=by cases op <;> first | rfl | exact absurd rfl h2
 cases b <;> simp [behindInMarks,e1,e2]
theorem rA (ho:QA X (compareOp op) r) (ha:PE X a ta) (hb:PE X b tb) (hm:behindInMarks op b=false):PE X (.Compare a [op] [b] pos) (Vf r ta tb):=by intro pins s σ H Q I h;exact wpAny_Compare1 (AQ ha hb I h λv u s2 x y H2 I2 rx ry q=>ho pins s2 σ H2 x y v u Q I2 rx ry q) hm
noncomputable def RJ (t:TE):TT:=λσ H Q=>t σ H λx H'=>∃ k,x=.bl k/\Q k H'
theorem dY (ho:QA X (compareOp op) r) (ha:PE X a ta) (hb:PE X b tb) (hm:behindInMarks op b=false):PT X (.Compare a [op] [b] pos) (RJ (Vf r ta tb)):=by
 intro pins s σ H Q I h
 refine wpAny_isTrue_Compare1 (PR (ha pins s σ H _ I h) λv s1 ⟨x,H1,I1,r1,q1⟩=>PR (hb pins s1 σ H1 _ I1 q1) λu s2 ⟨y,H2,I2,r2,q2⟩ =>
  PR (ho pins s2 σ H2 x y v u _ I2 r1 r2 q2) λc s3 ⟨z,H3,I3,r3,k,e,q3⟩=>?_) hm
 subst e;cases r3;exact M6 ⟨H3,I3,q3⟩
noncomputable def Q8 (r r':R2) (ta tb tc:TE):TE:=λσ H Q=>ta σ H λx H1=>tb σ H1 λy H2=>r x y H2 λz H3=>∃ k,z=.bl k /\
 (if k=true then tc σ H3 λw' H4=>r' y w' H4 Q else Q (.bl false) H3)
variable {op':CmpOp}
theorem oQ (ho:QA X (compareOp op) r) (ho':QA X (compareOp op') r') (ha:PE X a ta) (hb:PE X b tb) (hc:PE X c tc)
  (hm:lastMarks [op,op'] [b,c]=false:=by with_unfolding_all rfl):PE X (.Compare a [op,op'] [b,c] pos) (Q8 r r' ta tb tc):=by
 intro pins s σ H Q I h
 refine Compare_chain (PR (ha pins s σ H _ I h) λv s1 ⟨x,H1,I1,r1,q1⟩=>chain_link (PR (hb pins s1 σ H1 _ I1 q1) λu s2 ⟨y,H2,I2,r2,q2⟩ =>
  PR (ho pins s2 σ H2 x y v u _ I2 r1 r2 q2) λd s3 ⟨z,H3,I3,r3,k,e,q3⟩=>?_)) hm
 subst e;cases r3;refine M6 ?_
 cases k with
 | false=>exact ite_ff ⟨.bl false,H3,I3,rfl,q3⟩
 | true=>exact ite_tt (chain_last (PR (hc pins s3 σ H3 _ I3 q3) λw' s4 ⟨z',H4,I4,r4,q4⟩=>ho' pins s4 σ H4 y z' u w' Q I4 r2 r4 q4))
theorem oV (ho:QA X (compareOp op) r) (ho':QA X (compareOp op') r') (ha:PE X a ta) (hb:PE X b tb) (hc:PE X c tc)
  (hm:lastMarks [op,op'] [b,c]=false:=by with_unfolding_all rfl):PT X (.Compare a [op,op'] [b,c] pos) (RJ (Q8 r r' ta tb tc)):=by
 intro pins s σ H Q I h
 refine isTrue_chain (PR (ha pins s σ H _ I h) λv s1 ⟨x,H1,I1,r1,q1⟩=>test_link (PR (hb pins s1 σ H1 _ I1 q1) λu s2 ⟨y,H2,I2,r2,q2⟩ =>
  PR (ho pins s2 σ H2 x y v u _ I2 r1 r2 q2) λd s3 ⟨z,H3,I3,r3,k,e,q3⟩=>?_)) hm
 subst e;cases r3;refine M6 ?_
 cases k with
 | false =>obtain ⟨k',e',q'⟩:=q3;cases e';exact ite_ff ⟨H3,I3,q'⟩
 | true =>refine ite_tt (test_last (PR (hc pins s3 σ H3 _ I3 q3) λw' s4 ⟨z',H4,I4,r4,q4⟩=>PR (ho' pins s4 σ H4 y z' u w' _ I4 r2 r4 q4) λd' s5 ⟨z2,H5,I5,r5,k2,e2,q5⟩=>?_));subst e2;cases r5;exact M6 ⟨H5,I5,q5⟩
noncomputable def uP (K:W.Frag) (x:V) (H:Hp) (k:Bool):Prop :=
 match x with
 | .PJ=>k=false
 | .bl b=>k=b
 | .int i=>k=(i != 0)
 | .str y=>y.length<=sizeLine/\k=((y.length:Int) != 0)
 | .U3 y=>y.size<=sizeLine/\k=((y.size:Int) != 0)
 | .ref p=>(∃ xs,P6 K H p xs/\k=!xs.isEmpty)\/(∃ xs,Qq K H p xs/\k=!xs.isEmpty)\/∃ kvs,H p=some (.dK kvs)/\k=!kvs.isEmpty
 | _=>False
theorem pU {κ:Type} {kvs:List (κ × V)} {vs:List (κ × Value)} (r:KV kvs vs):(!vs.isEmpty)=!kvs.isEmpty:=by cases r <;> rfl
theorem j9 {xs:List V} {its:List Value} (r:Vals xs its):(!its.toArray.isEmpty)=!xs.isEmpty:=by cases r <;> simp
theorem fJ:(sizeLine:Nat) < 2 ^ 63:=by rw [Na];decide
theorem C4:E7 X (λx H Q=>∃ k,uP X.K x H k/\Q k H):=by
 intro pins s σ H x v Q I rx h;obtain ⟨k,e,q⟩:=h;have hl:=fJ;have hs:sizeLine=16777216:=Na
 cases x with
 | PJ =>cases rx;have e':k=false:=e;subst e';exact truthy_none ⟨H,I,q⟩
 | bl b =>cases rx;have e':k=b:=e;subst e';exact M6 ⟨H,I,q⟩
 | int i =>obtain ⟨t,rfl⟩:=rx;have e':k=(i != 0):=e;subst e';exact PySem.P.truthy_int ⟨H,I,q⟩
 | str y =>obtain ⟨t,rfl⟩:=rx;obtain ⟨hy,e'⟩:y.length<=sizeLine/\k=((y.length:Int) != 0):=e;subst e';exact PySem.P.truthy_str (by lia) ⟨H,I.tok _,q⟩
 | U3 y =>obtain ⟨t,rfl⟩:=rx;obtain ⟨hy,e'⟩:y.size<=sizeLine/\k=((y.size:Int) != 0):=e;subst e';exact W.truthy_bytes (by lia) ⟨H,I.tok _,q⟩
 | ref p =>
  cases rx;have e':(∃ xs,P6 X.K H p xs/\k=!xs.isEmpty)\/(∃ xs,Qq X.K H p xs/\k=!xs.isEmpty)\/∃ kvs,H p=some (.dK kvs)/\k=!kvs.isEmpty:=e;rcases e' with ⟨xs,hx,e'⟩ | ⟨xs,hx,e'⟩ | ⟨kvs,hx,e'⟩
  ·subst e';obtain ⟨its,r,pl,hz⟩:=I.list hx;have hlen:=r.length;exact wpAny_truthy_list pl.isList (by simp only [Mt];lia) ⟨H,I.tok _,by rw [j9 r];exact q⟩
  ·subst e';obtain ⟨its,r,pl,hz⟩:=I.tuple hx;have hlen:=r.length;exact truthy_tuple pl (by simp only [Mt];lia) ⟨H,I.tok _,by rw [j9 r];exact q⟩
  ·subst e';obtain ⟨hz,hS,vs,r,m⟩:kvs.length<=sizeLine/\(p == sysModules)=false/\∃ vs,KV kvs vs/\s.heap.DictOf (b9 X.prog X.w) p vs:=I.hok p _ hx;have hlen:kvs.length=vs.length:=Paired.length r;exact wpAny_truthy_dict hS m (by lia) ⟨H,I.tok _,by rw [pU r];exact q⟩
 | _=>exact (show False from e).elim
theorem km (ha:PE X a ta) (he:∀ whole,isTrue a X.env whole=(do let v <- whole;standAt a.pos;holding [v] (truthy v))) :
  PT X a (λσ H Q=>ta σ H λx H'=>∃ k,uP X.K x H' k/\Q k H'):=by
 intro pins s σ H Q I h;exact isTrue_plain (PR (ha pins s σ H _ I h) λv s1 ⟨x,H1,I1,r1,q1⟩=>C4 pins s1 σ H1 x v Q I1 r1 q1) (he _)
variable {us:List Value}
theorem cH {x:V} (r:Vals [x] us):∃ u,us=[u]/\RelV x u:=by
 cases r with
 | cons r1 r2=>cases r2;exact ⟨_,rfl,r1⟩
theorem AK {x y:V} (r:Vals [x,y] us):∃ u w',us=[u,w']/\RelV x u/\RelV y w':=by
 cases r with
 | cons r1 r2 =>
  cases r2 with
  | cons r3 r4=>cases r4;exact ⟨_,_,rfl,r1,r3⟩
end
section
variable {prog:Program} {w:World} {A:Around} {E:Value->Shared->Prop} {s:Shared} {K:W.Frag} {x dx C f:Addr} {mA:Str->Option Value} {name:Str} {v:Value}
end
theorem T7.some_of {v:V} {o:Option Value} (r:T7 (some v) o):∃ u,o=some u/\RelV v u:=by
 cases o with
 | none=>exact (show False from r).elim
 | some u=>exact ⟨u,rfl,r⟩
section
variable {P:Program} {w:World} {H H':Hp} {h h':Heap} {a C dx:Addr} {fs fs':List (Str × V)}
end
section
variable {X:Cx} {pins:List (Addr × Obj)} {σ:St} {H:Hp} {s:Shared} {a C dx:Addr} {fs:List (Str × V)} {f:Str} {v:V} {A:Around} {E:Value->Shared->Prop}
end
section
variable {X:Cx} {o e value:Expr} {f:Str} {pos pos' tpos:Pos} {ta tv:TE}
end
section
variable {X:Cx} {pins:List (Addr × Obj)} {σ:St} {H:Hp} {s:Shared} {A:Around} {E:Value->Shared->Prop} {Q:Value->Shared->Prop} {c:Value} {b:Bool}
end
structure P5 (k:Nat) (A:Around):Prop where
 hd:A.handled=none
 dp:A.depth+3 * k+5 < recursionLimit
 un:A.units+16 * k+200 < cLine
variable {j:Nat}
theorem P5.mono {k:Nat} {A:Around} (r:P5 k A) (h:j<=k):P5 j A:=⟨r.hd,by have:=r.dp;lia,by have:=r.un;lia⟩
theorem P5.deeper {k:Nat} {A:Around} (r:P5 (k+1) A) (env:Env):P5 k (A.deeper env) :=
 ⟨r.hd,by have:=r.dp;show A.depth+1+3 * k+5 < _;lia,by have:=r.un;show A.units+3+16 * k+200 < _;lia⟩
variable {kw:List (Str × Value)}
theorem p4 {A:Around} {C:Addr}:(A.under (.builtin "type.__call__" ⟨.ref C::us,kw⟩)).depth=A.depth+1:=by
 first | rfl | simp [Around.under,Code.weight,Code.isCreation,Code.isGuard,Code.isCaller,Code.frames,Code.isFrame,guardIds]
theorem p9 {A:Around} {C:Addr}:(A.under (.builtin "type.__call__" ⟨.ref C::us,kw⟩)).units=A.units+1:=by
 first | rfl | simp [Around.under,Code.cUnits,Code.frames,Code.isFrame]
theorem P5.make {k:Nat} {A:Around} (r:P5 (k+1) A) (C:Addr) (us:List Value) (kw:List (Str × Value)):P5 k (A.under (.builtin "type.__call__" ⟨.ref C::us,kw⟩)) :=
 ⟨r.hd,by have:=r.dp;rw [p4];lia,by have:=r.un;rw [p9];lia⟩
theorem P5.depth {k:Nat} {A:Around} (r:P5 k A):A.depth < recursionLimit:=by have:=r.dp;lia
theorem P5.units {k:Nat} {A:Around} (r:P5 k A):A.units+64 < cLine:=by have:=r.un;lia
noncomputable def dP:TA:=λ_ H Q=>Q [] H
noncomputable def bh (ta:TE) (tr:TA):TA:=λσ H Q=>ta σ H λx H1=>tr σ H1 λxs H2=>Q (x::xs) H2
section
variable {X:Cx} {e:Expr} {es:List Expr} {te:TE} {t:TA} {pos:Pos}
theorem aM:PA X [] dP:=λ_ _ _ _ H Q I h=>Calls.spliced_nil ⟨[],H,I,.nil,h⟩
theorem aX (ha:PE X e te) (hr:PA X es t) (hs:starEach (e::es) X.env=(false,eval e X.env)::starEach es X.env:=by rfl):PA X (e::es) (bh te t):=by intro pos pins s σ H Q I h;rw [hs];show wpAny _ _ (spliced ((false,eval e X.env)::backTo pos (starEach es X.env))) _ _ s;refine Pb (PR (ha pins s σ H _ I h) λu s1 ⟨x,H1,I1,r1,q1⟩=>?_);exact PR (hr pos pins s1 σ H1 _ I1 q1) λus s2 ⟨xs,H2,I2,r2,q2⟩=>⟨x::xs,H2,I2,.cons r1 r2,q2⟩
noncomputable def z8 (t:TA):TE:=λσ H Q=>t σ H λxs H1=>xs.length<=sizeLine/\∀ p,H1 p=none->Q (.ref p) (upd H1 p (.tup xs))
noncomputable def qI (t:TA):TE:=λσ H Q=>t σ H λxs H1=>xs.length<=sizeLine/\∀ p,H1 p=none->Q (.ref p) (upd H1 p (.lst xs))
theorem mR {x1} (h:PA X es t):PE X (.Tuple es x1 pos) (z8 t):=by intro pins s σ H Q I hq;refine wpAny_Tuple_spliced (PR (h pos pins s σ H _ I hq) λus s1 ⟨xs,H1,I1,r,z,q⟩=>⟨by rw [<- r.length];exact z,?_⟩);have hf:H1 s1.heap.objs.size=none:=I1.hok.fresh (Mu _);refine ⟨.ref s1.heap.objs.size,upd H1 s1.heap.objs.size (.tup xs),I1.laid (t':=s1.toks) (λb u e=>LD _ e) (Mu _) ?_,rfl,q _ hf⟩;exact ⟨z,us,r,⟨_,MI _ rfl,rfl,_,rfl⟩⟩
theorem d7 (h:PA X es t):PE X (.List es pos) (qI t):=by intro pins s σ H Q I hq;refine wpAny_List_spliced (PR (h pos pins s σ H _ I hq) λus s1 ⟨xs,H1,I1,r,z,q⟩=>⟨by rw [<- r.length];exact z,?_⟩);have hf:H1 s1.heap.objs.size=none:=I1.hok.fresh (Mu _);refine ⟨.ref s1.heap.objs.size,upd H1 s1.heap.objs.size (.lst xs),I1.laid (t':=s1.toks) (λb u e=>LD _ e) (Mu _) ?_,rfl,q _ hf⟩;exact ⟨z,us,0,r,MI _ rfl⟩
end
noncomputable abbrev Sp:=List V->Hp->VK->XK->Prop
noncomputable abbrev Tf:=List Env->Hp->Shared->XK->Value->Shared->Prop
structure TH (P:Program) (w:World) (K:W.Frag) (mg:Str->Option Value) (base:Heap) (A:Around) (outer:List Env) (s:Shared) (H:Hp):Prop where
 frames:A.frames=some outer
 mod:Mod K mg base
 bs:∀ b o,base.get? b=some o->s.heap.get? b=some o/\H b=none
 UJ:base.objs.size<=s.heap.objs.size
 Ro:s.heap.FunFrames base outer
 Vb:∀ b ∈ frs outer,H b=none
 hok:QM P w H s.heap
 bare:AllBare s.gens
noncomputable def CE (outer:List Env) (P:Program) (w:World) (H:Hp) (s:Shared) (Q:VK) (u:Value) (s':Shared):Prop :=
 ∃ v H',s'.os=s.os/\AllBare s'.gens/\Un (frs outer) [] H H' s.heap s'.heap/\QM P w H' s'.heap/\RelV v u/\Q v H'
noncomputable def CR (CX:Tf) (outer:List Env) (P:Program) (w:World) (H:Hp) (s:Shared) (Q:VK) (E:XK) (r:Result) (s':Shared):Prop :=
 match r with
 | .ok (.ret u)=>CE outer P w H s Q u s'
 | .ok _=>False
 | .error e=>CX outer H s E e s'
structure PB (P:Program) (w:World) (K:W.Frag) (mg:Str->Option Value) (base:Heap) (CX:Tf) (k:Nat) (f:Addr) (fd:FuncData) (ps:List Str) (sp:Sp):Prop where
 len:∀ vs H Q E,sp vs H Q E->vs.length=ps.length
 run:∀ (A:Around) (outer:List Env) (s:Shared) (H:Hp) (args:Args) (us:List Value) (vs:List V) (Q:VK) (E:XK),P5 k A->TH P w K mg base A outer s H->BindsTo s fd args (ps.zip us)->Vals vs us->sp vs H Q E ->
  codeAny (model P w) A (.call (.ref f) args) (CR CX outer P w H s Q E) s
variable {mg:Str->Option Value} {base:Heap} {CX:Tf} {f:Addr} {fd:FuncData} {ps:List Str} {sp:Sp}
theorem PB.mono {k:Nat} (F:PB P w K mg base CX j f fd ps sp) (h:j<=k) :
  PB P w K mg base CX k f fd ps sp:=⟨F.len,λA outer s H args us vs Q E hr=>F.run A outer s H args us vs Q E (hr.mono h)⟩
theorem PB.imp {k:Nat} {ZI:Sp} (F:PB P w K mg base CX k f fd ps sp)
  (h:∀ vs H Q E,ZI vs H Q E->sp vs H Q E):PB P w K mg base CX k f fd ps ZI :=
 ⟨λvs H Q E q=>F.len vs H Q E (h _ _ _ _ q),λA outer s H args us vs Q E hr he hb hv hs=>F.run A outer s H args us vs Q E hr he hb hv (h _ _ _ _ hs)⟩
variable {outer:List Env}
theorem TH.make {A:Around} {s:Shared} (e:TH P w K mg base A outer s H) (C:Addr) (us:List Value) (kw:List (Str × Value)) :
  TH P w K mg base (A.under (.builtin "type.__call__" ⟨.ref C::us,kw⟩)) outer s H:=⟨by first | exact e.frames | (simpa [Around.under,Code.envs,Code.isFrame,pushEnvs] using e.frames),e.mod,e.bs,e.UJ,e.Ro,e.Vb,e.hok,e.bare⟩
section
variable {X:Cx} {pins:List (Addr × Obj)} {σ:St} {H:Hp} {s s':Shared}
theorem Inv.VL (I:Inv X pins σ H s):TH X.prog X.w X.K X.mg X.base X.A X.stack s H :=
 ⟨I.ok.frames,I.ok.mod,I.bs,MQ I.ok.UJ I.sz,I.stack,I.RH,I.hok,I.bare⟩
theorem Inv.after {Q:VK} {u:Value} (I:Inv X pins σ H s) (h:CE X.stack X.prog X.w H s Q u s'):EP X pins σ Q u s':=by obtain ⟨v,H',os,bare,un,hok,r,q⟩:=h;obtain ⟨hh,g,d,t,os'⟩:=s';obtain rfl:os'=s.os:=os;exact ⟨v,H',I.call (h':=hh) (g':=g) (d':=d) (t':=t) (ch:=[]) un hok bare (λb z=>absurd z (by simp)),r,q⟩
end
noncomputable def fU (sp:Sp) (Sq:List V) (E:XK) (t:TA):TE:=λσ H Q=>t σ H λvs H1=>sp (vs++Sq) H1 Q E
noncomputable def Binds (K:W.Frag) (fd:FuncData) (ps:List Str) (ds:List Value):Prop :=
 ∀ (s:Shared) (us:List Value),K.In s.heap->(us++ds).length=ps.length->BindsTo s fd ⟨us,[]⟩ (ps.zip (us++ds))
theorem Binds.all (h:∀ us:List Value,us.length=ps.length->bindArgs fd ⟨us,[]⟩=pure (ps.zip us)):Binds K fd ps []:=λs us _ hl=>by rw [Ov] at hl ⊢;exact .of_eq (h us hl)
noncomputable def Passes (CX:Tf) (X:Cx) (E:XK):Prop:=∀ (pins:List (Addr × Obj)) (σ:St) (H:Hp) (s:Shared) (e:Value) (s':Shared),Inv X pins σ H s->CX X.stack H s E e s'->X.xe e s'
section
variable {X:Cx} {CX:Tf} {k:Nat} {f C:Addr} {fd:FuncData} {ps:List Str} {sp:Sp} {Sq:List V} {ds:List Value} {E:XK} {x m:Str} {p pos apos:Pos} {e o:Expr} {es:List Expr} {ta:TE} {t:TA}
theorem CU {pins:List (Addr × Obj)} {σ:St} {H:Hp} {s:Shared} {Q:VK} {us:List Value} {vs:List V} (F:PB X.prog X.w X.K X.mg X.base CX k f fd ps sp) (hr:P5 k X.A) (hb:Binds X.K fd ps ds) (hd:Vals Sq ds) (hx:Passes CX X E)
  (I:Inv X pins σ H s) (r:Vals vs us) (h:sp (vs++Sq) H Q E):wpAny (model X.prog X.w) X.A (call (.ref f) us) (EP X pins σ Q) X.xe s:=by
 have r2:Vals (vs++Sq) (us++ds):=r.append hd;have hl:(us++ds).length=ps.length:=by rw [<- r2.length];exact F.len _ _ _ _ h
 refine Oi (NQ (F.run X.A X.stack s H ⟨us,[]⟩ (us++ds) (vs++Sq) Q E hr I.VL (hb s us I.QK hl) r2 h) λr s' hq=>?_)
 cases r with
 | error e=>exact hx pins σ H s e s' I hq
 | ok fl =>
  cases fl with
  | ret u=>exact I.after hq
  | next=>exact False.elim hq
  | brk=>exact False.elim hq
  | cont=>exact False.elim hq
theorem zx (F:PB X.prog X.w X.K X.mg X.base CX k f fd ps sp) (hr:P5 k X.A) (hg:Gl X x) (hm:X.mg x=some (.ref f)) (hk:W.keepIn X.K (.ref f)=true) (hb:Binds X.K fd ps ds) (hd:Vals Sq ds) (hx:Passes CX X E)
  (ha:PA X (e::es) t) (hdb:(x == ("__debug__":Str))=false:=by decide) (he:starEach (e::es) X.env=(false,eval e X.env)::starEach es X.env:=by rfl) (hpl:(backTo pos (starEach es X.env)).any (·.1)=false:=by rfl) :
  PE X (.Call (.Name x p) (e::es) [] pos) (fU sp Sq E t):=by
 intro pins s σ H Q I h;refine NR (dX I hg hm ?_ hdb);refine OV (h₀:=X.base) I.ok.mod.VG hk (PR (ha pos pins s σ H _ I h) λus s1 ⟨vs,H1,I1,r,q⟩=>⟨I1.QK,?_⟩) he hpl;exact CU F hr hb hd hx I1 r q
end
section
variable {X:Cx} {CX:Tf} {k:Nat} {f C:Addr} {fd:FuncData} {ps ks:List Str} {sp:Sp} {E:XK} {x m:Str} {p pos apos kpos:Pos} {e o:Expr} {es:List Expr} {kws:List Keyword} {te ta:TE} {t tk:TA} {nm:Option Str}
variable {g:List Value->List Value->List Value} {gV:List V->List V->List V}
end
structure Pz (N P:List Str) (sc:Scope):Prop where
 kind:sc.kind=.function
 co:sc.isCoroutine=false
 gen:sc.isGenerator=false
 nd:N.Nodup
 pre:N.take P.length=P
 par:∀ x ∈ P,sc.names.lookup x=some .local\/sc.names.lookup x=some .cell
 Wb:∀ y ∈ sc.names,y.2≠.free
theorem Pz.Qo {N P:List Str} {sc:Scope} (a:sc.kind=.function:=by rfl) (b:sc.isCoroutine=false:=by rfl) (c:sc.isGenerator=false:=by rfl) (d:N.Nodup:=by decide +kernel) (e:N.take P.length=P:=by rfl) (f:∀ x ∈ P,sc.names.lookup x=some .local\/sc.names.lookup x=some .cell:=by decide +kernel) (g:∀ y ∈ sc.names,y.2≠.free:=by decide +kernel):Pz N P sc:=⟨a,b,c,d,e,f,g⟩
variable {kindOf:Str->Option NameKind}
theorem lu {x:Str}:∀ {binds:List (Str × Value)} {m:Str->Option Value},(∀ v,(x,v) ∉ binds)->bindL kindOf binds m x=m x
 | [],_,_=>rfl
 | (n,v)::r,m,h=>by
  unfold bindL;rw [lu λw hw=>h w (MU _ hw)];split
  ·have:x≠n:=by rintro rfl;exact h v MW
   simp [this]
  ·rfl
theorem lj {x:Str}:∀ {binds:List (Str × Value)} {m:Str->Option Value},(∀ v,(x,v) ∉ binds)->bindC kindOf binds m x=m x
 | [],_,_=>rfl
 | (n,v)::r,m,h=>by
  unfold bindC;rw [lj λw hw=>h w (MU _ hw)];split
  ·rfl
  ·have:x≠n:=by rintro rfl;exact h v MW
   simp [this]
variable {v:Value}
theorem lq {x:Str}:∀ {P:List Str} {vs:List Value} {i:Nat} {m:Str->Option Value},P.Nodup->P[i]?=some x->vs[i]?=some v->kindOf x=some .local ->
  bindL kindOf (P.zip vs) m x=some v
 | [],_,_,_,_,h,_,_=>by simp at h
 | _::_,[],_,_,_,_,h,_=>by simp at h
 | p::P,w::vs,0,m,nd,h1,h2,hk=>by simp at h1 h2;subst h1;subst h2;show bindL kindOf ((p,w)::P.zip vs) m p=_;unfold bindL;rw [lu λv hv=>(N7.mp nd).1 (OW hv).1,MF hk];simp
 | p::P,w::vs,i+1,m,nd,h1,h2,hk=>by show bindL kindOf ((p,w)::P.zip vs) m x=_;unfold bindL;exact lq (i:=i) (N7.mp nd).2 (by simpa using h1) (by simpa using h2) hk
theorem lh {x:Str}:∀ {P:List Str} {vs:List Value} {i:Nat} {m:Str->Option Value},P.Nodup->P[i]?=some x->vs[i]?=some v->kindOf x≠some .local ->
  bindC kindOf (P.zip vs) m x=some v
 | [],_,_,_,_,h,_,_=>by simp at h
 | _::_,[],_,_,_,_,h,_=>by simp at h
 | p::P,w::vs,0,m,nd,h1,h2,hk=>by simp at h1 h2;subst h1;subst h2;show bindC kindOf ((p,w)::P.zip vs) m p=_;unfold bindC;rw [lj λv hv=>(N7.mp nd).1 (OW hv).1,Mz hk];simp
 | p::P,w::vs,i+1,m,nd,h1,h2,hk=>by show bindC kindOf ((p,w)::P.zip vs) m x=_;unfold bindC;exact lh (i:=i) (N7.mp nd).2 (by simpa using h1) (by simpa using h2) hk
noncomputable def start (N:List Str) (vs:List V):St:=vs.map some++List.replicate (N.length - vs.length) none
noncomputable def dm (CX:Tf) (P:Program) (w:World) (K:W.Frag) (mg:Str->Option Value) (base:Heap) (N:List Str) (qual:Str) (scope:Scope) (f:Addr) (cd:Value) (A:Around) (outer:List Env) (s:Shared) (H:Hp) (E:XK):Cx where
 prog:=P
 w:=w
 K:=K
 mg:=mg
 base:=base
 A:=A.deeper (envOfC qual scope s.heap.objs.size f cd)
 N:=N
 s₀:=s
 H₀:=H
 env:=envOfC qual scope s.heap.objs.size f cd
 outer:=outer
 stack:=envOfC qual scope s.heap.objs.size f cd::outer
 ex:=[]
 calm:=true
 fn:=λ_=>true
 pn:=[]
 xe:=λe s'=>wpAny (model P w) (A.deeper (envOfC qual scope s.heap.objs.size f cd)) (leaving (envOfC qual scope s.heap.objs.size f cd) e) (λ_ s''=>CX outer H s E e s'') (λe' s''=>CX outer H s E e' s'') s'
theorem nH {sc:Scope} {n:Nat} {x:Str} (h:sc.names.lookup x=some .cell):∃ c,(cellsFrom n sc.names []).lookup x=some c:=by have q:=W.cellsFrom_some sc.names n [] (.inl h);exact Option.isSome_iff_exists.mp q
variable {N:List Str} {qual:Str} {scope:Scope}
theorem lK {cd:Value} {A:Around} {s s1:Shared} {E:XK} {vs:List V}
  (S:Pz N ps scope) (hd:A.handled=none) (e0:TH P w K mg base A outer s H) (hl:vs.length=ps.length) (r:Vals vs us)
  (x:InCallC s s.heap.objs.size (bindL (envOfC qual scope s.heap.objs.size f cd).kindOf (ps.zip us) λ_=>none) (cellsFrom (s.heap.objs.size+1) scope.names []) (bindC (envOfC qual scope s.heap.objs.size f cd).kindOf (ps.zip us) λ_=>none) s1) :
  Inv (dm CX P w K mg base N qual scope f cd A outer s H E) [] (start N vs) H s1:=by
 have hpl:ps.length<=N.length:=by have:=M5 List.length S.pre;rw [N3] at this;lia
 obtain ⟨h1,tk,rfl,hk⟩:=x.done;have Xe:∀ b:Addr,b ∉ (dm CX P w K mg base N qual scope f cd A outer s H E).ex:=λb z=>absurd (show b ∈ ([]:List Addr) from z) (by simp)
 refine ⟨⟨e0.mod,S.kind,rfl,rfl,Mu _,λy z c h1 h2=>?_,λy hy=>?_,λy c _ h=>?_,λ_=>hd,Around.frames_deeper e0.frames,.inr ⟨rfl,rfl⟩,λb z=>absurd z (Xe b),e0.bs,e0.UJ,λb _ _=>Xe b,λb z=>absurd z (Xe b),e0.Ro,e0.Vb⟩,
  rfl,e0.bare,Un.kept hk,⟨_,x.toInCall.ns,λi y v h1 h2 h3=>?_⟩,λy c h=>⟨_,x.cell y c h⟩,e0.hok.fresh (Mu _),λy c h=>?_,λp hp=>absurd (show p ∈ ([]:List (Addr × Obj)) from hp) (by simp),e0.hok.kept hk,?_⟩
 ·exact name_of_addr x.apart (Nu h1) (Nu h2)
 ·have hy:scope.names.lookup y=some .cell\/scope.names.lookup y=some .free:=hy;rcases hy with hy | hy
  ·exact nH hy
  ·exact absurd rfl (S.Wb _ (Nu hy))
 ·exact NP (x.above y c (Nu h))
 ·have hi:i < vs.length:=by
   unfold start at h2;by_cases hi:i < vs.length
   ·exact hi
   ·rw [M9 (by simpa using hi)] at h2;rw [OG] at h2;split at h2 <;> cases h2
  have ha:vs[i]?=some v:=by
   unfold start at h2;rw [M3 (by simpa using hi),MH] at h2
   cases e:vs[i]? with
   | none=>rw [e] at h2;cases h2
   | some a=>rw [e] at h2;cases h2;rfl
  obtain ⟨u,hu,rv⟩:=r.get ha
  have hp:ps[i]?=some y:=by rw [<- S.pre,List.getElem?_take_of_lt (by lia)];exact h1
  have ZJ:ps.Nodup:=by rw [<- S.pre];exact S.nd.sublist (List.take_sublist _ _)
  refine ⟨u,rv,?_⟩;rcases S.par y (Ni hp) with k | k
  ·exact .inl ⟨k,lq ZJ hp hu k⟩
  ·obtain ⟨c,e⟩:=nH (n:=s.heap.objs.size+1) k;refine .inr ⟨.inl k,c,e,?_⟩;have q:=x.cell y c e;rw [lh ZJ hp hu (by show scope.names.lookup y≠_;rw [k];decide)] at q;exact q
 ·exact e0.hok.fresh (NP (x.above y c (Nu h)))
 ·unfold start;show _=N.length;rw [MO,MK,Oc];lia
theorem Ah {k:Nat} {name:Str} {params:Arguments} {body:List Stmt} {dV kV doc pm cdv ct oc:Value} {an od:Option Addr} {osl:Array (Option Value)} (lk:K.lookup f=some ⟨oc,od,.func (W.fnOf name qual params body scope dV kV doc pm an cdv ct),osl⟩) (hcd:W.codeIn K cdv qual=true) (S:Pz N ps scope)
  (len:∀ vs H Q E,sp vs H Q E->vs.length=ps.length)
  (hbody:∀ (A:Around) (outer:List Env) (s:Shared) (H:Hp) (vs:List V) (Q:VK) (E:XK),P5 k (A.deeper (envOfC qual scope s.heap.objs.size f cdv))->sp vs H Q E ->
   ∃ t,QI (dm CX P w K mg base N qual scope f cdv A outer s H E) body t/\t { nx:=λ_ H'=>Q .PJ H',rt:=Q } (start N vs) H) :
  PB P w K mg base CX (k+1) f (W.fnOf name qual params body scope dV kV doc pm an cdv ct) ps sp:=by
 refine ⟨len,λA outer s H args us vs Q E hr e0 hb r UL=>?_⟩;have hl:=len _ _ _ _ UL;have KX:K.In s.heap:=e0.mod.VG.keeps λb o e=>(e0.bs b o e).1;have lim:s.heap.NoLimit:=e0.mod.nolimit.keeps λb o e=>(e0.bs b o e).1
 have hkind:∀ y ∈ ps.zip us,scope.names.lookup y.1=some .local\/(scope.names.lookup y.1=some .cell/\((cellsFrom (s.heap.objs.size+1) scope.names []).lookup y.1).isSome=true):=λ⟨n,v⟩ hy=>by
  rcases S.par n (OW hy).1 with q | q
  ·exact .inl q
  ·exact .inr ⟨q,W.cellsFrom_some _ _ _ (.inl q)⟩
 refine codeAny_call_function hr.depth (KX _ _ lk) rfl S.co S.gen rfl (W.codeRec_of KX hcd) (hb _ _ _ _ ?_);refine wpAny_newFunctionEnv_cells S.kind hkind λenv he s1 x=>?_;subst he;refine ⟨lim.keeps x.toInCall.keep,codeAny_func ?_⟩;obtain ⟨t,ht,hq⟩:=hbody A outer s H vs Q E (hr.deeper _) UL;have I:Inv (dm CX P w K mg base N qual scope f cdv A outer s H E) [] (start N vs) H s1:=lK S hr.hd e0 hl r x;refine MT (ht [] s1 (start N vs) H _ I hq) (λfl s' hs=>?_) λe s' hs=>hs
 have fin:∀ {σ':St} {H':Hp} {v:V} {u:Value},Inv (dm CX P w K mg base N qual scope f cdv A outer s H E) [] σ' H' s'->RelV v u->Q v H'->CE outer P w H s Q u s' :=
  λ{σ' H' v u} J rv q=>⟨v,H',J.os,J.bare,J.base,J.hok,rv,q⟩
 cases fl with
 | ret u =>obtain ⟨v,σ',H',J,rv,q⟩:=hs;exact fin J rv q
 | next =>obtain ⟨σ',H',J,q⟩:=hs;exact fin (v:=V.PJ) (u:=Value.none) J rfl q
 | brk =>obtain ⟨_,_,_,q⟩:=hs;exact False.elim q
 | cont =>obtain ⟨_,_,_,q⟩:=hs;exact False.elim q
section
variable {X:Cx} {x:Str} {p pos:Pos} {e:Expr} {es:List Expr} {t:TA} {id T:String} {r:List V->Hp->VK->Prop}
noncomputable def Wc (r:List V->Hp->VK->Prop) (t:TA):TE:=λσ H Q=>t σ H λvs H1=>r vs H1 Q
theorem bf (hc:cZ X (.builtin id) r) (hg:Gl X x) (hm:X.mg x=none) (hv:bootBuiltins x=some (.builtin id)) (ha:PA X (e::es) t) (hn:x≠"__name__":=by decide) (hdb:(x == ("__debug__":Str))=false:=by decide)
  (he:starEach (e::es) X.env=(false,eval e X.env)::starEach es X.env:=by rfl) (hpl:(backTo pos (starEach es X.env)).any (·.1)=false:=by rfl):PE X (.Call (.Name x p) (e::es) [] pos) (Wc r t):=by
 intro pins s σ H Q I h;refine NR (fH I hg hm hv ?_ hn hdb);exact PyProof.Rows.callWith_builtin1 (PR (ha pos pins s σ H _ I h) λus s1 ⟨vs,H1,I1,r1,q1⟩=>hc pins s1 σ H1 vs us Q I1 r1 q1) he hpl
theorem um (hc:cZ X (.type T) r) (hg:Gl X x) (hm:X.mg x=none) (hv:bootBuiltins x=some (.type T)) (ha:PA X (e::es) t) (hn:x≠"__name__":=by decide) (hdb:(x == ("__debug__":Str))=false:=by decide)
  (he:starEach (e::es) X.env=(false,eval e X.env)::starEach es X.env:=by rfl) (hpl:(backTo pos (starEach es X.env)).any (·.1)=false:=by rfl):PE X (.Call (.Name x p) (e::es) [] pos) (Wc r t):=by
 intro pins s σ H Q I h;refine NR (fH I hg hm hv ?_ hn hdb);exact Nf (PR (ha pos pins s σ H _ I h) λus s1 ⟨vs,H1,I1,r1,q1⟩=>hc pins s1 σ H1 vs us Q I1 r1 q1) he hpl
end
end L2
namespace HT
open PySem PyProof.Rows
section
open PySem.SeqAt
open PySem.AutoSeq1 (wpAny_loadPart')
open PySem.MeetsSeq PySem.MeetsSeq2 PySem.MeetsSeq3
end
section
variable {prog:Program} {w:World} {A:Around} {E:Value->Shared->Prop} {s:Shared}
variable {t:Addr}
theorem VM {b:Addr} {vs ws:List Value} {Q:Value->Shared->Prop} (ht:IsTup s.heap t vs.toArray) (hb:IsTup s.heap b ws.toArray) (hv:vs≠[])
  (h1:ws=[]->Q (.ref t) s) (h2:ws≠[]->Q (.ref s.heap.objs.size) { s with heap:=s.heap.push { cls:=.type "tuple",data:=.seq (vs++ws).toArray } })
  (hsz:vs.length+ws.length<=sizeLine):wpAny (model prog w) A (binaryOp .Add (.ref t) (.ref b)) Q E s:=by
 obtain ⟨⟨cls,dd,data,sl⟩,ho,hc,n,hd⟩:=id ht;obtain ⟨⟨cls2,dd2,data2,sl2⟩,ho2,hc2,n2,hd2⟩:=id hb;simp only at hc hd hc2 hd2;subst hc hd hc2 hd2;have e:vs.toArray++ws.toArray=(vs++ws).toArray:=by simp
 by_cases hw:ws=[]
 ·exact concat_meets ⟨_,ho,rfl⟩ ⟨_,ho2,rfl⟩ noFill_tuple_add seq_tuple_add F.slot_tuple_add Ph (Pc _ _)
   (tuple_addW1 t b vs.toArray ws.toArray n n2 dd dd2 sl sl2 (by simpa using hv) (by simp [hw])) ⟨ho,ho2,h1 hw⟩
 ·refine concat_meets ⟨_,ho,rfl⟩ ⟨_,ho2,rfl⟩ noFill_tuple_add seq_tuple_add F.slot_tuple_add Ph (Pc _ _)
   (tuple_addW2 t b vs.toArray ws.toArray n n2 dd dd2 sl sl2 (by simpa using hv) (by simpa using hw) (by rw [Mt,Mt];exact hsz)) ⟨ho,ho2,?_⟩
  rw [e];exact h2 hw
noncomputable def Qj (n d:Nat):Option Int->Nat
 | none=>d
 | some v=>if v < 0 then (v+(n:Int)).toNat else min v.toNat n
theorem Sy (n d:Nat):Qj n d none=d:=rfl
theorem Rm (n d k:Nat):Qj n d (some (k:Int))=min k n:=by show (if (k:Int) < 0 then ((k:Int)+(n:Int)).toNat else min (k:Int).toNat n)=min k n;rw [Mz (by lia),Pj]
theorem CV (n d:Nat) (hd:d<=n) (o:Option Int):Qj n d o<=n:=by
 cases o with
 | none=>exact hd
 | some v =>
  show (if v < 0 then (v+(n:Int)).toNat else min v.toNat n)<=n;by_cases hv:v < 0
  ·rw [MF hv];lia
  ·rw [Mz hv];exact Nat.min_le_right _ _
theorem qV (v:Int) (n d:Nat):(if v < 0 then max (v+(n:Int)) 0 else min v (n:Int))=((Qj n d (some v):Nat):Int):=by
 show (if v < 0 then max (v+(n:Int)) 0 else min v (n:Int))=(((if v < 0 then (v+(n:Int)).toNat else min v.toNat n):Nat):Int)
 by_cases hv:v < 0
 ·simp only [MF hv];lia
 ·simp only [Mz hv];lia
theorem pB (lo hi:Option Int) (n:Nat):Builtin.Slice.sliceAdjust lo hi 1 (n:Int)=(((Qj n 0 lo:Nat):Int),((Qj n n hi:Nat):Int)):=by
 have h1:¬ ((1:Int) < 0):=by lia
 unfold Builtin.Slice.sliceAdjust;simp only [h1,Pu];refine OM ?_ ?_
 ·cases lo with
  | none=>rfl
  | some v=>exact qV v n 0
 ·cases hi with
  | none=>rfl
  | some v=>exact qV v n n
theorem qq (i j:Nat):Builtin.Slice.slicePlaces (i:Int) (j:Int) 1=j - i:=by
 unfold Builtin.Slice.slicePlaces;have h1:(1:Int) > 0:=by lia
 simp only [h1,OR,Int.ediv_one];split <;> lia
theorem kL {v:Value} {o:Option Int} {Q:Option Int->Shared->Prop} (p:IsPart v o) (h:Q o s):wpAny (model prog w) A (Builtin.Slice.slicePartIndex v) Q E s:=by
 cases p with
 | none=>exact slicePart_none h
 | int i t=>exact slicePart_int h
variable {sl:Addr} {vl vu:Value} {lo hi:Option Int}
theorem QO {n:Nat} {Q:Int × Int × Nat->Shared->Prop} (hs:s.heap.IsSliceOf sl vl vu .none) (pl:IsPart vl lo) (pu:IsPart vu hi)
  (h:Q (((Qj n 0 lo:Nat):Int),1,Qj n n hi - Qj n 0 lo) s):wpAny (model prog w) A (Builtin.Slice.sliceApplied (.ref sl) (pure (n:Int))) Q E s:=by
 obtain ⟨os,hos,hcs,hds⟩:=id hs;unfold Builtin.Slice.sliceApplied Builtin.Slice.sliceFields;refine pg (pg (MP hos hds (x:=vl) rfl (pg (MP hos hds (x:=vu) rfl (pg (MP hos hds (x:=.none) rfl (Mq ?_)))))));refine pg (slicePart_none ?_);show wpAny _ _ (if ((1:Int) == 0)=true then _ else _) _ _ s;rw [Mz (by decide)];refine pg (kL pl (pg (kL pu (pg (Mq ?_)))));show wpAny _ _ (match Builtin.Slice.sliceAdjust lo hi 1 (n:Int) with | (lo,hi)=>pure (lo,(1:Int),Builtin.Slice.slicePlaces lo hi 1)) _ _ s;rw [pB lo hi n];show wpAny _ _ (pure (((Qj n 0 lo:Nat):Int),(1:Int),Builtin.Slice.slicePlaces ((Qj n 0 lo:Nat):Int) ((Qj n n hi:Nat):Int) 1)) _ _ s;rw [qq];exact Mq h
theorem xk (xs:Array Value) (i k:Nat):((List.range k).filterMap λ(m:Nat)=>xs[((i:Int)+(m:Int) * 1).toNat]?).toArray=((xs.toList.drop i).take k).toArray:=by
 have e:(λ(m:Nat)=>xs[((i:Int)+(m:Int) * 1).toNat]?)=λm=>xs[i+m]?:=by
  funext m
  have:((i:Int)+(m:Int) * 1).toNat=i+m:=by lia
  rw [this]
 rw [e];have:=pick_run xs i k;rw [List.filterMap_map] at this;have e2:((λx=>xs[x]?) ∘ λx=>i+x)=λm=>xs[i+m]?:=rfl;rw [e2] at this;rw [this]
theorem RK {items:Array Value} {Q:Value->Shared->Prop} (ht:IsTup s.heap t items) (hs:s.heap.IsSliceOf sl vl vu .none) (pl:IsPart vl lo) (pu:IsPart vu hi)
  (hw:¬ (Qj items.size 0 lo=0/\Qj items.size items.size hi=items.size))
  (h:Q (.ref s.heap.objs.size) { s with heap:=s.heap.push { cls:=.type "tuple",data:=.seq ((items.toList.drop (Qj items.size 0 lo)).take (Qj items.size items.size hi - Qj items.size 0 lo)).toArray } })
  (hsz:items.size<=sizeLine):wpAny (model prog w) A (getItem (.ref t) (.ref sl)) Q E s:=by
 have UB:sizeOk (.seq ((items.toList.drop (Qj items.size 0 lo)).take (Qj items.size items.size hi - Qj items.size 0 lo)).toArray):=by show ((items.toList.drop (Qj items.size 0 lo)).take (Qj items.size items.size hi - Qj items.size 0 lo)).toArray.size<=sizeLine;rw [Mt,N3,List.length_drop,Oq];lia
 have hj:Qj items.size items.size hi<=items.size:=CV _ _ (Mu _) hi;obtain ⟨os,hos,hcs,hds⟩:=id hs;have YC:s.TypeIs (.ref sl) "slice":=⟨os,hos,hcs⟩
 unfold getItem
 try with_reducible refine Nj ?_
 first | refine pg (Mq ?_) | skip
 refine pg (wpAny_sequenceKey ht.typeIs (by decide) ?_)
 refine pg (M8 (name:=Str.ofString "__getitem__") ht.typeIs M7
  (Ny M7 ht.typeIs entry_tuple_getitem ?_ (args_tuple_getitem _ _)))
 show wpAny _ _ (Builtin.Tuple.tupleItemsOf (.ref t) >>= _) _ _ s;refine pg (tupleItemsOf_ ht ?_);refine pg (wpAny_typeOf YC ?_);rw [MF (by decide)];refine pg (QO hs pl pu ?_)
 have hno:¬ ((((Qj items.size 0 lo:Nat):Int) == 0 && (1:Int) == 1 && (Qj items.size items.size hi - Qj items.size 0 lo) == items.size)=true):=by intro q;rw [MC,MC] at q;have q1:((Qj items.size 0 lo:Nat):Int)=0:=eq_of_beq q.1.1;have q2:Qj items.size items.size hi - Qj items.size 0 lo=items.size:=eq_of_beq q.2;exact hw ⟨by lia,by lia⟩
 show wpAny _ _ (if (((Qj items.size 0 lo:Nat):Int) == 0 && (1:Int) == 1 && (Qj items.size items.size hi - Qj items.size 0 lo) == items.size)=true then _ else _) _ _ s;rw [Mz hno,xk]
 first
  | exact pg (m:=Builtin.Tuple.tupleExact _) (Nr (Mq ⟨_,rfl,Mq h⟩) UB)
  | exact pg (m:=Builtin.Tuple.tupleExact _) (Nr (pg (Mq (Mq ⟨_,rfl,Mq h⟩))) UB)
  | exact pg (pg (m:=Builtin.Tuple.tupleExact _) (Nr (Mq (Mq ⟨_,rfl,Mq h⟩)) UB))
  | exact pg (pg (m:=Builtin.Tuple.tupleExact _) (Nr (Mq ⟨_,rfl,Mq h⟩) UB))
end
end HT
namespace L2
open PySem PySem.Spec PyProof.Rows
noncomputable abbrev TO:=St->Hp->(Option Int->Hp->Prop)->Prop
noncomputable def PO (X:Cx) (e:Option Expr) (t:TO):Prop :=
 ∀ (pins:List (Addr × Obj)) (s:Shared) (σ:St) (H:Hp) (Q:Option Int->Hp->Prop),Inv X pins σ H s->t σ H Q ->
  wpAny (model X.prog X.w) X.A (evalPart e X.env) (λu s'=>∃ o H',Inv X pins σ H' s'/\IsPart u o/\Q o H') X.xe s
noncomputable def zZ:TO:=λ_ H Q=>Q none H
noncomputable def EZ (t:TE):TO:=λσ H Q=>t σ H λx H1=>∃ i,x=.int i/\Q (some i) H1
section
variable {X:Cx} {e:Expr} {te:TE} {lo hi:Option Expr} {tl th:TO} {pos p2:Pos}
theorem mS:PO X none zZ:=by intro pins s σ H Q I h;rw [evalPart_none];exact Mq ⟨none,H,I,.none,h⟩
theorem ij (h:PE X e te):PO X (some e) (EZ te):=by intro pins s σ H Q I hw;rw [evalPart_some];refine PR (h pins s σ H _ I hw) λu s1 ⟨x,H1,I1,r1,q1⟩=>?_;obtain ⟨i,rfl,q⟩:=q1;obtain ⟨t,rfl⟩:=r1;exact ⟨some i,H1,I1,.int i t,q⟩
noncomputable def X0 (X:Cx) (r:V->Option Int->Option Int->Hp->VK->Prop):Prop :=
 ∀ (pins:List (Addr × Obj)) (s:Shared) (σ:St) (H:Hp) (x:V) (v vl vu:Value) (lo hi:Option Int) (sl:Addr) (Q:VK),Inv X pins σ H s->RelV x v->s.heap.IsSliceOf sl vl vu .none->IsPart vl lo->IsPart vu hi->r x lo hi H Q ->
  ∃ T id,typeLookup (.type T) "__getitem__"=pure (some (.builtin id))/\s.TypeIs v T/\wpAny (model X.prog X.w) X.A (getItem v (.ref sl)) (EP X pins σ Q) X.xe s
noncomputable def tSl (r:V->Option Int->Option Int->Hp->VK->Prop) (te:TE) (tl th:TO):TE:=λσ H Q=>te σ H λx H1=>tl σ H1 λl H2=>th σ H2 λu H3=>r x l u H3 Q
theorem ig {r:V->Option Int->Option Int->Hp->VK->Prop} (hr:X0 X r) (he:PE X e te) (hl:PO X lo tl) (hu:PO X hi th):PE X (.Subscript e (.Slice lo hi none p2) pos) (tSl r te tl th):=by intro pins s σ H Q I h;refine Subscript_ (PR (he pins s σ H _ I h) λv s1 ⟨x,H1,I1,r1,q1⟩=>?_);refine wpAny_Slice (PR (hl pins s1 σ H1 _ I1 q1) λvl s2 ⟨l,H2,I2,pl,q2⟩=>PR (hu pins s2 σ H2 _ I2 q2) λvu s3 ⟨u,H3,I3,pu,q3⟩=>?_);rw [evalPart_none];refine Mq ?_;have I4:Inv X pins σ H3 { s3 with heap:=s3.heap.push { cls:=.type "slice",data:=.fields #[vl,vu,.none] } }:=I3.kept (t':=s3.toks) λb ob q=>LD _ q;obtain ⟨T,id,hT,ht,hg⟩:=hr pins { s3 with heap:=s3.heap.push { cls:=.type "slice",data:=.fields #[vl,vu,.none] } } σ H3 x v vl vu l u s3.heap.objs.size Q I4 r1 (Heap.IsSliceOf.new ..) pl pu q3;show wpAny (model X.prog X.w) X.A (subscriptTail e (.Slice lo hi none p2) v (.ref s3.heap.objs.size)) (EP X pins σ Q) X.xe { s3 with heap:=s3.heap.push { cls:=.type "slice",data:=.fields #[vl,vu,.none] } };exact tail_any (ops:=[.ref s3.heap.objs.size,v]) ht hT hg (by with_unfolding_all rfl)
noncomputable def gv (xs:List V) (lo hi:Option Int):List V:=(xs.drop (HT.Qj xs.length 0 lo)).take (HT.Qj xs.length xs.length hi - HT.Qj xs.length 0 lo)
theorem i6 (xs:List V) (lo hi:Option Int):(gv xs lo hi).length<=xs.length:=by unfold gv;rw [N3,List.length_drop];lia
noncomputable def FH (K:W.Frag):V->Option Int->Option Int->Hp->VK->Prop:=λx lo hi H Q=>∃ a xs,x=.ref a/\Qq K H a xs /\
 ¬ (HT.Qj xs.length 0 lo=0/\HT.Qj xs.length xs.length hi=xs.length)/\∀ p,H p=none->Q (.ref p) (upd H p (.tup (gv xs lo hi)))
theorem C1:X0 X (FH X.K):=by
 intro pins s σ H x v vl vu lo hi sl Q I rx hs pl pu h;obtain ⟨a,xs,rfl,hx,hw,q⟩:=h;cases rx;obtain ⟨its,r,ht,hz⟩:=I.tuple hx;have hlen:its.toArray.size=xs.length:=by rw [Mt];exact r.length.symm
 refine ⟨"tuple",_,M7.lookup,ht.typeIs,?_⟩;refine HT.RK ht hs pl pu (by rw [hlen];exact hw) ?_ (by rw [hlen];exact hz);rw [hlen];refine ⟨.ref s.heap.objs.size,_,I.laid (t':=s.toks) (o:=.tup (gv xs lo hi)) (λb ob q=>LD _ q) (Mu _) ?_,rfl,q _ (I.hok.fresh (Mu _))⟩;exact ⟨MQ (i6 xs lo hi) hz,_,(r.drop (HT.Qj xs.length 0 lo)).take (HT.Qj xs.length xs.length hi - HT.Qj xs.length 0 lo),Ox _ _⟩
noncomputable def Az (K:W.Frag):R2:=λx y H Q=>∃ a b xs ys,x=.ref a/\y=.ref b/\Qq K H a xs/\Qq K H b ys/\xs≠[]/\xs.length+ys.length<=sizeLine /\
 (ys=[]->Q (.ref a) H)/\(ys≠[]->∀ p,H p=none->Q (.ref p) (upd H p (.tup (xs++ys))))
theorem Vals.Ss {xs:List V} {us:List Value} (r:Vals xs us):us=[]↔xs=[]:=by
 cases r with
 | nil=>simp
 | cons _ _=>simp
theorem zo:QA X (binaryOp .Add) (Az X.K):=by intro pins s σ H x y v u Q I rx ry h;obtain ⟨a,b,xs,ys,rfl,rfl,ha,hb,hx,hz,q1,q2⟩:=h;cases rx;cases ry;obtain ⟨its,r1,p1,_⟩:=I.tuple ha;obtain ⟨its2,r2,p2,_⟩:=I.tuple hb;refine HT.VM p1 p2 (λz=>hx (r1.Ss.mp z)) (λz=>⟨.ref a,H,I,rfl,q1 (r2.Ss.mp z)⟩) (λz=>?_) (by rw [<- r1.length,<- r2.length];exact hz);refine ⟨.ref s.heap.objs.size,_,I.laid (t':=s.toks) (o:=.tup (xs++ys)) (λb ob q=>LD _ q) (Mu _) ?_,rfl,q2 (λw=>z (r2.Ss.mpr w)) _ (I.hok.fresh (Mu _))⟩;exact ⟨by rw [MO];exact hz,_,r1.append r2,Ox _ _⟩
end
noncomputable def Up (n:Nat) (i:Int):Option Nat:=if 0<=i then (if i < n then some i.toNat else none) else if -(n:Int)<=i then some (i+n).toNat else none
noncomputable def Uk {α:Type} (xs:List α) (i:Int):Option α:=(Up xs.length i).bind λj=>xs[j]?
variable {i:Int} {j:Nat}
theorem rg {n:Nat} (h:Up n i=some j):seqIndex? i n=some j/\j < n/\-(n:Int)<=i/\i < n:=by
 unfold Up at h;by_cases h0:0<=i
 ·rw [MF h0] at h;by_cases h1:i < n
  ·rw [MF h1] at h;have e:i.toNat=j:=MB h;exact ⟨by rw [seqIndex_of h0 h1,e],by lia,by lia,h1⟩
  ·rw [Mz h1] at h;cases h
 ·rw [Mz h0] at h;by_cases h1:-(n:Int)<=i
  ·rw [MF h1] at h;have e:(i+n).toNat=j:=MB h;exact ⟨by rw [seqIndex_neg (by lia) h1,e],by lia,h1,by lia⟩
  ·rw [Mz h1] at h;cases h
theorem mf {α:Type} {xs:List α} {v:α} (h:Uk xs i=some v):∃ j,seqIndex? i xs.length=some j/\xs[j]?=some v/\j < xs.length/\-(xs.length:Int)<=i/\i < xs.length:=by
 unfold Uk at h
 cases e:Up xs.length i with
 | none=>rw [e] at h;cases h
 | some j =>rw [e] at h;obtain ⟨h1,h2,h3,h4⟩:=rg e;exact ⟨j,h1,h,h2,h3,h4⟩
theorem fW {α:Type} {xs:List α} {v:α} (h:xs[j]?=some v):Uk xs (j:Int)=some v:=by
 have hj:j < xs.length:=(Mk.mp h).1
 have e:Up xs.length (j:Int)=some j:=by unfold Up;rw [MF (by lia),MF (by lia)];simp
 unfold Uk;rw [e];exact h
noncomputable def jH (b:Expr):Prop:=∀ o i,subscripted b false o i=operate [o,i] (getItem o i)
noncomputable def U5 (X:Cx) (r:R2):Prop :=
 ∀ (value slice:Expr) (pins:List (Addr × Obj)) (s:Shared) (σ:St) (H:Hp) (x y:V) (v u:Value) (Q:VK),Inv X pins σ H s->RelV x v->RelV y u->r x y H Q ->
  subscripted slice false v u=operate [v,u] (getItem v u)->wpAny (model X.prog X.w) X.A (subscriptTail value slice v u) (EP X pins σ Q) X.xe s
noncomputable def Xf (X:Cx) (id:String) (r:V->List V->Hp->VK->Prop):Prop :=
 ∀ (pins:List (Addr × Obj)) (s:Shared) (σ:St) (H:Hp) (x:V) (xs:List V) (v:Value) (us:List Value) (Q:VK),Inv X pins σ H s->RelV x v->Vals xs us->r x xs H Q ->
  wpAny (model X.prog X.w) X.A (call (.builtin id) (v::us)) (EP X pins σ Q) X.xe s
section
variable {X:Cx} {a b:Expr} {ta tb:TE} {pos:Pos}
theorem U5.or {r r':R2} (h:U5 X r) (h':U5 X r'):U5 X (λx y H Q=>r x y H Q\/r' x y H Q):=by
 intro value slice pins s σ H x y v u Q I rx ry q hs;rcases q with q | q
 ·exact h value slice pins s σ H x y v u Q I rx ry q hs
 ·exact h' value slice pins s σ H x y v u Q I rx ry q hs
theorem fg {r:R2} (hr:U5 X r) (ha:PE X a ta) (hb:PE X b tb) (hs:jH b:=by exact λ_ _=>rfl):PE X (.Subscript a b pos) (Vf r ta tb):=by intro pins s σ H Q I h;exact Subscript_ (AQ ha hb I h λv u s2 x y H2 I2 rx ry q=>hr a b pins s2 σ H2 x y v u Q I2 rx ry q (hs _ _))
noncomputable def EB (K:W.Frag):R2:=λx y H Q=>∃ p xs i v,x=.ref p/\y=.int i/\P6 K H p xs/\Uk xs i=some v/\Q v H
noncomputable def ED (K:W.Frag):R2:=λx y H Q=>∃ p xs i v,x=.ref p/\y=.int i/\Qq K H p xs/\Uk xs i=some v/\Q v H
noncomputable def EC:R2:=λx y H Q=>∃ z i c,x=.str z/\y=.int i/\z.length<=sizeLine/\Uk z.cps.toList i=some c/\Q (.str ⟨#[c]⟩) H
theorem Ql:U5 X (EB X.K):=by
 intro value slice pins s σ H x y v u Q I rx ry h hs;obtain ⟨p,xs,i,z,rfl,rfl,hq,he,q⟩:=h;cases rx;obtain ⟨t,rfl⟩:=ry;obtain ⟨its,r,pl,hz⟩:=I.list hq;obtain ⟨j,h1,h2,h3,h4,h5⟩:=mf he;obtain ⟨w,ew,rw'⟩:=r.get h2;have hl:=r.length;have hn:=fJ;have fin:EP X pins σ Q w s:=⟨z,H,I,rw',q⟩
 by_cases h0:0<=i
 ·have hj:i.toNat=j:=by
   rw [seqIndex_of h0 h5] at h1;exact MB h1
  exact item_listR pl.isList h0 (by lia) (by rw [hj];simpa using ew) fin hs
 ·have hj:(i+(its.toArray.size:Int)).toNat=j:=by
   rw [seqIndex_neg (by lia) h4] at h1;rw [Mt,<- hl];exact MB h1
  exact subscriptTail_builtinR (x:=w) pl.isList.typeIs slot_list_getitem.lookup
   (wpAny_getItem_list_neg (Q:=λr s'=>r=w/\EP X pins σ Q r s') pl.isList (by lia) (by rw [Mt] <;> lia) (by lia) (by rw [hj];simpa using ew) ⟨rfl,fin⟩) hs
theorem Wd:U5 X (ED X.K):=by
 intro value slice pins s σ H x y v u Q I rx ry h hs;obtain ⟨p,xs,i,z,rfl,rfl,hq,he,q⟩:=h;cases rx;obtain ⟨t,rfl⟩:=ry;obtain ⟨its,r,pl,hz⟩:=I.tuple hq;obtain ⟨j,h1,h2,h3,h4,h5⟩:=mf he;obtain ⟨w,ew,rw'⟩:=r.get h2;have hl:=r.length;have hn:=fJ;have fin:EP X pins σ Q w s:=⟨z,H,I,rw',q⟩
 exact subscriptTail_builtinR (x:=w) pl.typeIs slot_tuple_getitem.lookup
  (getItem_tuple (j:=j) (Q:=λr s'=>r=w/\EP X pins σ Q r s') pl (by lia) (by lia) (by rw [Mt,<- hl];exact h1) (by simpa using ew) ⟨rfl,fin⟩) hs
theorem BZ:U5 X EC:=by
 intro value slice pins s σ H x y v u Q I rx ry h hs;obtain ⟨z,i,c,rfl,rfl,hz,he,q⟩:=h;obtain ⟨t,rfl⟩:=rx;obtain ⟨t',rfl⟩:=ry;obtain ⟨j,h1,h2,h3,h4,h5⟩:=mf he;have hl:z.cps.toList.length=z.length:=by simp [Str.length]
 rw [hl] at h1 h4 h5;have hn:=fJ
 exact tail_any (typeIs_str s z t) slot_str_getitem.lookup (getItem_str (c:=c) (by
  have e1:decide (i < -(2 ^ 63:Int))=false:=M4 (by lia);have e2:decide (i ≥ 2 ^ 63)=false:=M4 (by lia);rw [e1,e2,Bool.or_false]) (by rw [h1];simpa using h2) ⟨.str ⟨#[c]⟩,H,I.tok _,⟨_,rfl⟩,q⟩) hs
noncomputable def ZK (K:W.Frag):R2:=λx y H Q=>EB K x y H Q\/ED K x y H Q\/EC x y H Q
theorem ax:U5 X (ZK X.K):=Ql.or (Wd.or BZ)
theorem qf (its:List Value) (n j:Nat) (u:Value):Obj.mapSeq (·.setIfInBounds j u) { cls:=.type "list",data:=.seq its.toArray n }={ cls:=.type "list",data:=.seq (its.set j u).toArray n }:=by simp [Obj.mapSeq]
variable {pins:List (Addr × Obj)} {σ:St} {H:Hp} {p:Addr} {xs:List V}
theorem Inv.lst {s:Shared} (I:Inv X pins σ H s) (h:H p=some (.lst xs)) :
  ∃ (its:List Value) (n:Nat),Vals xs its/\s.heap.get? p=some { cls:=.type "list",data:=.seq its.toArray n }/\xs.length<=sizeLine:=by
 obtain ⟨z,its,n,r,e⟩:=I.hok p _ h;exact ⟨its,n,r,e,z⟩
theorem Inv.We {s:Shared} {ys:List V} {its its':List Value} {n n':Nat} {f:Obj->Obj} (I:Inv X pins σ H s) (h:H p=some (.lst xs))
  (ho:s.heap.get? p=some { cls:=.type "list",data:=.seq its.toArray n }) (hf:f { cls:=.type "list",data:=.seq its.toArray n }={ cls:=.type "list",data:=.seq its'.toArray n' }) (r:Vals ys its') (hz:ys.length<=sizeLine) (t:Nat) :
  Inv X pins σ (upd H p (.lst ys)) { s with heap:=s.heap.update p f,toks:=t }:=by
 have e:(s.heap.update p f).get? p=some { cls:=.type "list",data:=.seq its'.toArray n' }:=by rw [Od f ho (by rw [hf] <;> rfl),hf]
 refine I.write (x:=p) (e:=p) (by rw [h];trivial) (.inl rfl) (λb u hb q=>(NL _ _ (MD hb)).trans q) ⟨_,e⟩ ?_;exact ⟨hz,its',n',r,e⟩
noncomputable def EG:V->V->V->Hp->(Hp->Prop)->Prop:=λo i v H Q=>∃ p xs k j,o=.ref p/\i=.int k/\H p=some (.lst xs)/\Up xs.length k=some j/\Q (upd H p (.lst (xs.set j v)))
theorem kK:AM X EG:=by
 intro pins s σ H o i v ov iv u Q I ro ri rv h;obtain ⟨p,xs,k,j,rfl,rfl,hp,hj,q⟩:=h;cases ro;obtain ⟨t,rfl⟩:=ri;obtain ⟨its,n,r,ho,hz⟩:=I.lst hp;obtain ⟨h1,h2,h3,h4⟩:=rg hj;have hl:=r.length;have hn:=fJ
 have I':Inv X pins σ (upd H p (.lst (xs.set j v))) { s with heap:=s.heap.update p (Obj.mapSeq (·.setIfInBounds j u)) } :=
  I.We hp ho (qf its n j u) (r.set rv j) (by rw [List.length_set];exact hz) s.toks
 by_cases h0:0<=k
 ·have hk:k.toNat=j:=by
   rw [seqIndex_of h0 h4] at h1;exact MB h1
  exact W.ki_setAt ho h0 (by lia) (by rw [Mt,<- hl];exact h4) (by rw [hk];exact ⟨_,I',q⟩)
 ·have hk:(k+(its.toArray.size:Int)).toNat=j:=by
   rw [seqIndex_neg (by lia) h3] at h1;rw [Mt,<- hl];exact MB h1
  exact W.ki_setBack ho (by lia) (by rw [Mt,<- hl];exact h3) (by lia) (by rw [hk];exact ⟨_,I',q⟩)
theorem nq (lo hi:Option Int) (n:Nat):(sliceBounds lo hi none n).1=((HT.Qj n 0 lo:Nat):Int)/\(sliceBounds lo hi none n).2.1=((HT.Qj n n hi:Nat):Int)/\(sliceBounds lo hi none n).2.2=1:=by
 refine ⟨?_,?_,rfl⟩
 ·cases lo with
  | none=>simp [sliceBounds,HT.Qj]
  | some i =>
   simp only [sliceBounds,HT.Qj,Option.getD_none,show (1:Int) > 0 by decide,OR];by_cases h:i < 0
   ·simp only [h,OR] <;> lia
   ·simp only [h,Pu] <;> lia
 ·cases hi with
  | none=>simp [sliceBounds,HT.Qj]
  | some i =>
   simp only [sliceBounds,HT.Qj,Option.getD_none,show (1:Int) > 0 by decide,OR];by_cases h:i < 0
   ·simp only [h,OR] <;> lia
   ·simp only [h,Pu] <;> lia
theorem k9 (its:List Value) (lo hi:Option Int):slicePick its.toArray lo hi none=((its.drop (HT.Qj its.length 0 lo)).take (HT.Qj its.length its.length hi - HT.Qj its.length 0 lo)).toArray:=by obtain ⟨h1,h2,h3⟩:=nq lo hi its.toArray.size;unfold slicePick;rw [h1,h2,h3];simp only [sliceRange_one,pick_run,Mt] <;> rfl
noncomputable def FG (K:W.Frag):V->Option Int->Option Int->Hp->VK->Prop:=λx lo hi H Q=>∃ a xs,x=.ref a/\P6 K H a xs/\∀ p,H p=none->Q (.ref p) (upd H p (.lst (gv xs lo hi)))
theorem rN:X0 X (FG X.K):=by intro pins s σ H x v vl vu lo hi sl Q I rx hs pl pu h;obtain ⟨a,xs,rfl,hx,q⟩:=h;cases rx;obtain ⟨its,r,ht,hz⟩:=I.list hx;have hlen:=r.length;refine ⟨"list",_,slot_list_getitem.lookup,ht.isList.typeIs,?_⟩;refine wpAny_getItem_list_slice ht.isList hs pl pu .none (by simp) ?_ (by rw [Mt] <;> lia);rw [k9,<- hlen];refine ⟨.ref s.heap.objs.size,_,I.laid (t':=s.toks) (o:=.lst (gv xs lo hi)) (λb ob q=>LD _ q) (Mu _) ?_,rfl,q _ (I.hok.fresh (Mu _))⟩;exact ⟨MQ (i6 xs lo hi) hz,_,0,(r.drop (HT.Qj xs.length 0 lo)).take (HT.Qj xs.length xs.length hi - HT.Qj xs.length 0 lo),MI _ rfl⟩
noncomputable def fF:V->Bool
 | .PJ=>true
 | .bl _=>true
 | .int _=>true
 | .str _=>true
 | _=>false
noncomputable def VW:V->V->Bool
 | .PJ,.PJ=>true
 | .bl a,.bl b=>a == b
 | .bl a,.int b=>(if a then 1 else 0) == b
 | .int a,.bl b=>a == (if b then 1 else 0)
 | .int a,.int b=>a == b
 | .str a,.str b=>a == b
 | _,_=>false
variable {y:V} {u v:Value}
theorem BU {A:Around} {s:Shared} {x:V} (ry:RelV y u) (rx:RelV x v) (fy:fF y=true) (fx:fF x=true):SeqAt.EqAt A s u v (VW y x):=by
 cases y with
 | PJ =>
  cases ry
  cases x with
  | PJ=>cases rx;exact SeqAt.EqAt.same _
  | bl b=>cases rx;exact SeqAt.EqAt.none_bool b
  | int b=>obtain ⟨t,rfl⟩:=rx;exact SeqAt.EqAt.none_int b t
  | str b=>obtain ⟨t,rfl⟩:=rx;exact SeqAt.EqAt.none_str b t
  | _=>exact absurd (show false=true from fx) Mx
 | bl a =>
  cases ry
  cases x with
  | PJ=>cases rx;exact SeqAt.EqAt.bool_none a
  | bl b=>cases rx;exact SeqAt.EqAt.bool_bool a b
  | int b=>obtain ⟨t,rfl⟩:=rx;exact SeqAt.EqAt.bool_int a b t
  | str b=>obtain ⟨t,rfl⟩:=rx;exact SeqAt.EqAt.bool_str a b t
  | _=>exact absurd (show false=true from fx) Mx
 | int a =>
  obtain ⟨t',rfl⟩:=ry
  cases x with
  | PJ=>cases rx;exact SeqAt.EqAt.int_none a t'
  | bl b=>cases rx;exact SeqAt.EqAt.int_bool a t' b
  | int b=>obtain ⟨t,rfl⟩:=rx;exact SeqAt.EqAt.int_int a t' b t
  | str b=>obtain ⟨t,rfl⟩:=rx;exact O8 a t' b t
  | _=>exact absurd (show false=true from fx) Mx
 | str a =>
  obtain ⟨t',rfl⟩:=ry
  cases x with
  | PJ=>cases rx;exact SeqAt.EqAt.str_none a t'
  | bl b=>cases rx;exact SeqAt.EqAt.str_bool a t' b
  | int b=>obtain ⟨t,rfl⟩:=rx;exact O9 a t' b t
  | str b=>obtain ⟨t,rfl⟩:=rx;exact SeqAt.EqAt.str_str a t' b t
  | _=>exact absurd (show false=true from fx) Mx
 | _=>exact absurd (show false=true from fy) Mx
noncomputable def Uq (x:V) (u:Value):Bool:=match u with
 | .none=>VW .PJ x
 | .bool b=>VW (.bl b) x
 | .int i _=>VW (.int i) x
 | .str z _=>VW (.str z) x
 | _=>false
theorem wb {x:V} (r:RelV y u) (f:fF y=true):Uq x u=VW y x:=by
 cases y with
 | PJ=>cases r;rfl
 | bl b=>cases r;rfl
 | int i=>obtain ⟨t,rfl⟩:=r;rfl
 | str z=>obtain ⟨t,rfl⟩:=r;rfl
 | _=>exact absurd (show false=true from f) Mx
theorem gL {x:V}:∀ {xs:List V} {us:List Value},Vals xs us->xs.all fF=true->us.any (Uq x)=xs.any λy=>VW y x
 | _,_,.nil,_=>rfl
 | y::xs,u::us,.cons r t,f=>by rw [N5,MC] at f;rw [NW,NW,wb r f.1,gL t f.2]
theorem fL {A:Around} {s:Shared} {x:V} (rx:RelV x v) (fx:fF x=true):∀ {xs:List V} {us:List Value},Vals xs us->xs.all fF=true->∀ u ∈ us,SeqAt.EqAt A s u v (Uq x u)
 | _,_,.nil,_=>λu hu=>by cases hu
 | y::xs,u::us,.cons r t,f=>λu' hu=>by
  rw [N5,MC] at f;rcases MA.mp hu with rfl | hu
  ·rw [wb r f.1];exact BU r rx f.1 fx
  ·exact fL rx fx t f.2 u' hu
noncomputable def Xg (x:V) (xs:List V):Bool:=xs.any λy=>VW y x
noncomputable def X3 (K:W.Frag) (neg:Bool):R2:=λx y H Q=>∃ p xs,y=.ref p/\(P6 K H p xs\/Qq K H p xs)/\fF x=true/\xs.all fF=true/\Q (.bl (if neg then !Xg x xs else Xg x xs)) H
theorem uh:QA X (compareOp .In) (X3 X.K false):=by
 intro pins s σ H x y v u Q I rx ry h;obtain ⟨p,xs,rfl,hq,fx,fs,q⟩:=h;cases ry;rcases hq with hq | hq
 ·obtain ⟨its,r,pl,hz⟩:=I.list hq;refine SeqAt.in_listAt (Uq x) pl.isList (λw hw=>fL rx fx r fs w (by simpa using hw)) ⟨.bl _,H,I,rfl,?_⟩;rw [show its.toArray.any (Uq x)=its.any (Uq x) by simp,gL r fs];exact q
 ·obtain ⟨its,r,pl,hz⟩:=I.tuple hq;refine SeqAt.in_tupleAt (Uq x) pl (λw hw=>fL rx fx r fs w (by simpa using hw)) ⟨.bl _,H,I,rfl,?_⟩;rw [show its.toArray.any (Uq x)=its.any (Uq x) by simp,gL r fs];exact q
theorem mO:QA X (compareOp .NotIn) (X3 X.K true):=by
 intro pins s σ H x y v u Q I rx ry h;obtain ⟨p,xs,rfl,hq,fx,fs,q⟩:=h;cases ry;rcases hq with hq | hq
 ·obtain ⟨its,r,pl,hz⟩:=I.list hq;refine SeqAt.notIn_listAt (Uq x) pl.isList (λw hw=>fL rx fx r fs w (by simpa using hw)) ⟨.bl _,H,I,rfl,?_⟩;rw [show its.toArray.any (Uq x)=its.any (Uq x) by simp,gL r fs];exact q
 ·obtain ⟨its,r,pl,hz⟩:=I.tuple hq;refine SeqAt.notIn_tupleAt (Uq x) pl (λw hw=>fL rx fx r fs w (by simpa using hw)) ⟨.bl _,H,I,rfl,?_⟩;rw [show its.toArray.any (Uq x)=its.any (Uq x) by simp,gL r fs];exact q
theorem aw:cZ X (.builtin "len") (λxs H Q=>∃ p ys,xs=[.ref p]/\(P6 X.K H p ys\/Qq X.K H p ys)/\Q (.int ys.length) H):=by
 intro pins s σ H xs us Q I r h;obtain ⟨p,ys,rfl,hq,q⟩:=h;obtain ⟨u,rfl,rx⟩:=cH r;cases rx;have hn:=fJ;rcases hq with hq | hq
 ·obtain ⟨its,r',pl,hz⟩:=I.list hq;have hlen:=r'.length;exact Calls.call_len_list pl.isList (by simp only [Mt] <;> lia) ⟨.int ys.length,H,I.tok _,⟨s.toks+1,by rw [Mt,hlen]⟩,q⟩
 ·obtain ⟨its,r',pl,hz⟩:=I.tuple hq;have hlen:=r'.length;exact len_tuple pl (by simp only [Mt] <;> lia) ⟨.int ys.length,H,I.tok _,⟨s.toks+1,by rw [Mt,hlen]⟩,q⟩
theorem mm:cZ X (.builtin "len") (λxs H Q=>∃ z,xs=[.str z]/\z.length<=sizeLine/\Q (.int z.length) H):=by intro pins s σ H xs us Q I r h;obtain ⟨z,rfl,hz,q⟩:=h;obtain ⟨u,rfl,t,rfl⟩:=cH r;have hn:=fJ;exact len_str (by lia) ⟨.int z.length,H,I.tok _,⟨_,rfl⟩,q⟩
theorem eR:cZ X (.type "list") (λxs H Q=>∃ p ys,xs=[.ref p]/\(P6 X.K H p ys\/Qq X.K H p ys)/\∀ l,H l=none->Q (.ref l) (upd H l (.lst ys))):=by
 intro pins s σ H xs us Q I r h;obtain ⟨p,ys,rfl,hq,q⟩:=h;obtain ⟨u,rfl,rx⟩:=cH r;cases rx
 have fin:∀ (its:List Value),Vals ys its->ys.length<=sizeLine->∀ (h':Heap) (c':Nat),(∀ b o',s.heap.get? b=some o'->h'.get? b=some o') ->
   h'.get? s.heap.objs.size=some { cls:=.type "list",dict:=none,data:=.seq its.toArray c',slots:=#[] }->EP X pins σ Q (.ref s.heap.objs.size) { s with heap:=h' }:=λits r' hz h' c' kp e =>
  ⟨.ref s.heap.objs.size,_,I.laid (t':=s.toks) kp (Mu _) (show P1 X.prog X.w _ h' _ (.lst ys) from ⟨hz,its,c',r',e⟩),rfl,q _ (I.hok.fresh (Mu _))⟩
 rcases hq with hq | hq
 ·obtain ⟨its,r',pl,hz⟩:=I.list hq;have hlen:=r'.length;obtain ⟨o,ho,hc,n,hd⟩:=pl.isList;exact call_list_seq p (.inl rfl) ho hc hd (λh' c' kp e=>fin its r' hz h' c' kp e) (by simp only [Mt] <;> lia)
 ·obtain ⟨its,r',pl,hz⟩:=I.tuple hq;have hlen:=r'.length;obtain ⟨o,ho,hc,n,hd⟩:=pl;exact call_list_seq p (.inr rfl) ho hc hd (λh' c' kp e=>fin its r' hz h' c' kp e) (by simp only [Mt] <;> lia)
theorem bS:cZ X (.type "tuple") (λxs H Q=>∃ p ys,xs=[.ref p]/\((P6 X.K H p ys/\∀ l,H l=none->Q (.ref l) (upd H l (.tup ys)))\/(Qq X.K H p ys/\Q (.ref p) H))):=by
 intro pins s σ H xs us Q I r h;obtain ⟨p,ys,rfl,h⟩:=h;obtain ⟨u,rfl,rx⟩:=cH r;cases rx;rcases h with ⟨hq,q⟩ | ⟨hq,q⟩
 ·obtain ⟨its,r',pl,hz⟩:=I.list hq;have hlen:=r'.length;refine call_tuple_list pl.isList (λh' kp=>?_) (by simp only [Mt] <;> lia);have I1:Inv X pins σ H { s with heap:=h' }:=I.kept (t':=s.toks) kp
  have I2:Inv X pins σ (upd H h'.objs.size (.tup ys)) { s with heap:=h'.push { cls:=.type "tuple",data:=.seq its.toArray } } :=
   I1.laid (t':=s.toks) (λb o e=>LD _ e) (Mu _) (show P1 X.prog X.w _ _ _ (.tup ys) from ⟨hz,its,r',Ox _ _⟩)
  exact ⟨.ref h'.objs.size,_,I2,rfl,q _ (I1.hok.fresh (Mu _))⟩
 ·obtain ⟨its,r',pl,hz⟩:=I.tuple hq;exact call_tuple_same pl ⟨.ref p,H,I,rfl,q⟩
noncomputable def X4 (K:W.Frag) (T:String) (x:V) (H:Hp):Prop:=match x with
 | .str _=>T="str"
 | .int _=>T="int"
 | .ref p=>(T="list"/\∃ xs,P6 K H p xs)\/(T="tuple"/\∃ o,K.lookup p=some o/\o.cls=.type "tuple"/\o.dict=none) \/
   (T="dict"/\((∃ kvs,H p=some (.dK kvs))\/∃ kvs,H p=some (.dT kvs)))\/(T="set"/\∃ S n,H p=some (.set S n))
 | _=>False
theorem x9 {s:Shared} {T:String} {x:V} (I:Inv X pins σ H s) (r:RelV x v) (ty:X4 X.K T x H) :
  s.TypeIs v T/\∀ a,v=.ref a->∃ ob,s.heap.get? a=some ob/\ob.dict=none:=by
 cases x with
 | str z =>obtain ⟨t,rfl⟩:=r;cases (show T="str" from ty);exact ⟨typeIs_str s z t,λ_ e=>nomatch e⟩
 | int i =>obtain ⟨t,rfl⟩:=r;cases (show T="int" from ty);exact ⟨Pr s i t,λ_ e=>nomatch e⟩
 | ref p =>
  cases r;rcases ty with ⟨rfl,xs,hq⟩ | ⟨rfl,o,hk,hc,hd⟩ | ⟨rfl,hk⟩ | ⟨rfl,S,n,hk⟩
  ·obtain ⟨its,_,pl,_⟩:=I.list hq;refine ⟨pl.isList.typeIs,λa e=>?_⟩;cases e;obtain ⟨o,n,e,c,hd,_⟩:=pl;exact ⟨o,e,hd⟩
  ·refine ⟨⟨o,I.QK p o hk,hc⟩,λa e=>?_⟩;cases e;exact ⟨o,I.QK _ o hk,hd⟩
  ·have z:∃ o,s.heap.get? p=some o/\o.ExactDict:=by
    rcases hk with ⟨kvs,hk⟩ | ⟨kvs,hk⟩
    ·obtain ⟨_,_,_,_,o,_,_,e,ex,_⟩:=I.hok p _ hk;exact ⟨o,e,ex⟩
    ·obtain ⟨_,_,_,_,o,_,_,e,ex,_⟩:=I.hok p _ hk;exact ⟨o,e,ex⟩
   obtain ⟨o,e,ex⟩:=z;refine ⟨⟨o,e,ex.1⟩,λa e2=>?_⟩;cases e2;exact ⟨o,e,ex.2.1⟩
  ·obtain ⟨o,_,_,_,e,ex,_⟩:=I.hok p _ hk;refine ⟨⟨o,e,ex.1⟩,λa e2=>?_⟩;cases e2;exact ⟨o,e,ex.2.1⟩
 | _=>exact False.elim ty
noncomputable def FO (K:W.Frag) (T:String) (r:V->List V->Hp->VK->Prop) (to:TE):TE:=λσ H Q=>to σ H λx H1=>X4 K T x H1/\r x [] H1 Q
noncomputable def X5 (K:W.Frag) (T:String) (r:V->List V->Hp->VK->Prop) (to:TE) (t:TA):TE:=λσ H Q=>to σ H λx H1=>X4 K T x H1/\t σ H1 λxs H2=>r x xs H2 Q
variable {o e:Expr} {es:List Expr} {to:TE} {t:TA} {name:Str} {apos cpos:Pos} {T id:String} {r:V->List V->Hp->VK->Prop}
theorem Cm (pa:PlainAttrs T) (slot:Slot T name id) (hty:typeOf (.builtin id)=pure (.type "method_descriptor")) (hm:Xf X id r) (ho:PE X o to)
  (hbase:attributeBase o name X.env (eval o X.env)=eval o X.env:=by rfl) (hline:(apos.endLine == cpos.line)=true:=by rfl):PE X (.Call (.Attribute o name apos) [] [] cpos) (FO X.K T r to):=by
 intro pins s σ H Q I h;refine wpAny_Call_method0_late hbase hline (PR (ho pins s σ H _ I h) λv s1 ⟨x,H1,I1,r1,ty,q1⟩=>?_);obtain ⟨h1,h2⟩:=x9 I1 r1 ty;exact ⟨T,id,pa,slot,hty,h1,h2,OL rfl (PySem.evalArgs_none (hm pins s1 σ H1 x [] v [] Q I1 r1 .nil q1))⟩
theorem lS (pa:PlainAttrs T) (slot:Slot T name id) (hty:typeOf (.builtin id)=pure (.type "method_descriptor")) (hm:Xf X id r) (ho:PE X o to) (ha:PA X (e::es) t)
  (hbase:attributeBase o name X.env (eval o X.env)=eval o X.env:=by rfl)
  (hfew:((backTo cpos (starEach (e::es) X.env)).all (λx=>!x.1) && (backToKw cpos (keywordEach [] X.env)).all (λx=>x.1.isSome)
   && decide ((e::es).length+([]:List Keyword).length+(if ([]:List Keyword).isEmpty then 0 else 1) < 30))=true:=by rfl)
  (hline:(apos.endLine == cpos.line)=true:=by rfl) (hs:starEach (e::es) X.env=(false,eval e X.env)::starEach es X.env:=by rfl) (hplain:(backTo cpos (starEach es X.env)).any (·.1)=false:=by rfl) :
  PE X (.Call (.Attribute o name apos) (e::es) [] cpos) (X5 X.K T r to t):=by
 intro pins s σ H Q I h;refine wpAny_Call_method_late hbase hfew hline rfl (PR (ho pins s σ H _ I h) λv s1 ⟨x,H1,I1,r1,ty,q1⟩=>?_);obtain ⟨h1,h2⟩:=x9 I1 r1 ty;refine ⟨T,id,pa,slot,hty,h1,h2,?_⟩;have hA:=ha cpos pins s1 σ H1 _ I1 q1;rw [hs] at hA ⊢;refine OL (by show (false || (backTo cpos (starEach es X.env)).any (·.1))=false;rw [hplain] <;> rfl) (OX ?_);exact PR hA λus s2 ⟨vs,H2,I2,r2,q2⟩=>hm pins s2 σ H2 x vs v us Q I2 r1 r2 q2
end
noncomputable def WL (X:Cx) (id:String) (r:V->List V->Hp->VK->Prop):Prop :=
 ∀ (pins:List (Addr × Obj)) (s:Shared) (σ:St) (H:Hp) (x:V) (xs:List V) (v:Value) (us:List Value) (Q:VK),Inv X pins σ H s->RelV x v->Vals xs us->r x xs H Q ->
  wpAny (model X.prog X.w) X.A (call (.builtin id) (v::us)) (EP X pins σ Q) X.xe s
theorem Vals.one:∀ {x:V} {us:List Value},Vals [x] us->∃ u,us=[u]/\RelV x u
 | _,_,.cons r .nil=>⟨_,rfl,r⟩
theorem Vals.zero:∀ {us:List Value},Vals [] us->us=[]
 | _,.nil=>rfl
variable {xs:List V} {us:List Value}
theorem Vals.dropLast (h:Vals xs us):Vals xs.dropLast us.dropLast:=by
 induction h with
 | nil=>exact .nil
 | cons r t ih =>
  cases t with
  | nil=>exact .nil
  | cons q t'=>exact .cons r ih
theorem Vals.rep (h:Vals xs us):∀ k:Nat,Vals (List.replicate k xs).flatten (List.replicate k us).flatten
 | 0=>.nil
 | k+1=>by rw [Nl,Nl,NZ,NZ];exact Vals.append h (Vals.rep h k)
theorem pP {α:Type} (l:List α):l.eraseIdx (l.length - 1)=l.dropLast:=by
 induction l with
 | nil=>rfl
 | cons a r ih =>
  cases r with
  | nil=>rfl
  | cons b r =>
   have e:(a::b::r).length - 1=((b::r).length - 1)+1:=by have h1:(a::b::r).length=r.length+2:=rfl;have h2:(b::r).length=r.length+1:=rfl;lia
   rw [e,List.eraseIdx_cons_succ,ih]
   all_goals rfl
theorem dF (its:List Value):∀ (k:Nat) (acc:List Value),
  List.foldl (λx1 x2=>x1++x2) acc.toArray (List.replicate k its.toArray)=(acc++(List.replicate k its).flatten).toArray
 | 0,acc=>by simp
 | k+1,acc=>by
  have e:acc.toArray++its.toArray=(acc++its).toArray:=by simp
  have e2:(acc++its)++(List.replicate k its).flatten=acc++(List.replicate (k+1) its).flatten:=by rw [Nl,NZ,N9]
  rw [<- e2,<- dF its k (acc++its),<- e,Nl,List.foldl_cons]
section
variable {X:Cx} {pins:List (Addr × Obj)} {σ:St} {H:Hp} {s:Shared} {l b:Addr} {xs ys zs:List V}
variable {its:List Value} {n t':Nat}
theorem Inv.Wf {its':List Value} {f:Array Value->Array Value} (I:Inv X pins σ H s) (hH:H l=some (.lst xs))
  (e:s.heap.get? l=some { cls:=.type "list",data:=.seq its.toArray n }) (hf:f its.toArray=its'.toArray) (hv:Vals ys its') (hz:ys.length<=sizeLine) :
  Inv X pins σ (upd H l (.lst ys)) { s with heap:=s.heap.update l (Obj.mapSeq f),toks:=t' }:=by
 have q:=PySem.IsL.update e f;rw [hf] at q;refine I.write (x:=l) (e:=l) (by rw [hH];exact trivial) (.inl rfl) (λb' u hb hu=>(NL s.heap (Obj.mapSeq f) (MD hb)).trans hu) ⟨_,q⟩ ?_;exact ⟨hz,its',_,hv,q⟩
theorem Inv.Xh (I:Inv X pins σ H s) (hv:Vals ys its) (hz:ys.length<=sizeLine) :
  Inv X pins σ (upd H s.heap.objs.size (.lst ys)) { s with heap:=s.heap.push { cls:=.type "list",data:=.seq its.toArray },toks:=t' } :=
 I.laid (λ_ _ q=>LD _ q) (Mu _) ⟨hz,its,0,hv,MI _ rfl⟩
theorem Inv.fresh (I:Inv X pins σ H s):H s.heap.objs.size=none:=I.hok.fresh (Mu _)
theorem Inv.UM (I:Inv X pins σ H s) (hH:H l=some (.lst xs)):xs.length<=sizeLine/\∃ (its:List Value) (n:Nat),Vals xs its/\xs.length=its.length/\s.heap.get? l=some { cls:=.type "list",data:=.seq its.toArray n }:=by obtain ⟨z,its,n,r,e⟩:=I.hok l _ hH;exact ⟨z,its,n,r,r.length,e⟩
theorem oM (h:n<=sizeLine):Builtin.List.listTooLong n=false:=by unfold Builtin.List.listTooLong;exact M4 (by lia)
end
section
variable {X:Cx}
noncomputable def rH:V->List V->Hp->VK->Prop:=λx vs H Q=>∃ l xs y,x=.ref l/\vs=[y]/\H l=some (.lst xs)/\xs.length < sizeLine/\Q .PJ (upd H l (.lst (xs++[y])))
theorem ck:WL X "list.append" rH:=by intro pins s σ H x vs v us Q I rx rv h;obtain ⟨l,xs,y,rfl,rfl,hH,hz,q⟩:=h;cases rx;obtain ⟨u,rfl,ru⟩:=rv.one;obtain ⟨z,its,n,r,hl,e⟩:=I.UM hH;refine N1 Ng ⟨_,e,rfl⟩ F.entry_list_append (F.args_list_append_2 _ _) (PySem.list_append l its.toArray n u (by rw [Mt];lia)) ⟨e,?_⟩;refine ⟨.PJ,_,I.Wf (its':=its++[u]) hH e (by simp) (r.append (.cons ru .nil)) ?_,rfl,q⟩;rw [MO,List.length_singleton];lia
noncomputable def mW:V->List V->Hp->VK->Prop:=λx vs H Q=>∃ l b xs zs,x=.ref l/\vs=[.ref b]/\H l=some (.lst xs)/\H b=some (.lst zs)/\xs.length+zs.length<=sizeLine/\Q .PJ (upd H l (.lst (xs++zs)))
theorem aZ:WL X "list.extend" mW:=by
 intro pins s σ H x vs v us Q I rx rv h;obtain ⟨l,b,xs,zs,rfl,rfl,hH,hB,hz,q⟩:=h;cases rx;obtain ⟨u,rfl,ru⟩:=rv.one;cases ru;obtain ⟨z,its,n,r,hl,e⟩:=I.UM hH;obtain ⟨z2,its2,n2,r2,hl2,e2⟩:=I.UM hB;have hsz:its.toArray.size+its2.toArray.size<=sizeLine:=by rw [Mt,Mt];lia
 have Vg:¬ (!its.toArray.isEmpty && Builtin.List.listTooLong (its.toArray.size+its2.toArray.size))=true:=by rw [oM hsz,Bool.and_false];exact Mx
 refine N1 ME ⟨_,e,rfl⟩ F.entry_list_extend (F.args_list_extend_2 _ _)
  (AutoSeq1.list_extend_list_list_0 l its.toArray n b its2.toArray n2 Vg (by rw [Mt];lia) (by lia)) ⟨e,e2,?_⟩
 refine ⟨.PJ,_,I.Wf (its':=its++its2) hH e (by simp) (r.append r2) ?_,rfl,q⟩;rw [MO];lia
noncomputable def EE:V->List V->Hp->VK->Prop:=λx vs H Q=>∃ l xs y,x=.ref l/\vs=[]/\H l=some (.lst xs)/\xs[xs.length - 1]?=some y/\Q y (upd H l (.lst xs.dropLast))
theorem B5:WL X "list.pop" EE:=by
 intro pins s σ H x vs v us Q I rx rv h;obtain ⟨l,xs,y,rfl,rfl,hH,hy,q⟩:=h;cases rx;have hus:=rv.zero;subst hus;obtain ⟨z,its,n,r,hl,e⟩:=I.UM hH;obtain ⟨u,hu,ru⟩:=r.get hy
 have hy':its.toArray[its.toArray.size - 1]?=some u:=by show its.toArray[its.length - 1]?=some u;rw [<- Array.getElem?_toList,<- hl];exact hu
 refine N1 F.slot_list_pop ⟨_,e,rfl⟩ F.entry_list_pop (F.args_list_pop_1 _) (MeetsSeq.list_pop_last l its.toArray n u hy' (by rw [Mt];lia)) ⟨e,?_⟩;refine ⟨y,_,I.Wf (its':=its.dropLast) hH e ?_ r.dropLast ?_,ru,q⟩
 ·show its.toArray.eraseIdxIfInBounds (its.toArray.size - 1)=its.dropLast.toArray;rw [Mt,List.eraseIdxIfInBounds_toArray,pP]
 ·rw [List.length_dropLast];lia
noncomputable def EF:R2:=λx y H Q=>∃ l k xs,x=.ref l/\y=.int k/\H l=some (.lst xs)/\-(2 ^ 63)<=k/\k < 2 ^ 63/\xs.length * k.toNat<=sizeLine /\
 ∀ p,H p=none->Q (.ref p) (upd H p (.lst (List.replicate k.toNat xs).flatten))
theorem mI {α:Type} (xs:List α) (k:Nat):(List.replicate k xs).flatten.length=k * xs.length:=by
 induction k with
 | zero=>simp
 | succ k ih=>rw [Nl,NZ,MO,ih,Nat.succ_mul,Nat.add_comm]
theorem gD:QA X (binaryOp .Mult) EF:=by
 intro pins s σ H x y v u Q I rx ry h;obtain ⟨l,k,xs,rfl,rfl,hH,h1,h2,hz,q⟩:=h;cases rx;obtain ⟨t,rfl⟩:=ry;obtain ⟨z,its,n,r,hl,e⟩:=I.UM hH;have hlen:its.toArray.size * k.toNat<=sizeLine:=by rw [Mt,<- hl];exact hz
 have hcap:¬ its.toArray.size * k.toNat > (2 ^ 63 - 1) / 8:=by
  have:(sizeLine:Nat)<=(2 ^ 63 - 1) / 8:=by decide
  lia
 have hfit:¬ (!Builtin.List.listFitsIndex k)=true:=by rw [fitsIndex_both h1 h2];exact Mx
 have Vg:¬ Builtin.List.listTooLong (its.toArray.size * k.toNat)=true:=by rw [oM hlen];exact Mx
 have hnew:List.foldl (λx1 x2=>x1++x2) #[] (List.replicate (if its.toArray.isEmpty=true then 0 else k.toNat) its.toArray)=(List.replicate k.toNat its).flatten.toArray:=by
  have f0:∀ m:Nat,List.foldl (λx1 x2=>x1++x2) #[] (List.replicate m its.toArray)=(List.replicate m its).flatten.toArray:=λm=>by have:=dF its m [];rw [List.nil_append] at this;exact this
  rw [f0]
  cases its with
  | nil=>simp
  | cons a r'=>rw [Mz (by simp)]
 refine wpAny_binaryOp_repeat_ref (T:="list") (U:="int") (by decide) ⟨_,e,rfl⟩ (λs'=>Pr s' k t) noFill_list_mul F.fills_int_mul OY repeat_list F.slot_int_index.lookup
  (N1 OY (Pr s k t) F.entry_int_rmul (F.args_int_rmul_2 _ _) (int___rmul___int_list k t l its.toArray n)
   ⟨e,rfl,⟨_,e,rfl⟩,N1 F.slot_list_mul ⟨_,e,rfl⟩ F.entry_list_mul (F.args_list_mul_2 _ _) (AutoListH.list___mul___list_int_3 l its.toArray n k t hfit hcap Vg) ⟨e,?_⟩⟩)
 rw [hnew];exact ⟨.ref _,_,I.Xh (t':=s.toks) (r.rep k.toNat) (by rw [mI,Nat.mul_comm];exact hz),rfl,q _ I.fresh⟩
end
section
variable {prog:Program} {w:World} {A:Around} {E:Value->Shared->Prop} {s:Shared}
end
section
variable {X:Cx}
end
section
variable {κ:Type} [DecidableEq κ]
noncomputable def i5 (kvs:List (κ × V)) (k:κ):Option V:=(kvs.find? λkv=>decide (kv.1=k)).map (·.2)
noncomputable def kn (kvs:List (κ × V)) (k:κ) (v:V):List (κ × V) :=
 if (kvs.any λkv=>decide (kv.1=k))=true then kvs.map (λkv=>if kv.1=k then (kv.1,v) else kv) else kvs++[(k,v)]
theorem o9 {p:κ × V} {r:List (κ × V)} {k:κ} (e:p.1=k):i5 (p::r) k=some p.2:=by simp [i5,NC,e]
theorem o8 {p:κ × V} {r:List (κ × V)} {k:κ} (e:¬ p.1=k):i5 (p::r) k=i5 r k:=by simp [i5,NC,e]
theorem oz (kvs:List (κ × V)) (k:κ) (v:V):(kn kvs k v).length<=kvs.length+1:=by
 unfold kn;split
 ·rw [MK];lia
 ·rw [MO,Nz,List.length_nil];lia
theorem KV.val {kvs:List (κ × V)} {vs:List (κ × Value)} (r:KV kvs vs) (k:κ):T7 (i5 kvs k) (valueAt vs k):=by
 unfold KV at r
 induction r with
 | nil=>exact True.intro
 | @cons p q ps qs h t ih =>
  obtain ⟨h1,h2⟩:=h;by_cases e:p.1=k
  ·have e':q.1=k:=h1.symm.trans e;have b:valueAt (q::qs) k=some q.2:=by simp [valueAt,NC,e']
   rw [o9 e,b];exact h2
  ·have e':¬ q.1=k:=λz=>e (h1.trans z);have b:valueAt (q::qs) k=valueAt qs k:=by simp [valueAt,NC,e']
   rw [o8 e,b];exact ih
theorem KV.any {kvs:List (κ × V)} {vs:List (κ × Value)} (r:KV kvs vs) (k:κ):(kvs.any λkv=>decide (kv.1=k))=vs.any λkv=>decide (kv.1=k):=by
 unfold KV at r
 induction r with
 | nil=>rfl
 | cons h t ih=>rw [NW,NW,ih,h.1]
variable {y:V} {u:Value}
theorem KV.repl {kvs:List (κ × V)} {vs:List (κ × Value)} (r:KV kvs vs) (k:κ) (ry:RelV y u) :
  KV (kvs.map λkv=>if kv.1=k then (kv.1,y) else kv) (vs.map λkv=>if kv.1=k then (kv.1,u) else kv):=by
 unfold KV at r ⊢
 induction r with
 | nil=>exact .nil
 | @cons p q ps qs h t ih =>
  rw [MZ,MZ];refine .cons ?_ ih;obtain ⟨h1,h2⟩:=h;by_cases e:p.1=k
  ·rw [MF e,MF (h1.symm.trans e)];exact ⟨h1,ry⟩
  ·rw [Mz e,Mz (λz=>e (h1.trans z))];exact ⟨h1,h2⟩
theorem KV.put {kvs:List (κ × V)} {vs:List (κ × Value)} (r:KV kvs vs) (k:κ) (ry:RelV y u):KV (kn kvs k y) (stored vs k u):=by
 unfold kn stored;rw [r.any k];by_cases e:(vs.any λkv=>decide (kv.1=k))=true
 ·rw [MF e,MF e];exact r.repl k ry
 ·rw [Mz e,Mz e];exact Paired.snoc r ⟨rfl,ry⟩
end
variable {P:Program} {w:World}
theorem wy {k:Key} {u:Value} (r:RelV (kV k) u):(b9 P w).is k u=true:=by
 cases k with
 | inl i=>obtain ⟨t,e⟩:=(show ∃ t,u=Value.int i t from r);subst e;exact oF P w i t
 | inr x=>obtain ⟨t,e⟩:=(show ∃ t,u=Value.str x t from r);subst e;exact oG P w x t
theorem lL:∀ {ks:List Key} {us:List Value},Vals (ks.map kV) us->ItemsAre (b9 P w) ks us
 | [],_,r=>by rw [List.map_nil] at r;cases r;exact .nil
 | k::ks,_,r=>by
  rw [MZ] at r
  cases r with
  | cons h t=>exact .cons (wy h) (lL t)
noncomputable abbrev KT (H:Hp):List (List Key × V)->List (List Key × Addr × Value)->Prop:=Paired λp q=>p.1=q.1/\H q.2.1=some (.tup (p.1.map kV))/\RelV p.2 q.2.2
variable {H:Hp}
theorem KT.val {kvs:List (List Key × V)} {xs:List (List Key × Addr × Value)} (r:KT H kvs xs) (k:List Key):T7 (i5 kvs k) ((atKey xs k).map (·.2)):=by
 induction r with
 | nil=>exact True.intro
 | @cons p q ps qs h t ih =>
  obtain ⟨h1,_,h2⟩:=h;by_cases e:p.1=k
  ·have e':q.1=k:=h1.symm.trans e;have b:atKey (q::qs) k=some q.2:=by simp [atKey,NC,e']
   rw [o9 e,b];exact h2
  ·have e':¬ q.1=k:=λz=>e (h1.trans z);have b:atKey (q::qs) k=atKey qs k:=by simp [atKey,NC,e']
   rw [o8 e,b];exact ih
section
variable {P:Program} {w:World} {H:Hp} {h:Heap} {a:Addr}
theorem AD {u:HO} (ok:QM P w H h) (e:Rd H a u):P1 P w H h a u:=e.ok ok
variable {kvs:List (Key × V)}
theorem vq (ok:QM P w H h) (e:Rd H a (.dK kvs)):kvs.length<=sizeLine/\(a == sysModules)=false/\∃ vs,KV kvs vs/\h.DictOf (b9 P w) a vs :=
 show P1 P w H h a (.dK kvs) from AD ok e
theorem Dr (ok:QM P w H h) (e:H a=some (.dK kvs)):kvs.length<=sizeLine/\(a == sysModules)=false/\∃ vs,KV kvs vs/\h.DictOf (b9 P w) a vs:=vq ok (.inl e)
theorem wA {ks:List Key} (ok:QM P w H h) (e:H a=some (.tup (ks.map kV))):(tupleKind (b9 P w)).is h ks a:=by
 obtain ⟨_,its,r,o,h1,h2,n,h3⟩:=(show P1 P w H h a (.tup (ks.map kV)) from ok a _ e)
 exact ⟨o,its.toArray,n,h1,h2,h3,by simpa using lL r⟩
theorem Af {kvs:List (List Key × V)} (ok:QM P w H h) (e:Rd H a (.dT kvs)):kvs.length<=sizeLine/\(a == sysModules)=false /\
  ∃ xs,KT H kvs xs/\h.DictOfH (tupleKind (b9 P w)) a xs:=by
 obtain ⟨z,y,xs,r,o,es,ep,h1,h2,h3,h4,h5⟩:=(show P1 P w H h a (.dT kvs) from AD ok e)
 refine ⟨z,y,xs,r,o,es,ep,h1,h2,h3,h4,λx hx=>?_,h5⟩
 have all:∀ {l:List (List Key × V)} {m:List (List Key × Addr × Value)},KT H l m->∀ x ∈ m,(tupleKind (b9 P w)).is h x.1 x.2.1:=by
  intro l m q
  induction q with
  | nil=>intro x hx;exact nomatch hx
  | @cons p q ps qs hq t ih =>
   intro x hx;rcases MA.mp hx with e | hx
   ·subst e;exact wA ok (by rw [<- hq.1];exact hq.2.1)
   ·exact ih x hx
 exact all r x hx
end
noncomputable def UN (H:Hp) (a:Addr) (y:V) (r:Option V):Prop :=
 (∃ kvs k,Rd H a (.dK kvs)/\y=kV k/\r=i5 kvs k)\/∃ kvs k b,Rd H a (.dT kvs)/\y=.ref b/\H b=some (.tup (k.map kV))/\r=i5 kvs k
variable {a:Addr}
theorem UN.k {kvs:List (Key × V)} {k:Key} (e:H a=some (.dK kvs)):UN H a (kV k) (i5 kvs k):=.inl ⟨kvs,k,.inl e,rfl,rfl⟩
section
variable {X:Cx} {pins:List (Addr × Obj)} {σ:St} {H:Hp} {s:Shared} {a:Addr} {y v:V} {u r:Value} {o:Option V} {A:Around} {E:Value->Shared->Prop}
theorem Inv.big (I:Inv X pins σ H s):sysModules < s.heap.objs.size:=by have h:mainGlobals < s.heap.objs.size:=(I.mod.glob.keeps I.bk).lt;exact OA (by decide) h
theorem sx {Q:Value->Shared->Prop} (hu:A.units+1 < cLine) (I:Inv X pins σ H s) (g:UN H a y (some v)) (ry:RelV y u) (h:∀ w' s',Inv X pins σ H s'->RelV v w'->Q w' s') :
  wpAny (model X.prog X.w) A (getItem (.ref a) u) Q E s:=by
 rcases g with ⟨kvs,k,e,ey,l⟩ | ⟨kvs,k,b,e,ey,eb,l⟩
 ·subst ey;obtain ⟨z,hd,vs,rel,dd⟩:=vq I.hok e;obtain ⟨w',hw,rw'⟩:=T7.some_of (v:=v) (o:=valueAt vs k) (by rw [l];exact rel.val k);exact wpAny_getItem_of (wy ry) dd.mapOf hw (h w' _ (I.tok _) rw')
 ·subst ey;cases (show u=Value.ref b from ry);obtain ⟨z,hd,xs,rel,dd⟩:=Af I.hok e;obtain ⟨w',hw,rw'⟩:=T7.some_of (v:=v) (o:=(atKey xs k).map (·.2)) (by rw [l];exact rel.val k);obtain ⟨p,hp,hp2⟩:=OJ.mp hw;refine wpAny_getItem_heap (tupleKind_room_in1 hu) (wA I.hok eb) dd hp ?_;rw [hp2];exact h w' _ (I.tok _) rw'
variable {h':Heap}
theorem yr {t':Nat} {ob:HO} (I:Inv X pins σ H s) (mu:W7 (H a)) (hs:Heap.SameBut a s.heap h') (he:∃ q,h'.get? a=some q) (new:P1 X.prog X.w (upd H a ob) h' a ob) :
  Inv X pins σ (upd H a ob) { s with heap:=h',toks:=t' } :=
 I.write (x:=a) (e:=a) mu (.inl rfl) (λb q hb z=>(hs.2 b hb).trans z) he new
theorem A1 {P:Program} {w:World} {H':Hp} {kvs:List (Key × V)} {vs:List (Key × Value)} (z:kvs.length<=sizeLine) (hd:(a == sysModules)=false) (rel:KV kvs vs) (dd:h'.DictOf (b9 P w) a vs) :
  P1 P w H' h' a (.dK kvs):=⟨z,hd,vs,rel,dd⟩
end
section
variable {X:Cx} {pins:List (Addr × Obj)} {σ:St} {H:Hp} {s:Shared} {a:Addr} {kvs:List (Key × V)} {k:Key} {u:Value} {A:Around} {E:Value->Shared->Prop}
end
noncomputable def AL (i:Expr):Prop:=∀ ov iv,subscripted i false ov iv=operate [ov,iv] (getItem ov iv)
variable {pos:Pos}
theorem zY {prog:Program} {A:Around} {E:Value->Shared->Prop} {s:Shared} {env:Env} {value slice:Expr} {T id:String} {Q:Value->Shared->Prop}
  (hl:typeLookup (.type T) "__getitem__"=pure (some (.builtin id))) (hs:AL slice)
  (h:wpAny (model prog w) A (eval value env) (λo s₁=>wpAny (model prog w) A (eval slice env) (λi s₂=>s₂.TypeIs o T/\wpAny (model prog w) A (getItem o i) Q E s₂) E s₁) E s) :
  wpAny (model prog w) A (eval (.Subscript value slice pos) env) Q E s:=by
 refine Subscript_ (MT h (λo s₁ h₁=>MT h₁ (λi s₂ h₂=>?_) λ_ _ x=>x) λ_ _ x=>x);obtain ⟨hT,h₂⟩:=h₂;unfold subscriptTail;refine pg ?_;rw [getitemInPython_of_ne hT.not_modules];refine pg (wpAny_specialOf hT hl ?_)
 have fin:wpAny (model prog w) A (subscripted slice false o i) (λr s₃=>wpAny (model prog w) A (letTemporaryGo value o r >>= λ_=>pure r) Q E s₃) E s₂:=by rw [hs o i];exact wpAny_operating (MT h₂ (λr s₃ h₃=>pg (wpAny_letTemporaryGo (Mq h₃))) λ_ _ x=>x)
 first
  | exact Mq (pg fin)
  | exact pg (Mq (pg fin))
  | exact pg fin
variable {X:Cx}
theorem nQ {pins:List (Addr × Obj)} {σ:St} {s:Shared} {y:V} {o:Option V} (I:Inv X pins σ H s) (g:UN H a y o):s.TypeIs (.ref a) "dict":=by
 rcases g with ⟨kvs,k,e,_,_⟩ | ⟨kvs,k,b,e,_,_,_⟩
 ·obtain ⟨_,_,vs,_,dd⟩:=vq I.hok e;exact dd.typeIs
 ·obtain ⟨_,_,xs,_,dd⟩:=Af I.hok e;exact dd.typeIs
noncomputable def ET (td ty:TE):TE:=λσ H Q=>td σ H λx H1=>ty σ H1 λy H2=>∃ a v,x=.ref a/\UN H2 a y (some v)/\Q v H2
section
variable {X:Cx} {o i e value:Expr} {pos pos' tpos:Pos} {td ty tv:TE}
theorem zy (hu:X.A.units+1 < cLine) (ho:PE X o td) (hi:PE X i ty) (hs:AL i):PE X (.Subscript o i pos) (ET td ty):=by intro pins s σ H Q I h;refine zY F.slot_dict_getitem.lookup hs (PR (ho pins s σ H _ I h) λu s1 ⟨x,H1,I1,rx,q1⟩=>PR (hi pins s1 σ H1 _ I1 q1) λiv s2 ⟨y,H2,I2,ry,a,v,ex,g,q2⟩=>?_);subst ex;obtain rfl:u=Value.ref a:=rx;exact ⟨nQ I2 g,sx hu I2 g ry λw' s3 I3 rw'=>⟨v,H2,I3,rw',q2⟩⟩
end
theorem vp (h:Heap) (hb:sysModules < h.objs.size):P1 P w H (h.push { cls:=.type "dict",data:=.dict #[] }) h.objs.size (.dK []) :=
 ⟨Nd _,O3.mpr (MD (Mv hb)),[],.nil,Heap.DictOf.new h⟩
section
variable {X:Cx} {pos:Pos}
end
noncomputable def nr:List (TE × TE)->St->Hp->(List (V × V)->Hp->Prop)->Prop
 | [],_,H,Q=>Q [] H
 | (tk,tv)::r,σ,H,Q=>tk σ H λx H1=>tv σ H1 λy H2=>nr r σ H2 λps H3=>Q ((x,y)::ps) H3
noncomputable abbrev VV:List (V × V)->List (Value × Value)->Prop:=Paired λp q=>RelV p.1 q.1/\RelV p.2 q.2
noncomputable def Xi (X:Cx) (pos:Pos) (keys:List (Option Expr)) (values:List Expr) (UO:List (TE × TE)):Prop :=
 ∀ (pins:List (Addr × Obj)) (s:Shared) (σ:St) (H:Hp) (Q:List (V × V)->Hp->Prop),Inv X pins σ H s->nr UO σ H Q ->
  wpAny (model X.prog X.w) X.A (evalPairs (pairTrees keys values X.env pos)) (λvs s'=>∃ ps H',Inv X pins σ H' s'/\VV ps vs/\Q ps H') X.xe s
theorem zF:Xi X pos [] [] []:=λpins s σ H Q I h=>pairTrees_nil_walk ⟨[],H,I,.nil,h⟩
variable {UO:List (TE × TE)}
theorem xn {k v:Expr} {ks:List (Option Expr)} {vs:List Expr} {tk tv:TE} (hk:PE X k tk) (hv:PE X v tv) (hr:Xi X pos ks vs UO) :
  Xi X pos (some k::ks) (v::vs) ((tk,tv)::UO):=λpins s σ H Q I h =>
 pairTrees_cons_walk (PR (hk pins s σ H _ I h) λu s1 ⟨x,H1,I1,rx,q1⟩=>PR (hv pins s1 σ H1 _ I1 q1) λw2 s2 ⟨y,H2,I2,ry,q2⟩ =>
  PR (hr pins s2 σ H2 _ I2 q2) λws s3 ⟨ps,H3,I3,rel,q3⟩=>⟨(x,y)::ps,H3,I3,.cons ⟨rx,ry⟩ rel,q3⟩)
noncomputable def fM (kvs more:List (Key × V)):List (Key × V):=more.foldl (λacc kv=>kn acc kv.1 kv.2) kvs
theorem KV.merge:∀ {more:List (Key × V)} {rs:List (Key × Value)} {kvs:List (Key × V)} {vs:List (Key × Value)},KV more rs->KV kvs vs->KV (fM kvs more) (merged vs rs):=by
 intro more rs kvs vs r;unfold KV at r
 induction r generalizing kvs vs with
 | nil=>intro q;exact q
 | @cons p q ps qs h t ih =>
  intro r0
  have e:KV (kn kvs p.1 p.2) (stored vs q.1 q.2):=by have:=r0.put p.1 h.2;rw [<- h.1];exact this
  exact ih e
theorem gq:∀ (more kvs:List (Key × V)),(fM kvs more).length<=kvs.length+more.length
 | [],kvs=>by show kvs.length<=kvs.length+0;lia
 | p::r,kvs=>by have h1:=gq r (kn kvs p.1 p.2);have h2:=oz kvs p.1 p.2;show (fM (kn kvs p.1 p.2) r).length<=_;rw [Nz];lia
theorem jR {P:Program} {w:World}:∀ {kvs:List (Key × V)} {ws:List (Value × Value)},VV (kvs.map λkv=>(kV kv.1,kv.2)) ws->∃ rs,Carries (b9 P w) ws rs/\KV kvs rs
 | [],_,r=>by rw [List.map_nil] at r;cases r;exact ⟨[],True.intro,.nil⟩
 | p::kvs,_,r=>by
  rw [MZ] at r
  cases r with
  | @cons a b as bs h t =>obtain ⟨rs,c,q⟩:=jR (P:=P) (w:=w) t;obtain ⟨b1,b2⟩:=b;exact ⟨(p.1,b2)::rs,⟨wy h.1,rfl,c⟩,.cons ⟨rfl,h.2⟩ q⟩
noncomputable def EU (UO:List (TE × TE)):TE:=λσ H Q=>∀ p,H p=none->nr UO σ (upd H p (.dK [])) λps H2=>H2 p=some (.dK [])/\∃ kvs:List (Key × V),ps=kvs.map (λkv=>(kV kv.1,kv.2))/\kvs.length<=15/\Q (.ref p) (upd H2 p (.dK (fM [] kvs)))
theorem zz {keys:List (Option Expr)} {values:List Expr} (h:Xi X pos keys values UO) (hall:keys.all (·.isSome)=true) (hl:keys.length=values.length) (h0:keys≠[])
  (YD:keys.length<=15):PE X (.Dict keys values pos) (EU UO):=by
 intro pins s σ H Q I q;have hn:=I.hok.fresh (Mu s.heap.objs.size);have I1:=I.laid (a:=s.heap.objs.size) (o:=.dK []) (h':=s.heap.push { cls:=.type "dict",data:=.dict #[] }) (t':=s.toks) (λ_ _ q=>LD _ q) (Mu _) (vp s.heap I.big);refine wpAny_Dict_walk (knd:=b9 X.prog X.w) hall hl h0 YD (PR (h pins _ σ _ _ I1 (q _ hn)) λws s2 ⟨ps,H2,I2,rel,e,kvs,ep,lk,q2⟩=>?_);subst ep;obtain ⟨rs,c,rk⟩:=jR (P:=X.prog) (w:=X.w) rel;obtain ⟨z,hd,ZL,r0,dd⟩:=Dr I2.hok e;cases r0;refine ⟨rs,c,dd,λh' ZM hs=>⟨.ref s.heap.objs.size,_,?_,rfl,q2⟩⟩
 have hz:(fM [] kvs).length<=sizeLine:=by have h1:=gq kvs [];rw [List.length_nil] at h1;rw [Na];lia
 have he:∃ q,h'.get? s.heap.objs.size=some q:=let ⟨q,_,_,hq,_⟩:=ZM;⟨q,hq⟩;exact yr I2 (by rw [e];exact True.intro) hs he (A1 hz hd (rk.merge .nil) ZM)
structure M2 (X:Cx) (o:Expr) (m:Str) (apos:Pos) (e f:Expr) (cpos:Pos):Prop where
 base:attributeBase o m X.env (eval o X.env)=eval o X.env
 few:((backTo cpos (starEach [e,f] X.env)).all (λx=>!x.1) && (backToKw cpos (keywordEach [] X.env)).all (λx=>x.1.isSome)
  && decide (([e,f]:List Expr).length+([]:List Keyword).length+(if ([]:List Keyword).isEmpty then 0 else 1) < 30))=true
 line:(apos.endLine == cpos.line)=true
 trees:backTo cpos (starEach [e,f] X.env)=[(false,eval e X.env),(false,eval f X.env)]
section
variable {X:Cx} {pins:List (Addr × Obj)} {σ:St} {H:Hp} {s:Shared} {a:Addr} {y d:V} {u r:Value} {o:Option V} {A:Around} {E:Value->Shared->Prop}
end
section
variable {X:Cx} {o e f:Expr} {apos cpos:Pos} {td ty tx:TE}
end
section
variable {X:Cx} {pins:List (Addr × Obj)} {σ:St} {H:Hp} {s:Shared} {a:Addr} {kvs:List (Key × V)} {A:Around} {E:Value->Shared->Prop}
end
section
variable {X:Cx} {pins:List (Addr × Obj)} {σ:St} {H:Hp} {s:Shared} {a:Addr} {y:V} {u:Value} {A:Around} {E:Value->Shared->Prop}
end
end L2
namespace Att
open PySem PySem.W PySem.Calls PyProof.Rows
variable {P:Params}
theorem jF {h:Heap}:∀ (ns:List Int) (vs:List Value),WellAll P h vs (ns.map WData.int)->IntsAre vs ns:=by
 intro ns
 induction ns with
 | nil =>intro vs w;rw [List.map_nil] at w;cases w;exact .nil
 | cons n ns ih =>
  intro vs w;rw [MZ] at w
  cases w with
  | cons a b =>cases a;exact .cons _ _ (ih _ b)
variable {l:OpenLaw} {n:Nat}
theorem uB (hn:l.most=some n) {h:Heap} {args:List WData} {vals:List Value}
  (hpre:l.row.toRowW.claim.pre args=true) (hwl:WellAll P h vals args) :
  ∃ a vs ns,vals=[Value.ref a]/\args=[WData.list (ns.map WData.int)]/\h.get? a=some { cls:=.type "list",data:=.seq vs.toArray }/\IntsAre vs ns/\ns.length<=n:=by
 have hsh:WShape.hasAll [] args [.list .int]=true:=(pre_splitW hpre).1;have hc:l.pre.holds [] { args:=args }=true:=(pre_splitW hpre).2;obtain ⟨d,r,rfl,h1,h2⟩:=hasAllW_cons hsh;obtain rfl:=hasAllW_nil h2;obtain ⟨xs,rfl,h3⟩:=hasW_list h1;obtain ⟨ns,rfl⟩:=items_int h3
 have hlen:ns.length<=n:=by
  unfold OpenLaw.pre at hc
  have h4:(WTm.not (.lt (.lit (.int (n:Int))) (.len (.arg 0)))).holds [] { args:=[.list (ns.map .int)] }=true:=by have h4:=(holds_andW hc).1;rw [hn] at h4;exact h4
  have h5:=condW_of h4 (w_not (w_lt w_lit (w_len_list (w_arg rfl))));rw [MK] at h5;refine Nat.le_of_not_lt λq=>?_;have q':(n:Int) < ((ns.length:Nat):Int):=by lia
  first
   | (rw [N2 q'] at h5;exact absurd h5 (by decide))
   | (simp at h5;lia)
 cases hwl with
 | cons w1 w2 =>
  cases w2
  cases w1 with
  | list ho hall=>exact ⟨_,_,ns,rfl,rfl,ho,jF ns _ hall,hlen⟩
theorem ur (l:OpenLaw) (args:List WData):l.row.toRowW.claim.post args (.bool true) args=true :=
 postW_of (r:=l.row.toRowW) (X:=(true == true))
  (show WShape.has [] (.bool true) .bool=true by first | rfl | decide | simp [WShape.has,WShape.arms,WShape.armsAll])
  (show (WTm.eq .res (.lit (.bool true))).value [] { args:=args,res:=some (.bool true),after:=args }=some (.bool (true == true)) from w_eq_bool (w_res rfl) w_lit) rfl
theorem Ua {q:Program} {loose:List Str} {XP:(Str->Option Value)->Heap->Prop} {YP:World->Heap->Prop} {d:DefRec}
  (hn:l.most=some n) (hdf:d.params.defaults=[])
  (call:∀ (w:World) (s₀ s₁:Shared) (mg mb:Str->Option Value) (fa:Addr) (o:Obj) (pm cd doc:Value) (a:Addr) (vs:List Value) (ns:List Int),
   Ground q loose [] XP w s₀ mg mb s₁.heap->YP w s₁.heap ->
   s₁.heap.get? fa=some o->o.data=.func (docDef d.name d.params d.body d.scope pm cd doc)->s₁.heap.CodeRec cd d.name->mg d.name=some (.ref fa) ->
   s₁.heap.get? a=some { cls:=.type "list",data:=.seq vs.toArray }->IntsAre vs ns->ns.length<=n->s₁.gens=#[] ->
   codeAny (model l.prog w) callerA (.call (.ref fa) ⟨[.ref a],[]⟩) (λr s'=>r=.ok (.ret (.bool true))/\OldK s₁.heap s'.heap/\s'.os=s₁.os/\AllBare s'.gens) s₁) :
  WalkO q loose XP YP l.row.toRowW d [] (λf vs=>PySem.call f vs):=by
 intro w s₀ s₁ mg mb G Y fa o pm cd doc dV kV ho hd hcd hD hmg hg args vals as hpre hlay hrd hwl hlo;obtain rfl:dV=.none:=Dflts.none hD hdf;obtain rfl:kV=.none:=Dflts.noKw hD;obtain ⟨a,vs,ns,rfl,rfl,hobj,hints,hlen⟩:=uB hn hpre hwl;refine enter_call (NQ (call w s₀ s₁ mg mb fa o pm cd doc a vs ns G Y ho (fd_plain hd) hcd hmg hobj hints hlen hg) λr s' hq=>?_);obtain ⟨rfl,h2,h3,h4⟩:=hq;exact ⟨.inl ⟨.bool true,.bool true,[],rfl,λ_=>rfl,.bool true,ur l _,λ_=>⟨List.Pairwise.nil,λ_ hm=>(nomatch hm)⟩⟩,h2,h3,h4⟩
section
variable {prog:Program} {w:World} {A:Around} {E:Value->Shared->Prop} {s:Shared} {K:Frag}
end
end Att
namespace L2
open PySem PySem.Spec PyProof.Rows
theorem md:∀ {vs:List Value} {ns:List Int},IntsAre vs ns->Vals (ns.map V.int) vs
 | _,_,.nil=>.nil
 | _,_,.cons n t h=>.cons ⟨t,rfl⟩ (md h)
noncomputable def yo (H:Hp):Prop:=∀ b,H b=none\/∃ o xs,H b=some (.U4 o (.lst xs))
variable {P:Program} {w:World} {K:W.Frag} {mg:Str->Option Value} {CX:Tf} {a:Addr} {fd:FuncData} {sp:Sp} {ns:List Int}
theorem wC {mb:Str->Option Value} {k:Nat} {fa:Addr} {x:Str} {s₁:Shared} {vs:List Value}
  (KX:K.In s₁.heap) (hns:s₁.heap.Ns mainGlobals mg) (hb:s₁.heap.Ns builtinsNs mb) (hbb:∀ x:Str,x≠"__name__"->mb x=bootBuiltins x) (hlim:s₁.heap.NoLimit) (hg:s₁.gens=#[])
  (ha:s₁.heap.get? a=some { cls:=.type "list",data:=.seq vs.toArray }) (hi:IntsAre vs ns) (hl:ns.length<=sizeLine) (hr:P5 k callerA)
  (F:∀ base:Heap,K.In base->base.Ns mainGlobals mg->PB P w K mg base CX k fa fd [x] sp) (hbind:∀ (s:Shared) (u:Value),BindsTo s fd ⟨[u],[]⟩ [(x,u)])
  (UL:∀ H:Hp,yo H->P6 K H a (ns.map V.int)->sp [.ref a] H (λv _=>v=.bl true) λ_ _ _=>False)
  (YE:∀ H e s',CX [] H s₁ (λ_ _ _=>False) e s'->False) :
  codeAny (model P w) callerA (.call (.ref fa) ⟨[.ref a],[]⟩) (λr s'=>r=.ok (.ret (.bool true))/\OldK s₁.heap s'.heap/\s'.os=s₁.os/\AllBare s'.gens) s₁:=by
 have rv:=md hi;have YF:=hi.length
 have core:∀ H:Hp,yo H->P6 K H a (ns.map V.int)->QM P w H s₁.heap->(∀ b,H b≠none->b=a)->(H a≠none->K.lookup a=none) ->
   codeAny (model P w) callerA (.call (.ref fa) ⟨[.ref a],[]⟩) (λr s'=>r=.ok (.ret (.bool true))/\OldK s₁.heap s'.heap/\s'.os=s₁.os/\AllBare s'.gens) s₁:=by
  intro H hO hS hok hA hK;have UC:∀ {b:Addr} {o:Obj},s₁.heap.get? b=some o->H b=none->(mG s₁.heap H).get? b=some o:=λe n=>wt e n
  have Xe:∀ {b:Addr} {o:Obj} {es:Array DictEntry} {ep:Nat},s₁.heap.get? b=some o->o.data=.dict es ep->H b=none:=λ{b o es ep} e d=>by
   cases q:H b with
   | none=>rfl
   | some u =>have e':b=a:=hA b (by rw [q];simp);subst e';rw [ha] at e;cases e;have d':Data.seq vs.toArray _=Data.dict es ep:=d;cases d'
  have X6:∀ {b:Addr} {m:Str->Option Value},s₁.heap.Ns b m->(mG s₁.heap H).Ns b m:=λ{b m} ⟨o,es,ep,e,d,r⟩=>⟨o,es,ep,UC e (Xe e d),d,r⟩
  have ZN:K.In (mG s₁.heap H):=λb o e=>UC (KX b o e) (by
   cases q:H b with
   | none=>rfl
   | some u =>have e':b=a:=hA b (by rw [q];simp);subst e';rw [hK (by rw [q];simp)] at e;cases e)
  have hM:Mod K mg (mG s₁.heap H):=⟨ZN,X6 hns,⟨mb,X6 hb,hbb⟩,let ⟨mc,h1,h2⟩:=hlim;⟨mc,X6 h1,h2⟩⟩
  have e0:TH P w K mg (mG s₁.heap H) callerA [] s₁ H:=⟨rfl,hM,λb o e=>y7 e,Pw (tY _ _),trivial,λb hb=>absurd (show b ∈ ([]:List Addr) from hb) (by simp),hok,.of_eq hg⟩
  refine NQ ((F _ ZN (X6 hns)).run callerA [] s₁ H ⟨[.ref a],[]⟩ [.ref a] [.ref a] _ _ hr e0 (hbind s₁ (.ref a)) (.cons rfl .nil) (UL H hO hS)) λr s' h=>?_
  cases r with
  | error e=>exact (YE H e s' h).elim
  | ok fl =>
   cases fl with
   | next=>exact False.elim h
   | brk=>exact False.elim h
   | cont=>exact False.elim h
   | ret u =>
    obtain ⟨v,H',os,bare,un,UP,r',q⟩:=h;have q':v=.bl true:=q;subst q';obtain rfl:u=Value.bool true:=r';refine ⟨rfl,OldK.of_keep λb o e=>?_,os,bare⟩
    cases q:H b with
    | none=>exact un.keep b o e q (by intro z;exact absurd (show b ∈ ([]:List Addr) from z) (by simp)) (by simp)
    | some u =>
     rcases hO b with z | ⟨ob,xs,z⟩
     ·rw [q] at z;cases z
     ·have z2:=un.R6 b ob _ z;obtain ⟨e1,_⟩:=hok b _ z;obtain ⟨e2,_⟩:=UP b _ z2;rw [e] at e1;cases e1;exact e2
 cases hk:K.lookup a with
 | some o =>have e:=KX a o hk;rw [ha] at e;cases e;refine core (λ_=>none) (λ_=>.inl rfl) (.inr ⟨_,vs.toArray,_,hk,rfl,rfl,rfl,by rw [Mt,YF];exact hl,by simpa using rv⟩) (λb u z=>by have z':(none:Option HO)=some u:=z;cases z') (λb z=>absurd rfl z) λz=>absurd rfl z
 | none =>
  refine core (λb=>if b=a then some (.U4 { cls:=.type "list",data:=.seq vs.toArray } (.lst (ns.map V.int))) else none) (λb=>?_) (.inl (.inr ⟨{ cls:=.type "list",data:=.seq vs.toArray },MF rfl⟩)) (λb u z=>?_) (λb z=>?_) λ_=>hk
  ·by_cases hb:b=a
   ·exact .inr ⟨_,_,MF hb⟩
   ·exact .inl (Mz hb)
  ·by_cases hb:b=a
   ·have z':=(MF hb).symm.trans z;cases z';subst hb;exact ⟨ha,by rw [MK];exact hl,vs,_,rv,ha⟩
   ·have z':=(Mz hb).symm.trans z;cases z'
  ·by_cases hb:b=a
   ·exact hb
   ·exact absurd (Mz hb) z
variable {n:Nat}
theorem VN {l:W.OpenLaw} {k:Nat} {q:Program} {loose:List Str} {XP:(Str->Option Value)->Heap->Prop} {YP:World->Heap->Prop} {d:DefRec} {K:Params->W.Frag} {CX:World->Tf} {sp:World->Sp} {x:Str}
  (hn:l.most=some n) (hn2:n<=sizeLine) (hdf:d.params.defaults=[]) (hr:P5 k callerA)
  (hY:∀ (w:World) (h:Heap),YP w h->(K w.params).In h)
  (F:∀ (w:World) (mg:Str->Option Value) (fa:Addr) (h:Heap),(K w.params).In h->h.Ns mainGlobals mg->mg d.name=some (.ref fa) ->
   ∃ fd:FuncData,(∀ (s:Shared) (u:Value),BindsTo s fd ⟨[u],[]⟩ [(x,u)]) /\
    ∀ base:Heap,(K w.params).In base->base.Ns mainGlobals mg->PB l.prog w (K w.params) mg base (CX w) k fa fd [x] (sp w))
  (UL:∀ (w:World) (H:Hp) (a:Addr) (ns:List Int),ns.length<=n->yo H->P6 (K w.params) H a (ns.map V.int)->sp w [.ref a] H (λv _=>v=.bl true) λ_ _ _=>False)
  (YE:∀ (w:World) (H:Hp) (s:Shared) (e:Value) (s':Shared),CX w [] H s (λ_ _ _=>False) e s'->False) :
  W.WalkO q loose XP YP l.row.toRowW d [] (λf vs=>PySem.call f vs):=by
 refine Att.Ua hn hdf λw s₀ s₁ mg mb fa o pm cd doc a vs ns G Y ho hd hcd hmg hobj hints hlen hg=>?_;have KX:=hY w _ Y;obtain ⟨fd,hb,hF⟩:=F w mg fa _ KX G.T.g hmg;exact wC KX G.T.g G.T.b G.T.builtins G.T.nolimit hg hobj hints (MQ hlen hn2) hr hF hb (λH hO hS=>UL w H a ns hlen hO hS) λH e s'=>YE w H s₁ e s'
noncomputable def dW (s:Stmt):Arguments:=match s with
 | .FunctionDef _ a _ _ _ _ _ _ _ _=>a
 | _=>{ posonlyargs:=[],args:=[],vararg:=none,kwonlyargs:=[],kw_defaults:=[],kwarg:=none,defaults:=[] }
noncomputable def b8 (s:Stmt):List Stmt:=match s with
 | .FunctionDef _ _ b _ _ _ _ _ _ _=>b
 | _=>[]
noncomputable def ag (s:Stmt):Scope:=match s with
 | .FunctionDef _ _ _ _ _ _ sc _ _ _=>sc
 | _=>{ kind:=.function,names:=[],isGenerator:=false,isCoroutine:=false }
noncomputable abbrev Ul:Tf:=λ_ _ _ _ _ _=>False
noncomputable abbrev E0:XK:=λ_ _ _=>False
variable {X:Cx}
theorem Eo:Passes Ul X E0:=λ_ _ _ _ _ _ _ h=>h.elim
structure UQ (K:W.Frag) (x qual:Str) (st:Stmt) (f:Addr) (fd:FuncData):Prop where
 ex:∃ (oc:Value) (od:Option Addr) (kV doc pm:Value) (an:Option Addr) (cdv ct:Value) (osl:Array (Option Value)),
  fd=W.fnOf x qual (dW st) (b8 st) (ag st) .none kV doc pm an cdv ct/\K.lookup f=some ⟨oc,od,.func fd,osl⟩/\W.codeIn K cdv qual=true
 kp:W.keepIn K (.ref f)=true
section
variable {P:Program} {w:World} {K:W.Frag} {mg:Str->Option Value} {base:Heap}
variable {qual:Str} {st:Stmt} {f:Addr} {fd:FuncData} {ps:List Str}
theorem UQ.ok {x:Str} {N:List Str} {k:Nat} {sp:Sp} (F:UQ K x qual st f fd) (S:Pz N ps (ag st)) (len:∀ vs H Q E,sp vs H Q E->vs.length=ps.length)
  (hbody:∀ (cdv:Value) (A:Around) (outer:List Env) (s:Shared) (H:Hp) (vs:List V) (Q:VK) (E:XK),P5 k (A.deeper (envOfC qual (ag st) s.heap.objs.size f cdv))->sp vs H Q E ->
   ∃ t,QI (dm Ul P w K mg base N qual (ag st) f cdv A outer s H E).UK (b8 st) t/\t { nx:=λ_ H'=>Q .PJ H',rt:=Q } (start N vs) H):PB P w K mg base Ul (k+1) f fd ps sp:=by
 obtain ⟨oc,od,kV,doc,pm,an,cdv,ct,osl,rfl,lk,hcd⟩:=F.ex;refine Ah lk hcd S len λA outer s H vs Q E hr UL=>?_;obtain ⟨t,h,q⟩:=hbody cdv A outer s H vs Q E hr UL;exact ⟨t,h.UK,q⟩
theorem UQ.binds {x:Str} (F:UQ K x qual st f fd)
  (h:∀ (kV doc pm:Value) (an:Option Addr) (cdv ct:Value) (us:List Value),us.length=ps.length->bindArgs (W.fnOf x qual (dW st) (b8 st) (ag st) .none kV doc pm an cdv ct) ⟨us,[]⟩=pure (ps.zip us)):Binds K fd ps []:=by
 obtain ⟨oc,od,kV,doc,pm,an,cdv,ct,osl,rfl,lk,hcd⟩:=F.ex;exact .all (h kV doc pm an cdv ct)
theorem wk {x:Str} {oc:Value} {od an:Option Addr} {osl:Array (Option Value)} {kV doc pm cdv ct:Value} (l:K.lookup f=some ⟨oc,od,.func (W.fnOf x qual (dW st) (b8 st) (ag st) .none kV doc pm an cdv ct),osl⟩)
  (c:W.codeIn K cdv qual=true) (k:W.keepIn K (.ref f)=true):UQ K x qual st f (W.fnOf x qual (dW st) (b8 st) (ag st) .none kV doc pm an cdv ct):=⟨⟨oc,od,kV,doc,pm,an,cdv,ct,osl,rfl,l,c⟩,k⟩
end
theorem D2 {A:Around} {k:Nat} (hr:P5 k A):A.units+1 < cLine:=Nat.lt_of_le_of_lt (Nat.add_le_add_left (by decide:1<=64) _) hr.units
theorem l6 (h:n<=1000):n < sizeLine:=Nat.lt_of_le_of_lt h (by decide)
section
variable {X:Cx}
theorem pv (i:Nat) {x:Str} {pos:Pos} (hN:X.N[i]?=some x:=by rfl) (hv:V8 X.env.scope x:=by first | exact Or.inl rfl | exact Or.inr (Or.inl rfl) | exact Or.inr (Or.inr rfl)) (hd:(x == ("__debug__":Str))=false:=by decide)
  (hcd:(x == ("__classdict__":Str))=false:=by decide):PE X (.Name x pos) (eO i):=xf hN hv hd hcd
end
theorem yR {c A B:Prop} [Decidable c] (h1:c->A) (h2:¬ c->B):if c then A else B:=by
 by_cases h:c
 ·rw [MF h];exact h1 h
 ·rw [Mz h];exact h2 h
noncomputable def PM (H H':Hp):Prop:=∀ b o,H b=some o->H' b=some o
theorem PM.refl (H:Hp):PM H H:=λ_ _ h=>h
variable {H H1:Hp}
theorem PM.trans {H2:Hp} (a:PM H H1) (b:PM H1 H2):PM H H2:=λc o h=>b c o (a c o h)
variable {H':Hp} {l:Addr}
theorem PM.free (e:PM H H') (h:H' l=Option.none):H l=Option.none:=by
 cases q:H l with
 | none=>rfl
 | some o =>rw [e l o q] at h;cases h
variable {xs:List V}
theorem PM.seq (e:PM H H') (h:P6 K H a xs):P6 K H' a xs:=by
 rcases h with (h | ⟨o,h⟩) | h
 ·exact .inl (.inl (e _ _ h))
 ·exact .inl (.inr ⟨o,e _ _ h⟩)
 ·exact .inr h
section
variable {κ:Type} [DecidableEq κ]
end
noncomputable def rk (env:Env) (x:Str) (k:NameKind):NameKind :=
 if (k == NameKind.free && env.scope.kind == .function && env.kindOf x == some .cell)=true then .cell else k
theorem m9 (sc:Scope) (env:Env) (x:Str):(relabel sc env).names.lookup x=(sc.names.lookup x).map (rk env x):=by
 have all:∀ l:List (Str × NameKind),(l.map λ(n,k)=>if (k == NameKind.free && env.scope.kind == .function && env.kindOf n == some .cell) then (n,NameKind.cell) else (n,k)).lookup x=(l.lookup x).map (rk env x):=by
  intro l
  induction l with
  | nil=>rfl
  | cons p r ih =>
   obtain ⟨n,k⟩:=p;rw [MZ]
   cases hx:x == n with
   | true =>
    have e:x=n:=by simpa using hx
    subst e;by_cases c:(k == NameKind.free && env.scope.kind == .function && env.kindOf x == some .cell)=true
    ·simp [Nm,rk,c]
    ·simp [Nm,rk,c]
   | false =>
    have e1:((n,k)::r).lookup x=r.lookup x:=by rw [Nm,hx]
    rw [e1,<- ih];by_cases c:(k == NameKind.free && env.scope.kind == .function && env.kindOf n == some .cell)=true
    ·show List.lookup x ((if (k == NameKind.free && env.scope.kind == .function && env.kindOf n == some .cell)=true then (n,NameKind.cell) else (n,k))::_)=_;rw [MF c,Nm,hx]
    ·show List.lookup x ((if (k == NameKind.free && env.scope.kind == .function && env.kindOf n == some .cell)=true then (n,NameKind.cell) else (n,k))::_)=_;rw [Mz c,Nm,hx]
 exact all sc.names
variable {env:Env}
theorem zU {x:Str}:rk env x .free=.cell\/rk env x .free=.free:=by
 unfold rk;split
 ·exact .inl rfl
 ·exact .inr rfl
theorem CS {x:Str} {k:NameKind} (h:k≠.free):rk env x k=k:=by
 unfold rk;rw [Mz];intro c
 have:(k == NameKind.free)=true:=by
  cases q:(k == NameKind.free) with
  | true=>rfl
  | false=>rw [q] at c;simp at c
 exact h (by simpa using this)
noncomputable def Ea:Option NameKind->Bool
 | some .free=>true
 | _=>false
noncomputable def D9:Option NameKind->Bool
 | some .free=>true
 | some .cell=>true
 | _=>false
noncomputable def Eb:Option NameKind->Bool
 | some .local=>true
 | _=>false
variable {o:Option NameKind}
theorem yP (h:Ea o=true):o=some .free:=by
 cases o with
 | none=>cases h
 | some k=>cases k <;> first | rfl | cases h
theorem yO (h:D9 o=true):o=some .cell\/o=some .free:=by
 cases o with
 | none=>cases h
 | some k=>cases k <;> first | exact .inl rfl | exact .inr rfl | cases h
theorem yQ (h:Eb o=true):o=some .local:=by
 cases o with
 | none=>cases h
 | some k=>cases k <;> first | rfl | cases h
noncomputable def bj (N:List Str) (ok:Str->Option NameKind) (names:List (Str × NameKind)) (own:List Str) (fr:List Nat) (N':List Str):Bool :=
 decide (N'=own++fr.map λj=>N.getD j "") && (fr.all λj=>decide (j < N.length) && Ea (names.lookup (N.getD j ""))) &&
  names.all λp=>match p.2 with
   | .free=>D9 (ok p.1)
   | .cell=>false
   | .local=>Eb (names.lookup p.1)
   | _=>true
structure X7 (N:List Str) (ok:Str->Option NameKind) (names:List (Str × NameKind)) (own:List Str) (fr:List Nat) (N':List Str):Prop where
 eN:N'=own++fr.map λj=>N.getD j ""
 fr:∀ j ∈ fr,j < N.length/\names.lookup (N.getD j "")=some .free
 free:∀ p ∈ names,p.2=.free->ok p.1=some .cell\/ok p.1=some .free
 cell:∀ p ∈ names,p.2≠.cell
 loc:∀ p ∈ names,p.2=.local->names.lookup p.1=some .local
theorem pD {N:List Str} {ok:Str->Option NameKind} {names:List (Str × NameKind)} {own:List Str} {fr:List Nat} {N':List Str} (h:bj N ok names own fr N'=true):X7 N ok names own fr N':=by
 unfold bj at h;rw [MC,MC] at h;obtain ⟨⟨h1,h2⟩,h3⟩:=h;have h3':=ON.mp h3;refine ⟨M1 h1,λj hj=>?_,λp hp e=>?_,λp hp e=>?_,λp hp e=>?_⟩
 ·have q:=ON.mp h2 j hj;rw [MC] at q;exact ⟨M1 q.1,yP q.2⟩
 ·have q:=h3' p hp;rw [e] at q;exact yO q
 ·have q:=h3' p hp;rw [e] at q;cases q
 ·have q:=h3' p hp;rw [e] at q;exact yQ q
noncomputable def UD (own:List Str) (fr:List Nat) (σ:St):St:=own.map (λ_=>none)++fr.map λj=>(σ[j]?).getD none
theorem AY (sc:Scope) (env:Env) (h:∀ p ∈ sc.names,p.2=.free->∃ c,env.cells.lookup p.1=some c) :
  ∃ cl,closureFor sc env=pure cl/\(∀ x c,cl.lookup x=some c->env.cells.lookup x=some c)/\∀ p ∈ sc.names,p.2=.free->cl.lookup p.1=env.cells.lookup p.1:=by
 unfold closureFor
 have all:∀ (l:List (Str × NameKind)) (acc:List (Str × Addr)),(∀ p ∈ l,p.2=.free->∃ c,env.cells.lookup p.1=some c)->(∀ x c,acc.lookup x=some c->env.cells.lookup x=some c) ->
   ∃ cl,(forIn l acc λ(p:Str × NameKind) (r:List (Str × Addr))=>(match p with
    | (name,kind)=>if (kind == NameKind.free)=true then (do let a <- cellOf env name;pure (ForInStep.yield ((name,a)::r))) else pure (ForInStep.yield r):Sem (ForInStep (List (Str × Addr)))))=pure cl /\
    (∀ x c,cl.lookup x=some c->env.cells.lookup x=some c)/\(∀ p ∈ l,p.2=.free->cl.lookup p.1=env.cells.lookup p.1)/\∀ x,acc.lookup x=env.cells.lookup x->cl.lookup x=env.cells.lookup x:=by
  intro l
  induction l with
  | nil=>intro acc _ ha;exact ⟨acc,rfl,ha,λp hp=>(by simp at hp),λx e=>e⟩
  | cons p r ih =>
   intro acc hl ha;obtain ⟨n,k⟩:=p;rw [ND];by_cases hk:k=.free
   ·subst hk;obtain ⟨c,hc⟩:=hl (n,.free) MW rfl;have hce:cellOf env n=pure c:=by unfold cellOf;rw [hc]
    obtain ⟨cl,e1,e2,e3,e4⟩:=ih ((n,c)::acc) (λp hp=>hl p (MU _ hp)) (λx c' e=>by
     rw [Nm] at e
     cases hx:x == n with
     | true =>
      rw [hx] at e;have:x=n:=by simpa using hx
      subst this;cases e;exact hc
     | false=>rw [hx] at e;exact ha x c' e)
    refine ⟨cl,?_,e2,λp hp e=>?_,λx e=>e4 x ?_⟩
    ·simp only [beq_self_eq_true,OR,hce];exact e1
    ·rcases MA.mp hp with rfl | hp
     ·exact e4 n (by rw [Nm];simp [hc])
     ·exact e3 p hp e
    ·rw [Nm]
     cases hx:x == n with
     | true =>
      have:x=n:=by simpa using hx
      subst this;simp [hc]
     | false=>exact e
   ·have hb:(k == NameKind.free)=false:=by simpa using hk
    obtain ⟨cl,e1,e2,e3,e4⟩:=ih acc (λp hp=>hl p (MU _ hp)) ha;refine ⟨cl,?_,e2,λp hp e=>?_,e4⟩
    ·simp only [hb,Pd,Pu];exact e1
    ·rcases MA.mp hp with rfl | hp
     ·exact absurd e hk
     ·exact e3 p hp e
 obtain ⟨cl,e1,e2,e3,_⟩:=all sc.names [] h (λx c e=>by simp at e);refine ⟨cl,?_,e2,e3⟩;have U6:=M5 (λt:Sem (List (Str × Addr))=>t >>= λcs=>pure cs) e1
 first
  | exact U6
  | (simp only [pure_bind] at U6;exact U6)
  | (refine Eq.trans ?_ U6;rfl)
  | (dsimp only at U6 ⊢;exact U6)
noncomputable def Cx.Qk (X:Cx) (sc:Scope) (cl:List (Str × Addr)) (C:Addr) (N:List Str) (s:Shared) (H:Hp) (fp:List Addr):Cx where
 prog:=X.prog
 w:=X.w
 K:=X.K
 mg:=X.mg
 base:=X.base
 A:=X.A
 N:=N
 s₀:=s
 H₀:=H
 env:=compEnvC sc cl C X.env
 outer:=X.stack
 stack:=X.stack
 ex:=fp
 fn:=λ_=>false
 calm:=X.calm
 pn:=[]
 xe:=λ_ _=>False
section
variable {X:Cx} {pins:List (Addr × Obj)} {σ:St} {H:Hp} {s:Shared} {sc:Scope} {cl:List (Str × Addr)} {own:List Str} {fr:List Nat} {N':List Str} {fp:List Addr}
theorem lx (I:Inv X pins σ H s) (B:X7 X.N X.env.kindOf sc.names own fr N') (hk:sc.kind=.function)
  (sub:∀ x c,cl.lookup x=some c->X.env.cells.lookup x=some c) (has:∀ p ∈ sc.names,p.2=.free->cl.lookup p.1=X.env.cells.lookup p.1)
  (f2:∀ b ∈ fp,iC X pins H b) (fo:∀ b ∈ fp,b < s.heap.objs.size) {h1:Heap} {tk:Nat} {C D:Addr} {n:Nat} (eD:D=s.heap.objs.size) (eC:s.heap.objs.size < C)
  (hns:h1.Ns C (λ_=>none)) (old:∀ b o,s.heap.get? b=some o->h1.get? b=some o) (hD:h1.get? D=some { cls:=.type "list",data:=.seq ([]:List Value).toArray n }) :
  Inv (X.Qk sc cl C N' s H fp) [] (UD own fr σ) (upd H D (.lst [])) { s with heap:=h1,toks:=tk }:=by
 have Wg:∀ x c,cl.lookup x=some c->c < s.heap.objs.size:=λx c e=>by obtain ⟨v,q⟩:=I.cell x c (sub x c e);exact q.lt
 have hDn:H D=none:=I.hok.fresh (Pw eD.symm);have kind:∀ x,(X.Qk sc cl C N' s H fp).env.kindOf x=(sc.names.lookup x).map (rk X.env x):=λx=>m9 sc X.env x
 refine ⟨⟨I.ok.mod,hk,I.ok.glob,I.ok.blt,NP eC,λx y c e1 e2=>I.ok.inj x y c (sub x c e1) (sub y c e2),λx hx=>?_,(λx c e=>nomatch (show false=true from e)),I.ok.hd,I.ok.frames,.inl rfl,λb hb=>⟨?_,λx c e=>?_⟩,I.bs,MQ I.ok.UJ I.sz,λb o e hb=>?_,λb hb=>?_,I.stack,I.RH⟩,
  rfl,I.bare,Un.laid old (Pw eD.symm) hDn,⟨_,hns,λi x v e1 e2 e3=>?_⟩,λx c e=>?_,?_,λx c e=>?_,λp hp=>?_,I.hok.laid old (Pw eD.symm) ⟨Nd _,[],n,.nil,hD⟩,?_⟩
 ·have hx':(sc.names.lookup x).map (rk X.env x)=some .cell\/(sc.names.lookup x).map (rk X.env x)=some .free:=by
   rw [<- kind x];exact hx
  cases q:sc.names.lookup x with
  | none=>rw [q] at hx';simp at hx'
  | some k =>
   have hm:=Nu q;by_cases hf:k=.free
   ·subst hf;show ∃ c,cl.lookup x=some c;rw [has _ hm rfl];have z:=B.free _ hm rfl;exact I.ok.has x z
   ·rw [q] at hx';simp only [OZ,CS hf] at hx';rcases hx' with z | z
    ·exact absurd (MB z) (B.cell _ hm)
    ·exact absurd (MB z) hf
 ·exact Mv (OA (fo b hb) eC)
 ·exact (f2 b hb).2.2.2.2.1 x c (sub x c e)
 ·rcases (f2 b hb).2.2.2.1 with z | z
  ·exact I.ok.T8 b o e z
  ·exact absurd (Mw (Mr e) (MQ I.ok.UJ z)) (Nq _)
 ·intro z;rcases MA.mp (I.Sx b z) with e | e
  ·exact (f2 b hb).2.1 e
  ·exact (f2 b hb).2.2.1 e
 ·
  have U6:N'[i]?=some x:=e1
  have hi:¬ i < own.length:=λz=>by unfold UD at e2;rw [M3 (by simpa using z),MH,Ms z] at e2;cases e2
  unfold UD at e2;rw [M9 (by simpa using hi),MK,MH] at e2;rw [B.eN,M9 (by simpa using hi),MH] at U6
  cases q:fr[i - own.length]? with
  | none=>rw [q] at e2;cases e2
  | some j =>
   rw [q] at e2 U6;simp only [OZ,Option.some.injEq] at e2 U6;obtain ⟨hj,hfr⟩:=B.fr j (Ni q)
   have ej:X.N[j]?=some x:=by rw [<- U6,NX,Ms hj];rfl
   have eσ:σ[j]?=some (some v):=by
    cases z:σ[j]? with
    | none=>rw [z] at e2;cases e2
    | some o=>rw [z] at e2;simp only [Option.getD_some] at e2;rw [e2]
   rw [U6] at hfr;have hm:=Nu hfr;have hok:=B.free _ hm rfl;obtain ⟨m0,hn0,WM⟩:=I.loc
   have hv:V8 X.env.scope x:=by
    rcases hok with z | z
    ·exact .inr (.inl z)
    ·exact .inr (.inr z)
   obtain ⟨u,r,l⟩:=WM j x v ej eσ hv;refine ⟨u,r,?_⟩;rcases l with ⟨z,_⟩ | ⟨_,c,hc,o,ho,hd⟩
   ·have UP:X.env.kindOf x=some .cell\/X.env.kindOf x=some .free:=hok;rw [z] at UP;rcases UP with y | y <;> cases y
   ·refine .inr ⟨?_,c,?_,o,old c o ho,hd⟩
    ·rw [kind x,hfr];rcases zU (env:=X.env) (x:=x) with y | y
     ·exact .inl (by rw [OZ,y])
     ·exact .inr (by rw [OZ,y])
    ·show cl.lookup x=some c;have z:=has _ hm rfl;exact z.trans hc
 ·obtain ⟨v,o,ho,hd⟩:=I.cell x c (sub x c e);exact ⟨v,o,old c o ho,hd⟩
 ·show upd H D _ C=none;rw [aE (by rw [eD];exact M0 eC)];exact I.hok.fresh (NP eC)
 ·show upd H D _ c=none;rw [aE (by rw [eD];exact Mv (Wg x c e))];exact I.Qx x c (sub x c e)
 ·exact absurd (show p ∈ ([]:List (Addr × Obj)) from hp) (by simp)
 ·show (UD own fr σ).length=N'.length;rw [B.eN];simp [UD]
theorem mi {C:Addr} {σ':St} {H':Hp} {s':Shared} (I:Inv X pins σ H s) (f2:∀ b ∈ fp,iC X pins H b) (J:Inv (X.Qk sc cl C N' s H fp) [] σ' H' s'):Inv X pins σ H' s' :=
 I.Rp (ch:=fp) J.os J.base J.hok J.bare λb hb=>⟨(f2 b hb).2.2.2.1,(f2 b hb).2.1,(f2 b hb).2.2.2.2.1,(f2 b hb).2.2.2.2.2⟩
theorem Inv.young {C:Addr} {s0:Shared} {H0:Hp} {σ0:St} {h':Heap} (I0:Inv X pins σ0 H0 s0) (I:Inv X pins σ H s) (hC:s0.heap.objs.size<=C) (hn:H C=none) (hs:Heap.SameBut C s.heap h'):Inv X pins σ H { s with heap:=h' } :=
 I.turned (t':=s.toks) (λb o hb e=>(hs.2 b hb).trans e) hn (M0 (Mw I0.lt hC)) (.inr (MQ I0.sz hC))
  (λx c e z=>by
   obtain ⟨v,q⟩:=I0.cell x c e;exact absurd (Mw q.lt (by rw [z];exact hC)) (Nq _))
  (λp hp z=>absurd (Mw (Mr (I0.pin p hp).1) (by rw [z];exact hC)) (Nq _))
end
noncomputable def jM (X:Cx) (ifs:List Expr) (t:TT):Prop :=
 ∀ (pins:List (Addr × Obj)) (s:Shared) (σ:St) (H:Hp) (Q:Bool->Hp->Prop),Inv X pins σ H s->t σ H Q ->
  wpAny (model X.prog X.w) X.A (forIn ifs true λc r=>if r=true then do let ok <- isTrue c X.env (eval c X.env);pure (ForInStep.yield ok) else pure (ForInStep.yield r)) (TP X pins σ Q) X.xe s
noncomputable def o5:TT:=λ_ H Q=>Q true H
theorem oR:jM X [] o5:=λpins s σ H Q I h=>wpAny_tests_nil ⟨H,I,h⟩
theorem xl {c:Expr} {t:TT} (h:PT X c t):jM X [c] t:=λpins s σ H Q I hw=>wpAny_tests_one (h pins s σ H Q I hw)
section
variable {prog:Program} {w:World} {A:Around} {R:Result->Shared->Prop} {s:Shared}
theorem mq {elt target iter:Expr} {ifs:List Expr} {scope:Scope} {pos:Pos} {it acc:Value} {env:Env} (J:Nat->Shared->Prop)
  (turn:∀ n s,J n s->wpAny (model prog w) A (pyNext it) (λr s₁=>match r with
   | none=>R (.ok .next) s₁
   | some v=>wpAny (model prog w) A (letOwnedTupleGo target it v) (λ_ s₂=>wpAny (model prog w) A (assign target env v) (λ_ s₃ =>
     wpAny (model prog w) A (forIn ifs true λc r=>if r=true then do let ok <- isTrue c env (eval c env);pure (ForInStep.yield ok) else pure (ForInStep.yield r)) (λok s₄ =>
      if ok=true then wpAny (model prog w) A (eval elt env) (λx s₅=>wpAny (model prog w) A (call (.builtin "list.append") [acc,x]) (λ_ s₆=>∃ m,m < n/\J m s₆) (λ_ _=>False) s₅) (λ_ _=>False) s₄
      else ∃ m,m < n/\J m s₄) (λ_ _=>False) s₃) (λ_ _=>False) s₂) (λ_ _=>False) s₁) (λ_ _=>False) s)
  (n:Nat) (h:J n s):codeAny (model prog w) A (.compLoop (.ListComp elt [⟨target,iter,ifs,0⟩] scope pos) 0 it acc env) R s:=by
 refine codeAny_loop rfl J (λn s hJ=>?_) n h;show wpAny (model prog w) A ((compTurn (.ListComp elt [⟨target,iter,ifs,0⟩] scope pos) 0 it acc env).onRaise λx=>do noteFrame x env;theTreesLotGoes x) _ _ s;refine wpAny_noted (wpAny_noRaise ?_);rw [compTurn_list];refine pg (NI (pg (PR (turn n s hJ) λr s₁ h₁=>?_)))
 cases r with
 | none=>exact Mq h₁
 | some v =>
  refine pg (PR h₁ λ_ s₂ h₂=>pg (PR h₂ λ_ s₃ h₃=>pg (PR h₃ λok s₄ h₄=>?_)))
  cases ok with
  | false=>exact Mq ⟨rfl,h₄⟩
  | true=>exact pg (pg (PR h₄ λx s₅ h₅=>pg (PR h₅ λ_ s₆ h₆=>Mq (Mq ⟨rfl,h₆⟩))))
end
noncomputable def RM (wi:TI) (mk:St->St) (g:TG) (tt:TT) (te:TE):TE:=λσ H Q=>wi σ H λJ H1=>∀ D,H1 D=none->∃ W:Nat->Nat->St->Hp->Prop,(∃ m,W 0 m (mk σ) (upd H1 D (.lst [])))/\∀ i m σ' H',W i m σ' H' ->
 (J.stop i H'/\Q (.ref D) H') \/
 (J.go i H'/\∃ Nx:St->Hp->Prop,(∀ σ'' QS,Nx σ'' QS->∃ m',m' < m/\W (i+1) m' σ'' QS)/\∀ x QS,J.VE i H' x QS->g x σ' QS λσ2 H2=>tt σ2 H2 λb H3 =>
  if b=true then te σ2 H3 λv H4=>∃ ys,H4 D=some (.lst ys)/\ys.length < sizeLine/\Nx σ2 (upd H4 D (.lst (ys++[v]))) else Nx σ2 H3)
section
variable {X:Cx} {elt iter tg:Expr} {ifs:List Expr} {sc:Scope} {pos:Pos} {wi:TI} {own:List Str} {fr:List Nat} {N':List Str} {g:TG} {tt:TT} {te:TE}
theorem nJ {pins:List (Addr × Obj)} {σ:St} {H:Hp} {s:Shared} {cl:List (Str × Addr)} {fp:List Addr} {it:Addr} {J:It} {tn:Nat->Heap->Prop} {E:Value->Shared->Prop} {Q:VK} {RR:Value->Addr->Result->Shared->Prop}
  (I:Inv X pins σ H s) (B:X7 X.N X.env.kindOf sc.names own fr N') (hk:sc.kind=.function) (hc:X.calm=true)
  (sub:∀ x c,cl.lookup x=some c->X.env.cells.lookup x=some c) (has:∀ p ∈ sc.names,p.2=.free->cl.lookup p.1=X.env.cells.lookup p.1)
  (T:iD X.prog X.w X.K tg J fp it tn) (st:tn 0 s.heap) (f2:∀ b ∈ fp,iC X pins H b)
  (hg:∀ cl C s H fp,PG (X.Qk sc cl C N' s H fp) tg g) (ht:∀ cl C s H fp,jM (X.Qk sc cl C N' s H fp) ifs tt) (he:∀ cl C s H fp,PE (X.Qk sc cl C N' s H fp) elt te)
  (hw:∀ D,H D=none->∃ W:Nat->Nat->St->Hp->Prop,(∃ m,W 0 m (UD own fr σ) (upd H D (.lst [])))/\∀ i m σ' H',W i m σ' H' ->
   (J.stop i H'/\Q (.ref D) H') \/
   (J.go i H'/\∃ Nx:St->Hp->Prop,(∀ σ'' QS,Nx σ'' QS->∃ m',m' < m/\W (i+1) m' σ'' QS)/\∀ x QS,J.VE i H' x QS->g x σ' QS λσ2 H2=>tt σ2 H2 λb H3 =>
    if b=true then te σ2 H3 λv H4=>∃ ys,H4 D=some (.lst ys)/\ys.length < sizeLine/\Nx σ2 (upd H4 D (.lst (ys++[v]))) else Nx σ2 H3))
  (hRR:∀ D C σ' H' s',D=s.heap.objs.size->s.heap.objs.size<=C->Inv (X.Qk sc cl C N' s H fp) [] σ' H' s'->Q (.ref D) H'->RR (.ref D) C (.ok .next) s') :
  wpAny (model X.prog X.w) X.A (newList []) (λacc s₃=>wpAny (model X.prog X.w) X.A (newFunctionEnv sc X.env.globals cl [] X.env.qual none .none (some X.env)) (λcenv s₄ =>
   codeAny (model X.prog X.w) X.A (.compStart (.ListComp elt [⟨tg,iter,ifs,0⟩] sc pos) 0 (.ref it) acc { cenv with scope:=relabel sc X.env }) (RR acc cenv.locals) s₄) E s₃) E s:=by
 have fo:∀ b ∈ fp,b < s.heap.objs.size:=λb hb=>by obtain ⟨o,e,_⟩:=T.obj _ _ st b hb;exact Mr e
 refine Nr (wpAny_newFunctionEnv B.cell (by intro y hy;simp at hy) (λh₁ hns₁ hsb₁=>?_) hk);dsimp only at hns₁ hsb₁ ⊢;generalize Wh:s.heap.push { cls:=.type "list",dict:=none,data:=.seq ([]:List Value).toArray }=G at hns₁ hsb₁ ⊢;have hG:G.objs.size=s.heap.objs.size+1:=by rw [<- Wh,MM]
 have hlt:s.heap.objs.size < G.objs.size:=by rw [hG];exact Oj _
 have old:∀ b o,s.heap.get? b=some o->h₁.get? b=some o:=λb o e =>
  hsb₁.extBut b o (Mv (OA (Mr e) hlt)) (LD _ (Wh ▸ LD _ e))
 have hacc:h₁.get? s.heap.objs.size=some { cls:=.type "list",data:=.seq ([]:List Value).toArray } :=
  hsb₁.extBut _ _ (Mv hlt) (LD _ (Wh ▸ MI _ rfl))
 obtain ⟨W,⟨m0,w0⟩,turn⟩:=hw s.heap.objs.size (I.hok.fresh (Mu _));have st₁:tn 0 h₁:=T.keep _ _ _ st λb _ o e=>old b o e
 have Wi:h₁.Ns G.objs.size (λ_=>none):=by
  have e:(λx=>([]:List (Str × Value)).reverse.lookup x)=(λ_:Str=>(none:Option Value)):=by funext x;rfl
  first
   | exact hns₁
   | (rw [e] at hns₁;exact hns₁)
 have loop:∀ s₃:Shared,s₃={ s with heap:=h₁,toks:=s.toks+([]:List (Str × Value)).length } ->
   codeAny (model X.prog X.w) X.A (.compLoop (.ListComp elt [⟨tg,iter,ifs,0⟩] sc pos) 0 (.ref it) (.ref s.heap.objs.size) (compEnvC sc cl G.objs.size X.env)) (RR (.ref s.heap.objs.size) G.objs.size) s₃:=by
  rintro s₃ rfl;have I0:=lx (tk:=s.toks+([]:List (Str × Value)).length) I B hk sub has f2 fo rfl hlt Wi old hacc
  have iY:∀ {QN:List (Addr × Obj)} {H':Hp},QN=[]->(∀ b ∈ fp,H' b=none)->∀ b ∈ fp,iC (X.Qk sc cl G.objs.size N' s H fp) QN H' b:=λep hn b hb=>by
   subst ep;refine ⟨hn b hb,Mv (OA (fo b hb) hlt),λz=>?_,.inl hb,λx c e=>(f2 b hb).2.2.2.2.1 x c (sub x c e),λp hp=>absurd (show p ∈ ([]:List (Addr × Obj)) from hp) (by simp)⟩;rcases MA.mp (I.Sx b z) with e | e
   ·exact (f2 b hb).2.1 e
   ·exact (f2 b hb).2.2.1 e
  have YG:∀ b ∈ fp,upd H s.heap.objs.size (.lst []) b=none:=λb hb=>by rw [aE (Mv (fo b hb))];exact (f2 b hb).1
  refine mq (λn s'=>∃ i σ' H',Inv (X.Qk sc cl G.objs.size N' s H fp) [] σ' H' s'/\tn i s'.heap/\(∀ b ∈ fp,H' b=none)/\W i n σ' H') ?_ m0 ⟨0,_,_,I0,st₁,YG,w0⟩;rintro n s3 ⟨i,σ3,H3,I3,st3,VU,w3⟩;rcases turn i n σ3 H3 w3 with ⟨stop,qn⟩ | ⟨go,Nx,hN,step⟩
  ·refine PR (T.done (X.Qk sc cl G.objs.size N' s H fp) rfl rfl rfl hc i [] s3 σ3 H3 _ I3 (iY rfl VU) st3 stop) λr s4 ⟨hr,I4⟩=>?_;subst hr;exact hRR _ _ _ _ _ rfl (NP hlt) I4 qn
  ·refine PR (T.item (X.Qk sc cl G.objs.size N' s H fp) rfl rfl rfl hc i [] s3 σ3 H3 _ I3 (iY rfl VU) st3 go) λr s4 ⟨u,hr,h4⟩=>?_;subst hr;refine PR h4 λ_ s5 ⟨x,H5,I5,r5,y5,Ve,Xb⟩=>?_;have Xc:=I5.pinned (iY rfl Xb) (T.obj _ _ Ve);refine PR (hg cl G.objs.size s H fp _ s5 σ3 H5 x u _ Xc r5 (step x H5 y5)) λ_ s6 ⟨σ6,H6,I6,q6⟩=>?_;refine PR (ht cl G.objs.size s H fp _ s6 σ6 H6 _ I6 q6) λok s7 ⟨H7,I7,q7⟩=>?_
   have again:∀ {s8:Shared} {H8:Hp},Inv (X.Qk sc cl G.objs.size N' s H fp) ([]++iM fp s5.heap) σ6 H8 s8->Nx σ6 H8 ->
     ∃ m,m < n/\∃ i σ' H',Inv (X.Qk sc cl G.objs.size N' s H fp) [] σ' H' s8/\tn i s8.heap/\(∀ b ∈ fp,H' b=none)/\W i m σ' H':=λ{s8 H8} I8 n8=>by
    obtain ⟨m',hm,w8⟩:=hN σ6 H8 n8;refine ⟨m',hm,i+1,σ6,H8,I8.Q7,T.keep _ _ _ Ve λb hb o e=>(I8.pin (b,o) (MN _ (MN _ (c8 hb e)))).1,λb hb=>?_,w8⟩;obtain ⟨o,e,d⟩:=T.obj _ _ Ve b hb;exact (I8.pin (b,o) (MN _ (MN _ (c8 hb e)))).2.1
   cases ok with
   | false =>rw [Mz Mx] at q7 ⊢;exact again I7 q7
   | true =>rw [MF rfl] at q7 ⊢;refine PR (he cl G.objs.size s H fp _ s7 σ6 H7 _ I7 q7) λy s8 ⟨v,H8,I8,rv,ys,YH,hz,nx⟩=>?_;refine PR (ck (X:=X.Qk sc cl G.objs.size N' s H fp) _ s8 σ6 H8 (.ref s.heap.objs.size) [v] (.ref s.heap.objs.size) [y] (λ_ H9=>Nx σ6 H9) I8 rfl (.cons rv .nil) ⟨_,ys,v,rfl,rfl,YH,hz,nx⟩) λ_ s9 ⟨_,H9,I9,_,n9⟩=>?_;exact again I9 n9
 exact codeAny_compStart_list (loop _ rfl) (T.self _ 0 _ _ _ st₁ (loop _ rfl))
theorem rB (hi:PI X tg iter wi) (hk:sc.kind=.function) (hb:bj X.N X.env.kindOf sc.names own fr N'=true) (hc:X.calm=true)
  (hg:∀ cl C s H fp,PG (X.Qk sc cl C N' s H fp) tg g) (ht:∀ cl C s H fp,jM (X.Qk sc cl C N' s H fp) ifs tt) (he:∀ cl C s H fp,PE (X.Qk sc cl C N' s H fp) elt te)
  (hs:∀ x,foldedSetIterable iter X.env x=pure x:=by intro _;rfl):PE X (.ListComp elt [⟨tg,iter,ifs,0⟩] sc pos) (RM wi (UD own fr) g tt te):=by
 intro pins s σ H Q I h;have B:=pD hb;obtain ⟨cl,hcl,sub,has⟩:=AY sc X.env λp hp e=>I.ok.has p.1 (B.free p hp e);rw [eval_ListComp];refine OB (use:=none) rfl hs hcl hk B.loc (PR (hi pins s σ H _ I h) λv s1 h1=>PR h1 λitv s2 h2=>?_);obtain ⟨it,fp,tn,J,H2,e,I2,T,st2,f2,body⟩:=h2;subst e;refine nJ (RR:=λacc C=>compPost (model X.prog X.w) X.A X.xe none (EP X pins σ Q) acc C) I2 B hk hc sub has T st2 f2 hg ht he body ?_;intro D C σ' H' s' eD hC J' q;obtain ⟨m,hn,_⟩:=J'.loc;refine ⟨m,hn,λh' hs'=>⟨.ref D,H',?_,rfl,q⟩⟩;exact Inv.young I2 (mi I2 f2 J') hC J'.free hs'
theorem qw {i:Nat} {y:Str} {py spos:Pos} (hi:PI X tg iter wi) (hk:sc.kind=.function) (hb:bj X.N X.env.kindOf sc.names own fr N'=true) (hc:X.calm=true)
  (hg:∀ cl C s H fp,PG (X.Qk sc cl C N' s H fp) tg g) (ht:∀ cl C s H fp,jM (X.Qk sc cl C N' s H fp) ifs tt) (he:∀ cl C s H fp,PE (X.Qk sc cl C N' s H fp) elt te)
  (hN:X.N.Nodup) (hy:X.N[i]?=some y) (hx:X.env.scope.names.lookup y=some .local)
  (hsw:swapsWith (.ListComp elt [⟨tg,iter,ifs,0⟩] sc pos) (some (.Name y py)) spos.line X.env=pure true)
  (hs:∀ x,foldedSetIterable iter X.env x=pure x:=by intro _;rfl):PS X (.Assign [.Name y py] (.ListComp elt [⟨tg,iter,ifs,0⟩] sc pos) spos) (RI (RM wi (UD own fr) g tt te) (ff i)):=by
 intro pins s σ H D I h;have B:=pD hb;obtain ⟨cl,hcl,sub,has⟩:=AY sc X.env λp hp e=>I.ok.has p.1 (B.free p hp e);rw [exec_Assign_Name_used _ _ _ _ hsw];refine pg (NI (pg ?_));show wpAny _ _ (do let _ <- comprehension (.ListComp elt [⟨tg,iter,ifs,0⟩] sc pos) sc X.env _ (newList []) false (eval iter X.env) (some (assign (.Name y py) X.env))) _ _ s
 refine pg (MT (OB (use:=some (assign (.Name y py) X.env)) (Q:=λ_ s'=>SP X pins D .next s') rfl hs hcl hk B.loc
  (PR (hi pins s σ H _ I h) λv s1 h1=>PR h1 λitv s2 h2=>?_)) (λ_ s' hq=>Mq (Mq hq)) λ_ _ e=>e)
 obtain ⟨it,fp,tn,J,H2,e,I2,T,st2,f2,body⟩:=h2;subst e;refine nJ (Q:=λv H'=>D.nx (σ.set i (some v)) H') (RR:=λacc C=>compPost (model X.prog X.w) X.A X.xe (some (assign (.Name y py) X.env)) (λ_ s'=>SP X pins D .next s') acc C) I2 B hk hc sub has T st2 f2 hg ht he body ?_;intro D' C σ' H' s' eD hC J' q;have I3:=mi I2 f2 J';show wpAny _ _ (assign (.Name y py) X.env (.ref D')) _ _ s';refine Pg (iZ I3 hN hy (.inl hx) (v:=.ref D') rfl (λs4 I4 ⟨a,hsb,ha⟩=>?_) (.inr hx));obtain ⟨m,hn,_⟩:=J'.loc
 have YI:C≠a:=by
  rcases ha with e | e
  ·rw [e];exact M0 (Mw I2.lt hC)
  ·obtain ⟨v,z⟩:=I2.cell _ _ e;exact M0 (Mw z.lt hC)
 refine ⟨m,hn.sameBut hsb YI,λh' hs'=>⟨_,H',?_,q⟩⟩;exact Inv.young I2 I4 hC J'.free hs'
end
inductive D where
 | PJ | bl (b:Bool) | int (i:Int) | str (x:Str) | tup (ds:List D)
 | lst
mutual
noncomputable def Dat (K:W.Frag) (H:Hp):D->V->Prop
 | .PJ,v=>v=.PJ
 | .bl b,v=>v=.bl b
 | .int i,v=>v=.int i
 | .str x,v=>v=.str x
 | .tup ds,v=>∃ a vs,v=.ref a/\Qq K H a vs/\PF K H ds vs
 | .lst,v=>∃ a vs,v=.ref a/\P6 K H a vs
noncomputable def PF (K:W.Frag) (H:Hp):List D->List V->Prop
 | [],vs=>vs=[]
 | d::ds,vs=>∃ v r,vs=v::r/\Dat K H d v/\PF K H ds r
end
section
variable {K:W.Frag} {H H':Hp}
variable {a:Addr} {vs:List V} {ds:List D}
theorem Dat.tupI (h:Qq K H a vs) (r:PF K H ds vs):Dat K H (.tup ds) (.ref a):=by unfold Dat;exact ⟨a,vs,rfl,h,r⟩
theorem PF.nil:PF K H [] []:=by unfold PF;rfl
variable {d:D} {v:V}
theorem PF.cons (h:Dat K H d v) (r:PF K H ds vs):PF K H (d::ds) (v::vs):=by unfold PF;exact ⟨v,vs,rfl,h,r⟩
theorem Dat.Ur (i:Int):Dat K H (.int i) (.int i):=by unfold Dat;rfl
theorem Dat.Vh (x:Str):Dat K H (.str x) (.str x):=by unfold Dat;rfl
theorem Dat.Vi (b:Bool):Dat K H (.bl b) (.bl b):=by unfold Dat;rfl
theorem Dat.Xj:Dat K H .PJ .PJ:=by unfold Dat;rfl
theorem Dat.YJ (h:P6 K H a vs):Dat K H .lst (.ref a):=by unfold Dat;exact ⟨a,vs,rfl,h⟩
theorem Dat.P8 (h:Dat K H (.tup ds) v):∃ a vs,v=.ref a/\Qq K H a vs/\PF K H ds vs:=by unfold Dat at h;exact h
theorem Dat.PY {i:Int} (h:Dat K H (.int i) v):v=.int i:=by unfold Dat at h;exact h
theorem Dat.Qd {x:Str} (h:Dat K H (.str x) v):v=.str x:=by unfold Dat at h;exact h
theorem Dat.QL {b:Bool} (h:Dat K H (.bl b) v):v=.bl b:=by unfold Dat at h;exact h
theorem Dat.Qv (h:Dat K H .PJ v):v=.PJ:=by unfold Dat at h;exact h
theorem Dat.UR (h:Dat K H .lst v):∃ a vs,v=.ref a/\P6 K H a vs:=by unfold Dat at h;exact h
theorem PF.Qp (h:PF K H [] vs):vs=[]:=by unfold PF at h;exact h
theorem PF.PL (h:PF K H (d::ds) vs):∃ v r,vs=v::r/\Dat K H d v/\PF K H ds r:=by unfold PF at h;exact h
structure rX (K:W.Frag) (H H':Hp):Prop where
 tup:∀ a xs,Qq K H a xs->Qq K H' a xs
 lst:∀ a xs,P6 K H a xs->∃ ys,P6 K H' a ys
mutual
theorem Dat.mono (g:rX K H H'):∀ (d:D) {v:V},Dat K H d v->Dat K H' d v
 | .PJ,v,h=>by unfold Dat at h ⊢;exact h
 | .bl b,v,h=>by unfold Dat at h ⊢;exact h
 | .int i,v,h=>by unfold Dat at h ⊢;exact h
 | .str x,v,h=>by unfold Dat at h ⊢;exact h
 | .tup ds,v,h=>by obtain ⟨a,vs,e,q,r⟩:=h.P8;subst e;exact Dat.tupI (g.tup _ _ q) (PF.mono g ds r)
 | .lst,v,h=>by obtain ⟨a,vs,e,q⟩:=h.UR;subst e;obtain ⟨ys,q'⟩:=g.lst _ _ q;exact Dat.YJ q'
theorem PF.mono (g:rX K H H'):∀ (ds:List D) {vs:List V},PF K H ds vs->PF K H' ds vs
 | [],vs,h=>by unfold PF at h ⊢;exact h
 | d::ds,vs,h=>by obtain ⟨v,r,e,h1,h2⟩:=h.PL;subst e;exact PF.cons (Dat.mono g d h1) (PF.mono g ds h2)
end
theorem PF.length:∀ {ds:List D} {vs:List V},PF K H ds vs->ds.length=vs.length
 | [],vs,h=>by rw [h.Qp];rfl
 | d::ds,vs,h=>by obtain ⟨v,r,e,h1,h2⟩:=h.PL;subst e;rw [Nz,Nz,PF.length h2]
theorem PF.Vj:∀ {ds:List D} {vs:List V} {i:Nat} {v:V},PF K H ds vs->vs[i]?=some v->∃ d,ds[i]?=some d/\Dat K H d v
 | [],vs,i,v,h,e=>by rw [h.Qp] at e;simp at e
 | d0::ds,vs,0,v,h,e=>by obtain ⟨u,r,e1,h1,h2⟩:=h.PL;subst e1;simp at e;subst e;exact ⟨d0,rfl,h1⟩
 | d0::ds,vs,i+1,v,h,e=>by obtain ⟨u,r,e1,h1,h2⟩:=h.PL;subst e1;obtain ⟨d,q1,q2⟩:=PF.Vj (i:=i) (v:=v) h2 (by simpa using e);exact ⟨d,by simpa using q1,q2⟩
theorem PF.append:∀ {ds es:List D} {vs us:List V},PF K H ds vs->PF K H es us->PF K H (ds++es) (vs++us)
 | [],es,vs,us,h,h'=>by rw [h.Qp];exact h'
 | d::ds,es,vs,us,h,h'=>by obtain ⟨v,r,e,h1,h2⟩:=h.PL;subst e;exact PF.cons h1 (PF.append h2 h')
end
mutual
noncomputable def P4:D->D->Bool
 | .PJ,.PJ=>true
 | .bl a,.bl b=>a == b
 | .int a,.int b=>a == b
 | .bl a,.int b=>(if a then 1 else 0) == b
 | .int a,.bl b=>a == (if b then 1 else 0)
 | .str a,.str b=>a == b
 | .tup a,.tup b=>Qm a b
 | _,_=>false
noncomputable def Qm:List D->List D->Bool
 | [],[]=>true
 | a::r,b::q=>P4 a b && Qm r q
 | _,_=>false
end
mutual
noncomputable def dU:D->Nat
 | .tup ds=>Qa ds+1
 | _=>0
noncomputable def Qa:List D->Nat
 | []=>0
 | d::ds=>max (dU d) (Qa ds)
end
mutual
noncomputable def QF:D->Bool
 | .tup ds=>Qh ds
 | .lst=>false
 | _=>true
noncomputable def Qh:List D->Bool
 | []=>true
 | d::ds=>QF d && Qh ds
end
noncomputable def VO (a b:List D) (j:Nat):Bool:=match a[j]?,b[j]? with
 | some x,some y=>P4 x y
 | _,_=>false
theorem jO (n:Nat) (e:Nat->Bool):(List.range (n+1)).all e=(e 0 && (List.range n).all λj=>e (j+1)):=by rw [List.range_succ_eq_map,N5,List.all_map];rfl
theorem eT:∀ a b:List D,((List.range (min a.length b.length)).all (VO a b) && a.length == b.length)=Qm a b
 | [],[]=>by unfold Qm;rfl
 | [],y::b=>by unfold Qm;simp
 | x::a,[]=>by unfold Qm;simp
 | x::a,y::b=>by
  have ih:=eT a b;unfold Qm;rw [<- ih,Nz,Nz,Nat.succ_min_succ,jO];have e0:VO (x::a) (y::b) 0=P4 x y:=rfl
  have e1:(λj=>VO (x::a) (y::b) (j+1))=VO a b:=by
   funext j
   simp [VO]
  rw [e0,e1,Bool.and_assoc];congr 2;simp
theorem om {a b:List D} (h:a.length=b.length):(List.range a.length).all (VO a b)=Qm a b:=by have q:=eT a b;rw [<- h,Nat.min_self] at q;rw [<- q];simp
mutual
theorem oj:∀ d:D,QF d=true->P4 d d=true
 | .PJ,_=>by unfold P4;rfl
 | .bl b,_=>by unfold P4;simp
 | .int i,_=>by unfold P4;simp
 | .str x,_=>by unfold P4;simp
 | .tup ds,h=>by unfold P4;unfold QF at h;exact Ti ds h
 | .lst,h=>by unfold QF at h;cases h
theorem Ti:∀ ds:List D,Qh ds=true->Qm ds ds=true
 | [],_=>by unfold Qm;rfl
 | d::ds,h=>by unfold Qh at h;rw [MC] at h;unfold Qm;rw [oj d h.1,Ti ds h.2];rfl
end
section
variable {X:Cx} {pins:List (Addr × Obj)} {σ:St} {H:Hp} {s:Shared}
mutual
theorem jI (I:Inv X pins σ H s):∀ (d e:D) {v:V},QF d=true->Dat X.K H d v->Dat X.K H e v->QF e=true->d=e
 | .PJ,e,v,hn,h,h',hn'=>by
  have z:=h.Qv;subst z
  cases e with
  | PJ=>rfl
  | bl b=>exact nomatch h'.QL
  | int i=>exact nomatch h'.PY
  | str x=>exact nomatch h'.Qd
  | tup ds=>obtain ⟨_,_,q,_⟩:=h'.P8;exact nomatch q
  | lst=>obtain ⟨_,_,q,_⟩:=h'.UR;exact nomatch q
 | .bl b,e,v,hn,h,h',hn'=>by
  have z:=h.QL;subst z
  cases e with
  | PJ=>exact nomatch h'.Qv
  | bl c=>have q:=h'.QL;injection q with q;rw [q]
  | int i=>exact nomatch h'.PY
  | str x=>exact nomatch h'.Qd
  | tup ds=>obtain ⟨_,_,q,_⟩:=h'.P8;exact nomatch q
  | lst=>obtain ⟨_,_,q,_⟩:=h'.UR;exact nomatch q
 | .int i,e,v,hn,h,h',hn'=>by
  have z:=h.PY;subst z
  cases e with
  | PJ=>exact nomatch h'.Qv
  | bl c=>exact nomatch h'.QL
  | int j=>have q:=h'.PY;injection q with q;rw [q]
  | str x=>exact nomatch h'.Qd
  | tup ds=>obtain ⟨_,_,q,_⟩:=h'.P8;exact nomatch q
  | lst=>obtain ⟨_,_,q,_⟩:=h'.UR;exact nomatch q
 | .str x,e,v,hn,h,h',hn'=>by
  have z:=h.Qd;subst z
  cases e with
  | PJ=>exact nomatch h'.Qv
  | bl c=>exact nomatch h'.QL
  | int j=>exact nomatch h'.PY
  | str y=>have q:=h'.Qd;injection q with q;rw [q]
  | tup ds=>obtain ⟨_,_,q,_⟩:=h'.P8;exact nomatch q
  | lst=>obtain ⟨_,_,q,_⟩:=h'.UR;exact nomatch q
 | .tup ds,e,v,hn,h,h',hn'=>by
  obtain ⟨a,vs,z,q,r⟩:=h.P8;subst z
  cases e with
  | PJ=>exact nomatch h'.Qv
  | bl c=>exact nomatch h'.QL
  | int j=>exact nomatch h'.PY
  | str y=>exact nomatch h'.Qd
  | tup es =>obtain ⟨a',vs',z,q',r'⟩:=h'.P8;cases z;have ev:=I.Th q q';subst ev;unfold QF at hn hn';rw [Ub I ds es hn r r' hn']
  | lst=>unfold QF at hn';cases hn'
 | .lst,e,v,hn,h,h',hn'=>by unfold QF at hn;cases hn
theorem Ub (I:Inv X pins σ H s):∀ (ds es:List D) {vs:List V},Qh ds=true->PF X.K H ds vs->PF X.K H es vs->Qh es=true->ds=es
 | [],es,vs,_,h,h',_=>by
  have z:=h.Qp;subst z
  cases es with
  | nil=>rfl
  | cons e es=>obtain ⟨_,_,q,_⟩:=h'.PL;exact nomatch q
 | d::ds,es,vs,hn,h,h',hn'=>by
  obtain ⟨v,r,z,h1,h2⟩:=h.PL;subst z
  cases es with
  | nil=>exact nomatch h'.Qp
  | cons e es =>obtain ⟨v',r',z,h1',h2'⟩:=h'.PL;injection z with z1 z2;subst z1 z2;unfold Qh at hn hn';rw [MC] at hn hn';rw [jI I d e hn.1 h1 h1' hn'.1,Ub I ds es hn.2 h2 h2' hn'.2]
end
end
theorem iG (A:Around):A.in1.units=A.units+1:=rfl
section
variable {X:Cx} {pins:List (Addr × Obj)} {σ:St} {H:Hp} {s:Shared}
theorem eS:∀ {ds:List D} {j:Nat} {d:D},ds[j]?=some d->dU d<=Qa ds
 | [],_,_,e=>by simp at e
 | d0::ds,0,d,e=>by simp at e;subst e;unfold Qa;exact Nat.le_max_left _ _
 | d0::ds,j+1,d,e=>by have q:=eS (ds:=ds) (j:=j) (d:=d) (by simpa using e);unfold Qa;exact MQ q (Nat.le_max_right _ _)
theorem cW:∀ {ds:List D} {j:Nat} {d:D},Qh ds=true->ds[j]?=some d->QF d=true
 | [],_,_,_,e=>by simp at e
 | d0::ds,0,d,h,e=>by simp at e;subst e;unfold Qh at h;rw [MC] at h;exact h.1
 | d0::ds,j+1,d,h,e=>by unfold Qh at h;rw [MC] at h;exact cW (ds:=ds) (j:=j) (d:=d) h.2 (by simpa using e)
variable {ds es:List D} {xs ys:List V}
theorem j4 {A:Around} {us ws:List Value} (n:Nat)
  (all:∀ (d e:D) (x y:V) (u w:Value),dU d<=n->QF d=true->QF e=true->Dat X.K H d x->Dat X.K H e y->RelV x u->RelV y w->SeqAt.EqAt A s u w (P4 d e))
  (hn:Qa ds<=n) (h1:Qh ds=true) (h2:Qh es=true) (r1:PF X.K H ds xs) (r2:PF X.K H es ys) (v1:Vals xs us) (v2:Vals ys ws) :
  ∀ j (k1:j < us.toArray.size) (k2:j < ws.toArray.size),SeqAt.EqAt A s us.toArray[j] ws.toArray[j] (VO ds es j):=by
 intro j k1 k2;have l1:j < xs.length:=by rw [v1.length];simpa using k1
 have l2:j < ys.length:=by rw [v2.length];simpa using k2
 obtain ⟨u,eu,ru⟩:=v1.get (i:=j) (x:=xs[j]) (Ms l1);obtain ⟨w,ew,rw'⟩:=v2.get (i:=j) (x:=ys[j]) (Ms l2);obtain ⟨d,ed,qd⟩:=r1.Vj (i:=j) (v:=xs[j]) (Ms l1);obtain ⟨e,ee,qe⟩:=r2.Vj (i:=j) (v:=ys[j]) (Ms l2)
 have z1:us.toArray[j]=u:=by
  have:us[j]?=some u:=eu;have k1':j < us.length:=by simpa using k1
  rw [Ms k1'] at this;simpa using MB this
 have z2:ws.toArray[j]=w:=by
  have:ws[j]?=some w:=ew;have k2':j < ws.length:=by simpa using k2
  rw [Ms k2'] at this;simpa using MB this
 have z3:VO ds es j=P4 d e:=by unfold VO;rw [ed,ee]
 rw [z1,z2,z3];exact all d e _ _ u w (MQ (eS ed) hn) (cW h1 ed) (cW h2 ee) qd qe ru rw'
theorem oX {A:Around} {a b:Addr} (I:Inv X pins σ H s) (hu:A.units < cLine) (n:Nat)
  (all:∀ (d e:D) (x y:V) (u w:Value),dU d<=n->QF d=true->QF e=true->Dat X.K H d x->Dat X.K H e y->RelV x u->RelV y w->SeqAt.EqAt A.in1 s u w (P4 d e))
  (hn:Qa ds<=n) (h1:Qh ds=true) (h2:Qh es=true) (r1:PF X.K H ds xs) (r2:PF X.K H es ys) (q1:Qq X.K H a xs) (q2:Qq X.K H b ys) :
  SeqAt.RcAt A s (.ref a) (.ref b) (Qm ds es)/\SeqAt.RcNeAt A s (.ref a) (.ref b) (!Qm ds es):=by
 obtain ⟨us,v1,t1,_⟩:=I.tuple q1;obtain ⟨ws,v2,t2,_⟩:=I.tuple q2;have hi:=j4 (X:=X) (H:=H) (s:=s) n all hn h1 h2 r1 r2 v1 v2;have p:=SeqAt.RcAt.tuples (show s.heap.IsTuple a us.toArray from t1) (show s.heap.IsTuple b ws.toArray from t2) hu hi;have p':=SeqAt.RcNeAt.tuples (show s.heap.IsTuple a us.toArray from t1) (show s.heap.IsTuple b ws.toArray from t2) hu hi;have e1:us.toArray.size=ds.length:=by rw [Mt,<- v1.length,r1.length]
 have e2:ws.toArray.size=es.length:=by rw [Mt,<- v2.length,r2.length]
 rw [e1,e2,eT] at p p';exact ⟨p,p'⟩
theorem mD (I:Inv X pins σ H s):∀ (n:Nat) (A:Around) (d e:D) (x y:V) (u w:Value),A.units+n+1 < cLine->dU d<=n->QF d=true->QF e=true->Dat X.K H d x->Dat X.K H e y->RelV x u->RelV y w->SeqAt.EqAt A s u w (P4 d e):=by
 intro n
 induction n with
 | zero =>
  intro A d e x y u w hu hn h1 h2 q1 q2 r1 r2
  exact base I A d e x y u w (by lia) h1 h2 q1 q2 r1 r2 λds es a b xs ys ed ee=>by subst ed;unfold dU at hn;lia
 | succ n ih =>intro A d e x y u w hu hn h1 h2 q1 q2 r1 r2;refine base I A d e x y u w (by lia) h1 h2 q1 q2 r1 r2 λds es a b xs ys ed ee t1 t2 s1 s2 hne=>?_;subst ed ee;unfold dU at hn;unfold QF at h1 h2;have p:=(oX (A:=A) (ds:=ds) (es:=es) I (by lia) n (λd e x y u w k1 k2 k3 k4 k5 k6 k7=>ih A.in1 d e x y u w (by rw [iG];lia) k1 k2 k3 k4 k5 k6 k7) (by lia) h1 h2 t1 t2 s1 s2).1;unfold P4;exact .of_refs hne p
where
 base (I:Inv X pins σ H s) (A:Around) (d e:D) (x y:V) (u w:Value) (hu:A.units < cLine) (h1:QF d=true) (h2:QF e=true) (q1:Dat X.K H d x) (q2:Dat X.K H e y) (r1:RelV x u) (r2:RelV y w)
   (tt:∀ (ds es:List D) (a b:Addr) (xs ys:List V),d=.tup ds->e=.tup es->PF X.K H ds xs->PF X.K H es ys->Qq X.K H a xs->Qq X.K H b ys->a≠b->SeqAt.EqAt A s (.ref a) (.ref b) (P4 (.tup ds) (.tup es))) :
   SeqAt.EqAt A s u w (P4 d e):=by
  cases d with
  | lst=>unfold QF at h1;cases h1
  | PJ =>
   have z:=q1.Qv;subst z;cases r1
   cases e with
   | lst=>unfold QF at h2;cases h2
   | PJ=>have z:=q2.Qv;subst z;cases r2;unfold P4;exact SeqAt.EqAt.same _
   | bl b=>have z:=q2.QL;subst z;cases r2;unfold P4;exact SeqAt.EqAt.none_bool b
   | int i=>have z:=q2.PY;subst z;obtain ⟨t,rfl⟩:=r2;unfold P4;exact SeqAt.EqAt.none_int i t
   | str i=>have z:=q2.Qd;subst z;obtain ⟨t,rfl⟩:=r2;unfold P4;exact SeqAt.EqAt.none_str i t
   | tup es=>obtain ⟨b,ys,z,s2,t2⟩:=q2.P8;subst z;cases r2;obtain ⟨ws,v2,p2,_⟩:=I.tuple s2;unfold P4;exact SeqAt.EqAt.none_tuple (show s.heap.IsTuple b ws.toArray from p2) hu
  | bl c =>
   have z:=q1.QL;subst z;cases r1
   cases e with
   | lst=>unfold QF at h2;cases h2
   | PJ=>have z:=q2.Qv;subst z;cases r2;unfold P4;exact SeqAt.EqAt.bool_none c
   | bl b=>have z:=q2.QL;subst z;cases r2;unfold P4;exact SeqAt.EqAt.bool_bool c b
   | int i=>have z:=q2.PY;subst z;obtain ⟨t,rfl⟩:=r2;unfold P4;exact SeqAt.EqAt.bool_int c i t
   | str i=>have z:=q2.Qd;subst z;obtain ⟨t,rfl⟩:=r2;unfold P4;exact SeqAt.EqAt.bool_str c i t
   | tup es=>obtain ⟨b,ys,z,s2,t2⟩:=q2.P8;subst z;cases r2;obtain ⟨ws,v2,p2,_⟩:=I.tuple s2;unfold P4;exact SeqAt.EqAt.bool_tuple c (show s.heap.IsTuple b ws.toArray from p2) hu
  | int c =>
   have z:=q1.PY;subst z;obtain ⟨tc,rfl⟩:=r1
   cases e with
   | lst=>unfold QF at h2;cases h2
   | PJ=>have z:=q2.Qv;subst z;cases r2;unfold P4;exact SeqAt.EqAt.int_none c tc
   | bl b=>have z:=q2.QL;subst z;cases r2;unfold P4;exact SeqAt.EqAt.int_bool c tc b
   | int i=>have z:=q2.PY;subst z;obtain ⟨t,rfl⟩:=r2;unfold P4;exact SeqAt.EqAt.int_int c tc i t
   | str i=>have z:=q2.Qd;subst z;obtain ⟨t,rfl⟩:=r2;unfold P4;exact O8 c tc i t
   | tup es=>obtain ⟨b,ys,z,s2,t2⟩:=q2.P8;subst z;cases r2;obtain ⟨ws,v2,p2,_⟩:=I.tuple s2;unfold P4;exact SeqAt.EqAt.int_tuple c tc (show s.heap.IsTuple b ws.toArray from p2) hu
  | str c =>
   have z:=q1.Qd;subst z;obtain ⟨tc,rfl⟩:=r1
   cases e with
   | lst=>unfold QF at h2;cases h2
   | PJ=>have z:=q2.Qv;subst z;cases r2;unfold P4;exact SeqAt.EqAt.str_none c tc
   | bl b=>have z:=q2.QL;subst z;cases r2;unfold P4;exact SeqAt.EqAt.str_bool c tc b
   | int i=>have z:=q2.PY;subst z;obtain ⟨t,rfl⟩:=r2;unfold P4;exact O9 c tc i t
   | str i=>have z:=q2.Qd;subst z;obtain ⟨t,rfl⟩:=r2;unfold P4;exact SeqAt.EqAt.str_str c tc i t
   | tup es=>obtain ⟨b,ys,z,s2,t2⟩:=q2.P8;subst z;cases r2;obtain ⟨ws,v2,p2,_⟩:=I.tuple s2;unfold P4;exact SeqAt.EqAt.str_tuple c tc (show s.heap.IsTuple b ws.toArray from p2) hu
  | tup ds =>
   have q1':=q1
   obtain ⟨a,xs,z,s1,t1⟩:=q1.P8;subst z;cases r1;obtain ⟨us,v1,p1,_⟩:=I.tuple s1
   have p1':s.heap.IsTuple a us.toArray:=p1
   cases e with
   | lst=>unfold QF at h2;cases h2
   | PJ=>have z:=q2.Qv;subst z;cases r2;unfold P4;exact SeqAt.EqAt.tuple_none p1' hu
   | bl b=>have z:=q2.QL;subst z;cases r2;unfold P4;exact SeqAt.EqAt.tuple_bool b p1' hu
   | int i=>have z:=q2.PY;subst z;obtain ⟨t,rfl⟩:=r2;unfold P4;exact SeqAt.EqAt.tuple_int i t p1' hu
   | str i=>have z:=q2.Qd;subst z;obtain ⟨t,rfl⟩:=r2;unfold P4;exact SeqAt.EqAt.tuple_str i t p1' hu
   | tup es =>
    have q2':=q2
    obtain ⟨b,ys,z,s2,t2⟩:=q2.P8;subst z;cases r2
    by_cases hab:a=b
    ·subst hab
     have ee:=jI I (.tup ds) (.tup es) h1 q1' q2' h2
     rw [<- ee,oj _ h1]
     exact SeqAt.EqAt.same _
    ·exact tt ds es a b xs ys rfl rfl t1 t2 s1 s2 hab
theorem EI (I:Inv X pins σ H s) (n:Nat) (A:Around) (d e:D) (x y:V) (u w:Value) (hu:A.units+n+2 < cLine) (hn:dU d<=n+1) (h1:QF d=true) (h2:QF e=true) (q1:Dat X.K H d x) (q2:Dat X.K H e y) (r1:RelV x u) (r2:RelV y w) :
  SeqAt.RcAt A s u w (P4 d e)/\SeqAt.RcNeAt A s u w (!P4 d e):=by
 have Tc:A.units < cLine:=by lia
 cases d with
 | lst=>unfold QF at h1;cases h1
 | PJ =>
  have z:=q1.Qv;subst z;cases r1
  cases e with
  | lst=>unfold QF at h2;cases h2
  | PJ=>have z:=q2.Qv;subst z;cases r2;unfold P4;exact ⟨SeqAt.RcAt.none_none,SeqAt.RcNeAt.none_none⟩
  | bl b=>have z:=q2.QL;subst z;cases r2;unfold P4;exact ⟨SeqAt.RcAt.none_bool b,SeqAt.RcNeAt.none_bool b⟩
  | int i=>have z:=q2.PY;subst z;obtain ⟨t,rfl⟩:=r2;unfold P4;exact ⟨SeqAt.RcAt.none_int i t,SeqAt.RcNeAt.none_int i t⟩
  | str i=>have z:=q2.Qd;subst z;obtain ⟨t,rfl⟩:=r2;unfold P4;exact ⟨SeqAt.RcAt.none_str i t,SeqAt.RcNeAt.none_str i t⟩
  | tup es=>obtain ⟨b,ys,z,s2,t2⟩:=q2.P8;subst z;cases r2;obtain ⟨ws,v2,p2,_⟩:=I.tuple s2;unfold P4;exact ⟨SeqAt.RcAt.none_tuple (show s.heap.IsTuple b ws.toArray from p2) Tc,SeqAt.RcNeAt.none_tuple (show s.heap.IsTuple b ws.toArray from p2) Tc⟩
 | bl c =>
  have z:=q1.QL;subst z;cases r1
  cases e with
  | lst=>unfold QF at h2;cases h2
  | PJ=>have z:=q2.Qv;subst z;cases r2;unfold P4;exact ⟨SeqAt.RcAt.bool_none c,SeqAt.RcNeAt.bool_none c⟩
  | bl b=>have z:=q2.QL;subst z;cases r2;unfold P4;exact ⟨SeqAt.RcAt.bool_bool c b,SeqAt.RcNeAt.bool_bool c b⟩
  | int i=>have z:=q2.PY;subst z;obtain ⟨t,rfl⟩:=r2;unfold P4;exact ⟨SeqAt.RcAt.bool_int c i t,SeqAt.RcNeAt.bool_int c i t⟩
  | str i=>have z:=q2.Qd;subst z;obtain ⟨t,rfl⟩:=r2;unfold P4;exact ⟨SeqAt.RcAt.bool_str c i t,SeqAt.RcNeAt.bool_str c i t⟩
  | tup es=>obtain ⟨b,ys,z,s2,t2⟩:=q2.P8;subst z;cases r2;obtain ⟨ws,v2,p2,_⟩:=I.tuple s2;unfold P4;exact ⟨SeqAt.RcAt.bool_tuple c (show s.heap.IsTuple b ws.toArray from p2) Tc,SeqAt.RcNeAt.bool_tuple c (show s.heap.IsTuple b ws.toArray from p2) Tc⟩
 | int c =>
  have z:=q1.PY;subst z;obtain ⟨tc,rfl⟩:=r1
  cases e with
  | lst=>unfold QF at h2;cases h2
  | PJ=>have z:=q2.Qv;subst z;cases r2;unfold P4;exact ⟨SeqAt.RcAt.int_none c tc,SeqAt.RcNeAt.int_none c tc⟩
  | bl b=>have z:=q2.QL;subst z;cases r2;unfold P4;exact ⟨SeqAt.RcAt.int_bool c tc b,SeqAt.RcNeAt.int_bool c tc b⟩
  | int i=>have z:=q2.PY;subst z;obtain ⟨t,rfl⟩:=r2;unfold P4;exact ⟨SeqAt.RcAt.int_int c tc i t,SeqAt.RcNeAt.int_int c tc i t⟩
  | str i=>have z:=q2.Qd;subst z;obtain ⟨t,rfl⟩:=r2;unfold P4;exact ⟨SeqAt.RcAt.int_str c tc i t,SeqAt.RcNeAt.int_str c tc i t⟩
  | tup es=>obtain ⟨b,ys,z,s2,t2⟩:=q2.P8;subst z;cases r2;obtain ⟨ws,v2,p2,_⟩:=I.tuple s2;unfold P4;exact ⟨SeqAt.RcAt.int_tuple c tc (show s.heap.IsTuple b ws.toArray from p2) Tc,SeqAt.RcNeAt.int_tuple c tc (show s.heap.IsTuple b ws.toArray from p2) Tc⟩
 | str c =>
  have z:=q1.Qd;subst z;obtain ⟨tc,rfl⟩:=r1
  cases e with
  | lst=>unfold QF at h2;cases h2
  | PJ=>have z:=q2.Qv;subst z;cases r2;unfold P4;exact ⟨SeqAt.RcAt.str_none c tc,SeqAt.RcNeAt.str_none c tc⟩
  | bl b=>have z:=q2.QL;subst z;cases r2;unfold P4;exact ⟨SeqAt.RcAt.str_bool c tc b,SeqAt.RcNeAt.str_bool c tc b⟩
  | int i=>have z:=q2.PY;subst z;obtain ⟨t,rfl⟩:=r2;unfold P4;exact ⟨SeqAt.RcAt.str_int c tc i t,SeqAt.RcNeAt.str_int c tc i t⟩
  | str i=>have z:=q2.Qd;subst z;obtain ⟨t,rfl⟩:=r2;unfold P4;exact ⟨SeqAt.RcAt.str_str c tc i t,SeqAt.RcNeAt.str_str c tc i t⟩
  | tup es=>obtain ⟨b,ys,z,s2,t2⟩:=q2.P8;subst z;cases r2;obtain ⟨ws,v2,p2,_⟩:=I.tuple s2;unfold P4;exact ⟨SeqAt.RcAt.str_tuple c tc (show s.heap.IsTuple b ws.toArray from p2) Tc,SeqAt.RcNeAt.str_tuple c tc (show s.heap.IsTuple b ws.toArray from p2) Tc⟩
 | tup ds =>
  obtain ⟨a,xs,z,s1,t1⟩:=q1.P8;subst z;cases r1;obtain ⟨us,v1,p1,_⟩:=I.tuple s1;have p1':s.heap.IsTuple a us.toArray:=p1
  cases e with
  | lst=>unfold QF at h2;cases h2
  | PJ=>have z:=q2.Qv;subst z;cases r2;unfold P4;exact ⟨SeqAt.RcAt.tuple_none p1' Tc,SeqAt.RcNeAt.tuple_none p1' Tc⟩
  | bl b=>have z:=q2.QL;subst z;cases r2;unfold P4;exact ⟨SeqAt.RcAt.tuple_bool b p1' Tc,SeqAt.RcNeAt.tuple_bool b p1' Tc⟩
  | int i=>have z:=q2.PY;subst z;obtain ⟨t,rfl⟩:=r2;unfold P4;exact ⟨SeqAt.RcAt.tuple_int i t p1' Tc,SeqAt.RcNeAt.tuple_int i t p1' Tc⟩
  | str i=>have z:=q2.Qd;subst z;obtain ⟨t,rfl⟩:=r2;unfold P4;exact ⟨SeqAt.RcAt.tuple_str i t p1' Tc,SeqAt.RcNeAt.tuple_str i t p1' Tc⟩
  | tup es =>obtain ⟨b,ys,z,s2,t2⟩:=q2.P8;subst z;cases r2;unfold dU at hn;unfold QF at h1 h2;unfold P4;exact oX (A:=A) (ds:=ds) (es:=es) I Tc n (λd e x y u w k1 k2 k3 k4 k5 k6 k7=>mD I n A.in1 d e x y u w (by rw [iG];lia) k1 k2 k3 k4 k5 k6 k7) (by lia) h1 h2 t1 t2 s1 s2
theorem EJ (I:Inv X pins σ H s) (n:Nat) (A:Around) (ds es:List D) (a b:Addr) (xs ys:List V) (hu:A.units+n+2 < cLine) (hn:Qa ds<=n) (h1:Qh ds=true) (h2:Qh es=true) (q1:P6 X.K H a xs) (q2:P6 X.K H b ys) (r1:PF X.K H ds xs) (r2:PF X.K H es ys) :
  SeqAt.RcAt A s (.ref a) (.ref b) (Qm ds es)/\SeqAt.RcNeAt A s (.ref a) (.ref b) (!Qm ds es):=by
 have Tc:A.units < cLine:=by lia
 obtain ⟨us,v1,p1,_⟩:=I.list q1;obtain ⟨ws,v2,p2,_⟩:=I.list q2;have e1:us.toArray.size=ds.length:=by rw [Mt,<- v1.length,r1.length]
 have e2:ws.toArray.size=es.length:=by rw [Mt,<- v2.length,r2.length]
 have hi:=j4 (X:=X) (H:=H) (s:=s) (A:=A.in1) n (λd e x y u w k1 k2 k3 k4 k5 k6 k7=>mD I n A.in1 d e x y u w (by rw [iG];lia) k1 k2 k3 k4 k5 k6 k7) hn h1 h2 r1 r2 v1 v2;by_cases hl:ds.length=es.length
 ·have hsz:us.toArray.size=ws.toArray.size:=by rw [e1,e2,hl]
  have p:=SeqAt.RcAt.lists p1.isList p2.isList hsz Tc hi;have p':=SeqAt.RcNeAt.lists p1.isList p2.isList hsz Tc hi;rw [e1,om hl] at p p';exact ⟨p,p'⟩
 ·have hsz:(us.toArray.size != ws.toArray.size)=true:=by rw [e1,e2];simpa using hl
  have z:Qm ds es=false:=by
   rw [<- eT];have:(ds.length == es.length)=false:=by simpa using hl
   rw [this,Bool.and_false]
  rw [z];exact ⟨SeqAt.RcAt.lists_lengths p1.isList p2.isList hsz Tc,SeqAt.RcNeAt.lists_lengths p1.isList p2.isList hsz Tc⟩
end
section
variable {X:Cx} {k:Nat}
noncomputable def zM (K:W.Frag) (neg:Bool):R2:=λx y H Q=>∃ d e,Dat K H d x/\Dat K H e y/\QF d=true/\QF e=true/\dU d<=20/\Q (.bl (if neg then !P4 d e else P4 d e)) H
theorem bJ (hr:P5 k X.A):QA X (compareOp .Eq) (zM X.K false):=by
 intro pins s σ H x y v u Q I rx ry h;obtain ⟨d,e,q1,q2,h1,h2,hn,q⟩:=h;have hu:X.A.units+19+2 < cLine:=by have:=hr.un;lia
 exact (EI I 19 X.A d e x y v u hu (by lia) h1 h2 q1 q2 rx ry).1 _ _ _ _ ⟨.bl _,H,I,rfl,q⟩
theorem cf (hr:P5 k X.A):QA X (compareOp .NotEq) (zM X.K true):=by
 intro pins s σ H x y v u Q I rx ry h;obtain ⟨d,e,q1,q2,h1,h2,hn,q⟩:=h;have hu:X.A.units+19+2 < cLine:=by have:=hr.un;lia
 exact (EI I 19 X.A d e x y v u hu (by lia) h1 h2 q1 q2 rx ry).2 _ _ _ _ ⟨.bl _,H,I,rfl,q⟩
noncomputable def zN (K:W.Frag) (neg:Bool):R2:=λx y H Q=>∃ a b xs ys ds es,x=.ref a/\y=.ref b/\P6 K H a xs/\P6 K H b ys/\PF K H ds xs/\PF K H es ys/\Qh ds=true/\Qh es=true/\Qa ds<=20/\Q (.bl (if neg then !Qm ds es else Qm ds es)) H
theorem bD (hr:P5 k X.A):QA X (compareOp .Eq) (zN X.K false):=by
 intro pins s σ H x y v u Q I rx ry h;obtain ⟨a,b,xs,ys,ds,es,ex,ey,q1,q2,r1,r2,h1,h2,hn,q⟩:=h;subst ex ey;cases rx;cases ry;have hu:X.A.units+20+2 < cLine:=by have:=hr.un;lia
 exact (EJ I 20 X.A ds es a b xs ys hu hn h1 h2 q1 q2 r1 r2).1 _ _ _ _ ⟨.bl _,H,I,rfl,q⟩
theorem cg (hr:P5 k X.A):QA X (compareOp .NotEq) (zN X.K true):=by
 intro pins s σ H x y v u Q I rx ry h;obtain ⟨a,b,xs,ys,ds,es,ex,ey,q1,q2,r1,r2,h1,h2,hn,q⟩:=h;subst ex ey;cases rx;cases ry;have hu:X.A.units+20+2 < cLine:=by have:=hr.un;lia
 exact (EJ I 20 X.A ds es a b xs ys hu hn h1 h2 q1 q2 r1 r2).2 _ _ _ _ ⟨.bl _,H,I,rfl,q⟩
theorem ui:QA X (compareOp .IsNot) (λx y H Q=>∃ a b,x=.bl a/\y=.bl b/\Q (.bl (a != b)) H):=by intro pins s σ H x y v u Q I rx ry h;obtain ⟨a,b,ex,ey,q⟩:=h;subst ex ey;cases rx;cases ry;exact PyProof.Rows.isnot_bool ⟨.bl _,H,I,rfl,q⟩
noncomputable def X8:D->String
 | .PJ=>"NoneType"
 | .bl _=>"bool"
 | .int _=>"int"
 | .str _=>"str"
 | .tup _=>"tuple"
 | .lst=>"list"
noncomputable def pV (d:D) (T:String):Bool:=X8 d == T || (X8 d == "bool" && T == "int")
theorem vj {T:String} (hk:∀ d:D,W.kitOne X.K (.type (X8 d)) (.type T)=some (pV d T)) :
  cZ X (.builtin "isinstance") (λxs H Q=>∃ x d,xs=[x,.ty T]/\Dat X.K H d x/\Q (.bl (pV d T)) H):=by
 intro pins s σ H xs us Q I r h;obtain ⟨x,d,e,q,h⟩:=h;subst e;obtain ⟨u,c,e,ru,rc⟩:=AK r;subst e;cases (show c=Value.type T from rc);have fin:∀ tk,EP X pins σ Q (.bool (pV d T)) { s with toks:=tk }:=λtk=>⟨.bl _,H,I.tok tk,rfl,h⟩
 have kd:=hk d
 cases d with
 | PJ=>have z:=q.Qv;subst z;cases ru;exact NS W.kitx_none I.QK True.intro kd (λz=>nomatch z) fin
 | bl b=>have z:=q.QL;subst z;cases ru;exact NS W.kitx_bool I.QK True.intro kd (λz=>nomatch z) fin
 | int i=>have z:=q.PY;subst z;obtain ⟨t,rfl⟩:=ru;exact NS W.kitx_int I.QK True.intro kd (λz=>nomatch z) fin
 | str y=>have z:=q.Qd;subst z;obtain ⟨t,rfl⟩:=ru;exact NS W.kitx_str I.QK True.intro kd (λz=>nomatch z) fin
 | tup ds =>obtain ⟨a,vs,z,sq,_⟩:=q.P8;subst z;cases ru;obtain ⟨its,_,⟨o,e1,e2,_⟩,_⟩:=I.tuple sq;exact NS W.kitx_tuple I.QK ⟨o,e1,e2⟩ kd (λz=>nomatch z) fin
 | lst =>obtain ⟨a,vs,z,sq⟩:=q.UR;subst z;cases ru;obtain ⟨its,_,⟨o,_,e1,e2,_⟩,_⟩:=I.list sq;exact NS W.kitx_list I.QK ⟨o,e1,e2⟩ kd (λz=>nomatch z) fin
end
noncomputable def gK (K:W.Frag) (a:Addr) (T:List (Str × KTD.Dat)):Prop:=∀ h:Heap,K.In h->KTD.TextTab h a T
section
variable {X:Cx}
theorem oO:QA X (compareOp .In) (λx y H Q=>∃ k a T,x=.str k/\y=.ref a/\gK X.K a T/\Q (.bl (KTD.inKeys k T)) H):=by intro pins s σ H x y v u Q I rx ry h;obtain ⟨k,a,T,ex,ey,t,q⟩:=h;subst ex ey;obtain ⟨tk,rfl⟩:=rx;cases ry;exact KTD.in_text (h₀:=s.heap) ⟨t _ I.QK,λ_ _ e=>e⟩ ⟨.bl _,H,I.tok _,rfl,q⟩
noncomputable def CO (K:W.Frag):R2:=λx y H Q=>∃ a k T i,x=.ref a/\y=.str k/\gK K a T/\(T.all λp=>KTD.plain p.2)=true/\KTD.datumAt k T=some (.flat (.int i))/\Q (.int i) H
theorem Wj:U5 X (CO X.K):=by
 intro value slice pins s σ H x y v u Q I rx ry h hs;obtain ⟨a,k,T,i,ex,ey,t,hp,hd,q⟩:=h;subst ex ey;obtain ⟨tk,rfl⟩:=ry;cases rx;have hm:KTD.inKeys k T=true:=by rw [<- Pe,hd];rfl
 refine KTD.item_textA (h₀:=s.heap) ⟨t _ I.QK,λ_ _ e=>e⟩ hp hm ?_ hs
 exact each T hd λv hv=>by obtain ⟨t',rfl⟩:=PyProof.V.Flat.int_inv hv;exact ⟨.int i,H,I.tok _,⟨t',rfl⟩,q⟩
where
 each {h:Heap} {k:Str} {P:Value->Prop} {i:Int}:∀ (T:List (Str × KTD.Dat)),KTD.datumAt k T=some (.flat (.int i))->(∀ v,PyProof.V.Flat v (.int i)->P v)->KTD.EachL h k P T
  | [],hd,_=>by simp [KTD.datumAt] at hd
  | (x,d)::T,hd,hP=>by
   have hd':(if decide (k=x)=true then some d else KTD.datumAt k T)=some (.flat (.int i)):=hd
   by_cases hx:k=x
   ·rw [MF (N2 hx)] at hd'
    cases hd'
    refine KTD.eachL_hit hx ?_
    exact opened hP
   ·rw [Mz (by simp [hx])] at hd'
    exact KTD.eachL_miss hx (each T hd' hP)
 opened {h:Heap} {P:Value->Prop} {i:Int} (hP:∀ v,PyProof.V.Flat v (.int i)->P v):KTD.Opened h P (.flat (.int i)):=by
  first
   | exact KTD.opened_int λt=>hP _ (PyProof.V.Flat.int i t)
   | exact λt=>hP _ (PyProof.V.Flat.int i t)
end
section
variable {K:W.Frag} {H H' H2:Hp}
variable {a:Addr} {xs:List V}
theorem PM.VX (e:PM H H') (h:Qq K H a xs):Qq K H' a xs:=by
 rcases h with (h | ⟨o,h⟩) | h
 ·exact .inl (.inl (e _ _ h))
 ·exact .inl (.inr ⟨o,e _ _ h⟩)
 ·exact .inr h
theorem PM.grow (e:PM H H'):rX K H H':=⟨λ_ _ h=>e.VX h,λ_ xs h=>⟨xs,e.seq h⟩⟩
theorem PM.dat {d:D} {v:V} (e:PM H H') (h:Dat K H d v):Dat K H' d v:=Dat.mono e.grow d h
theorem PM.Us {ds:List D} {vs:List V} (e:PM H H') (h:PF K H ds vs):PF K H' ds vs:=PF.mono e.grow ds h
theorem bz {p:Addr} (h:H p=none) (o:HO):PM H (upd H p o):=λb u q=>by rw [aE (aV q h)];exact q
noncomputable def RN (t:Addr) (H H':Hp):Prop:=∀ b o,b≠t->H b=some o->H' b=some o
variable {t:Addr}
theorem PM.but (e:PM H H'):RN t H H':=λb o _ h=>e b o h
theorem RN.trans (a:RN t H H') (b:RN t H' H2):RN t H H2:=λc o n h=>b c o n (a c o n h)
theorem RN.upd {o:HO} (a:RN t H H'):RN t H (upd H' t o):=λb u n h=>by rw [aE n];exact a b u n h
variable {zs:List V}
theorem RN.VX (e:RN t H H') (ht:H t=some (.lst zs)) (h:Qq K H a xs):Qq K H' a xs:=by
 rcases h with (h | ⟨o,h⟩) | h
 ·exact .inl (.inl (e _ _ (λz=>by rw [z,ht] at h;cases h) h))
 ·exact .inl (.inr ⟨o,e _ _ (λz=>by rw [z,ht] at h;cases h) h⟩)
 ·exact .inr h
theorem RN.Q9 (e:RN t H H') (n:a≠t) (h:P6 K H a xs):P6 K H' a xs:=by
 rcases h with (h | ⟨o,h⟩) | h
 ·exact .inl (.inl (e _ _ n h))
 ·exact .inl (.inr ⟨o,e _ _ n h⟩)
 ·exact .inr h
theorem RN.grow {zs':List V} (e:RN t H H') (ht:H t=some (.lst zs)) (ht':H' t=some (.lst zs')):rX K H H' :=
 ⟨λ_ _ h=>e.VX ht h,λa xs h=>by
  by_cases n:a=t
  ·subst n;exact ⟨zs',P6.of ht'⟩
  ·exact ⟨xs,e.Q9 n h⟩⟩
end
section
variable {K:W.Frag}
theorem BX (d:D):W.kitOne K (.type (X8 d)) (.type "str")=some (pV d "str"):=by cases d <;> rfl
end
noncomputable def spD (K:W.Frag) (R:List D->D->Prop):Sp:=λvs H Q _=>∃ ds d,PF K H ds vs/\R ds d/\∀ v H',PM H H'->Dat K H' d v->Q v H'
theorem Dq {a:D} {vs:List V} (h:PF K H [a] vs):∃ u,vs=[u]/\Dat K H a u:=by obtain ⟨u,r,e,h1,h⟩:=h.PL;have z:=h.Qp;subst z e;exact ⟨u,rfl,h1⟩
variable {σ:St} {j:Nat}
theorem nk {z:Option V} {x:Option V}:(σ.set j z).set j x=σ.set j x:=by rw [List.set_set]
variable {J:It} {item:Nat->V} {te:TE} {σ0:St} {Q:VK}
theorem pF (Ok:Hp->Prop)
  (go:∀ i H',Ok H'->i < n->J.go i H'/\∀ x QS,J.VE i H' x QS->QS=H'/\x=item i) (stop:∀ H',Ok H'->J.stop n H') (h0:σ0.set j none=σ0)
  (D:Addr) (Pn:Nat->Hp->Prop) (p0:Pn 0 (upd H1 D (.lst []))) (ok:∀ i H',i<=n->Pn i H'->Ok H')
  (turn:∀ i H',i < n->Pn i H'->te (σ0.set j (some (item i))) H' λv H4=>∃ ys,H4 D=some (.lst ys)/\ys.length < sizeLine/\(∃ z,σ0.set j (some (item i))=σ0.set j z)/\Pn (i+1) (upd H4 D (.lst (ys++[v]))))
  (fin:∀ H',Pn n H'->Q (.ref D) H') :
  ∃ W:Nat->Nat->St->Hp->Prop,(∃ m,W 0 m σ0 (upd H1 D (.lst [])))/\∀ i m σ' H',W i m σ' H' ->
   (J.stop i H'/\Q (.ref D) H') \/
   (J.go i H'/\∃ Nx:St->Hp->Prop,(∀ σ'' QS,Nx σ'' QS->∃ m',m' < m/\W (i+1) m' σ'' QS)/\∀ x QS,J.VE i H' x QS->ff j x σ' QS λσ2 H2=>o5 σ2 H2 λb H3 =>
    if b=true then te σ2 H3 λv H4=>∃ ys,H4 D=some (.lst ys)/\ys.length < sizeLine/\Nx σ2 (upd H4 D (.lst (ys++[v]))) else Nx σ2 H3):=by
 refine ⟨λi m σ' H'=>m=n - i/\i<=n/\(∃ z,σ'=σ0.set j z)/\Pn i H',⟨n,by lia,Nd _,⟨none,h0.symm⟩,p0⟩,?_⟩;rintro i m σ' H' ⟨rfl,hi,⟨z,rfl⟩,p⟩;have o:=ok i H' hi p;by_cases hlt:i < n
 ·obtain ⟨g,y⟩:=go i H' o hlt;refine .inr ⟨g,λσ'' QS=>(∃ z,σ''=σ0.set j z)/\Pn (i+1) QS,λσ'' QS q=>⟨n - (i+1),by lia,rfl,hlt,q.1,q.2⟩,λx QS yx=>?_⟩;obtain ⟨e1,e2⟩:=y x QS yx;subst e1 e2;simp only [ff,o5,OR,nk];exact turn i _ hlt p
 ·have e:i=n:=by lia
  subst e;exact .inl ⟨stop H' o,fin H' p⟩
section
variable {X:Cx}
noncomputable def EA (K:W.Frag):V->V->Hp->VK->Prop:=λo i H Q=>∃ p xs k v,o=.ref p/\i=.int k/\0<=k/\P6 K H p xs/\xs[k.toNat]?=some v/\Q v H
theorem wm:Dj X (EA X.K):=by intro pins s σ H o i ov iv Q I r1 r2 h;obtain ⟨p,xs,k,v,eo,ei,h0,hq,he,q⟩:=h;subst eo ei;cases r1;obtain ⟨t,rfl⟩:=r2;obtain ⟨its,r,pl,hz⟩:=I.list hq;obtain ⟨w,ew,rw'⟩:=r.get he;have hl:=r.length;have hlt:k.toNat < xs.length:=(Mk.mp he).1;have hn:=fJ;exact wpAny_getItem_list pl.isList h0 (by lia) (by simpa using ew) ⟨v,H,I,rw',q⟩
theorem zt:QA X (binaryOp .Mult) (rI IntMulOk λi j=>.int (i * j)):=Xd λ_ _ _ _ _ _ _ hc q=>mul_int q hc
end
theorem rf (h:j < n):Up n (j:Int)=some j:=by unfold Up;rw [MF (by lia),MF (by lia)];simp
theorem at0 {α:Type} {x:α} {r:List α}:Uk (x::r) 0=some x:=fW (j:=0) rfl
theorem YK {α:Type} {x y:α} {r:List α}:Uk (x::y::r) 1=some y:=fW (j:=1) rfl
theorem ix0:Up (n+1) 0=some 0:=rf (j:=0) (by lia)
theorem ZO:Up (n+2) 1=some 1:=rf (j:=1) (by lia)
theorem lH:∀ ns:List Int,PF K H (ns.map D.int) (ns.map V.int)
 | []=>PF.nil
 | n::ns=>PF.cons (Dat.Ur n) (lH ns)
theorem lO:∀ ns:List Int,Qh (ns.map D.int)=true
 | []=>by unfold Qh;rfl
 | n::ns=>by show Qh (D.int n::ns.map D.int)=true;unfold Qh;rw [lO ns];unfold QF;rfl
theorem jh:∀ ns:List Int,Qa (ns.map D.int)=0
 | []=>by unfold Qa;rfl
 | n::ns=>by show Qa (D.int n::ns.map D.int)=0;unfold Qa;rw [jh ns];unfold dU;rfl
theorem v9 (ns:List Int):Qm (ns.map D.int) []=ns.isEmpty:=by
 cases ns with
 | nil=>unfold Qm;rfl
 | cons n ns=>show Qm (D.int n::ns.map D.int) []=false;unfold Qm;rfl
theorem xT (h:n<=1000):n<=sizeLine:=NP (l6 h)
noncomputable def Vk (K:W.Frag) (H:Hp) (a:Addr) (ns:List Int):Prop:=(∃ o,H a=some (.U4 o (.lst (ns.map V.int)))) \/
 ∃ (o:Obj) (its:Array Value) (n:Nat),K.lookup a=some o/\o.cls=.type "list"/\o.dict=none/\o.data=.seq its n/\its.size<=sizeLine/\Vals (ns.map V.int) its.toList
theorem Vk.Q9 (h:Vk K H a ns):P6 K H a (ns.map V.int):=by
 rcases h with ⟨o,h⟩ | h
 ·exact .inl (.inr ⟨o,h⟩)
 ·exact .inr h
theorem Vk.but {t:Addr} {zs:List V} (h:Vk K H a ns) (e:RN t H H') (ht:H t=some (.lst zs)):Vk K H' a ns:=by
 rcases h with ⟨o,h⟩ | h
 ·exact .inl ⟨o,e _ _ (λz=>by rw [z,ht] at h;cases h) h⟩
 ·exact .inr h
theorem CY (hO:yo H) (h:P6 K H a (ns.map V.int)):Vk K H a ns:=by
 rcases h with (h | ⟨o,h⟩) | h
 ·rcases hO a with z | ⟨o,xs,z⟩
  ·rw [h] at z;cases z
  ·rw [h] at z;cases z
 ·exact .inl ⟨o,h⟩
 ·exact .inr h
noncomputable def xU (K:W.Frag):Sp:=λvs H Q _=>∃ (a t:Addr) (ns:List Int) (m p q:Int) (rest:List V),vs=[.ref a,.ref t,.int m]/\Vk K H a ns/\H t=some (.lst (.int p::.int q::rest))/\0<=p/\0 < m/\m<=1000000 /\
 ∀ (r:Int) (H':Hp) (p' q':Int),RN t H H'->H' t=some (.lst (.int p'::.int q'::rest))->0<=p'->0<=r->r < m->Q (.int r) H'
noncomputable def RE (K:W.Frag) (t:TE) (σ:St) (H:Hp) (d:D):Prop:=∀ H1,PM H H1->∀ Q:VK,(∀ v H',PM H1 H'->Dat K H' d v->Q v H')->t σ H1 Q
noncomputable def RT (t:TT) (σ:St) (H:Hp) (b:Bool):Prop:=∀ H1,PM H H1->∀ Q:Bool->Hp->Prop,(∀ H',PM H1 H'->Q b H')->t σ H1 Q
noncomputable def RA (K:W.Frag) (t:TA) (σ:St) (H:Hp) (ds:List D):Prop:=∀ H1,PM H H1->∀ Q:List V->Hp->Prop,(∀ vs H',PM H1 H'->PF K H' ds vs->Q vs H')->t σ H1 Q
section
variable {K:W.Frag} {σ:St} {H H':Hp} {d d':D} {ds:List D} {t u ta tb:TE} {tt uu:TT} {tA:TA} {i j:Int} {b c:Bool}
theorem RE.mono (h:RE K t σ H d) (e:PM H H'):RE K t σ H' d:=λH1 s Q q=>h H1 (e.trans s) Q q
theorem RE.as (h:RE K t σ H d) (e:d=d'):RE K t σ H d':=e ▸ h
theorem RT.as (h:RT tt σ H b) (e:b=c):RT tt σ H c:=e ▸ h
theorem RE.use {Q:VK} (h:RE K t σ H d) (q:∀ v H',PM H H'->Dat K H' d v->Q v H'):t σ H Q:=h H (PM.refl H) Q q
theorem RT.use {Q:Bool->Hp->Prop} (h:RT tt σ H b) (q:∀ H',PM H H'->Q b H'):tt σ H Q:=h H (PM.refl H) Q q
theorem RA.use {Q:List V->Hp->Prop} (h:RA K tA σ H ds) (q:∀ vs H',PM H H'->PF K H' ds vs->Q vs H'):tA σ H Q:=h H (PM.refl H) Q q
theorem iO:RE K (tC (.int i)) σ H (.int i):=λH1 _ Q q=>q _ _ (PM.refl _) (Dat.Ur i)
theorem iP {x:Str}:RE K (tC (.str x)) σ H (.str x):=λH1 _ Q q=>q _ _ (PM.refl _) (Dat.Vh x)
theorem AE:RE K (tC (.bl b)) σ H (.bl b):=λH1 _ Q q=>q _ _ (PM.refl _) (Dat.Vi b)
theorem ku {k:Nat} {v:V} (h:Dat K H d v) (e:σ[k]?=some (some v):=by rfl):RE K (eO k) σ H d:=λH1 s Q q=>⟨v,e,q _ _ (PM.refl _) (s.dat h)⟩
theorem b4:RA K dP σ H []:=λH1 _ Q q=>q _ _ (PM.refl _) PF.nil
theorem ay (h:RE K t σ H d) (r:RA K tA σ H ds):RA K (bh t tA) σ H (d::ds):=λH1 s Q q =>
 h H1 s _ λv H2 s2 q2=>r H2 (s.trans s2) _ λvs H3 s3 q3=>q _ _ (s2.trans s3) (PF.cons (s3.dat q2) q3)
theorem mZ (h:RA K tA σ H ds) (hl:ds.length<=1000:=by simp):RE K (z8 tA) σ H (.tup ds):=λH1 s Q q =>
 h H1 s _ λvs H2 s2 q2=>⟨by rw [<- q2.length];exact xT hl,λp hp=>q _ _ (s2.trans (bz hp _)) (Dat.tupI (Qq.of aF) ((bz hp _).Us q2))⟩
theorem mY (h1:RE K ta σ H (.int i)) (h2:RE K tb σ H (.int j)):RE K (Vf ZH ta tb) σ H (.bl (!decide (i=j))):=λH1 s Q q =>
 h1 H1 s _ λv H2 s2 q2=>h2 H2 (s.trans s2) _ λw H3 s3 q3=>by
  rw [q2.PY,q3.PY];refine ⟨rfl,?_⟩;have e:decide (V.int i=V.int j)=decide (i=j):=by by_cases z:i=j <;> simp [z]
  rw [e];exact q _ _ (s2.trans s3) (Dat.Vi _)
theorem xN {T:String} (h:RE K t σ H d):RE K (Wc (λxs H Q=>∃ x d,xs=[x,.ty T]/\Dat K H d x/\Q (.bl (pV d T)) H) (bh t (bh (tC (.ty T)) dP))) σ H (.bl (pV d T)):=λH1 s Q q =>
 h H1 s _ λv H2 s2 q2=>⟨v,d,rfl,q2,q _ _ s2 (Dat.Vi _)⟩
theorem xM {p r:Int->Int->Bool} {k:Int} {tc:TE} (h1:RE K ta σ H (.int i)) (h2:RE K tb σ H (.int j)) (h3:p i j=true->RE K tc σ H (.int k)) :
  RE K (Q8 (Tz λi j=>.bl (p i j)) (Tz λi j=>.bl (r i j)) ta tb tc) σ H (.bl (p i j && r j k)):=λH1 s Q q =>
 h1 H1 s _ λv H2 s2 q2=>h2 H2 (s.trans s2) _ λw H3 s3 q3=>by
  refine ⟨i,j,q2.PY,q3.PY,p i j,rfl,?_⟩
  cases hp:p i j with
  | true =>simp only [OR,Bool.true_and];exact h3 hp H3 (s.trans (s2.trans s3)) _ λz H4 s4 q4=>⟨j,k,q3.PY,q4.PY,q _ _ (s2.trans (s3.trans s4)) (by rw [hp];exact Dat.Vi _)⟩
  | false =>simp only [Pd,Pu,O5];exact q _ _ (s2.trans s3) (by rw [hp];exact Dat.Vi _)
theorem iq (h:RE K t σ H (.bl b)):RT (RJ t) σ H b:=λH1 s Q q=>h H1 s _ λv H2 s2 q2=>⟨b,q2.QL,q _ s2⟩
theorem eI (h:RE K t σ H (.bl b)):RT (λσ H Q=>t σ H λx H'=>∃ k,uP K x H' k/\Q k H') σ H b:=λH1 s Q q=>h H1 s _ λv H2 s2 q2=>by rw [q2.QL];exact ⟨b,rfl,q _ s2⟩
theorem gH (h:RT tt σ H b):RT (EW tt) σ H (!b):=λH1 s Q q=>h H1 s _ λH2 s2=>q _ s2
theorem lV (h:RT tt σ H b) (h2:b=false->RT uu σ H c):RT (ZE tt uu) σ H (b || c):=λH1 s Q q=>h H1 s _ λH2 s2=>by
 cases b with
 | true=>rw [MF rfl];exact q _ s2
 | false=>rw [Mz Mx];exact h2 rfl H2 (s.trans s2) _ λH3 s3=>q _ (s2.trans s3)
variable {En:Ends}
theorem gG (h:RE K t σ H d) (q:∀ v H',PM H H'->Dat K H' d v->En.rt v H'):xW t En σ H:=h.use q
theorem EK {ts us:TS} (h:RT tt σ H b) (h1:b=true->∀ H',PM H H'->ts En σ H') (h2:b=false->∀ H',PM H H'->us En σ H'):C2 tt ts us En σ H:=h.use λH' s=>by
 cases b with
 | true=>rw [MF rfl];exact h1 rfl H' s
 | false=>rw [Mz Mx];exact h2 rfl H' s
end
theorem bb:bootBuiltins "len"=some (.builtin "len"):=by decide +kernel
theorem aB:bootBuiltins "isinstance"=some (.builtin "isinstance"):=by decide +kernel
theorem fB:bootBuiltins "all"=some (.builtin "all"):=by decide +kernel
theorem AV:bootBuiltins "any"=some (.builtin "any"):=by decide +kernel
theorem AX:bootBuiltins "sum"=some (.builtin "sum"):=by decide +kernel
theorem uX:bootBuiltins "int"=some (.type "int"):=by decide +kernel
theorem yp:bootBuiltins "bool"=some (.type "bool"):=by decide +kernel
theorem uZ:bootBuiltins "str"=some (.type "str"):=by decide +kernel
theorem cq:bootBuiltins "tuple"=some (.type "tuple"):=by decide +kernel
theorem eQ:bootBuiltins "list"=some (.type "list"):=by decide +kernel
theorem uY:bootBuiltins "range"=some (.type "range"):=by decide +kernel
theorem AW:bootBuiltins "set"=some (.type "set"):=by decide +kernel
theorem mj:bootBuiltins "enumerate"=some (.type "enumerate"):=by decide +kernel
theorem vc:bootBuiltins "zip"=some (.type "zip"):=by decide +kernel
theorem nF:bootBuiltins "reversed"=some (.type "reversed"):=by decide +kernel
theorem kQ:bootBuiltins "ValueError"=some (.type "ValueError"):=by decide +kernel
variable {tA:TA} {ds:List D}
theorem kA (h:RA K tA σ H ds) (q:∀ p vs H1,PM H H1->H1 p=none->PF K H1 ds vs->Q (.ref p) (upd H1 p (.lst vs))) (hl:ds.length<=1000:=by simp):qI tA σ H Q :=
 h.use λvs H1 s1 q1=>⟨by rw [<- q1.length];exact xT hl,λp hp=>q p vs H1 s1 hp q1⟩
theorem su {K:PySem.W.Frag} (go:∀ i H',PM H1 H'->i < n->J.go i H'/\∀ x QS,J.VE i H' x QS->QS=H'/\x=item i) (stop:∀ H',PM H1 H'->J.stop n H')
  (h0:σ0.set j none=σ0) (es:List D) (hn:es.length=n) (hb:n<=1000) (turn:∀ i d,es[i]?=some d->RE K te (σ0.set j (some (item i))) H1 d)
  (fin:∀ l ys H',H1 l=none->PM H1 H'->H' l=some (.lst ys)->PF K H' es ys->Q (.ref l) H') (l:Addr) (hl:H1 l=none) :
  ∃ W:Nat->Nat->St->Hp->Prop,(∃ m,W 0 m σ0 (upd H1 l (.lst [])))/\∀ i m σ' H',W i m σ' H' ->
   (J.stop i H'/\Q (.ref l) H') \/
   (J.go i H'/\∃ Nx:St->Hp->Prop,(∀ σ'' QS,Nx σ'' QS->∃ m',m' < m/\W (i+1) m' σ'' QS)/\∀ x QS,J.VE i H' x QS->ff j x σ' QS λσ2 H2=>o5 σ2 H2 λb H3 =>
    if b=true then te σ2 H3 λv H4=>∃ ys,H4 l=some (.lst ys)/\ys.length < sizeLine/\Nx σ2 (upd H4 l (.lst (ys++[v]))) else Nx σ2 H3):=by
 refine pF (λH'=>PM H1 H') go stop h0 l (λi H'=>PM H1 H'/\∃ ys,H' l=some (.lst ys)/\PF K H' (es.take i) ys) ?_ ?_ ?_ ?_
 ·exact ⟨bz hl _,[],aF,by rw [List.take_zero];exact PF.nil⟩
 ·intro i H' _ p;exact p.1
 ·intro i H' hi ⟨s1,ys,hy,hd⟩;have hi':i < es.length:=by lia
  refine ((turn i es[i] (Ms hi')).mono s1).use λv H4 s4 q4=>?_;have ZP:=s4 _ _ hy;have lys:ys.length=i:=by rw [<- hd.length,N3];lia
  refine ⟨ys,ZP,l6 (by lia),⟨_,rfl⟩,λb o hb=>?_,ys++[v],aF,?_⟩
  ·rw [aE (aV hb hl)];exact s4 _ _ (s1 _ _ hb)
  ·have g:rX K H4 (upd H4 l (.lst (ys++[v]))):=RN.grow (t:=l) (RN.upd (PM.refl H4).but) ZP aF;rw [List.take_add_one,Ms hi'];exact PF.append (PF.mono g _ (s4.Us hd)) (PF.cons (Dat.mono g _ q4) PF.nil)
 ·intro H' ⟨s1,ys,hy,hd⟩;rw [NO (by lia)] at hd;exact fin l ys H' hl s1 hy hd
variable {En:Ends} {us:TS}
theorem iQ {K:W.Frag} {tt:TT} {b:Bool} {ts:TS} (h:RT tt σ H b) (h1:b=true->∀ H',PM H H'->ts { En with nx:=us En } σ H') (h2:b=false->∀ H',PM H H'->us En σ H'):bK (C2 tt ts AI) us En σ H :=
 EK h h1 h2
theorem ng {k:Nat} (h:te σ H λx H1=>us En (σ.set k (some x)) H1):bK (RI te (ff k)) us En σ H:=h
theorem AC {ta:TE} {r:List V->Hp->VK->Prop} (h:ta σ H λx H1=>r [x] H1 Q):Wc r (bh ta dP) σ H Q:=h
theorem cI {G:Hp} {es:List D} (h:RA K tA σ G es) (hl:G l=some (.lst xs)) (hx:xs.length<=900)
  (q:∀ ys G',RN l G G'->G' l=some (.lst (xs++ys))->PF K G' es ys->us En σ G') (hv:σ[j]?=some (some (.ref l)):=by rfl) (he:es.length<=100:=by simp):bK (AH (X5 K "list" mW (eO j) (bh (qI tA) dP))) us En σ G:=by
 refine ⟨_,hv,.inl ⟨rfl,_,P6.of hl⟩,?_⟩;refine kA h (λp vs H1 s1 hp q1=>?_) (by lia);have hlp:l≠p:=aV (s1 _ _ hl) hp;have hl1:upd H1 p (.lst vs) l=some (.lst xs):=by rw [aE hlp];exact s1 _ _ hl
 have lv:=q1.length;refine ⟨l,p,xs,vs,rfl,rfl,hl1,aF,xT (by lia),?_⟩;have b:RN l (upd H1 p (.lst vs)) (upd (upd H1 p (.lst vs)) l (.lst (xs++vs))):=RN.upd (PM.refl _).but;have g:rX K (upd H1 p (.lst vs)) (upd (upd H1 p (.lst vs)) l (.lst (xs++vs))):=b.grow hl1 aF;exact q vs _ ((s1.trans (bz hp _)).but.trans b) aF (PF.mono g _ ((bz hp _).Us q1))
noncomputable def dw:Expr->Bool
 | .Starred ..=>false
 | _=>true
variable {e:Expr} {es:List Expr}
theorem uC (h:dw e=true):starEach (e::es) env=(false,eval e env)::starEach es env:=by cases e <;> first | rfl | cases h
theorem a9 {t:TA} (ha:PE X e te) (hr:PA X es t) (h:dw e=true:=by rfl):PA X (e::es) (bh te t):=aX ha hr (uC h)
theorem kP {bs:List Bool} {us:List Value}:Vals (bs.map V.bl) us->us=bs.map Value.bool:=by
 intro h
 induction bs generalizing us with
 | nil=>cases h;rfl
 | cons b bs ih =>
  cases h with
  | cons r t=>cases r;rw [ih t];rfl
theorem xI (bs:List Bool) (d:Bool):(List.range bs.length).map (λi=>(bs[i]?).getD d)=bs:=by
 apply List.ext_getElem
 ·simp
 ·intro i h1 h2;simp at h1;simp [h1]
section
variable {X:Cx}
theorem dk (hc:X.calm=true):cZ X (.builtin "all") (λxs H Q=>∃ (l:Addr) (bs:List Bool),xs=[.ref l]/\P6 X.K H l (bs.map V.bl)/\Q (.bl (bs.all id)) H):=by
 intro pins s σ H xs us Q I r h;obtain ⟨l,bs,rfl,hq,q⟩:=h;obtain ⟨u,rfl,ru⟩:=cH r;cases ru;obtain ⟨its,rv,p,hz⟩:=I.list hq;have ei:=kP rv;have hl:=p.isList;have hlt:l < s.heap.objs.size:=by obtain ⟨_,e,_⟩:=hl;exact Mr e
 refine call_all_walk (Nb hl ?_)
 refine ⟨s.heap.objs.size,[s.heap.objs.size,l],[s.heap.objs.size],its.toArray.size,_,_,λi=>(bs[i]?).getD true,rfl,Walks.list (A:=X.A.in1) (I.ok.hd hc) _ l (Mv hlt) its.toArray,
  ⟨⟨_,MI _ rfl,rfl,rfl⟩,hl.push _⟩,λi v s' Q' E' hP hQ=>?_,λh' tk hk=>?_⟩
 ·subst ei;have Vl:(bs.map Value.bool)[i]?=some v:=by simpa using hP
  rw [MH] at Vl
  cases hb:bs[i]? with
  | none=>rw [hb] at Vl;cases Vl
  | some b =>rw [hb] at Vl;cases Vl;simp only [hb,Option.getD_some] at hQ;exact M6 hQ
 ·have e:((List.range its.toArray.size).all λi=>(bs[i]?).getD true)=bs.all id:=by
   subst ei;rw [Mt,MK]
   conv=>rhs;rw [<- xI bs true]
   rw [List.all_map];rfl
  rw [e];exact ⟨.bl _,H,I.kept (t':=tk) λb x e=>hk b x (λhm=>by rw [MS.mp hm] at e;exact Nq _ (Mr e)) (LD _ e),rfl,q⟩
theorem vh (hc:X.calm=true):cZ X (.builtin "any") (λxs H Q=>∃ (l:Addr) (bs:List Bool),xs=[.ref l]/\P6 X.K H l (bs.map V.bl)/\Q (.bl (bs.any id)) H):=by
 intro pins s σ H xs us Q I r h;obtain ⟨l,bs,rfl,hq,q⟩:=h;obtain ⟨u,rfl,ru⟩:=cH r;cases ru;obtain ⟨its,rv,p,hz⟩:=I.list hq;have ei:=kP rv;have hl:=p.isList;have hlt:l < s.heap.objs.size:=by obtain ⟨_,e,_⟩:=hl;exact Mr e
 refine call_any_walk (Nb hl ?_)
 refine ⟨s.heap.objs.size,[s.heap.objs.size,l],[s.heap.objs.size],its.toArray.size,_,_,λi=>(bs[i]?).getD false,rfl,Walks.list (A:=X.A.in1) (I.ok.hd hc) _ l (Mv hlt) its.toArray,
  ⟨⟨_,MI _ rfl,rfl,rfl⟩,hl.push _⟩,λi v s' Q' E' hP hQ=>?_,λh' tk hk=>?_⟩
 ·subst ei;have Vl:(bs.map Value.bool)[i]?=some v:=by simpa using hP
  rw [MH] at Vl
  cases hb:bs[i]? with
  | none=>rw [hb] at Vl;cases Vl
  | some b =>rw [hb] at Vl;cases Vl;simp only [hb,Option.getD_some] at hQ;exact M6 hQ
 ·have e:((List.range its.toArray.size).any λi=>(bs[i]?).getD false)=bs.any id:=by
   subst ei;rw [Mt,MK]
   conv=>rhs;rw [<- xI bs false]
   rw [List.any_map];rfl
  rw [e];exact ⟨.bl _,H,I.kept (t':=tk) λb x e=>hk b x (λhm=>by rw [MS.mp hm] at e;exact Nq _ (Mr e)) (LD _ e),rfl,q⟩
end
section
variable {P:Program} {w:World} {K:W.Frag} {mg:Str->Option Value} {base:Heap}
end
section
variable {K:W.Frag} {σ:St} {H H':Hp} {d d':D} {ds:List D} {t u ta tb:TE} {tt uu:TT} {tA:TA} {i j:Int} {b c:Bool}
theorem lG:∀ {bs:List Bool} {vs:List V},PF K H (bs.map D.bl) vs->vs=bs.map V.bl
 | [],vs,h=>by rw [PF.Qp h];rfl
 | b::bs,vs,h=>by obtain ⟨v,r,e,h1,h2⟩:=h.PL;rw [e,h1.QL,lG h2];rfl
end
section
variable {X:Cx}
theorem wY:QA X (compareOp .LtE) (λx y H Q=>∃ i j:Str,x=.str i/\y=.str j/\Q (.bl (!decide (j.cps.toList < i.cps.toList))) H):=by intro pins s σ H x y v u Q I rx ry h;obtain ⟨i,j,rfl,rfl,q⟩:=h;obtain ⟨t,rfl⟩:=rx;obtain ⟨t',rfl⟩:=ry;refine PySem.P.le_str ?_;exact ⟨.bl _,H,I,rfl,q⟩
noncomputable def YL (x:Str):It:=⟨λi _=>i < x.cps.size,λi H v H'=>H'=H/\∃ c,x.cps[i]?=some c/\v=.str ⟨#[c]⟩,λi _=>i=x.cps.size⟩
theorem ma {P:Program} {w:World} {K:PySem.W.Frag} {tg:Expr} {it:Addr} {n:String} {x:Str} {t:Tok} (hn:["enumerate","zip","dict_itemiterator","dict_reverseitemiterator","odict_iterator","itertools.zip_longest","itertools.pairwise"].contains n=false)
  (W:∀ A:Around,A.handled=none->Walks P w A it [it] [it] x.cps.size (SignAt x) (λi h=>h.IsStrIter it n x t i))
  (self:∀ (A:Around) (i:Nat) (s:Shared) (Q:Value->Shared->Prop) (E:Value->Shared->Prop),s.heap.IsStrIter it n x t i->Q (.ref it) s->wpAny (model P w) A (pyIter (.ref it)) Q E s) :
  iD P w K tg (YL x) [it] it (λi h=>h.IsStrIter it n x t i) where
 mem:=by simp
 obj:=λi h st b hb=>by
  have e:b=it:=by simpa using hb
  subst e;obtain ⟨o,e,c,d⟩:=st;exact ⟨o,e,λv z=>by rw [d] at z;cases z⟩
 keep:=λi h h' st k=>by obtain ⟨o,e,r⟩:=st;exact ⟨o,k it (by simp) o e,r⟩
 item:=by intro X hP hw hK hc i pins s σ H E I hf st hg;subst hP hw hK;obtain ⟨f0,f1,f2,f3,f4,f5⟩:=hf it (by simp);refine (W X.A (I.ok.hd hc)).item i s _ _ hg st λv h' tk hv st' kk=>?_;obtain ⟨c,u,hx,rfl⟩:=hv;have I1:Inv X pins σ H { s with heap:=h',toks:=tk }:=I.turned (λb o hb e=>kk b o (by simpa using hb) e) f0 f1 f3 f4 f5;obtain ⟨o,e,cc,d⟩:=id st';exact ⟨_,rfl,ou (s:={ s with heap:=h',toks:=tk }) e cc d hn ⟨.str ⟨#[c]⟩,H,I1,⟨u,rfl⟩,⟨rfl,c,hx,rfl⟩,st',λb hb=>(hf b hb).1⟩⟩
 done:=by intro X hP hw hK hc i pins s σ H E I hf st hg;subst hP hw hK;obtain ⟨f0,f1,f2,f3,f4,f5⟩:=hf it (by simp);have hg':i=x.cps.size:=hg;subst hg';exact (W X.A (I.ok.hd hc)).done s _ _ st λh' tk eb=>⟨rfl,I.turned (λb o hb e=>eb b o (by simpa using hb) e) f0 f1 f3 f4 f5⟩
 self:=self
variable {tg:Expr}
noncomputable def D6 (tl:TE):TI:=λσ H R=>tl σ H λv H1=>∃ x,v=.str x/\R (YL x) H1
theorem Cu {l:Expr} {tl:TE} (hl:PE X l tl):PI X tg l (D6 tl):=by
 intro pins s σ H R I h;refine PR (hl pins s σ H _ I h) λv s1 ⟨xv,H1,I1,r1,q1⟩=>?_;obtain ⟨x,e,q⟩:=q1;subst e;obtain ⟨t,rfl⟩:=r1
 have fin:∀ (o:Obj) (n:String),iD X.prog X.w X.K tg (YL x) [s1.heap.objs.size] s1.heap.objs.size (λi h=>h.IsStrIter s1.heap.objs.size n x t i)->(s1.heap.push o).IsStrIter s1.heap.objs.size n x t 0->YA X pins σ tg R (.ref s1.heap.objs.size) { s1 with heap:=s1.heap.push o }:=by
  intro o n T st;refine ⟨s1.heap.objs.size,[s1.heap.objs.size],_,_,H1,rfl,I1.kept (t':=s1.toks) λb o e=>LD _ e,T,st,λb hb=>?_,q⟩;have e:b=s1.heap.objs.size:=by simpa using hb
  subst e;exact I1.Te (Mu _) (I1.hok.fresh (Mu _))
 cases ha:x.cps.all (· < 128)
 ·exact wpAny_pyIter_wide ha (fin _ "str_iterator" (ma (by decide) (λA hA=>Walks.strWide hA _ x t) λA i s Q E st q=>wpAny_pyIter_striter_wide st q) ⟨_,MI _ rfl,rfl,rfl⟩)
 ·exact wpAny_pyIter_ascii ha (fin _ "str_ascii_iterator" (ma (by decide) (λA hA=>Walks.strAscii hA _ x t) λA i s Q E st q=>wpAny_pyIter_striter_ascii st q) ⟨_,MI _ rfl,rfl,rfl⟩)
theorem oP:QA X (compareOp .NotIn) (λx y H Q=>∃ k a T,x=.str k/\y=.ref a/\gK X.K a T/\Q (.bl (!KTD.inKeys k T)) H):=by intro pins s σ H x y v u Q I rx ry h;obtain ⟨k,a,T,ex,ey,t,q⟩:=h;subst ex ey;obtain ⟨tk,rfl⟩:=rx;cases ry;exact KTD.notin_text (h₀:=s.heap) ⟨t _ I.QK,λ_ _ e=>e⟩ ⟨.bl _,H,I.tok _,rfl,q⟩
noncomputable def zP (K:W.Frag):R2:=λx y H Q=>∃ a k T z,x=.ref a/\y=.str k/\gK K a T/\(T.all λp=>KTD.plain p.2)=true/\KTD.datumAt k T=some (.flat (.str z))/\Q (.str z) H
theorem yT:U5 X (zP X.K):=by
 intro value slice pins s σ H x y v u Q I rx ry h hs;obtain ⟨a,k,T,z,ex,ey,t,hp,hd,q⟩:=h;subst ex ey;obtain ⟨tk,rfl⟩:=ry;cases rx;have hm:KTD.inKeys k T=true:=by rw [<- Pe,hd];rfl
 refine KTD.item_textA (h₀:=s.heap) ⟨t _ I.QK,λ_ _ e=>e⟩ hp hm ?_ hs;exact each T hd λt'=>⟨.str z,H,I.tok _,⟨t',rfl⟩,q⟩
where
 each {h:Heap} {k:Str} {P:Value->Prop} {z:Str}:∀ (T:List (Str × KTD.Dat)),KTD.datumAt k T=some (.flat (.str z))->(∀ t,P (.str z t))->KTD.EachL h k P T
  | [],hd,_=>by simp [KTD.datumAt] at hd
  | (x,d)::T,hd,hP=>by
   have hd':(if decide (k=x)=true then some d else KTD.datumAt k T)=some (.flat (.str z)):=hd
   by_cases hx:k=x
   ·rw [MF (N2 hx)] at hd'
    cases hd'
    exact KTD.eachL_hit hx (KTD.opened_str hP)
   ·rw [Mz (by simp [hx])] at hd'
    exact KTD.eachL_miss hx (each T hd' hP)
noncomputable def z7 (K:W.Frag) (td ty tx:TE):TE:=λσ H Q=>td σ H λx H1=>∃ a T,x=.ref a/\gK K a T/\ty σ H1 λy H2=>tx σ H2 λz H3=>∃ k i,y=.str k/\z=.int i/\(∀ p ∈ T,∃ j,p.2=.flat (.int j)) /\
 Q (.int (match KTD.datumAt k T with | some (.flat (.int j))=>j | _=>i)) H3
theorem uo {o e f:Expr} {apos cpos:Pos} {td ty tx:TE} (ho:PE X o td) (he:PE X e ty) (hf:PE X f tx) (m:M2 X o "get" apos e f cpos):PE X (.Call (.Attribute o "get" apos) [e,f] [] cpos) (z7 X.K td ty tx):=by
 intro pins s σ H Q I h;refine wpAny_Call_method m.base m.few m.line F.plainAttrs_dict F.slot_dict_get F.type_dict_get (PR (ho pins s σ H _ I h) λu s1 ⟨x,H1,I1,rx,a,T,ex,tk,q1⟩=>?_);subst ex;obtain rfl:u=Value.ref a:=rx;have t1:=tk _ I1.QK;obtain ⟨lo,ob,es,ep,hob,hex,hdat,ZQ⟩:=id t1;refine ⟨⟨ob,hob,hex.1⟩,λb eb=>?_,?_⟩
 ·cases eb;exact ⟨ob,hob,hex.2.1⟩
 rw [m.trees]
 refine OL rfl (OX (Pb (PR (he pins s1 σ H1 _ I1 q1) λiv s2 ⟨y,H2,I2,ry,q2⟩ =>
  Pb (PR (hf pins s2 σ H2 _ I2 q2) λfv s3 ⟨z,H3,I3,rz,k,i,ey,ez,hT,q3⟩=>Calls.spliced_nil ?_))))
 subst ey ez;obtain ⟨tok1,rfl⟩:=ry;obtain ⟨YM,rfl⟩:=rz;refine KTD.get2_text (h₀:=s3.heap) ⟨tk _ I3.QK,λ_ _ e=>e⟩ ?_
 have fin:∀ (D:List (Str × KTD.Dat)),(∀ p ∈ D,∃ j,p.2=.flat (.int j))->Q (.int (match KTD.datumAt k D with | some (.flat (.int j))=>j | _=>i)) H3 ->
   KTD.Each s3.heap k (λv=>EP X pins σ Q v { s3 with toks:=s3.toks+1 }) (EP X pins σ Q (.int i YM) { s3 with toks:=s3.toks+1 }) D:=by
  intro D
  induction D with
  | nil=>intro _ q;exact KTD.each_nil ⟨.int i,H3,I3.tok _,⟨_,rfl⟩,q⟩
  | cons p D ih =>
   intro hD q;obtain ⟨x,d⟩:=p;obtain ⟨j,ej⟩:=hD (x,d) MW;have ej':d=.flat (.int j):=ej;subst ej';have ed:KTD.datumAt k ((x,KTD.Dat.flat (.int j))::D)=if decide (k=x)=true then some (.flat (.int j)) else KTD.datumAt k D:=rfl;rw [ed] at q;by_cases hx:k=x
   ·rw [MF (N2 hx)] at q;exact KTD.each_hit hx (KTD.opened_int λt=>⟨.int j,H3,I3.tok _,⟨t,rfl⟩,q⟩)
   ·rw [Mz (by simp [hx])] at q;exact KTD.each_miss hx (ih (λp hp=>hD p (MU _ hp)) q)
 exact fin T hT q3
end
structure uM (P:Program) (w:World) (K:W.Frag) (a:Addr) (ks:List Str):Prop where
 lk:∃ o,K.lookup a=some o
 tb:∀ h:Heap,K.In h->∃ D,StrTab P w h a D/\D.map (·.1)=ks.map PyData.str
noncomputable def ZR (ks:List Str):It:=⟨λi _=>i < ks.length,λi H v H'=>H'=H/\∃ k,ks[i]?=some k/\v=.str k,λi _=>i=ks.length⟩
variable {kvs:List (Str × Value)}
theorem tX {D:List (PyData × PyData)} {ks:List Str} (h:PyProof.V.FlatPairs PyData.str kvs D) (e:D.map (·.1)=ks.map PyData.str):kvs.map (·.1)=ks:=by
 induction h generalizing ks with
 | nil =>
  cases ks with
  | nil=>rfl
  | cons k ks=>simp at e
 | cons _ _ ih =>
  cases ks with
  | nil=>simp at e
  | cons k ks =>simp only [MZ,List.cons.injEq] at e;obtain ⟨e1,e2⟩:=e;injection e1 with e1;rw [MZ,ih e2,<- e1]
variable {it:Addr}
theorem xY {tg:Expr} {d:Addr} {ep:Nat} (hD:∀ h:Heap,K.In h->h.DictAt (strKind P w) d kvs ep) :
  iD P w K tg (ZR (kvs.map (·.1))) [it] it (λi h=>h.IsKeyIter it d i kvs.length ep) where
 mem:=by simp
 obj:=λi h st b hb=>by
  have e:b=it:=by simpa using hb
  subst e;obtain ⟨o,e,c,d⟩:=st;exact ⟨o,e,λv z=>by rw [d] at z;cases z⟩
 keep:=λi h h' st k=>by obtain ⟨o,e,r⟩:=st;exact ⟨o,k it (by simp) o e,r⟩
 item:=by
  intro X hP hw hK hc i pins s σ H E I hf st hg;subst hP hw hK;obtain ⟨f0,f1,f2,f3,f4,f5⟩:=hf it (by simp);have hi:i < kvs.length:=by have z:i < (kvs.map (·.1)).length:=hg;simpa using z
  refine wpAny_pyNext_dict_item st (hD _ I.QK) (Ms hi) λkey h' hk st' sb=>?_;obtain ⟨t,rfl⟩:=Value.isStrOf_shape hk;have I1:Inv X pins σ H { s with heap:=h' }:=I.turned (t':=s.toks) (λb o hb e=>(sb.2 b hb).trans e) f0 f1 f3 f4 f5;refine ⟨_,rfl,PyProof.Rows.letGo_keyiter (s':={ s with heap:=h' }) st' ⟨.str (kvs[i]).1,H,I1,⟨t,rfl⟩,⟨rfl,(kvs[i]).1,?_,rfl⟩,st',λb hb=>(hf b hb).1⟩⟩;rw [MH,Ms hi];rfl
 done:=by
  intro X hP hw hK hc i pins s σ H E I hf st hg;subst hP hw hK;obtain ⟨f0,f1,f2,f3,f4,f5⟩:=hf it (by simp);have hi:i=kvs.length:=by have z:i=(kvs.map (·.1)).length:=hg;simpa using z
  exact wpAny_pyNext_dict_end (I.ok.hd hc) st (hD _ I.QK) (by simp [hi]) λh' eb=>⟨rfl,I.turned (t':=s.toks) (λb o hb e=>eb b o hb e) f0 f1 f3 f4 f5⟩
 self:=λA i s Q E st q=>wpAny_pyIter_keyiter st q
section
variable {X:Cx} {tg:Expr}
noncomputable def VP (P:Program) (w:World) (K:W.Frag) (tl:TE):TI:=λσ H R=>tl σ H λv H1=>∃ a ks,v=.ref a/\uM P w K a ks/\R (ZR ks) H1
theorem Cv {l:Expr} {tl:TE} (hl:PE X l tl):PI X tg l (VP X.prog X.w X.K tl):=by
 intro pins s σ H R I h;refine PR (hl pins s σ H _ I h) λv s1 ⟨xv,H1,I1,r1,q1⟩=>?_;obtain ⟨a,ks,e,hK,q⟩:=q1;subst e;cases r1;obtain ⟨D,T,hD⟩:=hK.tb _ I1.QK;obtain ⟨o,ho⟩:=hK.lk;obtain ⟨lo,kvs,hdo,hf⟩:=T;obtain ⟨ep,hat⟩:=hdo.dictAt;have ek:=tX hf hD;subst ek
 have hall:∀ h:Heap,X.K.In h->h.DictAt (strKind X.prog X.w) a kvs ep:=λh x=>by obtain ⟨o',es,e1,r⟩:=hat;have z:=I1.QK _ _ ho;rw [e1] at z;cases z;exact ⟨_,es,x _ _ ho,r⟩
 refine wpAny_pyIter_dict lo hat ?_;refine ⟨s1.heap.objs.size,[s1.heap.objs.size],_,_,H1,rfl,I1.kept (t':=s1.toks) λb o e=>LD _ e,xY hall,⟨_,MI _ rfl,rfl,rfl⟩,λb hb=>?_,q⟩;have e:b=s1.heap.objs.size:=by simpa using hb
 subst e;exact I1.Te (Mu _) (I1.hok.fresh (Mu _))
end
noncomputable def RC (K:W.Frag) (t:TE) (σ:St) (H:Hp) (es:List D):Prop:=∀ H1,PM H H1->∀ Q:VK,(∀ l ys H',H1 l=none->PM H1 H'->H' l=some (.lst ys)->PF K H' es ys->Q (.ref l) H')->t σ H1 Q
section
variable {K:W.Frag} {σ:St} {H H':Hp} {d d':D} {ds es:List D} {t u ta tb te tl:TE} {tt uu:TT} {tA:TA} {i j:Int} {b c:Bool} {mk:St->St} {jj:Nat}
theorem RC.mono (h:RC K t σ H es) (e:PM H H'):RC K t σ H' es:=λH1 s Q q=>h H1 (e.trans s) Q q
theorem RC.use {Q:VK} (h:RC K t σ H es) (q:∀ l ys H',H l=none->PM H H'->H' l=some (.lst ys)->PF K H' es ys->Q (.ref l) H'):t σ H Q:=h H (PM.refl H) Q q
theorem CQ {x:Str} (h:RE K tl σ H (.str x)) (hc:x.cps.size<=1000) (es:List D) (hl:es.length=x.cps.size) (h0:(mk σ).set jj none=mk σ)
  (turn:∀ H1 (i:Nat) c d,PM H H1->x.cps[i]?=some c->es[i]?=some d->RE K te ((mk σ).set jj (some (.str ⟨#[c]⟩))) H1 d):RC K (RM (D6 tl) mk (ff jj) o5 te) σ H es:=λH1 s Q q=>by
 refine (h.mono s).use λv4 H4 s4 q4=>?_;have e:=q4.Qd;subst e;refine ⟨x,rfl,?_⟩;refine su (K:=K) (Q:=Q) (n:=x.cps.size) (item:=λi=>.str ⟨#[x.cps.getD i 0]⟩) (λi H' s hi=>⟨hi,λv QS y=>⟨y.1,?_⟩⟩) (λH' s=>rfl) h0 es hl hc (λi d hi=>?_) (λl ys H5 hl5 s5=>q l ys H5 (s4.free hl5) (s4.trans s5))
 ·obtain ⟨_,c,hc,e⟩:=y;rw [e,Array.getD_eq_getD_getElem?,hc];rfl
 ·have hi':i < es.length:=(Mk.mp hi).1
  have hc:x.cps[i]?=some (x.cps.getD i 0):=by rw [Array.getD_eq_getD_getElem?,Ow (by lia)];rfl
  exact turn H4 i _ d (s.trans s4) hc hi
theorem zR {bs:List Bool} (h:RC K t σ H (bs.map D.bl)):RE K (Wc (λxs H Q=>∃ (l:Addr) (bs:List Bool),xs=[.ref l]/\P6 K H l (bs.map V.bl)/\Q (.bl (bs.all id)) H) (bh t dP)) σ H (.bl (bs.all id)):=λH1 s Q q =>
 AC ((h.mono s).use λl ys H' _ s' hy hd=>⟨l,bs,rfl,by rw [<- lG hd];exact P6.of hy,q _ _ s' (Dat.Vi _)⟩)
theorem zS {x:Str} (h:RE K t σ H (.str x)) (hx:x.length<=sizeLine):RE K (Wc (λxs H Q=>∃ z:Str,xs=[.str z]/\z.length<=sizeLine/\Q (.int z.length) H) (bh t dP)) σ H (.int x.length):=λH1 s Q q =>
 AC ((h.mono s).use λv H' s' hd=>by
  rw [hd.Qd];exact ⟨x,rfl,hx,q _ _ s' (Dat.Ur _)⟩)
theorem uy {tc:TE} {x y z:Str} {p q':Str->Str->Bool} (h1:RE K ta σ H (.str x)) (h2:RE K tb σ H (.str y)) (h3:p x y=true->RE K tc σ H (.str z)) :
  RE K (Q8 (λu v H Q=>∃ i j:Str,u=.str i/\v=.str j/\Q (.bl (p i j)) H) (λu v H Q=>∃ i j:Str,u=.str i/\v=.str j/\Q (.bl (q' i j)) H) ta tb tc) σ H (.bl (p x y && q' y z)):=λH1 s Q q =>
 h1 H1 s _ λv H2 s2 q2=>h2 H2 (s.trans s2) _ λw H3 s3 q3=>by
  refine ⟨x,y,q2.Qd,q3.Qd,p x y,rfl,?_⟩
  cases hp:p x y with
  | true =>simp only [OR,Bool.true_and];exact h3 hp H3 (s.trans (s2.trans s3)) _ λz' H4 s4 q4=>⟨y,z,q3.Qd,q4.Qd,q _ _ (s2.trans (s3.trans s4)) (by rw [hp];exact Dat.Vi _)⟩
  | false =>simp only [Pd,Pu,O5];exact q _ _ (s2.trans s3) (by rw [hp];exact Dat.Vi _)
end
mutual
noncomputable def c7 (K:W.Frag):D->Value->Bool
 | .PJ,u=>(match u with | .none=>true | _=>false)
 | .bl b,u=>(match u with | .bool c=>b == c | _=>false)
 | .int i,u=>(match u with | .int j _=>i == j | _=>false)
 | .str x,u=>(match u with | .str y _=>x == y | _=>false)
 | .tup ds,u=>(match u with | .ref a=>(match K.lookup a with | some ⟨.type "tuple",_,.seq its _,_⟩=>decide (its.size<=1000) && R7 K ds its.toList | _=>false) | _=>false)
 | .lst,_=>false
noncomputable def R7 (K:W.Frag):List D->List Value->Bool
 | [],us=>us.isEmpty
 | d::ds,us=>(match us with | u::r=>c7 K d u && R7 K ds r | []=>false)
end
mutual
variable {K:W.Frag}
theorem jg (H:Hp):∀ (d:D) (u:Value),c7 K d u=true->∃ v,RelV v u/\Dat K H d v
 | .PJ,u,h=>by unfold c7 at h;cases u <;> first | (exact ⟨.PJ,rfl,Dat.Xj⟩) | cases h
 | .bl b,u,h=>by
  unfold c7 at h;cases u <;> first | cases h | skip
  rename_i c;have e:b=c:=by simpa using h
  subst e;exact ⟨.bl b,rfl,Dat.Vi _⟩
 | .int i,u,h=>by
  unfold c7 at h;cases u <;> first | cases h | skip
  rename_i j t;have e:i=j:=by simpa using h
  subst e;exact ⟨.int i,⟨t,rfl⟩,Dat.Ur _⟩
 | .str x,u,h=>by
  unfold c7 at h;cases u <;> first | cases h | skip
  rename_i y t;have e:x=y:=by simpa using h
  subst e;exact ⟨.str x,⟨t,rfl⟩,Dat.Vh _⟩
 | .tup ds,u,h=>by
  unfold c7 at h;cases u <;> first | cases h | skip
  rename_i a;dsimp only at h;split at h
  ·rename_i od its n sl e;rw [MC] at h;obtain ⟨vs,r,hd⟩:=QZ H ds its.toList h.2;refine ⟨.ref a,rfl,Dat.tupI (.inr ⟨_,its,n,e,rfl,rfl,?_,r⟩) hd⟩;exact MQ (M1 h.1) (by decide)
  ·cases h
 | .lst,u,h=>by unfold c7 at h;cases h
theorem QZ (H:Hp):∀ (ds:List D) (us:List Value),R7 K ds us=true->∃ vs,Vals vs us/\PF K H ds vs
 | [],us,h=>by
  unfold R7 at h
  cases us with
  | nil=>exact ⟨[],.nil,PF.nil⟩
  | cons u r=>cases h
 | d::ds,us,h=>by
  unfold R7 at h
  cases us with
  | nil=>cases h
  | cons u r =>dsimp only at h;rw [MC] at h;obtain ⟨v,r1,h1⟩:=jg H d u h.1;obtain ⟨vs,r2,h2⟩:=QZ H ds r h.2;exact ⟨v::vs,.cons r1 r2,PF.cons h1 h2⟩
end
theorem Fb (h:c7 K (.tup ds) (.ref a)=true) (H:Hp):Dat K H (.tup ds) (.ref a):=by obtain ⟨v,r,hd⟩:=jg H _ _ h;obtain ⟨b,vs,e,_⟩:=id hd.P8;subst e;have z:Value.ref a=.ref b:=r;cases z;exact hd
section
variable {X:Cx}
theorem vk:cZ X (.type "range") (λxs H Q=>∃ n:Nat,xs=[.int n]/\∀ p,H p=none->Q (.ref p) (upd H p (.R5 0 n))):=by intro pins s σ H xs us Q I r h;obtain ⟨n,rfl,q⟩:=h;obtain ⟨u,rfl,ru⟩:=cH r;obtain ⟨t,rfl⟩:=ru;refine call_range_1 ⟨.ref s.heap.objs.size,_,I.laid (λb o e=>LD _ e) (Mu _) (show P1 X.prog X.w _ _ _ (.R5 0 n) from ⟨_,_,_,MI _ rfl⟩),rfl,q _ (I.hok.fresh (Mu _))⟩
theorem yf {n:Nat} {acc:Array Value} (h:ItemsOf (λi v=>∃ t,v=.int ((0:Int)+(i:Nat) * 1) t) acc n):Vals ((List.range n).map λi:Nat=>V.int i) acc.toList:=by
 obtain ⟨hs,hi⟩:=h
 have all:∀ (l:List Value) (k:Nat),(∀ (j:Nat) (v:Value),l[j]?=some v->∃ t,v=Value.int ((0:Int)+((k+j:Nat):Int) * 1) t)->Vals ((List.range' k l.length).map λi:Nat=>V.int i) l:=by
  intro l
  induction l with
  | nil=>intro k _;exact .nil
  | cons u l ih =>
   intro k hj;rw [Nz,List.range'_succ,MZ];refine .cons ?_ (ih (k+1) λj v e=>?_)
   ·obtain ⟨t,e⟩:=hj 0 u rfl;refine ⟨t,?_⟩;rw [e];congr 1;simp
   ·obtain ⟨t,e'⟩:=hj (j+1) v (by simpa using e);refine ⟨t,?_⟩;rw [e'];congr 1;have:k+(j+1)=k+1+j:=by lia
    rw [this]
 have q:=all acc.toList 0 λj v e=>by rw [Nat.zero_add];exact hi j v (by simpa using e)
 rw [List.range_eq_range'];rw [Oq,hs] at q;exact q
theorem kR (hc:X.calm=true):cZ X (.type "list") (λxs H Q=>∃ (p:Addr) (n:Nat),xs=[.ref p]/\H p=some (.R5 0 n)/\n<=1000/\∀ l,H l=none->Q (.ref l) (upd H l (.lst ((List.range n).map λi:Nat=>V.int i)))):=by
 intro pins s σ H xs us Q I r h;obtain ⟨p,n,rfl,hp,hn,q⟩:=h;obtain ⟨u,rfl,rx⟩:=cH r;cases rx;obtain ⟨t,u,v,e⟩:=(show P1 X.prog X.w H s.heap p (.R5 0 n) from I.hok p _ hp)
 refine call_list_range (n:=n) (I.ok.hd hc) (show IsRange s.heap p 0 n 1 t u v from e) (small_one (by lia) (by lia) (by lia) (by lia)) ?_ (by lia) λh' tk acc' c' kp e' hacc=>?_
 ·rw [rangeSize_one];split <;> lia
 ·have hv:=yf hacc;have hl:=hv.length;refine ⟨.ref s.heap.objs.size,_,I.laid kp (Mu _) (show P1 X.prog X.w _ h' _ (.lst _) from ⟨?_,acc'.toList,c',hv,by simpa using e'⟩),rfl,q _ (I.hok.fresh (Mu _))⟩;simp only [MK,Pk];exact MQ hn (by decide)
noncomputable def yn (K:W.Frag) (a:Addr) (xs:List V):Prop:=∃ (its:Array Value) (n:Nat),K.lookup a=some ⟨.type "list",none,.seq its n,#[]⟩/\its.size<=1000/\Vals xs its.toList
noncomputable def Sl (K:W.Frag) (H:Hp) (a:Addr) (xs:List V):Prop:=H a=some (.lst xs)\/yn K a xs
variable {H:Hp} {a:Addr} {xs:List V}
theorem Sl.Q9 {K:W.Frag} (h:Sl K H a xs):P6 K H a xs:=by
 rcases h with h | ⟨its,n,e,hz,r⟩
 ·exact P6.of h
 ·exact .inr ⟨_,its,n,e,rfl,rfl,rfl,MQ hz (by decide),r⟩
theorem Sl.at {pins:List (Addr × Obj)} {σ:St} {s:Shared} (I:Inv X pins σ H s) (h:Sl X.K H a xs):∃ (its:List Value) (n:Nat),Vals xs its/\s.heap.get? a=some { cls:=.type "list",data:=.seq its.toArray n }:=by
 rcases h with h | ⟨its,n,e,hz,r⟩
 ·obtain ⟨z,its,n,r,hl,e⟩:=I.UM h;exact ⟨its,n,r,e⟩
 ·exact ⟨its.toList,n,r,by simpa using I.QK _ _ e⟩
noncomputable def rJ (K:W.Frag):R2:=λx y H Q=>∃ l b xs zs,x=.ref l/\y=.ref b/\Sl K H l xs/\Sl K H b zs/\xs.length+zs.length<=1000/\∀ p,H p=none->Q (.ref p) (upd H p (.lst (xs++zs)))
theorem PU:QA X (binaryOp .Add) (rJ X.K):=by
 intro pins s σ H x y v u Q I rx ry h;obtain ⟨l,b,xs,zs,rfl,rfl,hH,hB,hz,q⟩:=h;cases rx;cases ry;obtain ⟨its,n,r,e⟩:=hH.at I;obtain ⟨its2,n2,r2,e2⟩:=hB.at I;have l1:=r.length;have l2:=r2.length;have hz':xs.length+zs.length<=sizeLine:=MQ hz (by decide);refine PySem.P.add_list e e2 ?_ (by rw [Mt,Mt];lia);have ea:its.toArray++its2.toArray=(its++its2).toArray:=by simp
 rw [ea];exact ⟨.ref _,_,I.Xh (t':=s.toks) (r.append r2) (by rw [MO];lia),rfl,q _ I.fresh⟩
end
section
variable {K:W.Frag} {σ:St} {H:Hp} {t:TE} {n:Nat}
noncomputable def kb (K:W.Frag) (ds:List D) (a:Addr):Bool:=match K.lookup a with
 | some ⟨.type "list",none,.seq its _,sl⟩=>decide (its.size<=1000) && (sl.isEmpty && R7 K ds its.toList)
 | _=>false
theorem mK {K:W.Frag} {ds:List D} {a:Addr} (h:kb K ds a=true) (H:Hp):∃ vs,yn K a vs/\PF K H ds vs:=by
 unfold kb at h;split at h
 ·rename_i its n sl e;rw [MC,MC] at h;obtain ⟨vs,r,hd⟩:=QZ H ds its.toList h.2.2;have es:sl=#[]:=by simpa using h.2.1
  subst es;exact ⟨vs,⟨its,n,e,M1 h.1,r⟩,hd⟩
 ·cases h
end
section
variable {K:W.Frag} {l0 l1 l2:Addr} {H H' H2:Hp} {a b c a' b' c':List V} {v:V}
end
theorem rd:∀ {ns:List Int} {us:List Value},Vals (ns.map V.int) us->IntsAre us ns
 | [],us,h=>by cases h;exact .nil
 | n::ns,us,h=>by
  cases h with
  | cons r t =>obtain ⟨tk,rfl⟩:=r;exact .cons n tk (rd t)
section
variable {X:Cx}
theorem vm (hc:X.calm=true):cZ X (.builtin "sum") (λxs H Q=>∃ (l:Addr) (ns:List Int),xs=[.ref l]/\P6 X.K H l (ns.map V.int)/\Q (.int ns.sum) H):=by
 intro pins s σ H xs us Q I r h;obtain ⟨l,ns,rfl,hq,q⟩:=h;obtain ⟨u,rfl,ru⟩:=cH r;cases ru;obtain ⟨its,rv,p,hz⟩:=I.list hq;have hi:=rd rv;obtain ⟨zs,hzs⟩:=hi.allInts.items;refine sum_intListG (I.ok.hd hc) (show s.heap.IsList l (intItems zs) from hzs ▸ p.isList) λh' tk t' hk=>?_
 have a1:zs.toList.map (·.1)=ns:=by have z:=hi.numsOf;rw [show its=(intItems zs).toList by rw [<- hzs]] at z;rw [<- z,nums_intItems]
 have a2:preSum (numAt zs) zs.size=ns.sum:=by rw [preSum_eq,<- a1,NO (by simp)]
 rw [a2];exact ⟨.int ns.sum,H,I.kept (t':=tk) hk,⟨t',rfl⟩,q⟩
noncomputable def ZS (K:W.Frag) (a:Addr) (xs:List V):It:=⟨λi H=>i < xs.length/\P6 K H a xs,λi H x H'=>H'=H/\xs[xs.length - 1 - i]?=some x,λi _=>i=xs.length⟩
theorem xX {P:Program} {w:World} {K:W.Frag} {tg:Expr} (a it:Addr) (xs:List V):iD P w K tg (ZS K a xs) [it] it (λi h=>h.IsRevIter it a ((xs.length:Int) - 1 - (i:Int))) where
 mem:=by simp
 obj:=λi h st b hb=>by
  have e:b=it:=by simpa using hb
  subst e;obtain ⟨o,e,c,d⟩:=st;exact ⟨o,e,λv z=>by rw [d] at z;cases z⟩
 keep:=λi h h' st k=>by obtain ⟨o,e,r⟩:=st;exact ⟨o,k it (by simp) o e,r⟩
 item:=by
  intro X hP hw hK hc i pins s σ H E I hf st hg;subst hP hw hK;obtain ⟨hi,hq⟩:=hg;obtain ⟨its,rv,p,hz⟩:=I.list hq;obtain ⟨f0,f1,f2,f3,f4,f5⟩:=hf it (by simp);have lr:=rv.length;have hx:xs[xs.length - 1 - i]?=some (xs[xs.length - 1 - i]'(by lia)):=Ms (by lia);obtain ⟨u,hu,ru⟩:=rv.get hx;have e1:(xs.length:Int) - 1 - (i:Int)=((xs.length - 1 - i:Nat):Int):=by lia
  have st1:s.heap.IsRevIter it a ((xs.length - 1 - i:Nat):Int):=by rw [<- e1];exact st
  refine wpAny_pyNext_rev_item st1 p.isList (x:=u) (by simpa using hu) λh' st' sb=>?_;have e2:((xs.length - 1 - i:Nat):Int) - 1=(xs.length:Int) - 1 - ((i+1:Nat):Int):=by lia
  rw [e2] at st';have I1:Inv X pins σ H { s with heap:=h' }:=I.turned (t':=s.toks) (λb o hb e=>(sb.2 b hb).trans e) f0 f1 f3 f4 f5;obtain ⟨o,e,c,d⟩:=id st';exact ⟨u,rfl,ou (s:={ s with heap:=h' }) e c d (by decide) ⟨_,H,I1,ru,⟨rfl,hx⟩,st',λb hb=>(hf b hb).1⟩⟩
 done:=by
  intro X hP hw hK hc i pins s σ H E I hf st hg;subst hP hw hK;obtain ⟨f0,f1,f2,f3,f4,f5⟩:=hf it (by simp);have hg':i=xs.length:=hg;subst hg';have e1:(xs.length:Int) - 1 - (xs.length:Int)=-1:=by lia
  rw [e1] at st;exact wpAny_pyNext_rev_end (I.ok.hd hc) st λh' eb=>⟨rfl,I.turned (t':=s.toks) (λb o hb e=>eb b o hb e) f0 f1 f3 f4 f5⟩
 self:=λA i s Q E st q=>wpAny_pyIter_revIter st q
variable {tg:Expr}
noncomputable def yL (K:W.Frag) (ta:TA):TI:=λσ H R=>ta σ H λvs H1=>∃ a xs,vs=[.ref a]/\P6 K H1 a xs/\R (ZS K a xs) H1
theorem Cr {a:Expr} {ta:TA} {p pos:Pos} (hg:Gl X "reversed") (hm:X.mg "reversed"=none) (ha:PA X [a] ta) (hs:starEach [a] X.env=[(false,eval a X.env)]:=by rfl):PI X tg (.Call (.Name "reversed" p) [a] [] pos) (yL X.K ta):=by
 intro pins s σ H R I h;refine Call_ (fH I hg hm nF (Nf (PR (ha pos pins s σ H _ I h) λus s1 ⟨vs,H1,I1,r1,q1⟩=>?_) hs rfl));obtain ⟨l,xs,e,hq,q⟩:=q1;subst e;obtain ⟨u,rfl,ru⟩:=cH r1;cases ru;obtain ⟨its,rv,pl,hz⟩:=I1.list hq;have lr:=rv.length;refine call_reversed_list pl.isList ?_;have st:(s1.heap.push (revObj l ((its.toArray.size:Int) - 1))).IsRevIter s1.heap.objs.size l ((xs.length:Int) - 1 - ((0:Nat):Int)):=⟨_,MI _ rfl,rfl,by simp [revObj,lr]⟩
 refine wpAny_pyIter_revIter (s:={ s1 with heap:=s1.heap.push (revObj l ((its.toArray.size:Int) - 1)) }) st ?_;refine ⟨s1.heap.objs.size,[s1.heap.objs.size],_,_,H1,rfl,I1.kept (t':=s1.toks) λb o e=>LD _ e,xX l _ xs,st,λb hb=>?_,q⟩;have e:b=s1.heap.objs.size:=by simpa using hb
 subst e;exact I1.Te (Mu _) (I1.hok.fresh (Mu _))
end
noncomputable def met (f:Nat->Str) (i:Nat):List Str:=((List.range i).map f).foldl step_dedup []
theorem kg (f:Nat->Str) (i:Nat):met f (i+1)=step_dedup (met f i) (f i):=by unfold met;rw [List.range_succ,List.map_append,List.foldl_append];rfl
theorem qW (l:List Str) (x:Str):(step_dedup l x).length=if l.any (· == x) then l.length else l.length+1:=by unfold step_dedup;split <;> simp
theorem yw (l:List Str) (x y:Str):(step_dedup l x).any (· == y)=(l.any (· == y) || decide (y=x)):=by
 unfold step_dedup;split
 ·rename_i h;by_cases e:y=x
  ·subst e;rw [h];rfl
  ·rw [M4 e,Bool.or_false]
 ·rw [List.any_append];congr 1;by_cases e:y=x
  ·subst e;simp
  ·have e':¬ x=y:=λz=>e z.symm;simp [e,e']
theorem wL (f:Nat->Str):∀ i,(met f i).length<=i
 | 0=>by simp [met]
 | i+1=>by rw [kg,qW];have:=wL f i;split <;> lia
theorem ye {A:Around} {R:Result->Shared->Prop} {fp wr:List Addr} {G:Array GenState->Array GenState->Prop} {Pv:Nat->Value->Prop} {St:Nat->Shared->Prop}
  (W:WalksS P w A.in1 it fp wr G n Pv St) (sa:Addr) (ZT:sa ∉ fp) (f:Nat->Str) (hf:∀ i v,Pv i v->∃ t,v=.str (f i) t) (few:n+1 < scanBound) :
  ∀ (m i:Nat) (s:Shared),n - i=m->i<=n->St i s->s.heap.SetOf (strKind P w) sa (λy=>(met f i).any (· == y)) (met f i).length ->
   (∀ s',Moved (sa::wr) G s s'->s'.heap.SetOf (strKind P w) sa (λy=>(met f n).any (· == y)) (met f n).length->R (.ok (.ret .none)) s')->codeAny (model P w) A (.builtin "set.update.loop" ⟨[.ref sa,.ref it],[]⟩) R s:=by
 have nw:sa ∉ wr:=λz=>ZT (W.sub _ z);have more:∀ b ∈ wr,b ∈ sa::wr:=λb z=>MU _ z;intro m
 induction m with
 | zero =>
  intro i s e1 e2 st so fin;obtain rfl:i=n:=by lia
  refine O0 OC ?_;rw [Around.under_plainId NT _];show wpAny _ A.in1 (pyNext (.ref it) >>= _) _ _ s;refine pg (W.done s _ _ st λs2 mv=>?_);show wpAny _ A.in1 (ret Value.none) _ _ s2;obtain ⟨o,es,ep,tb,g,rest⟩:=so;exact Mq (fin s2 (mv.mono more) ⟨o,es,ep,tb,mv.heap sa _ nw g,rest⟩)
 | succ m ih =>
  intro i s e1 e2 st so fin;have lt:i < n:=by lia
  refine O0 OC ?_;rw [Around.under_plainId NT _];show wpAny _ A.in1 (pyNext (.ref it) >>= _) _ _ s;refine pg (W.item i s _ _ lt st λv s2 pv st2 mv=>?_);obtain ⟨tk,rfl⟩:=hf i v pv;have so2:s2.heap.SetOf (strKind P w) sa (λy=>(met f i).any (· == y)) (met f i).length:=let ⟨o,es,ep,tb,g,rest⟩:=so;⟨o,es,ep,tb,mv.heap sa _ nw g,rest⟩;show wpAny _ A.in1 (holding [Value.str (f i) tk] (setAdd sa (.str (f i) tk)) >>= _) _ _ s2;refine pg (Nj ?_);unfold setAdd;refine Nj (pg ((strKind P w).pyHash (k:=f i) (strKind_is P w _ _) ?_));have rm:(met f i).length+1 < scanBound:=by have:=wL f i;lia
  refine wpAny_setAddHashed_of (knd:=strKind P w) (s:={ s2 with toks:=s2.toks+1 }) (strKind_is P w _ _) rfl so2 rm λh' sb so3=>?_;have so4:h'.SetOf (strKind P w) sa (λy=>(met f (i+1)).any (· == y)) (met f (i+1)).length:=SetOf_congr so3 (λy=>by rw [kg,yw]) (by rw [kg,qW]);refine Mq ⟨plainId_quiet NT _,ih (i+1) _ (by lia) lt (W.frame _ s2 _ _ st2 (Nat.le_succ _) λb z o g=>?_) so4 λs3 mv3 so5=>?_⟩
  ·rw [sb.2 b (λq:b=sa=>ZT (by rw [<- q];exact z))];exact g
  ·refine fin s3 (Moved.trans W.gtrans ((mv.mono more).then_heap (Nat.le_succ _) λb o z g=>?_) mv3) so5;rw [sb.2 b (λq:b=sa=>z (by rw [q];exact MW))];exact g
noncomputable abbrev ni (led:Bool):Obj:={ cls:=.type "set",dict:=none,data:=.set #[] 0 (.fresh 0 0 led) }
theorem rZ {A:Around} {E:Value->Shared->Prop} {s:Shared} {items:Array Value} {f:Nat->Str} {Q:Value->Shared->Prop} (hh:A.handled=none) (hl:s.heap.IsList l items)
  (hi:∀ (i:Nat) (v:Value),items[i]?=some v->∃ t,v=.str (f i) t) (few:items.size+1 < scanBound)
  (fin:∀ (h':Heap) (tk:Nat),h'.SetOf (strKind P w) s.heap.objs.size (λy=>(met f items.size).any (· == y)) (met f items.size).length->(∀ b o,b < s.heap.objs.size->s.heap.get? b=some o->h'.get? b=some o)->Q (.ref s.heap.objs.size) { s with heap:=h',toks:=tk }) :
  wpAny (model P w) A (call (.type "set") [.ref l]) Q E s:=by
 obtain ⟨c,tl,mro⟩:=N4.mro;have made:=N4.made;have sub:=N4.sub;refine Oi (codeAny_of_tree ?_);show wpAny _ _ (callAny (.type "set") _) _ _ _;refine Mq ⟨OD _ (by decide +kernel),O0 F.entry_type_call ?_⟩;rw [Around.under_plain (weight_type_call_type "set" [.ref l] []) rfl];have k1:=N4.notType;have k2:=N4.canCreate;have k3:=F.typeCall_set_1 (.ref l)
 repeat (any_goals (first | assumption | wp_step))
 refine NQ (code_set_new_1 (.ref l) (E:=E) (Q₁:=λobj s1=>∃ led:Bool,obj=.ref s.heap.objs.size/\s1={ s with heap:=s.heap.push (ni led) }) λled=>⟨led,rfl,rfl⟩) λr s1 hr=>?_
 cases r with
 | error e=>exact hr
 | ok fl =>
  cases fl with
  | ret obj =>
   obtain ⟨led,rfl,rfl⟩:=hr;have g0:(s.heap.push (ni led)).get? s.heap.objs.size=some (ni led):=MI _ rfl;have ty:Shared.TypeIs { s with heap:=s.heap.push (ni led) } (.ref s.heap.objs.size) "set":=⟨_,g0,rfl⟩
   have k4:=N4.init.lookup;have k5:=N4.init.bind (.ref s.heap.objs.size)
   repeat (any_goals (first | assumption | wp_step))
   refine NQ (Ol (R:=wants (λr s2=>r=.none/\∃ h' tk,s2={ s with heap:=h',toks:=tk }/\h'.SetOf (strKind P w) s.heap.objs.size (λy=>(met f items.size).any (· == y)) (met f items.size).length /\
     (∀ b o,b < s.heap.objs.size->s.heap.get? b=some o->h'.get? b=some o)) E) N4.init.plain F.entry_set_init (check_set_init_1 ty ?_)) λr2 s2 hr2=>?_
   ·obtain ⟨ol,g1,g2,nl,g3⟩:=hl;obtain ⟨oc,od,ob,os⟩:=ol;simp only at g2 g3;subst g2;subst g3;have g4:(s.heap.push (ni led)).get? l=some { cls:=.type "list",dict:=od,data:=.seq items nl,slots:=os }:=LD _ g1;have m1:=F.sub_list_set;have m2:=F.sub_list_frozenset;have m3:(Value.type "list" == Value.type "dict")=false:=by decide
    have il:(s.heap.push (ni led)).IsList l items:=⟨_,g4,rfl,nl,rfl⟩
    unfold Builtin.«set.__init__» noKeywords Builtin.Frozenset.updateFrom;generalize hPI:pyIter=PI
    wp_walk
    subst hPI;refine Nb il (pg (wpAny_runValue ?_));have ll:l < s.heap.objs.size:=Mr g1;have h3:A.in1.in1.in1.handled=none:=by simp [hh]
    have n1:l≠(s.heap.push (ni led)).objs.size:=by rw [MM];exact Mv (Po ll)
    have n2:s.heap.objs.size ∉ [(s.heap.push (ni led)).objs.size,l]:=by rw [MM];simp only [MA,MS,MR,NF,not_or];exact ⟨Mv (Oj _),M0 ll⟩
    refine ye ((Walks.list h3 _ l n1 items).toS) s.heap.objs.size n2 f hi few (items.size - 0) 0 _ (by lia) (Nd _) ⟨⟨_,MI _ rfl,rfl,rfl⟩,(il.push _)⟩ ?so ?fi
    case so=>exact SetOf_congr ((setObjOf_fresh (knd:=strKind P w) led).setOf (LD _ g0) (by unfold scanBound;lia)) (λ_=>rfl) rfl
    case fi =>
     intro s' mv so;obtain ⟨h',g',d',tk',os'⟩:=s';obtain rfl:g'=s.gens:=mv.gens;obtain rfl:d'=s.drawn:=mv.drawn;obtain rfl:os'=s.os:=mv.os;show wpAny _ _ _ _ _ _;refine Mq ?_;show wpAny _ _ (ret Value.none) _ _ _;refine Mq ⟨rfl,h',tk',rfl,so,λb o z g=>?_⟩;have z1:b≠s.heap.objs.size:=Mv z;have z2:b≠(s.heap.push (ni led)).objs.size:=by rw [MM];exact Mv (Po z)
     exact mv.heap b o (by simp only [MA,MS,MR,NF,not_or];exact ⟨z1,z2⟩) (LD _ (LD _ g))
   ·cases r2 with
    | error e=>exact hr2
    | ok fl2 =>
     cases fl2 with
     | ret r =>
      obtain ⟨rfl,h',tk,rfl,so,kp⟩:=hr2
      repeat (any_goals (first | assumption | wp_step))
      exact fin _ _ so kp
     | _=>exact hr2.elim
  | _=>exact hr.elim
noncomputable def nj (a:Addr) (n:Nat) (h:Heap):Prop:=∃ o es ep t,h.get? a=some o/\o.ExactSet/\o.data=.set es ep t/\t.fits es.size=true/\es.size=n
section
variable {X:Cx}
theorem rP:∀ {zs:List Str} {us:List Value} (i:Nat) (v:Value),Vals (zs.map V.str) us->us[i]?=some v->∃ t,v=.str (zs.getD i "") t
 | [],us,i,v,h,e=>by cases h;simp at e
 | z::zs,us,i,v,h,e=>by
  cases h with
  | cons r t =>
   obtain ⟨tk,rfl⟩:=r
   cases i with
   | zero =>
    have e':Value.str z tk=v:=by simpa using e
    exact ⟨tk,e'.symm⟩
   | succ i =>obtain ⟨t',e'⟩:=rP (zs:=zs) i v t (by simpa using e);exact ⟨t',by simpa using e'⟩
noncomputable def pG (zs:List Str):Nat:=(met (λi=>zs.getD i "") zs.length).length
theorem r9 (hc:X.calm=true):cZ X (.type "set") (λxs H Q=>∃ (l:Addr) (zs:List Str),xs=[.ref l]/\P6 X.K H l (zs.map V.str)/\zs.length<=100/\∀ p,H p=none->Q (.ref p) (upd H p (.ext (nj p (pG zs))))):=by
 intro pins s σ H xs us Q I r h;obtain ⟨l,zs,rfl,hq,hz,q⟩:=h;obtain ⟨u,rfl,ru⟩:=cH r;cases ru;obtain ⟨its,rv,p,_⟩:=I.list hq;have lr:=rv.length;rw [MK] at lr;refine rZ (f:=λi=>zs.getD i "") (I.ok.hd hc) p.isList (λi v e=>rP i v rv (by simpa using e)) (by unfold scanBound;simp;lia) λh' tk so kp=>?_
 have so':nj s.heap.objs.size (pG zs) h':=by obtain ⟨o,es,ep,t,a1,a2,a3,_,_,_,a4,a5⟩:=so;refine ⟨o,es,ep,t,a1,a2,a3,a4,?_⟩;rw [a5];unfold pG;rw [lr];simp
 refine ⟨.ref s.heap.objs.size,_,I.laid (t':=tk) (λb o e=>kp b o (Mr e) e) (Mu _) (show P1 X.prog X.w _ h' _ (.ext (nj s.heap.objs.size (pG zs))) from ⟨so',?_,λh1 h2 z k=>?_⟩),rfl,q _ (I.hok.fresh (Mu _))⟩
 ·obtain ⟨o,_,_,_,a1,_⟩:=so';exact ⟨o,a1⟩
 ·obtain ⟨o,es,ep,t,a1,rest⟩:=z;exact ⟨o,es,ep,t,k _ a1,rest⟩
theorem nG:cZ X (.builtin "len") (λxs H Q=>∃ (p:Addr) (n:Nat),xs=[.ref p]/\H p=some (.ext (nj p n))/\n<=1000/\Q (.int n) H):=by
 intro pins s σ H xs us Q I r h;obtain ⟨p,n,rfl,hp,hn,q⟩:=h;obtain ⟨u,rfl,ru⟩:=cH r;cases ru;obtain ⟨⟨o,es,ep,t,a1,a2,a3,a4,a5⟩,_⟩:=(show P1 X.prog X.w H s.heap p (.ext (nj p n)) from I.hok p _ hp)
 subst a5;exact call_len_set a1 a2 a3 a4 (by lia) ⟨.int (es.size:Nat),H,I.tok _,⟨_,rfl⟩,q⟩
end
section
variable {K:W.Frag} {σ:St} {H H':Hp} {d d':D} {ds es:List D} {t u ta tb te tl:TE} {tt uu:TT} {tA:TA} {i j:Int} {b c:Bool} {mk:St->St} {jj:Nat} {ar:List Ar}
end
section
variable {K:W.Frag} {σ:St} {H H':Hp} {d d':D} {ds es:List D} {t u ta tb te tl:TE}
end
noncomputable def mX (K:W.Frag):V->List V->Hp->VK->Prop:=λx vs H Q=>∃ l xs y ds d j,x=.ref l/\vs=[y]/\Sl K H l xs/\PF K H ds xs/\Dat K H d y/\Qh ds=true/\QF d=true/\Qa ds<=20/\xs.length<=1000 /\
 (∃ e,ds[j]?=some e/\P4 e d=true)/\(∀ (m:Nat) e,m < j->ds[m]?=some e->P4 e d=false)/\Q (.int (j:Nat)) H
section
variable {X:Cx}
theorem ue {k:Nat} (hr:P5 k X.A):WL X "list.index" (mX X.K):=by
 intro pins s σ H x vs v us Q I rx rv h;obtain ⟨l,xs,y,ds,d,j,rfl,rfl,hH,hds,hd,n1,n2,dp,hx,⟨e0,ZU,hit⟩,hno,q⟩:=h;cases rx;obtain ⟨u,rfl,ru⟩:=cH rv;obtain ⟨its,n,r,e⟩:=hH.at I;have hl:=r.length;have ll:=hds.length
 have item:∀ (m:Nat) (w:Value),its[m]?=some w->∃ g,ds[m]?=some g/\∃ xv,RelV xv w/\Dat X.K H g xv:=λm w hw=>by have hm:m < its.length:=(Mk.mp hw).1;obtain ⟨g,hg,dg⟩:=hds.Vj (i:=m) (v:=xs[m]'(by lia)) (Ms (by lia));obtain ⟨w',Vm,rr⟩:=r.get (i:=m) (x:=xs[m]'(by lia)) (Ms (by lia));rw [hw] at Vm;cases Vm;exact ⟨g,hg,_,rr,dg⟩
 have Ut:∀ {x1 x2:V} {w:Value},RelV x1 w->RelV x2 w->x1=x2:=λ{x1 x2 w} h1 h2=>RelV.inj h1 h2
 classical
 let eq:Value->Bool:=λw=>if hw:∃ m:Nat,its[m]?=some w then (match ds[Classical.choose hw]? with | some g=>P4 g d | none=>false) else false
 have US:∀ (m:Nat) (w:Value) (g:D),its[m]?=some w->ds[m]?=some g->eq w=P4 g d:=λm w g hw hg=>by
  have Vm:∃ m:Nat,its[m]?=some w:=⟨m,hw⟩
  show (if hw:∃ m:Nat,its[m]?=some w then _ else false)=_;rw [dif_pos Vm];have hc:=Classical.choose_spec Vm;obtain ⟨g',hg',xv',r1,d1⟩:=item _ w hc;obtain ⟨g2,Xk,xv,r2,d2⟩:=item m w hw;rw [hg] at Xk;cases Xk;rw [hg'];have ex:=Ut r1 r2;subst ex;have:=jI I g' g (cW n1 hg') d1 d2 (cW n1 hg);rw [this]
 have hj:j < ds.length:=(Mk.mp ZU).1
 have hu:X.A.in1.units+20+1 < cLine:=by have:=hr.un;show X.A.units+1+20+1 < cLine;lia
 refine N1 Oa ⟨_,e,rfl⟩ F.entry_list_index (F.args_list_index_2 _ _) (SeqAt.list_indexAt l its.toArray n none #[] u eq j (by simp;lia) (by lia) ?_ ?_) ⟨e,?_,?_⟩
 ·have hw:its[j]?=some (its[j]'(by lia)):=Ms (by lia);have:=US j _ e0 hw ZU;simpa [this] using hit
 ·intro m hm YN;have hm':m < its.length:=by simpa using hm
  have hw:its[m]?=some (its[m]'hm'):=Ms hm';obtain ⟨g,hg,_⟩:=item m _ hw;have:=US m _ g hw hg;simpa [this] using hno m g YN hg
 ·intro w hw;obtain ⟨m,hm,rfl⟩:=Array.getElem_of_mem hw;have hm':m < its.length:=by simpa using hm
  have Xl:its[m]?=some (its[m]'hm'):=Ms hm';obtain ⟨g,hg,xv,r1,d1⟩:=item m _ Xl;have z1:its.toArray[m]=its[m]'hm':=by simp
  rw [z1,US m _ g Xl hg];exact mD I 20 X.A.in1 g d xv y _ u hu (MQ (eS hg) dp) (cW n1 hg) n2 d1 hd r1 ru
 ·exact ⟨.int (j:Nat),H,I.tok _,⟨_,rfl⟩,q⟩
theorem lN {k:Nat} (hr:P5 k X.A):Xf X "list.index" (mX X.K):=ue hr
end
section
variable {K:W.Frag} {σ:St} {H:Hp} {te:TE}
end
section
variable {P:Program} {w:World} {H H':Hp} {h h1 h2:Heap} {a b T:Addr} {o:HO} {fs:List Addr}
theorem P1.has (x:P1 P w H h a o):∃ u,h.get? a=some u:=by
 cases o with
 | lst xs=>obtain ⟨_,_,_,_,e⟩:=x;exact ⟨_,e⟩
 | tup xs=>obtain ⟨_,_,_,ob,e,_⟩:=x;exact ⟨ob,e⟩
 | dK kvs=>obtain ⟨_,_,_,_,o,_,_,e,_⟩:=x;exact ⟨_,e⟩
 | dT kvs=>obtain ⟨_,_,_,_,o,_,_,e,_⟩:=x;exact ⟨_,e⟩
 | set S n=>obtain ⟨o,_,_,_,e,_⟩:=x;exact ⟨_,e⟩
 | ins C dx fs=>obtain ⟨_,_,_,e,_⟩:=x;exact ⟨_,e⟩
 | own y=>exact x
 | xd fs=>obtain ⟨_,⟨_,_,_,e,_⟩,_⟩:=x;exact ⟨_,e⟩
 | R5 lo hi=>obtain ⟨_,_,_,e⟩:=x;exact ⟨_,e⟩
 | U4 ob u=>obtain ⟨e,_⟩:=x;exact ⟨_,e⟩
 | VT ps=>exact ⟨_,(show h.get? a=some _ from x)⟩
 | met f y=>exact ⟨_,(show h.get? a=some _ from x)⟩
 | ext φ=>obtain ⟨_,e,_⟩:=x;exact e
theorem QM.empty (x:QM P w H h) (e:h.get? a=none):H a=none:=by
 cases q:H a with
 | none=>rfl
 | some u =>obtain ⟨v,r⟩:=(x a u q).has;rw [e] at r;cases r
noncomputable def Wk (h:Heap) (e T:Addr) (cls a0:Value):Prop :=
 ∃ oe vs oT ts,h.get? e=some oe/\(oe.cls=cls/\vs[0]?=some a0)/\oe.data=.fields vs/\vs[1]?=some (.ref T)/\T≠e/\h.get? T=some oT/\oT.data=.fields ts/\ts[3]?=some .none
noncomputable def YO (P:Program) (w:World):Tf:=λouter H s E e s' =>
 ∃ a T cls a0 H',e=.ref a/\s'.os=s.os/\AllBare s'.gens/\Un (frs outer) [] H H' s.heap s'.heap/\QM P w H' s'.heap /\
  (s.heap.get? a=none/\s.heap.get? T=none/\H' a=none/\H' T=none)/\Wk s'.heap a T cls a0/\E cls none H'
theorem rV (U:Un fs [] H H' h h1) (ha:h.get? a=none) (hT:h.get? T=none) (k:∀ b o,h1.get? b=some o->b≠a->b≠T->b ∉ fs->h2.get? b=some o)
  (sl:∀ b o,h1.get? b=some o->b ∈ fs->∃ sl,h2.get? b=some { o with slots:=sl }):Un fs [] H H' h h2:=by
 have na:∀ b o,h.get? b=some o->b≠a:=λb o q z=>by rw [z,ha] at q;cases q
 have nT:∀ b o,h.get? b=some o->b≠T:=λb o q z=>by rw [z,hT] at q;cases q
 refine ⟨λb o q n hb hx=>k b o (U.keep b o q n hb hx) (na b o q) (nT b o q) hb,λb o q n hb hx=>?_,U.free,λb o q hx=>?_,U.tups,U.R6,U.Sk⟩
 ·obtain ⟨s1,e1⟩:=U.slot b o q n hb hx;obtain ⟨s2,e2⟩:=sl b _ e1 hb;exact ⟨s2,e2⟩
 ·obtain ⟨o1,e1⟩:=U.there b o q hx;by_cases hb:b ∈ fs
  ·obtain ⟨s2,e2⟩:=sl b _ e1 hb;exact ⟨_,e2⟩
  ·exact ⟨o1,k b o1 e1 (na b o q) (nT b o q) hb⟩
theorem pT (O:QM P w H h1) (ha:H a=none) (hT:H T=none) (hf:∀ b ∈ fs,H b=none) (k:∀ b o,h1.get? b=some o->b≠a->b≠T->b ∉ fs->h2.get? b=some o):QM P w H h2:=λc u e =>
 (O c u e).stay (λb v hb q=>by
  have hn:H b≠none:=by
   rcases hb with z | z
   ·rw [z,e];exact λy=>nomatch y
   ·rw [z];exact λy=>nomatch y
  exact k b v q (λz=>hn (by rw [z];exact ha)) (λz=>hn (by rw [z];exact hT)) λz=>hn (hf b z)) (λ_ q=>q) λ_ _ q=>q
variable {base:Heap} {l:List Env} {cls a0:Value}
theorem we (F:h.FunFrames base l) (t:Wk h a T cls a0):Heap.FlyingW (W.hideAll h (a::T::frs l)) l a cls a0 h:=by
 obtain ⟨oe,vs,oT,ts,he,hc,hd,hv,hne,hT,Yb,h3⟩:=t
 exact ⟨λb o q=>OT _ q,NJ _ (.head _),W.funFrames_hide F λenv hm b hb=>.tail _ (.tail _ (Oz.mpr ⟨env,hm,hb⟩)),
  oe,vs,T,oT,ts,he,hc,hd,hv,NJ _ (.tail _ (.head _)),hne,hT,Yb,h3⟩
theorem j5 {l':List Env} (F:h.FunFrames base l) (x:Heap.FlyingW (W.hideAll h (a::T::frs l)) l' a cls a0 h2) (U:h.UpToSlots h2) :
  ∃ T2,Wk h2 a T2 cls a0/\(T2=T\/h.get? T2=none)/\(∀ b o,h.get? b=some o->b≠a->b≠T->b ∉ frs l->h2.get? b=some o)/\(∀ b o,h.get? b=some o->b ∈ frs l->∃ sl,h2.get? b=some { o with slots:=sl }):=by
 obtain ⟨f1,f2,f3,oe,vs,T2,oT,ts,he,hc,hd,hv,hn,hne,hT,Yb,h3⟩:=x
 have sl:∀ b o,h.get? b=some o->b ∈ frs l->∃ sl,h2.get? b=some { o with slots:=sl }:=λb o q hb=>by obtain ⟨_,o',ho',hnf⟩:=F.mem hb;rw [q] at ho';cases ho';exact U b o q hnf
 refine ⟨T2,⟨oe,vs,oT,ts,he,hc,hd,hv,hne,hT,Yb,h3⟩,?_,λb o q n1 n2 n3=>f1 b o (Om _ q λz=>?_),sl⟩
 ·cases q:h.get? T2 with
  | none=>exact .inr rfl
  | some o =>
   refine .inl ?_;by_cases m:T2 ∈ a::T::frs l
   ·rcases MA.mp m with z | m
    ·exact absurd z hne
    ·rcases MA.mp m with z | m
     ·exact z
     ·obtain ⟨_,o',ho',hnf⟩:=F.mem m;rw [q] at ho';cases ho';obtain ⟨s2,e2⟩:=sl T2 o q m;rw [hT] at e2;cases e2;exact absurd Yb (hnf ts)
   ·rw [Om _ q m] at hn;cases hn
 ·rcases MA.mp z with z | z
  ·exact n1 z
  ·rcases MA.mp z with z | z
   ·exact n2 z
   ·exact n3 z
end
section
variable {X:Cx} {pins:List (Addr × Obj)} {σ:St} {H:Hp} {s s':Shared} {E:XK} {e:Value}
theorem YO.behind (I:Inv X pins σ H s) (x:YO X.prog X.w X.stack H s E e s'):∃ a T cls a0 H',e=.ref a/\E cls none H'/\s.heap.get? a=none/\H' a=none/\Inv X pins σ H' s' /\
  Heap.FlyingW (W.hideAll s'.heap (a::T::frs X.stack)) X.stack a cls a0 s'.heap /\
  ∀ h2 l',Heap.FlyingW (W.hideAll s'.heap (a::T::frs X.stack)) l' a cls a0 h2->s'.heap.UpToSlots h2 ->
   ∃ T2,Inv X pins σ H' { s' with heap:=h2 }/\Wk h2 a T2 cls a0/\s.heap.get? T2=none/\H' T2=none/\Un (frs X.stack) [] H H' s.heap h2:=by
 obtain ⟨a,T,cls,a0,H',he,os,bare,un,hok,⟨sa,sT,na,nT⟩,tr,q⟩:=x;have J:Inv X pins σ H' s':=I.Rp (ch:=[]) os un hok bare (λb z=>absurd z (by simp));refine ⟨a,T,cls,a0,H',he,q,sa,na,J,we J.stack tr,λh2 l' fl up=>?_⟩;obtain ⟨T2,t2,hT2,k2,sl2⟩:=j5 J.stack fl up
 have WN:H' T2=none:=by
  rcases hT2 with z | z
  ·rw [z];exact nT
  ·exact hok.empty z
 have Xm:s.heap.get? T2=none:=by
  rcases hT2 with z | z
  ·rw [z];exact sT
  ·cases q:s.heap.get? T2 with
   | none=>rfl
   | some o =>obtain ⟨o',r⟩:=un.there T2 o q (by simp);rw [z] at r;cases r
 exact ⟨T2,I.Rp (s':={ s' with heap:=h2 }) (ch:=[]) os (rV un sa sT k2 sl2) (pT hok na nT J.RH k2) bare (λb z=>absurd z (by simp)),t2,Xm,WN,rV un sa sT k2 sl2⟩
end
noncomputable def Fre (h:Heap) (e:Addr) (cls a0:Value):Prop:=∃ oe vs,h.get? e=some oe/\(oe.cls=cls/\vs[0]?=some a0)/\oe.data=.fields vs/\vs[1]?=some .none
noncomputable def eE (K:W.Frag) (C:Addr) (bmB:List Value) (newId:String) (ini:Option Value):Bool:=match K.lookup C with
 | some ⟨.type "type",_,.cls cd,slots⟩=>(match cd.mro,slots.toList with
  | .ref C'::bm,[_,_,_,_,some (.builtin n),_]=>C' == C && n == newId && !cd.hasDel && W.tailIn K bmB bm && W.nsOkIn K cd.ns && W.nsIn K cd.ns "__init__" == some ini
  | _,_=>false)
 | _=>false
theorem qg {h:Heap} {N:Addr} {n:Str} {v:Value} (X:K.In h) (G:h.Ns N mg) (e:W.nsIn K N n=some (some v)):mg n=some v:=by
 obtain ⟨o,es,ep,ho,hd,_,hf⟩:=G;unfold W.nsIn at e;split at e
 ·rename_i c d es' n' sl q;have:=X _ _ q;rw [ho] at this;cases this;cases hd;split at e
  ·rename_i en he;rw [<- hf];unfold nsFind findBy;rw [<- Array.find?_toList,he];cases e;rfl
  ·split at e <;> cases e
 ·cases e
theorem pR {h:Heap} {C:Addr} {bmB:List Value} {newId:String} {ini:Option Value} (X:K.In h) (q:eE K C bmB newId ini=true) :
  ∃ bm N nm qn bs hd sn sub ab col dd k0 k1 k2 k3 k5 mN,h.get? C=some (excClassObj nm qn C N bs bm hd sn sub ab col dd k0 k1 k2 k3 k5 newId)/\h.Ns N mN/\mN "__init__"=ini/\OwnTail h bmB bm:=by
 unfold eE at q;split at q
 ·rename_i dd cd sl ho;split at q
  ·rename_i C' bm k0 k1 k2 k3 n k5 hm hs;rw [MC,MC,MC,MC,MC] at q;obtain ⟨⟨⟨⟨⟨e1,e2⟩,Xn⟩,ht⟩,hok⟩,hni⟩:=q;obtain rfl:=O1.mp e1;obtain rfl:=O1.mp e2;have hni:=O1.mp hni;obtain ⟨cnm,cbs,mro,ns,cqn,chd,csn,YQ,VB,YR,del⟩:=cd;have hsl:sl.toList.toArray=[k0,k1,k2,k3,some (.builtin n),k5].toArray:=by rw [hs]
   rw [Array.toArray_toList] at hsl;subst hsl;have hm:mro=.ref C'::bm:=hm
   have hde:del=false:=by
    have z:(!del)=true:=Xn
    cases del with
    | true=>cases z
    | false=>rfl
   clear Xn;subst hm hde;have hN:h.Ns ns (h.nsMap ns):=.of_isNs (W.isNs_of_in X hok);refine ⟨bm,ns,cnm,cqn,cbs,chd,csn,YQ,VB,YR,dd,k0,k1,k2,k3,k5,_,X _ _ ho,hN,?_,W.tail_of_in X ht⟩
   cases ini with
   | none=>exact W.ns_none_of X hN hni
   | some v=>exact qg X hN hni
  ·cases q
 ·cases q
noncomputable def cm (CX:Tf) (X:Cx) (E:St->XK):Prop:=∀ (pins:List (Addr × Obj)) (σ:St) (H:Hp) (s:Shared) (e:Value) (s':Shared),Inv X pins σ H s->CX X.stack H s (E σ) e s'->X.xe e s'
theorem Passes.s {E:XK} (h:Passes CX X E):cm CX X (λ_=>E):=h
section
variable {X:Cx} {CX:Tf} {k:Nat} {f C:Addr} {fd:FuncData} {ps:List Str} {sp:Sp} {Sq:List V} {ds:List Value} {E:St->XK} {x m:Str} {p pos apos:Pos} {e o:Expr} {es:List Expr} {ta:TE} {t:TA}
theorem rL {pins:List (Addr × Obj)} {σ:St} {H:Hp} {s:Shared} {Q:VK} {us:List Value} {vs:List V} (F:PB X.prog X.w X.K X.mg X.base CX k f fd ps sp) (hr:P5 k X.A) (hb:Binds X.K fd ps ds) (hd:Vals Sq ds) (hx:cm CX X E)
  (I:Inv X pins σ H s) (r:Vals vs us) (h:sp (vs++Sq) H Q (E σ)):wpAny (model X.prog X.w) X.A (call (.ref f) us) (EP X pins σ Q) X.xe s:=by
 have r2:Vals (vs++Sq) (us++ds):=r.append hd;have hl:(us++ds).length=ps.length:=by rw [<- r2.length];exact F.len _ _ _ _ h
 refine Oi (NQ (F.run X.A X.stack s H ⟨us,[]⟩ (us++ds) (vs++Sq) Q (E σ) hr I.VL (hb s us I.QK hl) r2 h) λr s' hq=>?_)
 cases r with
 | error e=>exact hx pins σ H s e s' I hq
 | ok fl =>
  cases fl with
  | ret u=>exact I.after hq
  | next=>exact False.elim hq
  | brk=>exact False.elim hq
  | cont=>exact False.elim hq
theorem eH (F:PB X.prog X.w X.K X.mg X.base CX k f fd ps sp) (hr:P5 k X.A) (hg:Gl X x) (hm:X.mg x=some (.ref f)) (hk:W.keepIn X.K (.ref f)=true) (hb:Binds X.K fd ps ds) (hd:Vals Sq ds) (hx:cm CX X E)
  (ha:PA X (e::es) t) (hdb:(x == ("__debug__":Str))=false:=by decide) (he:starEach (e::es) X.env=(false,eval e X.env)::starEach es X.env:=by rfl) (hpl:(backTo pos (starEach es X.env)).any (·.1)=false:=by rfl) :
  PE X (.Call (.Name x p) (e::es) [] pos) (λσ=>fU sp Sq (E σ) t σ):=by
 intro pins s σ H Q I h;refine NR (dX I hg hm ?_ hdb);refine OV (h₀:=X.base) I.ok.mod.VG hk (PR (ha pos pins s σ H _ I h) λus s1 ⟨vs,H1,I1,r,q⟩=>⟨I1.QK,?_⟩) he hpl;exact rL F hr hb hd hx I1 r q
end
theorem PB.YS {base:Heap} {k:Nat} {f:Addr} {ps:List Str} (F:PB P w K mg base Ul k f fd ps sp):PB P w K mg base CX k f fd ps sp :=
 ⟨F.len,λA outer s H args us vs Q E hr he hb hv hs=>NQ (F.run A outer s H args us vs Q E hr he hb hv hs) λr s' h=>by
  cases r with
  | error e=>exact False.elim h
  | ok fl=>cases fl <;> exact h⟩
noncomputable def Cx.hand (X:Cx) (e:Value):Cx:={ X with A:=X.A.mark (some e),calm:=false,xe:=λ_ _=>False }
theorem Cx.Ok.hand {e:Value} (o:X.Ok):(X.hand e).Ok :=
 ⟨o.mod,o.kind,o.glob,o.blt,o.above,o.inj,o.has,o.VB,(λz=>nomatch z),o.frames,o.stk,o.W9,o.bs,o.UJ,o.T8,o.Uo,o.Ro,o.Vb⟩
section
variable {X:Cx} {pins QN:List (Addr × Obj)} {σ:St} {H:Hp} {s:Shared} {xe:Value->Shared->Prop} {e:Value}
theorem Inv.hand (I:Inv X pins σ H s):Inv (X.hand e) pins σ H s:=⟨I.ok.hand,I.os,I.bare,I.base,I.loc,I.cell,I.free,I.Qx,I.pin,I.hok,I.len⟩
theorem Inv.Ra (o:X.Ok) (I:Inv (X.hand e) pins σ H s):Inv X pins σ H s:=⟨o,I.os,I.bare,I.base,I.loc,I.cell,I.free,I.Qx,I.pin,I.hok,I.len⟩
theorem Inv.Xo (I:Inv X pins σ H s):Inv { X with pn:=X.pn++pins,xe:=xe } [] σ H s :=
 ⟨⟨I.ok.mod,I.ok.kind,I.ok.glob,I.ok.blt,I.ok.above,I.ok.inj,I.ok.has,I.ok.VB,I.ok.hd,I.ok.frames,I.ok.stk,I.ok.W9,I.ok.bs,I.ok.UJ,I.ok.T8,I.ok.Uo,I.ok.Ro,I.ok.Vb⟩,I.os,I.bare,I.base,I.loc,I.cell,I.free,I.Qx,
  λp hp=>I.pin p (by simpa using hp),I.hok,I.len⟩
theorem Inv.QJ (o:X.Ok) (I:Inv { X with pn:=X.pn++pins,xe:=xe } QN σ H s):Inv X pins σ H s :=
 ⟨o,I.os,I.bare,I.base,I.loc,I.cell,I.free,I.Qx,λp hp=>I.pin p (Og _ hp),I.hok,I.len⟩
end
end L2
namespace L2
open PySem PySem.Spec PySem.Calls PyProof.Rows PySem.W PySem.Builtin PySem.Builtin.ObjectAttr PySem.Builtin.Getset_descriptor
section
variable {prog:Program} {w:World} {A:Around} {E:Value->Shared->Prop} {s:Shared} {K:Frag} {x D:Addr} {ox:Obj} {od:Option Obj} {name:Str}
theorem uU (o:Value):bindSpecial (.builtin "BaseException.__getattribute__") o=pure (.builtin "BaseException.__getattribute__",[o]):=F.attr_ValueError.ga.bind o
structure fA (K:Frag) (D:Addr):Prop where
 ga:findIn K (.ref D) "__getattribute__"=some (some (.builtin "BaseException.__getattribute__"))
 gt:findIn K (.ref D) "__getattr__"=some none
 dct:hasDictIn K D=true
 a:findIn K (.ref D) "__class__"=some (some (.builtin "object.__class__"))
 n:specialIn K (.builtin "object.__class__") "__get__"=some (some (.builtin "getset_descriptor.__get__"))
 tk:takesIn K (.builtin "object.__class__")=some true
 m:mroIn K D (.type "object")=some true
 b:mroIn K D (.type "BaseException")=some true
theorem yU {R:Result->Shared->Prop} {tp:Value} (X:K.In s.heap) (L0:Looks (model prog w) s.heap (typeOf (.ref x)) (.ref D)) (hm:mroIn K D (.type "object")=some true)
  (h:R (.ok (.ret (.ref D))) s):codeAny (model prog w) A (.call (.builtin "getset_descriptor.__get__") ⟨[.builtin "object.__class__",.ref x,tp],[]⟩) R s:=by
 obtain ⟨hh,g,dr,t,os⟩:=s;have L1:=looks_mroIn (M:=model prog w) X hm;refine Ol KF.slot_gs.plain KF.entry_gs ?_;refine KF.slot_gs.check _ _ _ _ _ _ _ _ KF.type_class (KF.args_gs _ _ _) ?_;unfold «getset_descriptor.__get__»;unfold descrGet;rw [dga_obj];refine pg (Mq ?_);unfold descrGetter descrCheckInstance;unfold descrNameAndClass isInstance;simp only [KF.owner_class]
 repeat lk
 refine ⟨OD _ (by decide +kernel),?_⟩;refine O0 KF.entry_class ?_;unfold Builtin.«object.__class__» shownTypeOf
 repeat lk
 exact h
theorem wz {M:Model} {h:Heap} (X:K.In h) (kx:fA K D):Looks M h (Builtin.ObjectAttr.find (.ref x) (.ref D) "__class__") (.bind (.builtin "getset_descriptor.__get__") (.builtin "object.__class__")):=by have L1:=Px (M:=M) X kx.a;have L2:Looks M h (Builtin.ObjectAttr.getOf (some (.builtin "object.__class__"))) (some (.builtin "getset_descriptor.__get__")):=looks_specialIn X kx.n;have L3:=looks_takesIn (M:=M) X kx.tk;unfold Builtin.ObjectAttr.find;refine L1.andThen (L2.andThen ?_);unfold Builtin.ObjectAttr.dataDescriptor?;refine Looks.andThen (a:=some (.builtin "getset_descriptor.__get__",.builtin "object.__class__")) (L3.andThen .now) ?_;exact Looks.tag .now
theorem t4 {Q:Option Value->Shared->Prop} (X:K.In s.heap) (L0:Looks (model prog w) s.heap (typeOf (.ref x)) (.ref D)) (kx:fA K D)
  (h:Q (some (.ref D)) { s with toks:=s.toks+1 }):wpAny (model prog w) A (getAttr? (.ref x) "__class__") Q E s:=by
 obtain ⟨hh,g,d,t,os⟩:=s;have L1:=Px (M:=model prog w) X kx.ga;have L2:=Px (M:=model prog w) X kx.gt;have L3:=wz (M:=model prog w) (x:=x) X kx;have L4:Looks (model prog w) hh (isInstance (.ref x) (.type "BaseException")) true:=L0.andThen (looks_mroIn X kx.b);unfold getAttr? getAttrBy? getAttrBy;refine pg (wpAny_mkText (pg (Oo (Nj ?_))));refine pg (L0.at ?_);refine pg (L1.at ?_);show wpAny _ _ (getAttrByItsOwn _ _ _ _ _ _) _ _ _;unfold getAttrByItsOwn hookBefore;refine pg ?_;show wpAny _ _ (typeLookup (.ref D) "__getattr__") _ _ _;refine L2.at (pg (Oo (Nj ?_)));show wpAny _ _ (boundAndCalled _ _ _) _ _ _;unfold boundAndCalled;rw [uU];refine pg (Mq (Oi ?_));refine Ol F.attr_ValueError.ga.plain F.entry_bexc_ga (@check_slot (model prog w) _ _ _ "BaseException.__getattribute__" "BaseException" "__getattribute__" (.ref x) _ [] _ (by decide +kernel) (by decide +kernel) L4 (F.args_bexc_ga _ _) ?_);refine pg (Mq (pg (Mq (pg (L0.at (pg (L3.at ?_)))))));show wpAny _ _ (holding [Value.builtin "object.__class__"] (call (.builtin "getset_descriptor.__get__") [.builtin "object.__class__",.ref x,.ref D]) >>= ret) _ _ _;refine pg (Nj (Oi (yU (s:=⟨hh,g,d,t+1,os⟩) X L0 kx.m ?_)));refine Mq ?_;refine handed_on rfl ?_;exact Mq h
end
noncomputable def gi (x:Addr) (D:Addr):HO:=.ext λh=>∃ oe,h.get? x=some oe/\oe.cls=.ref D
theorem wd {M:Model} {h:Heap} {x D:Addr} (q:∃ oe,h.get? x=some oe/\oe.cls=.ref D):Looks M h (typeOf (.ref x)) (.ref D):=by obtain ⟨oe,he,hc⟩:=q;rw [<- hc];exact (Looks.ld he).andThen .now
theorem wB {K:Frag} {x D:Addr} (kx:fA K D):KitX K (.ref x) (.ref D) (λh=>∃ oe,h.get? x=some oe/\oe.cls=.ref D) where
 ty:=λ_ _ _ q=>wd q
 it:=λ_ _ X _=>by
  obtain ⟨cdD,Wl,_⟩:=any_some kx.dct;unfold clsIn at Wl;split at Wl
  ·rename_i c' d' cd' Yw ho;intro A' Q' E' s' k q;unfold isType loadHead;have ho':=k _ _ (X _ _ ho);exact pg (wpAny_loadPart ho' (Mq q))
  ·cases Wl
 ne:=λh tp dd its n sl X htp=>by
  obtain ⟨cdD,Wl,_⟩:=any_some kx.dct;refine Bool.eq_false_iff.mpr λq=>?_;cases O1.mp q;unfold clsIn at Wl;split at Wl
  ·rename_i c' d' cd' Yw ho;have z:=(X _ _ ho).symm.trans htp;cases z
  ·cases Wl
 ca:=λX q k=>t4 X (wd q) kx k
theorem pX {X:Cx} {pins:List (Addr × Obj)} {σ:St} {H:Hp} {s:Shared} {A:Around} {E:Value->Shared->Prop} {Q:Value->Shared->Prop} {c:Value} {b:Bool} {x D:Addr} (I:Inv X pins σ H s) (hx:H x=some (gi x D)) (kx:fA X.K D)
  (e:kitOne X.K (.ref D) c=some b) (h:∀ tk,Q (.bool b) { s with toks:=tk }):wpAny (model X.prog X.w) A (call (.builtin "isinstance") [.ref x,c]) Q E s:=by
 obtain ⟨q,_,_⟩:=(show P1 X.prog X.w H s.heap x (gi x D) from I.hok x _ hx)
 exact kia_one (wB kx) I.QK q e (λz=>nomatch z) h
section
variable {X:Cx} {pins:List (Addr × Obj)} {σ:St} {H H':Hp} {s s2:Shared} {a:Addr} {o:HO}
theorem QM.Tj {P:Program} {w:World} {h:Heap} (hok:QM P w H h) (na:H a=none) (new:P1 P w (upd H a o) h a o):QM P w (upd H a o) h:=λb u e=>by
 by_cases hb:b=a
 ·subst hb;rw [aF] at e;cases e;exact new
 ·rw [aE hb] at e;exact (hok b u e).stay (λ_ _ _ q=>q) (λc q=>by rw [aE (aV q na)];exact q) λc xs q=>by rw [aE (aV q na)];exact q
theorem Inv.Tj (I:Inv X pins σ H s) (J:Inv X pins σ H' s2) (un:Un (frs X.stack) [] H H' s.heap s2.heap) (sa:s.heap.get? a=none) (na:H' a=none) (new:P1 X.prog X.w (upd H' a o) s2.heap a o):Inv X pins σ (upd H' a o) s2:=by
 have nb:∀ b u,s.heap.get? b=some u->b≠a:=λb u q z=>by rw [z,sa] at q;cases q
 refine I.Rp (ch:=[]) (J.os.trans I.os.symm) ⟨un.keep,un.slot,λb u q n hx=>by rw [aE (nb b u q)];exact un.free b u q n hx,un.there,λb xs q=>?_,λb u xs q=>?_,λb ps q=>?_⟩ (J.hok.Tj na new) J.bare (λb z=>absurd z (by simp))
 ·have z:=un.tups b xs q;rw [aE (aV z na)];exact z
 ·have z:=un.R6 b u xs q;rw [aE (aV z na)];exact z
 ·obtain ⟨m,z⟩:=un.Sk b ps q;exact ⟨m,by rw [aE (aV z na)];exact z⟩
theorem Inv.gone {M:Model} {A:Around} {E:Value->Shared->Prop} {i:Nat} {n:Str} {pos:Pos} {Q:Unit->Shared->Prop} (I:Inv X pins σ H s) (hN:X.N.Nodup) (hi:X.N[i]?=some n) (hl:X.env.kindOf n=some .local)
  (h:∀ s',Inv X pins (σ.set i none) H s'->Q () s'):wpAny M A (do bindName X.env n .none;unbindBehindTheSuite X.env n pos) Q E s:=by
 obtain ⟨m,hn,hlo⟩:=id I.loc;obtain ⟨oL,_,_,ZD,_⟩:=id hn;have Vc:=I.Vc;refine wpAny_nameGoes_keeps hl hn (by rw [I.ok.kind];rfl) λh' v hn' hs=>h _ ?_
 have hok:QM X.prog X.w H h':=λb ob e=>by
  refine (I.hok b ob e).stay (λc w' hc q=>(hs.2 c ?_).trans q) (λ_ q=>q) λ_ _ q=>q;rintro rfl;rcases hc with z | z
  ·rw [<- z,I.free] at e;cases e
  ·rw [I.free] at z;cases z
 refine ⟨I.ok,I.os,I.bare,⟨λb o e n hb hx=>?_,λb o e n hb hx=>?_,I.base.free,λb o e hx=>?_,I.base.tups,I.base.R6,I.base.Sk⟩,⟨_,hn',λj y v' e1 e2 e3=>?_⟩,λy c e=>?_,I.free,I.Qx,λp hp=>?_,hok,by simpa using I.len⟩
 ·exact (hs.2 b (Mv (Mw (Mr e) I.ok.above))).trans (I.base.keep b o e n hb hx)
 ·obtain ⟨sl,e1⟩:=I.base.slot b o e n hb hx;exact ⟨sl,(hs.2 b (Mv (Mw (Mr e) I.ok.above))).trans e1⟩
 ·obtain ⟨o',e1⟩:=I.base.there b o e hx;exact ⟨o',(hs.2 b (Mv (Mw (Mr e) I.ok.above))).trans e1⟩
 ·by_cases hj:j=i
  ·subst hj;rw [List.getElem?_set] at e2;simp at e2
  ·rw [Oh (MD hj)] at e2;obtain ⟨u',r',q⟩:=hlo j y v' e1 e2 e3;refine ⟨u',r',?_⟩;rcases q with ⟨k,e⟩ | ⟨k,c,e,z⟩
   ·refine .inl ⟨k,?_⟩;have:y≠n:=λe=>hj (kh hN e1 (e ▸ hi));simp [this,e]
   ·exact .inr ⟨k,c,e,z.sameBut hs (Vc y c e)⟩
 ·obtain ⟨w',z⟩:=I.cell y c e;exact ⟨w',z.sameBut hs (Vc y c e)⟩
 ·obtain ⟨e,n,ne,nf,d⟩:=I.pin p hp;exact ⟨(hs.2 p.1 ne).trans e,n,ne,nf,d⟩
end
noncomputable def Ends.gone (D:Ends) (i:Nat):Ends:={ nx:=λσ H=>D.nx (σ.set i none) H,rt:=D.rt,bk:=λσ H=>D.bk (σ.set i none) H,ct:=λσ H=>D.ct (σ.set i none) H }
end L2
namespace L2
open PySem PySem.Spec PySem.Calls PyProof.Rows
section
variable {P:Program} {w:World} {K:W.Frag} {mg:Str->Option Value} {base:Heap}
structure Rq (k:Nat) (A:Around):Prop where
 dp:A.depth+3 * k+5 < recursionLimit
 un:A.units+16 * k+200 < cLine
theorem P5.h {k:Nat} {A:Around} (r:P5 k A):Rq k A:=⟨r.dp,r.un⟩
theorem Rq.mark {k:Nat} {A:Around} {e:Option Value} (r:Rq k A):Rq k (A.mark e):=⟨r.dp,r.un⟩
theorem Rq.deeper {k:Nat} {A:Around} (r:Rq (k+1) A) (env:Env):Rq k (A.deeper env) :=
 ⟨by have:=r.dp;show A.depth+1+3 * k+5 < _;lia,by have:=r.un;show A.units+3+16 * k+200 < _;lia⟩
structure qS (P:Program) (w:World) (K:W.Frag) (mg:Str->Option Value) (base:Heap) (k:Nat) (f:Addr) (fd:FuncData) (ps:List Str) (sp:Sp):Prop where
 len:∀ vs H Q E,sp vs H Q E->vs.length=ps.length
 run:∀ (A:Around) (outer:List Env) (s:Shared) (H:Hp) (args:Args) (us:List Value) (vs:List V) (Q:VK) (E:XK),Rq k A->TH P w K mg base A outer s H->BindsTo s fd args (ps.zip us)->Vals vs us->sp vs H Q E ->
  codeAny (model P w) A (.call (.ref f) args) (CR Ul outer P w H s Q E) s
noncomputable def Cx.Uu (X:Cx):Cx:={ X with calm:=false,xe:=λ_ _=>False }
theorem UQ.okH {x qual:Str} {st:Stmt} {f:Addr} {fd:FuncData} {N ps:List Str} {k:Nat} {sp:Sp} (F:UQ K x qual st f fd) (S:Pz N ps (ag st)) (len:∀ vs H Q E,sp vs H Q E->vs.length=ps.length)
  (hbody:∀ (cdv:Value) (A:Around) (outer:List Env) (s:Shared) (H:Hp) (vs:List V) (Q:VK) (E:XK),Rq k (A.deeper (envOfC qual (ag st) s.heap.objs.size f cdv))->sp vs H Q E ->
   ∃ t,QI (dm Ul P w K mg base N qual (ag st) f cdv A outer s H E).Uu (b8 st) t/\t { nx:=λ_ H'=>Q .PJ H',rt:=Q } (start N vs) H):qS P w K mg base (k+1) f fd ps sp:=by
 obtain ⟨oc,od,kV,doc,pm,an,cdv,ct,osl,rfl,lk,hcd⟩:=F.ex;refine ⟨len,λA outer s H args us vs Q E hr e0 hb r UL=>?_⟩;have hl:=len _ _ _ _ UL;have KX:K.In s.heap:=e0.mod.VG.keeps λb o e=>(e0.bs b o e).1;have lim:s.heap.NoLimit:=e0.mod.nolimit.keeps λb o e=>(e0.bs b o e).1
 have hkind:∀ y ∈ ps.zip us,(ag st).names.lookup y.1=some .local\/((ag st).names.lookup y.1=some .cell/\((cellsFrom (s.heap.objs.size+1) (ag st).names []).lookup y.1).isSome=true):=λ⟨n,v⟩ hy=>by
  rcases S.par n (OW hy).1 with q | q
  ·exact .inl q
  ·exact .inr ⟨q,W.cellsFrom_some _ _ _ (.inl q)⟩
 refine codeAny_call_function (by have:=hr.dp;lia) (KX _ _ lk) rfl S.co S.gen rfl (W.codeRec_of KX hcd) (hb _ _ _ _ ?_);refine wpAny_newFunctionEnv_cells S.kind hkind λenv he s1 x=>?_;subst he;refine ⟨lim.keeps x.toInCall.keep,codeAny_func ?_⟩;obtain ⟨t,ht,hq⟩:=hbody cdv A outer s H vs Q E (hr.deeper _) UL;have e1:TH P w K mg base { A with handled:=none } outer s H:=⟨e0.frames,e0.mod,e0.bs,e0.UJ,e0.Ro,e0.Vb,e0.hok,e0.bare⟩
 have I0:Inv (dm Ul P w K mg base N qual (ag st) f cdv { A with handled:=none } outer s H E) [] (start N vs) H s1:=lK S rfl e1 hl r x
 have I:Inv (dm Ul P w K mg base N qual (ag st) f cdv A outer s H E).Uu [] (start N vs) H s1 :=
  ⟨⟨I0.ok.mod,I0.ok.kind,I0.ok.glob,I0.ok.blt,I0.ok.above,I0.ok.inj,I0.ok.has,I0.ok.VB,(λz=>nomatch z),Around.frames_deeper e0.frames,I0.ok.stk,I0.ok.W9,I0.ok.bs,I0.ok.UJ,I0.ok.T8,I0.ok.Uo,I0.ok.Ro,I0.ok.Vb⟩,
   I0.os,I0.bare,I0.base,I0.loc,I0.cell,I0.free,I0.Qx,I0.pin,I0.hok,I0.len⟩
 refine MT (ht [] s1 (start N vs) H _ I hq) (λfl s' hs=>?_) λe s' hs=>hs.elim
 have fin:∀ {σ':St} {H':Hp} {v:V} {u:Value},Inv (dm Ul P w K mg base N qual (ag st) f cdv A outer s H E).Uu [] σ' H' s'->RelV v u->Q v H'->CE outer P w H s Q u s' :=
  λ{σ' H' v u} J rv q=>⟨v,H',J.os,J.bare,J.base,J.hok,rv,q⟩
 cases fl with
 | ret u =>obtain ⟨v,σ',H',J,rv,q⟩:=hs;exact fin J rv q
 | next =>obtain ⟨σ',H',J,q⟩:=hs;exact fin (v:=V.PJ) (u:=Value.none) J rfl q
 | brk =>obtain ⟨_,_,_,q⟩:=hs;exact False.elim q
 | cont =>obtain ⟨_,_,_,q⟩:=hs;exact False.elim q
end
section
variable {X:Cx} {k:Nat} {f:Addr} {fd:FuncData} {ps:List Str} {sp:Sp} {Sq:List V} {ds:List Value} {E:XK} {x:Str} {p pos:Pos} {e:Expr} {es:List Expr} {t:TA}
theorem xa (F:qS X.prog X.w X.K X.mg X.base k f fd ps sp) (hr:Rq k X.A) (hg:Gl X x) (hm:X.mg x=some (.ref f)) (hk:W.keepIn X.K (.ref f)=true) (hb:Binds X.K fd ps ds) (hd:Vals Sq ds)
  (ha:PA X (e::es) t) (hdb:(x == ("__debug__":Str))=false:=by decide) (he:starEach (e::es) X.env=(false,eval e X.env)::starEach es X.env:=by rfl) (hpl:(backTo pos (starEach es X.env)).any (·.1)=false:=by rfl) :
  PE X (.Call (.Name x p) (e::es) [] pos) (fU sp Sq E t):=by
 intro pins s σ H Q I h;refine NR (dX I hg hm ?_ hdb);refine OV (h₀:=X.base) I.ok.mod.VG hk (PR (ha pos pins s σ H _ I h) λus s1 ⟨vs,H1,I1,r,q⟩=>⟨I1.QK,?_⟩) he hpl;have r2:Vals (vs++Sq) (us++ds):=r.append hd;have hl:(us++ds).length=ps.length:=by rw [<- r2.length];exact F.len _ _ _ _ q
 refine Oi (NQ (F.run X.A X.stack s1 H1 ⟨us,[]⟩ (us++ds) (vs++Sq) Q E hr I1.VL (hb s1 us I1.QK hl) r2 q) λr s' hq=>?_)
 cases r with
 | error e=>exact False.elim hq
 | ok fl =>
  cases fl with
  | ret u=>exact I1.after hq
  | next=>exact False.elim hq
  | brk=>exact False.elim hq
  | cont=>exact False.elim hq
end
noncomputable def Uc (bs:List Bool):List V:=bs.map V.bl
theorem nA:∀ {bs:List Bool} {us:List Value},Vals (Uc bs) us->us=bs.map Value.bool
 | [],_,.nil=>rfl
 | b::bs,_,.cons r t=>by have e:=nA (bs:=bs) t;rw [e,show _=Value.bool b from r];rfl
theorem kz {h:Heap}:∀ (bs:List Bool),∃ as,ReadsAll h (bs.map Value.bool) (bs.map PyData.bool) as
 | []=>⟨_,.nil⟩
 | b::bs=>let ⟨_,r⟩:=kz bs;⟨_,.cons (.bool b) r⟩
theorem pC:∀ (bs:List Bool),(bs.map PyData.bool).all Shape.bool.has=true
 | []=>rfl
 | b::bs=>by rw [MZ,N5,pC bs];rfl
theorem nL:∀ (bs:List Bool),(bs.map Value.bool).countP (isBoolOf true)=bs.count true
 | []=>rfl
 | b::bs=>by rw [MZ,List.countP_cons,nL bs,List.count_cons];cases b <;> rfl
section
variable {X:Cx}
theorem uc:WL X "list.count" (λx vs H Q=>∃ l bs,x=.ref l/\vs=[.bl true]/\H l=some (.lst (Uc bs))/\Q (.int (bs.count true:Nat)) H):=by
 intro pins s σ H x vs v us Q I rx rv h;obtain ⟨l,bs,rfl,rfl,hH,q⟩:=h;cases rx;obtain ⟨u,rfl,ru⟩:=cH rv;obtain rfl:u=Value.bool true:=ru;obtain ⟨_,its,n,r,e⟩:=(show P1 X.prog X.w H s.heap l (.lst (Uc bs)) from I.hok l _ hH)
 obtain rfl:=nA r;obtain ⟨as,ra⟩:=kz (h:=s.heap) bs;refine N1 F.slot_list_count ⟨_,e,rfl⟩ F.entry_list_count (F.args_list_count_2 _ _) (SeqAt.list_countAt l (bs.map Value.bool).toArray n none #[] (.bool true) (isBoolOf true)) ⟨e,λy hy=>eq_isBoolOf true ra (pC bs) y (by simpa using hy) _ _,?_⟩;rw [show ∀ (x:List Value),x.toArray.toList=x from λ_=>rfl,nL];exact ⟨.int _,H,I.tok _,⟨_,rfl⟩,q⟩
theorem ud:WL X "list.index" (λx vs H Q=>∃ l bs j,x=.ref l/\vs=[.bl true]/\H l=some (.lst (Uc bs))/\bs.length<=1000/\bs[j]?=some true/\(∀ m,m < j->bs[m]?=some false)/\Q (.int (j:Nat)) H):=by
 intro pins s σ H x vs v us Q I rx rv h;obtain ⟨l,bs,j,rfl,rfl,hH,hlen,hj,hno,q⟩:=h;cases rx;obtain ⟨u,rfl,ru⟩:=cH rv;obtain rfl:u=Value.bool true:=ru;obtain ⟨_,its,n,r,e⟩:=(show P1 X.prog X.w H s.heap l (.lst (Uc bs)) from I.hok l _ hH)
 obtain rfl:=nA r;obtain ⟨as,ra⟩:=kz (h:=s.heap) bs;obtain ⟨hj',hjt⟩:=Mk.mp hj;refine N1 Oa ⟨_,e,rfl⟩ F.entry_list_index (F.args_list_index_2 _ _) (SeqAt.list_indexAt l (bs.map Value.bool).toArray n none #[] (.bool true) (isBoolOf true) j (by simpa using hj') (by lia) ?_ ?_) ⟨e,λy hy=>eq_isBoolOf true ra (pC bs) y (by simpa using hy) _ _,?_⟩
 ·simp [hjt,isBoolOf]
 ·intro m hm YN;obtain ⟨hm',hmf⟩:=Mk.mp (hno m YN);simp [hmf,isBoolOf]
 ·exact ⟨.int _,H,I.tok _,⟨_,rfl⟩,q⟩
end
noncomputable def Yc:V->Value
 | .ref a=>.ref a
 | .ty n=>.type n
 | _=>.none
theorem bu {X:Cx}:cZ X (.builtin "isinstance") (λxs H Q=>∃ x D c b,xs=[.ref x,c]/\((∃ a,c=.ref a)\/∃ n,c=.ty n)/\H x=some (gi x D)/\fA X.K D/\W.kitOne X.K (.ref D) (Yc c)=some b/\Q (.bl b) H):=by
 intro pins s σ H xs us Q I r h;obtain ⟨x,D,c,b,rfl,hc,hx,kx,e,q⟩:=h
 cases r with
 | cons r1 rt =>
  obtain ⟨u,rfl,ru⟩:=cH rt;obtain rfl:=(show _=Value.ref x from r1)
  have hu:u=Yc c:=by
   rcases hc with ⟨a,rfl⟩ | ⟨n,rfl⟩
   ·exact ru
   ·exact ru
  subst hu;exact pX I hx kx e λtk=>⟨.bl b,H,I.tok _,rfl,q⟩
section
variable {P:Program} {w:World} {K:W.Frag} {mg:Str->Option Value} {base:Heap}
end
section
variable {X:Cx} {CX:Tf} {k:Nat} {f C:Addr} {fd:FuncData} {ps ks:List Str} {sp:Sp} {E:St->XK} {x m:Str} {p pos apos kpos:Pos} {e o:Expr} {es:List Expr} {kws:List Keyword} {te ta:TE} {t tk:TA} {nm:Option Str} {g:List Value->List Value->List Value} {gV:List V->List V->List V}
end
section
variable {K:W.Frag} {σ:St} {H:Hp} {tA tK:TA} {ds es fs:List D} {d e:D} {Sq:List V} {R:List D->D->Prop} {B:List D->Addr->Prop} {E:XK} {Q:VK} {C:Addr} {gV:List V->List V->List V} {ta tb:TE}
variable {i:Nat}
theorem aq {x D:Addr} {c:V} {b:Bool} (hx:H x=some (gi x D)) (kx:fA K D) (kit:W.kitOne K (.ref D) (Yc c)=some b) (hc:(∃ a,c=.ref a)\/∃ n,c=.ty n) (e:σ[i]?=some (some (.ref x)):=by rfl) :
  RE K (Wc (λxs H Q=>∃ x D c b,xs=[.ref x,c]/\((∃ a,c=.ref a)\/∃ n,c=.ty n)/\H x=some (gi x D)/\fA K D/\W.kitOne K (.ref D) (Yc c)=some b/\Q (.bl b) H) (bh (eO i) (bh (tC c) dP))) σ H (.bl b):=λH1 s Q q =>
 ⟨_,e,x,D,c,b,rfl,hc,s _ _ hx,kx,kit,q _ _ (PM.refl _) (Dat.Vi _)⟩
variable {l:Addr}
theorem gg {bs:List Bool} (hl:H l=some (.lst (Uc bs))) (e:σ[i]?=some (some (.ref l)):=by rfl) :
  RE K (X5 K "list" (λx vs H Q=>∃ l bs,x=.ref l/\vs=[.bl true]/\H l=some (.lst (Uc bs))/\Q (.int (bs.count true:Nat)) H) (eO i) (bh (tC (.bl true)) dP)) σ H (.int (bs.count true:Nat)):=λH1 s Q q =>
 ⟨_,e,.inl ⟨rfl,_,P6.of (s _ _ hl)⟩,l,bs,rfl,rfl,s _ _ hl,q _ _ (PM.refl _) (Dat.Ur _)⟩
theorem gh {j:Nat} {bs:List Bool} (hl:H l=some (.lst (Uc bs))) (hn:bs.length<=1000) (h1:bs[j]?=some true) (h2:∀ m,m < j->bs[m]?=some false) (e:σ[i]?=some (some (.ref l)):=by rfl) :
  RE K (X5 K "list" (λx vs H Q=>∃ l bs j,x=.ref l/\vs=[.bl true]/\H l=some (.lst (Uc bs))/\bs.length<=1000/\bs[j]?=some true/\(∀ m,m < j->bs[m]?=some false)/\Q (.int (j:Nat)) H) (eO i) (bh (tC (.bl true)) dP)) σ H (.int (j:Nat)):=λH1 s Q q =>
 ⟨_,e,.inl ⟨rfl,_,P6.of (s _ _ hl)⟩,l,bs,j,rfl,rfl,s _ _ hl,hn,h1,h2,q _ _ (PM.refl _) (Dat.Ur _)⟩
end
section
variable {X:Cx}
theorem iJ:fillsNumberSlot (.type "tuple") "mul"=pure false :=
 PySem.fillsNumberSlot_seq (id:="tuple.__mul__") (r:=some (.builtin "tuple.__rmul__")) F.slot_tuple_mul.lookup (by decide +kernel) F.slot_tuple_rmul.lookup (by decide +kernel)
theorem nc:seqRepeat? (.type "tuple")=pure (some (.builtin "tuple.__mul__")):=by unfold seqRepeat?;rw [PySem.seqSlot_of (T:="tuple") (name:="__mul__") (id:="tuple.__mul__") F.slot_tuple_mul.lookup (by decide +kernel),PySem.seqSlot_of (T:="tuple") (name:="__rmul__") (id:="tuple.__rmul__") F.slot_tuple_rmul.lookup (by decide +kernel)];rfl
theorem j8 (a:Int) (t:Tok) (l:Addr) (items:Array Value) (n:Nat) (dd:Option Addr) (sl:Array (Option Value)) :
  Meets (Builtin.«int.__rmul__» ⟨[.int a t,.ref l],[]⟩) (λ_ R s=>s.heap.get? l=some { cls:=.type "tuple",dict:=dd,data:=.seq items n,slots:=sl }/\R (.ok (.ret Value.notImplemented)) s) :=
 .of_wp λ_ _ _ _ s q=>by
  obtain ⟨h0,g0,d0,t0,o0⟩:=s;obtain ⟨YT,q⟩:=q
  wp_walk
  exact ⟨_,rfl,q⟩
end
end L2
namespace L2
open PySem PySem.Spec PySem.Calls PyProof.Rows PySem.W PySem.Builtin PySem.Builtin.ObjectAttr
noncomputable abbrev Dn (us:List Value):Obj:={ cls:=.type "tuple",data:=.seq us.toArray }
noncomputable abbrev uT (C t:Addr):Obj:={ cls:=.ref C,data:=.fields #[.ref t,.none,.none,.none,.bool false,.none] }
noncomputable abbrev jl (h:Heap) (C:Addr) (us:List Value):Heap:=(h.push (Dn us)).push (uT C h.objs.size)
variable {us:List Value}
theorem du {h:Heap} {C:Addr} (b:Addr) (o:Obj) (q:h.get? b=some o):(jl h C us).get? b=some o:=by have q1:=LD (Dn us) q;exact LD _ q1
theorem eF {h:Heap} {C:Addr}:(jl h C us).get? (h.objs.size+1)=some (uT C h.objs.size):=by heap_get
theorem ua {h:Heap}:h.get? (h.objs.size+1)=none:=Heap.get?_none_of_le (by lia)
structure pA (K:Frag) (C fI:Addr):Prop where
 at_:eE K C [.type "ValueError",.type "Exception",.type "BaseException",.type "object"] "ValueError.__new__" (some (.ref fI))=true
 ini:findIn K (.ref C) "__init__"=some (some (.ref fI))
 fn:typeIn K (.ref fI)=some (.type "function")
 kp:keepIn K (.ref C)=true
section
variable {prog:Program} {w:World} {A:Around} {E:Value->Shared->Prop} {K:Frag} {C fI:Addr} {us:List Value}
theorem ub {s:Shared} {Q:Value->Shared->Prop} (X:K.In s.heap) (kc:pA K C fI) (hl:us.length<=sizeLine)
  (h:wpAny (model prog w) (A.under (.builtin "type.__call__" ⟨.ref C::us,[]⟩)) (call (.ref fI) (.ref (s.heap.objs.size+1)::us)) (λr s'=>r=.none/\Q (.ref (s.heap.objs.size+1)) s') E { s with heap:=jl s.heap C us }) :
  wpAny (model prog w) A (call (.ref C) us) Q E s:=by
 obtain ⟨bm,N,nm,qn,bs,YU,sn,sub,ab,col,dd,k0,k1,k2,k3,k5,mN,hC,_,_,T⟩:=pR X kc.at_;have V:=MV;have Yd:s.TypeIs (.ref C) "type":=⟨_,hC,rfl⟩
 have l1:=tc_lookup;have l2:=tc_bind (.ref C);have hC2:=du (us:=us) (C:=C) C _ hC;have X2:K.In (jl s.heap C us):=X.keeps du;have UE:(Value.ref C::bm).contains (.ref C)=true:=by simp
 obtain ⟨h0,g0,d0,t0,o0⟩:=s;refine Oi (codeAny_of_tree ?_);show wpAny _ _ (callAny (.ref C) _) _ _ _
 repeat' (first | assumption | (with_reducible refine Ob hC ?_) | wp_step)
 refine ⟨rfl,codeAny_call_builtin_at (OD _ (by decide +kernel)) entry_typeCall (wpAny_check_type_call_sub hC ?_)⟩
 repeat (first | (with_reducible refine wpAny_madeBy_exc hC ?_) | (with_reducible refine Ot hC ?_) | (with_reducible refine Ob hC ?_) | wp_step)
 refine codeAny_call_builtin_code (OD _ V.quiet) (wpAny_check_new_subU V (by decide) T hC (codeAny_exc_new_subU V (by decide) V T hC ?_ hl));show wpAny _ _ _ _ _ _;unfold isInstance
 repeat (first | (with_reducible refine wpAny_madeBy_exc eF ?_) | (with_reducible refine Ot eF ?_) | (with_reducible refine Ob eF ?_) | wp_step)
 refine Ot hC2 ?_;rw [UE];refine pg (Nj (special_fn (s:=⟨jl h0 C us,g0,d0,t0,o0⟩) X2 (od:=none) ⟨eF,rfl,rfl,trivial⟩ kc.ini kc.fn (MT h (λr s' ⟨er,q⟩=>?_) λ_ _ z=>z)));subst er;exact Mq q
end
noncomputable abbrev pd (h:Heap) (x:Addr):Heap:=(h.push { cls:=.type "dict",data:=.dict #[] }).update x λo=>{ cls:=o.cls,dict:=some h.objs.size,data:=o.data,slots:=o.slots }
section
variable {h:Heap} {x b:Addr} {o:Obj} {vs:Array Value}
theorem yg (q:h.get? x=some o) (hd:o.data=.fields vs):(pd h x).get? x=some { o with dict:=some h.objs.size }:=by have q1:(h.push { cls:=.type "dict",data:=.dict #[] }).get? x=some o:=LD _ q;refine Od _ q1 ?_;obtain ⟨c,d,dt,sl⟩:=o;subst hd;rfl
theorem pf (hb:b≠x) (q:h.get? b=some o):(pd h x).get? b=some o:=by rw [Heap.get?_update_ne _ _ _ _ hb];exact LD _ q
theorem qR (q:h.get? x=some o):(pd h x).Ns1 h.objs.size λ_=>none:=by
 have lt:h.objs.size≠x:=MD (Mv (Mr q))
 have e:(pd h x).get? h.objs.size=some { cls:=.type "dict",data:=.dict #[] }:=by rw [Heap.get?_update_ne _ _ _ _ lt];exact MJ rfl rfl
 exact Heap.Ns1.of_empty ⟨_,#[],_,e,rfl,λen hen=>absurd hen (by simp),λ_=>rfl⟩
end
noncomputable def ie:List Value->Bool
 | .ref _::r=>ie r
 | l=>l == [.type "ValueError",.type "Exception",.type "BaseException",.type "object"]
theorem jo (self:Value):∀ {l:List Value},ie l=true->refuseLoop self "__setattr__" l=pure ()
 | [],e=>by simp [ie] at e
 | v::r,e=>by
  cases v with
  | ref c=>rw [refuseLoop_ref];exact jo self (l:=r) e
  | type n =>have e':=O1.mp (show (Value.type n::r == [.type "ValueError",.type "Exception",.type "BaseException",.type "object"])=true from e);rw [e'];exact F.store_ValueError.passes self
  | _=>exact absurd (O1.mp (show (_ == ([.type "ValueError",.type "Exception",.type "BaseException",.type "object"]:List Value))=true from e)) (by simp)
structure uN (K:Frag) (C:Addr) (name:Str):Prop where
 sa:findIn K (.ref C) "__setattr__"=some (some (.builtin "object.__setattr__"))
 ob:mroIn K C (.type "object")=some true
 over:(clsIn K C).any (λcd=>ie cd.mro)=true
 no:findIn K (.ref C) name=some none
 hd:(clsIn K C).any (·.hasDict)=true
section
variable {prog:Program} {w:World} {A:Around} {E:Value->Shared->Prop} {s:Shared} {K:Frag} {x C:Addr} {ox:Obj} {name:Str} {v:Value} {vs:Array Value}
theorem mJ {M:Model} (X:K.In s.heap) (ty:Looks M s.heap (typeOf (.ref x)) (.ref C)) (st:uN K C name):Looks M s.heap (refuseIfOverridden (.ref x) "__setattr__") ():=by obtain ⟨cd,hc,hov⟩:=any_some st.over;have row:Looks M s.heap (mroOf (.ref C)) cd.mro:=(looks_clsIn X hc).andThen .now;exact ty.andThen (row.andThen (Looks.of_pure (jo (.ref x) hov)))
theorem o3 {Q:Unit->Shared->Prop} (X:K.In s.heap) (st:uN K C name) (hx:s.heap.get? x=some ox) (hc:ox.cls=.ref C) (hd:ox.dict=none) (hdt:ox.data=.fields vs)
  (h:∀ h' tk,(∀ b o,b≠x->s.heap.get? b=some o->h'.get? b=some o)->h'.get? x=some { ox with dict:=some s.heap.objs.size }->h'.Ns1 s.heap.objs.size (λy=>if y=name then some v else none)->Q () { s with heap:=h',toks:=tk }) :
  wpAny (model prog w) A (setAttr (.ref x) name v) Q E s:=by
 have inst:InstAt s.heap x ox C none:=⟨hx,hc,by unfold notCls;rw [hdt],by rw [hd];trivial⟩
 have ty:Looks (model prog w) s.heap (typeOf (.ref x)) (.ref C):=inst.type;have ok:Looks (model prog w) s.heap (isInstance (.ref x) (.type "object")) true:=ty.andThen (looks_mroIn X st.ob);have SO:=F.store_object;refine set_plain X inst st.sa (Ol SO.slot.plain SO.entry ?_);refine @check_slot (model prog w) _ _ { s with toks:=s.toks+1 } "object.__setattr__" "object" "__setattr__" (.ref x) [.str name s.toks,v] [] _ SO.kind SO.split ok (SO.args _ _ _) ?_;rw [osa_eq];refine pg ((mJ (s:={ s with toks:=s.toks+1 }) X ty st).here ?_);refine pg (Looks.here (s:={ s with toks:=s.toks+1 }) ty ?_);refine pg (Looks.here (s:={ s with toks:=s.toks+1 }) (Px X st.no) ?_);refine pg (Mq ?_);obtain ⟨cd,hcd,has⟩:=any_some st.hd;obtain ⟨oc,od,oda,osl⟩:=ox;dsimp only at hc hd hdt;subst hc hd hdt;obtain ⟨h0,g0,d0,t0,o0⟩:=s;show wpAny _ _ (storeInOwnDict (.ref x) (.ref C) (.str name t0) name v false) _ _ ⟨h0,g0,d0,t0+1,o0⟩;have X':K.In h0:=X;refine pg (Mq (pg ?_));show wpAny _ _ (instanceDict x true) _ _ _;refine pg (wpAny_loadPart hx (pg (Looks.here (s:=⟨h0,g0,d0,t0+1,o0⟩) (looks_clsIn X' hcd) ?_)));rw [has];dsimp only;rw [Mz (by simp)];refine pg (wpAny_alloc' (pg (wpAny_update' (LD _ hx) (Mq ?_))));show wpAny _ _ (storeInDict h0.objs.size (.str name t0) name v) _ _ ⟨pd h0 x,g0,d0,t0+1,o0⟩;unfold storeInDict newKeyGuard;refine pg (Mq (pg (wpAny_nsSet1 (qR hx) λh' ns' same=>?_)));obtain ⟨od',es,ep,hod,hes,few⟩:=ns'.count (Within.cons name v Within.nil);have few':es.size<=1:=few;refine pg (wpAny_lookBehind hod (by rw [hes];exact pastItsLine_dict (by rw [Na];lia)) (Mq (h h' _ (λb ob hb q=>?_) ?_ ns')))
 ·exact (same.2 b (Mv (Mr q))).trans (pf hb q)
 ·exact (same.2 x (Mv (Mr hx))).trans (yg hx rfl)
end
noncomputable def jz (e C:Addr) (a0:Value):HO:=.ext λh=>∃ oe vs,h.get? e=some oe/\(oe.cls=.ref C/\vs[0]?=some a0)/\oe.data=.fields vs/\vs[1]?=some .none/\oe.dict=none
section
variable {X:Cx} {pins:List (Addr × Obj)} {σ:St} {H:Hp} {s s':Shared} {C fI e:Addr} {fd:FuncData} {k:Nat} {ps:List Str} {a0:Value}
end
theorem ux {M:Model} {A:Around} {E:Value->Shared->Prop} {s:Shared} {env:Env} {K:Frag} {C fI:Addr} {x:Sem Value} {Q:Flow->Shared->Prop} (kc:pA K C fI) (hh:A.handled=none)
  (h:wpAny M A x (λr s'=>∃ e oe vs,r=.ref e/\s'.heap.get? e=some oe/\oe.cls=.ref C/\oe.data=.fields vs/\vs[1]?=some .none/\K.In s'.heap/\E (.ref e) s') E s):wpAny M A (raiseStmt env (some x) none) Q E s:=by
 refine pg (PR h λr s1 ⟨e,oe,vs,er,he,hcl,hdt,hv1,X1,q⟩=>?_);subst er;obtain ⟨bm,N,nm,qn,bs,YU,sn,sub,ab,col,dd,k0,k1,k2,k3,k5,mN,hC,_,_,T⟩:=pR X1 kc.at_
 have isB:(Value.ref C::bm).contains (.type "BaseException")=true:=by rw [List.contains_cons,T.hasType (X:="BaseException") (b:=true) (by decide)];rfl
 obtain ⟨oc,od,odt,osl⟩:=oe;obtain rfl:oc=.ref C:=hcl;obtain rfl:odt=.fields vs:=hdt;obtain ⟨h1,g1,d1,t1,o1⟩:=s1
 repeat (first | (with_reducible refine Ob he ?_) | (with_reducible refine Ob hC ?_) | (with_reducible refine Ot hC ?_;rw [isB]) | rw [hv1] | wp_step)
 exact wpAny_raiseNew_none hh q
end L2
namespace L2
open PySem PySem.Spec PySem.Calls PyProof.Rows
noncomputable abbrev lg (h:Heap) (it t:Addr) (i:Nat):Prop:=h.get? it=some { cls:=.type "tuple_iterator",dict:=none,data:=.fields #[.ref t,rawInt i],slots:=#[] }
section
variable {prog:Program} {w:World} {A:Around} {E:Value->Shared->Prop} {s:Shared} {it t:Addr} {i:Nat} {items:Array Value}
theorem qK {x:Value} {Q:Value->Shared->Prop} (a1:lg s.heap it t i) (a2:s.heap.IsTuple t items) (hx:items[i]?=some x)
  (q:∀ h',lg h' it t (i+1)->Heap.SameBut it s.heap h'->Q x { s with heap:=h' }):wpAny (model prog w) A (Builtin.SmallTypes.nextOf (.ref it)) Q E s:=by
 have ty:s.TypeIs (.ref it) "tuple_iterator":=⟨_,a1,rfl⟩
 obtain ⟨⟨c2,d2,Xp,s2⟩,a2,hc,n,hd⟩:=a2;obtain rfl:c2=.type "tuple":=hc;obtain rfl:Xp=.seq items n:=hd;unfold Builtin.SmallTypes.nextOf;refine pg (M8 (name:=Str.ofString "__next__") ty NY (Ny NY ty F.entry_tuple_iterator_next ?_ (F.args_tuple_iterator_next_1 _)));obtain ⟨h0,g0,d0,t0,o0⟩:=s;unfold lg rawInt at a1
 wp_walk
 rw [Pj,hx];refine pg (MX a1 (by simp) λh' b1 b2=>Mq ⟨x,rfl,Mq (q h' ?_ b2)⟩);show h'.get? it=some _;have e:((i+1:Nat):Int)=(i:Int)+1:=by lia
 rw [e];exact b1
theorem qJ {Q:Value->Shared->Prop} (hh:A.handled=none) (a1:lg s.heap it t i) (a2:s.heap.IsTuple t items) (hx:items[i]?=none)
  (q:∀ h' e,Heap.ExtBut it s.heap h'->(∃ o,h'.get? e=some o/\o.cls=.type "StopIteration")->E (.ref e) { s with heap:=h' }):wpAny (model prog w) A (Builtin.SmallTypes.nextOf (.ref it)) Q E s:=by
 have ty:s.TypeIs (.ref it) "tuple_iterator":=⟨_,a1,rfl⟩
 obtain ⟨⟨c2,d2,Xp,s2⟩,a2,hc,n,hd⟩:=a2;obtain rfl:c2=.type "tuple":=hc;obtain rfl:Xp=.seq items n:=hd;unfold Builtin.SmallTypes.nextOf;refine pg (M8 (name:=Str.ofString "__next__") ty NY (Ny NY ty F.entry_tuple_iterator_next ?_ (F.args_tuple_iterator_next_1 _)));obtain ⟨h0,g0,d0,t0,o0⟩:=s;unfold lg rawInt at a1
 wp_walk
 rw [Pj,hx];refine pg (OF (pg (MX a1 (by simp) λh' b1 b2=>?_)));unfold Builtin.SmallTypes.stopIteration
 wp_walk
 exact wpAny_raiseNew_none hh (q _ _ ((b2.extBut.push _).push _) ⟨_,MI _ rfl,rfl⟩)
end
noncomputable abbrev lI (it:Addr):Obj:={ cls:=.type "enumerate",data:=.fields #[.none,.bool false,.ref it,rawInt 0,.none,.none] }
variable {X:Cx}
theorem Inv.RO {pins:List (Addr × Obj)} {σ:St} {H:Hp} {s:Shared} {h':Heap} {t':Nat} {its:List Addr} (I:Inv X pins σ H s) (k:∀ b o,b ∉ its->s.heap.get? b=some o->h'.get? b=some o)
  (ok:∀ b ∈ its,H b=none/\b≠X.env.locals/\(b ∈ X.ex\/X.s₀.heap.objs.size<=b)/\(∀ x c,X.env.cells.lookup x=some c->c≠b)/\∀ p ∈ X.pn++pins,p.1≠b):Inv X pins σ H { s with heap:=h',toks:=t' }:=by
 have out:∀ b u,H b=some u->b ∉ its:=λb u e z=>by rw [(ok b z).1] at e;cases e
 refine I.step (g':=s.gens) (d':=s.drawn) (ch:=its) (λb hb=>⟨(ok b hb).2.2.1,(ok b hb).2.1,(ok b hb).2.2.2⟩) (λb o _ _ hc e _=>k b o hc e) (λb o _ _ hc e _=>⟨o.slots,k b o hc e⟩) (λ_ _ _ _ n=>n)
  (λb o hc e=>⟨o,k b o hc e⟩) (λ_ _ e=>e) (λ_ _ _ e=>e) (λb ps e=>⟨#[],by rw [Pf];exact e⟩) (λm hm=>?_) (λb u e=>?_) I.bare
 ·obtain ⟨o,es,ep,ho,r⟩:=hm;exact ⟨o,es,ep,k _ o (λz=>(ok _ z).2.1 rfl) ho,r⟩
 ·refine (I.hok b u e).stay (λc v hc q=>k c v ?_ q) (λ_ q=>q) λ_ _ q=>q;rcases hc with z | z
  ·rw [z];exact out b u e
  ·exact out c _ z
noncomputable def Qn:Bool->Heap->Addr->Addr->Nat->Prop
 | true,h,i,t,k=>h.IsListIter i t k
 | false,h,i,t,k=>lg h i t k
noncomputable def Qt:Bool->Heap->Addr->Array Value->Prop
 | true,h,t,xs=>h.IsList t xs
 | false,h,t,xs=>h.IsTuple t xs
noncomputable def WO:Bool->W.Frag->Hp->Addr->List V->Prop
 | true,K,H,a,xs=>P6 K H a xs
 | false,K,H,a,xs=>Qq K H a xs
noncomputable def yS:Bool->Addr->Obj
 | true,t=>{ cls:=.type "list_iterator",data:=.fields #[.ref t,.int 0 0] }
 | false,t=>{ cls:=.type "tuple_iterator",data:=.fields #[.ref t,.int 0 0] }
section
variable {b:Bool} {h h':Heap} {i t z:Addr} {k:Nat} {xs:Array Value}
theorem Qn.at (q:Qn b h i t k) (e:∀ o,h.get? i=some o->h'.get? i=some o):Qn b h' i t k:=by
 cases b with
 | false=>exact e _ q
 | true=>exact Heap.IsListIter.at q e
theorem Qn.ob (q:Qn b h i t k):∃ o,h.get? i=some o/\∀ v,o.data≠.cell v:=by
 cases b with
 | false=>exact ⟨_,q,λv e=>by cases e⟩
 | true=>obtain ⟨o,e,c,d⟩:=q;exact ⟨o,e,λv z=>by rw [d] at z;cases z⟩
theorem Qn.lt (q:Qn b h i t k):i < h.objs.size:=let ⟨_,e,_⟩:=q.ob;Mr e
theorem Qn.mk (e:h.get? i=some (yS b t)):Qn b h i t 0:=by
 cases b with
 | false=>exact e
 | true=>exact ⟨_,e,rfl,rfl⟩
theorem Qt.but (l:Qt b h t xs) (x:Heap.ExtBut z h h') (n:t≠z):Qt b h' t xs:=by
 cases b with
 | false=>exact Heap.IsTuple.extBut l x n
 | true=>exact Heap.IsList.extBut l x n
theorem Qt.push (l:Qt b h t xs) (o:Obj):Qt b (h.push o) t xs:=by
 cases b with
 | false=>exact Heap.IsTuple.push l o
 | true=>exact OO l o
theorem Qt.lt (l:Qt b h t xs):t < h.objs.size:=by
 cases b with
 | false=>obtain ⟨o,e,_⟩:=l;exact Mr e
 | true=>obtain ⟨o,e,_⟩:=l;exact Mr e
variable {prog:Program} {w:World} {A:Around} {E:Value->Shared->Prop} {s:Shared} {Q:Value->Shared->Prop}
theorem Ak {x:Value} (a1:Qn b s.heap i t k) (a2:Qt b s.heap t xs) (hx:xs[k]?=some x) (q:∀ h',Qn b h' i t (k+1)->Heap.SameBut i s.heap h'->Q x { s with heap:=h' }):wpAny (model prog w) A (Builtin.SmallTypes.nextOf (.ref i)) Q E s:=by
 cases b with
 | false=>exact qK a1 a2 hx q
 | true=>exact N8 a1 a2 hx q
theorem Ds (hh:A.handled=none) (a1:Qn b s.heap i t k) (a2:Qt b s.heap t xs) (hx:xs[k]?=none) (q:∀ h' e,Heap.ExtBut i s.heap h'->(∃ o,h'.get? e=some o/\o.cls=.type "StopIteration")->E (.ref e) { s with heap:=h' }):wpAny (model prog w) A (Builtin.SmallTypes.nextOf (.ref i)) Q E s:=by
 cases b with
 | false=>exact qJ hh a1 a2 hx q
 | true=>exact wpAny_nextOf_list_end hh a1 a2 hx q
theorem rF (l:Qt b s.heap t xs) (q:Q (.ref s.heap.objs.size) { s with heap:=s.heap.push (yS b t) }):wpAny (model prog w) A (pyIter (.ref t)) Q E s:=by
 cases b with
 | false=>exact wpAny_pyIter_tuple l q
 | true=>exact Nb l q
theorem Inv.Vn {X:Cx} {pins:List (Addr × Obj)} {σ:St} {H:Hp} {ys:List V} (I:Inv X pins σ H s) (e:WO b X.K H t ys):∃ its:List Value,Vals ys its/\Qt b s.heap t its.toArray:=by
 cases b with
 | false=>obtain ⟨us,r,p,_⟩:=I.tuple e;exact ⟨us,r,p⟩
 | true=>obtain ⟨us,r,p,_⟩:=I.list e;exact ⟨us,r,p.isList⟩
end
section
variable {prog:Program} {w:World} {A:Around} {E:Value->Shared->Prop} {s:Shared} {z TI TO i1 i2 t1 t2:Addr} {k:Nat} {xs ys:Array Value} {b1 b2:Bool}
variable {a:Value}
theorem uK {x y b:Value} {Q:Value->Shared->Prop} (hz:IsZip s.heap z TI TO .none) (hI:IsPair s.heap TI (.ref i1) (.ref i2)) (hO:IsPair s.heap TO a b) (h1:Qn b1 s.heap i1 t1 k) (h2:Qn b2 s.heap i2 t2 k)
  (l1:Qt b1 s.heap t1 xs) (l2:Qt b2 s.heap t2 ys) (hx:xs[k]?=some x) (hy:ys[k]?=some y) (D:ZipApart z TI TO i1 i2 t1 t2)
  (q:∀ h',IsZip h' z TI TO (rawInt s.heap.objs.size)->IsPair h' TO x y->Qn b1 h' i1 t1 (k+1)->Qn b2 h' i2 t2 (k+1)->h'.get? s.heap.objs.size=some { cls:=.type "tuple",data:=.seq #[x,y] } ->
   (∀ b o,b≠z->b≠TO->b≠i1->b≠i2->s.heap.get? b=some o->h'.get? b=some o)->Q (.ref s.heap.objs.size) { s with heap:=h' }):wpAny (model prog w) A (Builtin.«zip.__next__» ⟨[.ref z],[]⟩) (λfin s'=>∃ v,fin=.done (.ret v)/\Q v s') E s:=by
 show wpAny _ _ (field (.ref z) 2 >>= _) _ _ _;refine pg (MP hz rfl rfl ?_);show wpAny _ _ (field (.ref z) 3 >>= _) _ _ _;refine pg (MP hz rfl rfl ?_);refine pg (Nk hI rfl ?_);refine pg (pg (MP hz rfl rfl (Mq ?_)));refine pg (OF ?_);refine pg (MP hz rfl rfl ?_);refine pg (MX hz (by simp) λha za sa=>?_)
 replace za:IsZip ha z TI TO .ellipsis:=za
 rw [show (#[Value.ref i1,Value.ref i2]:Array Value).toList.zipIdx=[(.ref i1,0),(.ref i2,1)] from rfl,ND];have YV:Qn b1 ha i1 t1 k:=h1.at λo e=>(sa.2 i1 D.i1z).trans e;have h2a:Qn b2 ha i2 t2 k:=h2.at λo e=>(sa.2 i2 D.i2z).trans e;have YW:Qt b1 ha t1 xs:=l1.but sa.extBut D.l1z;have l2a:Qt b2 ha t2 ys:=l2.but sa.extBut D.l2z;have hOa:IsPair ha TO a b:=(sa.2 TO D.TOz).trans hO;refine pg (pg (pg (N6 (pg (Ak (s:={ s with heap:=ha }) YV YW hx λhb h1b sb=>Mq ?_)))))
 replace sb:Heap.SameBut i1 ha hb:=sb
 have ZV:IsPair hb TO a b:=(sb.2 TO D.TOi1).trans hOa;refine pg (Nk (s:={ s with heap:=hb }) ZV rfl ?_);refine pg (wpAny_updateSeq_pair (s:={ s with heap:=hb }) ZV λhc YX sc=>?_)
 replace sc:Heap.SameBut TO hb hc:=sc
 replace YX:IsPair hc TO x b:=YX
 refine pg (O7 (Mq ?_));have h2c:Qn b2 hc i2 t2 k:=h2a.at λo e=>(sc.2 i2 (MD D.TOi2)).trans ((sb.2 i2 (MD D.i12)).trans e);have l2c:Qt b2 hc t2 ys:=(l2a.but sb.extBut D.l2i1).but sc.extBut D.l2TO;show wpAny _ _ (forIn [(Value.ref i2,1)] _ _) _ _ _;rw [ND];refine pg (pg (N6 (pg (Ak (s:={ s with heap:=hc }) h2c l2c hy λhd h2d sd=>Mq ?_))))
 replace sd:Heap.SameBut i2 hc hd:=sd
 have ZW:IsPair hd TO x b:=(sd.2 TO D.TOi2).trans YX;refine pg (Nk (s:={ s with heap:=hd }) ZW rfl ?_);refine pg (wpAny_updateSeq_pair (s:={ s with heap:=hd }) ZW λhe Ye se=>?_)
 replace se:Heap.SameBut TO hd he:=se
 replace Ye:IsPair he TO x y:=Ye
 refine pg (O7 (Mq ?_));show wpAny _ _ (forIn [] _ _) _ _ _;rw [List.forIn_nil];refine Mq ?_;show wpAny _ _ (seqItems? (.ref TO) >>= _) _ _ _;refine pg (Nk (s:={ s with heap:=he }) Ye rfl ?_);refine pg (wpAny_newTuple ?_);have ZX:he.objs.size=s.heap.objs.size:=by rw [se.1,sd.1,sc.1,sb.1,sa.1]
 have ze:IsZip he z TI TO .ellipsis:=(se.2 z (MD D.TOz)).trans ((sd.2 z (MD D.i2z)).trans ((sc.2 z (MD D.TOz)).trans ((sb.2 z (MD D.i1z)).trans za)));have zf:IsZip (he.push { cls:=.type "tuple",data:=.seq #[x,y] }) z TI TO .ellipsis:=LD _ ze;have tf:(he.push { cls:=.type "tuple",data:=.seq #[x,y] }).get? s.heap.objs.size=some { cls:=.type "tuple",data:=.seq #[x,y] }:=MJ ZX.symm rfl;have of:IsPair (he.push { cls:=.type "tuple",data:=.seq #[x,y] }) TO x y:=LD _ Ye;have f1:Qn b1 (he.push { cls:=.type "tuple",data:=.seq #[x,y] }) i1 t1 (k+1):=h1b.at λo e=>LD _ ((se.2 i1 (MD D.TOi1)).trans ((sd.2 i1 D.i12).trans ((sc.2 i1 (MD D.TOi1)).trans e)));have f2:Qn b2 (he.push { cls:=.type "tuple",data:=.seq #[x,y] }) i2 t2 (k+1):=h2d.at λo e=>LD _ ((se.2 i2 (MD D.TOi2)).trans e)
 have kf:∀ b o,b≠z->b≠TO->b≠i1->b≠i2->s.heap.get? b=some o->(he.push { cls:=.type "tuple",data:=.seq #[x,y] }).get? b=some o:=λb o n1 n2 n3 n4 e =>
  LD _ ((se.2 b n2).trans ((sd.2 b n4).trans ((sc.2 b n2).trans ((sb.2 b n3).trans ((sa.2 b n1).trans e)))))
 generalize he.push { cls:=.type "tuple",data:=.seq #[x,y] }=hf at zf tf of f1 f2 kf;have lz:z < s.heap.objs.size:=Mr hz;show wpAny _ _ (Builtin.SmallTypes.ownedTupleHandOut (.ref z) (.ref he.objs.size) >>= _) _ _ _;rw [ZX];refine pg (pg (MX (s:={ s with heap:=hf }) zf (by simp) λhg zg sg=>MX (s:={ s with heap:=hg }) zg (by simp) λhh zh sh=>Mq ⟨_,rfl,?_⟩))
 replace sg:Heap.SameBut z hf hg:=sg
 replace sh:Heap.SameBut z hg hh:=sh
 have on:∀ b,b≠z->hh.get? b=hf.get? b:=λb n=>(sh.2 b n).trans (sg.2 b n);refine q hh zh ?_ ?_ ?_ ?_ λb o n1 n2 n3 n4 e=>(on b n1).trans (kf b o n1 n2 n3 n4 e)
 ·exact (on TO D.TOz).trans of
 ·exact f1.at λo e=>(on i1 D.i1z).trans e
 ·exact f2.at λo e=>(on i2 D.i2z).trans e
 ·exact (on _ (M0 lz)).trans tf
theorem uJ {b:Value} {Q:Fin->Shared->Prop} (hh:A.handled=none) (hz:IsZip s.heap z TI TO .none) (hI:IsPair s.heap TI (.ref i1) (.ref i2)) (hO:IsPair s.heap TO a b) (h1:Qn b1 s.heap i1 t1 k)
  (l1:Qt b1 s.heap t1 xs) (hx:xs[k]?=none) (D:ZipApart z TI TO i1 i2 t1 t2)
  (q:∀ h' e,(∀ b o,b≠z->b≠i1->s.heap.get? b=some o->h'.get? b=some o)->(∃ o,h'.get? e=some o/\o.cls=.type "StopIteration")->E (.ref e) { s with heap:=h' }):wpAny (model prog w) A (Builtin.«zip.__next__» ⟨[.ref z],[]⟩) Q E s:=by
 show wpAny _ _ (field (.ref z) 2 >>= _) _ _ _;refine pg (MP hz rfl rfl ?_);show wpAny _ _ (field (.ref z) 3 >>= _) _ _ _;refine pg (MP hz rfl rfl ?_);refine pg (Nk hI rfl ?_);refine pg (pg (MP hz rfl rfl (Mq ?_)));refine pg (OF ?_);refine pg (MP hz rfl rfl ?_);refine pg (MX hz (by simp) λha za sa=>?_)
 replace za:IsZip ha z TI TO .ellipsis:=za
 rw [show (#[Value.ref i1,Value.ref i2]:Array Value).toList.zipIdx=[(.ref i1,0),(.ref i2,1)] from rfl,ND];have YV:Qn b1 ha i1 t1 k:=h1.at λo e=>(sa.2 i1 D.i1z).trans e;have YW:Qt b1 ha t1 xs:=l1.but sa.extBut D.l1z;refine pg (pg (pg (N6 (pg (Ds (s:={ s with heap:=ha }) hh YV YW hx λhb e sb he=>?_)))))
 replace sb:Heap.ExtBut i1 ha hb:=sb
 have zb:IsZip hb z TI TO .ellipsis:=sb z _ (MD D.i1z) za;obtain ⟨oe,UT,hce⟩:=he;have YY:e≠z:=λy=>by rw [y,zb] at UT;cases UT;simp at hce
 refine MX (s:={ s with heap:=hb }) zb (by simp) λhc zc sc=>q hc e (λb o n1 n2 hb'=>?_) ⟨oe,(sc.2 e YY).trans UT,hce⟩;exact (sc.2 b n1).trans (sb b o n2 ((sa.2 b n1).trans hb'))
end
theorem ym (b1 b2:Bool) (t1 t2:Addr) (xs ys:Array Value) :
  Meets (Builtin.«zip.__new__» ⟨[.type "zip",.ref t1,.ref t2],[]⟩) (λ_ R s=>Qt b1 s.heap t1 xs/\Qt b2 s.heap t2 ys /\
   ∀ h',IsZip h' (s.heap.objs.size+4) (s.heap.objs.size+2) (s.heap.objs.size+3) .none->IsPair h' (s.heap.objs.size+2) (.ref s.heap.objs.size) (.ref (s.heap.objs.size+1))->IsPair h' (s.heap.objs.size+3) .none .none ->
    Qn b1 h' s.heap.objs.size t1 0->Qn b2 h' (s.heap.objs.size+1) t2 0->(∀ b o,s.heap.get? b=some o->h'.get? b=some o)->R (.ok (.ret (.ref (s.heap.objs.size+4)))) { s with heap:=h' }) :=
 .of_wp λ_ _ _ _ s q=>by
  obtain ⟨h0,g0,d0,t0,o0⟩:=s;obtain ⟨a1,a2,q⟩:=q;have UE:=sub_zip;have e1:Qt b1 (Shared.heap ⟨h0,g0,d0,t0,o0⟩) t1 xs:=a1;have e2:Qt b2 (Shared.heap ⟨h0.push (yS b1 t1),g0,d0,t0,o0⟩) t2 ys:=Qt.push a2 _
  wp_walk using rF e1,rF e2
  refine ⟨_,rfl,?_⟩;have n1:(h0.push (yS b1 t1)).objs.size=h0.objs.size+1:=MM _ _;simp only [MM];refine q _ ?_ ?_ ?_ ?_ ?_ λb o e=>?_
  ·exact MJ (by simp [MM]) rfl
  ·exact LD _ (LD _ (MJ (by simp [MM]) rfl))
  ·exact LD _ (MJ (by simp [MM]) rfl)
  ·exact .mk (LD _ (LD _ (LD _ (LD _ (MJ (by simp [MM]) (by cases b1 <;> rfl))))))
  ·exact .mk (LD _ (LD _ (LD _ (MJ (by simp [MM]) (by cases b2 <;> rfl)))))
  ·exact LD _ (LD _ (LD _ (LD _ (LD _ e))))
variable {w:World} {b1 b2:Bool}
theorem sj {prog:Program} {A:Around} {E:Value->Shared->Prop} {s:Shared} {t1 t2:Addr} {xs ys:Array Value} {Q:Value->Shared->Prop} (a1:Qt b1 s.heap t1 xs) (a2:Qt b2 s.heap t2 ys)
  (q:∀ h',IsZip h' (s.heap.objs.size+4) (s.heap.objs.size+2) (s.heap.objs.size+3) .none->IsPair h' (s.heap.objs.size+2) (.ref s.heap.objs.size) (.ref (s.heap.objs.size+1))->IsPair h' (s.heap.objs.size+3) .none .none ->
   Qn b1 h' s.heap.objs.size t1 0->Qn b2 h' (s.heap.objs.size+1) t2 0->(∀ b o,s.heap.get? b=some o->h'.get? b=some o)->Q (.ref (s.heap.objs.size+4)) { s with heap:=h' }):wpAny (model prog w) A (call (.type "zip") [.ref t1,.ref t2]) Q E s :=
 callType_new F.called_zip (by decide) (F.typeCall_zip_2 _ _) (F.newCall_zip_2 _ _) (λo=>F.args_object_init_3 o _ _) F.entry_zip_new (ym b1 b2 t1 t2 xs ys) ⟨a1,a2,λh' z1 z2 z3 z4 z5 kk=>⟨⟨_,z1,rfl⟩,q h' z1 z2 z3 z4 z5 kk⟩⟩
noncomputable def Di (b1 b2:Bool) (K:W.Frag) (a b:Addr) (xs ys:List V):It:=⟨λi H=>i < xs.length/\i < ys.length/\WO b1 K H a xs/\WO b2 K H b ys,λi H x H'=>∃ p u v,H p=none/\x=.ref p/\xs[i]?=some u/\ys[i]?=some v/\H'=upd H p (.tup [u,v]),λi H=>i=xs.length/\WO b1 K H a xs⟩
variable {elts:List Expr} {ps:Pos}
theorem xZ {P:Program} {K:W.Frag} {c1} (a b z TI TO i1 i2:Addr) (xs ys:List V) (D:ZipApart z TI TO i1 i2 a b):iD P w K (.Tuple elts c1 ps) (Di b1 b2 K a b xs ys) [z,TI,TO,i1,i2] z
  (λi h=>∃ c d,IsZip h z TI TO .none/\IsPair h TI (.ref i1) (.ref i2)/\IsPair h TO c d/\Qn b1 h i1 a i/\Qn b2 h i2 b i) where
 mem:=by simp
 obj:=λi h ⟨c,d,q1,q2,q3,q4,q5⟩ b hb=>by
  simp only [MA,MR,NF] at hb;rcases hb with rfl | rfl | rfl | rfl | rfl
  ·exact ⟨_,q1,λv e=>by cases e⟩
  ·exact ⟨_,q2,λv e=>by cases e⟩
  ·exact ⟨_,q3,λv e=>by cases e⟩
  ·exact q4.ob
  ·exact q5.ob
 keep:=λi h h' ⟨c,d,q1,q2,q3,q4,q5⟩ k=>⟨c,d,k z (by simp) _ q1,k TI (by simp) _ q2,k TO (by simp) _ q3,q4.at λo e=>k i1 (by simp) o e,q5.at λo e=>k i2 (by simp) o e⟩
 item:=by
  intro X hP hw hK hc i pins s σ H E I hf st hg;subst hP hw hK;obtain ⟨c,d,q1,q2,q3,q4,q5⟩:=st;obtain ⟨hi,hj,ha,hb⟩:=hg;obtain ⟨us,ru,pu⟩:=I.Vn ha;obtain ⟨vs,rv,pv⟩:=I.Vn hb;have hx:xs[i]?=some xs[i]:=Ms hi;have hy:ys[i]?=some ys[i]:=Ms hj;obtain ⟨u,hu,r1⟩:=ru.get hx;obtain ⟨v,hv,r2⟩:=rv.get hy;have ty:s.TypeIs (.ref z) "zip":=⟨_,q1,rfl⟩
  unfold pyNext;refine pg (Oo (M8 (name:=Str.ofString "__next__") ty NG (Ny NG ty OP ?_ (OH _))));refine uK (x:=u) (y:=v) q1 q2 q3 q4 q5 pu pv (by simpa using hu) (by simpa using hv) D λh' w1 w2 w3 w4 w5 w6=>Mq ⟨_,rfl,?_⟩;refine wpAny_letOwnedTupleGo_zip (s:={ s with heap:=h' }) w1 λh2 e2 same=>?_
  replace same:Heap.SameBut z h' h2:=same
  have lz:z < s.heap.objs.size:=Mr q1;have lTI:TI < s.heap.objs.size:=Mr q2;have lTO:TO < s.heap.objs.size:=Mr q3;have l1:i1 < s.heap.objs.size:=q4.lt;have l2:i2 < s.heap.objs.size:=q5.lt
  have low:∀ b ∈ [z,TI,TO,i1,i2],b < s.heap.objs.size:=λb hb=>by simp only [MA,MR,NF] at hb;rcases hb with rfl | rfl | rfl | rfl | rfl <;> assumption
  have Vo:h2.get? s.heap.objs.size=some { cls:=.type "tuple",data:=.seq #[u,v] }:=(same.2 _ (M0 lz)).trans w5
  have I1:Inv X pins σ (upd H s.heap.objs.size (.tup [xs[i],ys[i]])) { s with heap:=s.heap.push { cls:=.type "tuple",data:=.seq #[u,v] },toks:=s.toks } :=
   I.laid (o:=.tup [xs[i],ys[i]]) (λb ob q=>LD _ q) (Mu _) ⟨by rw [Na];simp,[u,v],.cons r1 (.cons r2 .nil),Ox _ _⟩
  have frees:∀ b,b < s.heap.objs.size->upd H s.heap.objs.size (.tup [xs[i],ys[i]]) b=H b:=λb hb=>aE (Mv hb)
  have I2:Inv X pins σ (upd H s.heap.objs.size (.tup [xs[i],ys[i]])) { s with heap:=h2,toks:=s.toks }:=by
   refine Inv.RO (s:={ s with heap:=s.heap.push { cls:=.type "tuple",data:=.seq #[u,v] },toks:=s.toks }) (h':=h2) (its:=[z,TI,TO,i1,i2]) (t':=s.toks) I1 (λb o hb q=>?_) (λb hb=>?_)
   ·simp only [MA,MR,NF,not_or] at hb;obtain ⟨n1,n2,n3,n4,n5⟩:=hb;by_cases VQ:b=s.heap.objs.size
    ·subst VQ;have q':(s.heap.push { cls:=.type "tuple",data:=.seq #[u,v] }).get? s.heap.objs.size=some o:=q;rw [MJ rfl rfl] at q';cases q';exact Vo
    ·have q':s.heap.get? b=some o:=(Pp _ _ _ VQ).symm.trans q;exact (same.2 b n1).trans (w6 b o n1 n3 n4 n5 q')
   ·obtain ⟨f0,f1,f2,f3,f4,f5⟩:=hf b hb;exact ⟨by rw [frees b (low b hb)];exact f0,f1,f3,f4,f5⟩
  refine ⟨.ref s.heap.objs.size,_,I2,rfl,⟨_,_,_,I.hok.fresh (Mu _),rfl,hx,hy,rfl⟩,⟨u,v,e2,?_,?_,?_,?_⟩,λb hb=>?_⟩
  ·exact (same.2 TI D.TIz).trans (w6 TI _ D.TIz D.TITO D.TIi1 D.TIi2 q2)
  ·exact (same.2 TO D.TOz).trans w2
  ·exact w3.at λo e=>(same.2 i1 D.i1z).trans e
  ·exact w4.at λo e=>(same.2 i2 D.i2z).trans e
  ·rw [frees b (low b hb)];exact (hf b hb).1
 done:=by
  intro X hP hw hK hc i pins s σ H E I hf st hg;subst hP hw hK;obtain ⟨c,d,q1,q2,q3,q4,q5⟩:=st;obtain ⟨hi,ha⟩:=hg;obtain ⟨us,ru,pu⟩:=I.Vn ha;have lr:=ru.length;have ty:s.TypeIs (.ref z) "zip":=⟨_,q1,rfl⟩
  unfold pyNext;refine pg (Oo (M8 (name:=Str.ofString "__next__") ty NG (Ny NG ty OP ?_ (OH _))));refine uJ (I.ok.hd hc) q1 q2 q3 q4 pu (by simp;lia) D λh' e kk ⟨o,ho,hco⟩=>?_;refine pg (wpAny_isInstance (T:="StopIteration") (b:=true) ⟨o,ho,hco⟩ isSubtype_stop (Mq ⟨rfl,?_⟩));refine Inv.RO (s:=s) (h':=h') (its:=[z,i1]) (t':=s.toks) I (λb o hb q=>kk b o (λy=>hb (by simp [y])) (λy=>hb (by simp [y])) q) (λb hb=>?_)
  obtain ⟨f0,f1,f2,f3,f4,f5⟩:=hf b (by
   simp only [MA,MR,NF] at hb;rcases hb with rfl | rfl <;> simp)
  exact ⟨f0,f1,f3,f4,f5⟩
 self:=λA i s Q E ⟨_,_,q1,_⟩ q=>OQ q1 q
noncomputable def D7 (b1 b2:Bool) (K:W.Frag) (ta:TA):TI:=λσ H R=>ta σ H λvs H1=>∃ a b xs ys,vs=[.ref a,.ref b]/\WO b1 K H1 a xs/\WO b2 K H1 b ys/\R (Di b1 b2 K a b xs ys) H1
variable {pos:Pos}
theorem zE (b1 b2:Bool) {a b:Expr} {ta:TA} {p:Pos} {c1} (hg:Gl X "zip") (hm:X.mg "zip"=none) (ha:PA X [a,b] ta) (hs:starEach [a,b] X.env=(false,eval a X.env)::starEach [b] X.env:=by rfl) (hpl:(backTo pos (starEach [b] X.env)).any (·.1)=false:=by rfl) :
  PI X (.Tuple elts c1 ps) (.Call (.Name "zip" p) [a,b] [] pos) (D7 b1 b2 X.K ta):=by
 intro pins s σ H R I h;refine Call_ (fH I hg hm vc (Nf (PR (ha pos pins s σ H _ I h) λus s1 ⟨vs,H1,I1,r1,q1⟩=>?_) hs hpl));obtain ⟨t1,t2,xs,ys,ev,hq1,hq2,q⟩:=q1;subst ev
 cases r1 with
 | cons e1 rt =>
  obtain ⟨u2,rfl,e2⟩:=cH rt;cases e1;cases e2;obtain ⟨us,ru,pu⟩:=I1.Vn hq1;obtain ⟨vs,rv,pv⟩:=I1.Vn hq2;have WQ:t1 < s1.heap.objs.size:=pu.lt;have WR:t2 < s1.heap.objs.size:=pv.lt;refine sj pu pv λh' z1 z2 z3 z4 z5 kk=>?_;refine OQ (s:={ s1 with heap:=h' }) z1 ?_;have ne:∀ {x y:Nat},x < y->x≠y:=λh=>Mv h;have gt:∀ {x y:Nat},y < x->x≠y:=λh=>M0 h
  have ap:ZipApart (s1.heap.objs.size+4) (s1.heap.objs.size+2) (s1.heap.objs.size+3) s1.heap.objs.size (s1.heap.objs.size+1) t1 t2 :=
   ⟨ne (by lia),ne (by lia),ne (by lia),ne (by lia),ne (by lia),gt (by lia),gt (by lia),gt (by lia),gt (by lia),ne (by lia),ne (Mw WQ (by lia)),ne (Mw WQ (by lia)),ne WQ,ne (Mw WQ (by lia)),
    ne (Mw WR (by lia)),ne (Mw WR (by lia)),ne WR,ne (Mw WR (by lia))⟩
  refine ⟨s1.heap.objs.size+4,[s1.heap.objs.size+4,s1.heap.objs.size+2,s1.heap.objs.size+3,s1.heap.objs.size,s1.heap.objs.size+1],_,_,H1,rfl,I1.kept (t':=s1.toks) kk,xZ t1 t2 _ _ _ _ _ xs ys ap,⟨.none,.none,z1,z2,z3,z4,z5⟩,λb hb=>?_,q⟩
  have lb:s1.heap.objs.size<=b:=by
   simp only [MA,MR,NF] at hb;rcases hb with rfl | rfl | rfl | rfl | rfl
   ·exact Nn _ _
   ·exact Nn _ _
   ·exact Nn _ _
   ·exact Mu _
   ·exact Nn _ _
  exact I1.Te lb (I1.hok.fresh lb)
section
variable {K:W.Frag} {σ:St} {H:Hp} {tA:TA} {ar:List Ar} {d:D} {R:List Ar->D->Prop} {B:List Ar->Addr->Prop} {E:XK} {Q:VK} {C:Addr}
end
theorem xb {E:St->XK} {o sl e:Expr} {es:List Expr} {Yg:Pos} {tf:TE} {t:TA} (menu:List (Addr × Sp)) (hf:PE X (.Subscript o sl Yg) tf) (ha:PA X (e::es) t)
  (hm:∀ f sp,(f,sp) ∈ menu->W.keepIn X.K (.ref f)=true/\∃ (CX:Tf) (k:Nat) (fd:FuncData) (ps:List Str),PB X.prog X.w X.K X.mg X.base CX k f fd ps sp/\P5 k X.A/\Binds X.K fd ps []/\cm CX X E)
  (he:starEach (e::es) X.env=(false,eval e X.env)::starEach es X.env:=by rfl) (hpl:(backTo pos (starEach es X.env)).any (·.1)=false:=by rfl) :
  PE X (.Call (.Subscript o sl Yg) (e::es) [] pos) (λσ H Q=>tf σ H λx H1=>∃ f sp,x=.ref f/\(f,sp) ∈ menu/\t σ H1 λvs H2=>sp vs H2 Q (E σ)):=by
 intro pins s σ H Q I h;refine Call_ ?_;refine PR (hf pins s σ H _ I h) λu s1 ⟨x,H1,I1,rx,f,sp,ex,hmem,q⟩=>?_;subst ex;obtain rfl:u=Value.ref f:=rx;obtain ⟨hk,CX,k,fd,ps,F,hr,hb,hx⟩:=hm f sp hmem;refine OV (h₀:=X.base) I1.ok.mod.VG hk (PR (ha pos pins s1 σ H1 _ I1 q) λus s2 ⟨vs,H2,I2,r,q2⟩=>⟨I2.QK,?_⟩) he hpl;exact rL (Sq:=[]) (ds:=[]) F hr hb .nil hx I2 r (by rw [Ov];exact q2)
end L2
namespace L2
open PySem
noncomputable def Kept (h h':Heap):Prop:=∀ (b:Addr) (o:Obj),h.objs[b]?=some o->∃ o',h'.objs[b]?=some o'/\o'.dict=o.dict
theorem Kept.refl {h:Heap}:Kept h h:=λ_ o e=>⟨o,e,rfl⟩
theorem Kept.trans {h1 h2 h3:Heap} (x:Kept h1 h2) (y:Kept h2 h3):Kept h1 h3:=λb o e =>
 let ⟨o1,e1,d1⟩:=x b o e;let ⟨o2,e2,d2⟩:=y b o1 e1;⟨o2,e2,d2.trans d1⟩
variable {o:Obj}
theorem Kept.push {h:Heap}:Kept h (h.push o):=λb u e=>by obtain ⟨objs,l⟩:=h;refine ⟨u,?_,rfl⟩;show (objs.push o)[b]?=some u;have e:objs[b]?=some u:=e;rw [Array.getElem?_push_lt (Nv.mp e).1];exact M5 some (Nv.mp e).2
variable {a:Addr} {f:Obj->Obj}
theorem Kept.update {h:Heap} (hf:∀ o,(f o).dict=o.dict):Kept h (h.update a f):=λb u e=>by
 obtain ⟨objs,l⟩:=h;have e:objs[b]?=some u:=e;by_cases q:a=b
 ·refine ⟨f u,?_,hf u⟩;show (objs.modify a f)[b]?=some (f u);rw [OS,MF q,e];rfl
 ·refine ⟨u,?_,rfl⟩;show (objs.modify a f)[b]?=some u;rw [OS,Mz q,e]
theorem Kept.at {h h':Heap} {o':Obj} (k:Kept h h') (e:h.get? a=some o) (e':h'.get? a=some o'):o'.dict=o.dict:=by
 have r:∀ {g:Heap} {u:Obj},g.get? a=some u->g.objs[a]?=some u:=λ{g u} q=>by
  unfold Heap.get? at q;split at q
  ·cases q
  ·exact q
 obtain ⟨u,eu,d⟩:=k a o (r e);have z:=(r e').symm.trans eu;cases z;exact d
noncomputable def PX {α:Type}:Sem α->Prop
 | .rule _ k=>PX (k ())
 | .at _ k=>PX (k ())
 | .load _ _ k=>∀ x,PX (k x)
 | .update _ _ f k=>(∀ o,(f o).dict=o.dict)/\PX (k ())
 | .loadIfAlive _ k=>∀ x,PX (k x)
 | .point _ k=>PX (k ())
 | .alloc _ k=>∀ x,PX (k x)
 | .fresh k=>∀ x,PX (k x)
 | .ask k=>∀ x,PX (k x)
 | .choose _ _ k=>∀ x,PX (k x)
 | .handled _ k=>∀ x,PX (k x)
 | .stack k=>∀ x,PX (k x)
 | .call ..=>False
 | .resume ..=>False
 | .os ..=>False
 | .newGen ..=>False
 | .genState ..=>False
 | .thread ..=>False
 | _=>True
theorem PX.bind {α β:Type} {f:α->Sem β} (hf:∀ a,PX (f a)):∀ {m:Sem α},PX m->PX (m >>= f):=by
 intro m hm;show PX (m.bind f)
 induction m with
 | pure a=>exact hf a
 | rule _ k ih=>exact ih () hm
 | «at» _ k ih=>exact ih () hm
 | load _ _ k ih=>exact λx=>ih x (hm x)
 | update _ _ g k ih=>exact ⟨hm.1,ih () hm.2⟩
 | loadIfAlive _ k ih=>exact λx=>ih x (hm x)
 | point _ k ih=>exact ih () hm
 | alloc _ k ih=>exact λx=>ih x (hm x)
 | fresh k ih=>exact λx=>ih x (hm x)
 | ask k ih=>exact λx=>ih x (hm x)
 | choose _ _ k ih=>exact λx=>ih x (hm x)
 | handled _ k ih=>exact λx=>ih x (hm x)
 | stack k ih=>exact λx=>ih x (hm x)
 | call=>exact hm.elim
 | resume=>exact hm.elim
 | os=>exact hm.elim
 | newGen=>exact hm.elim
 | genState=>exact hm.elim
 | thread=>exact hm.elim
 | _=>trivial
variable {M:Model}
theorem Ab {α:Type} {Γ:Ctx} {Q:α->Pos->Shared->Prop} {E:Value->Pos->Shared->Prop} {h0:Heap}:∀ {t:Sem α} {p:Pos} {s:Shared},PX t->Kept h0 s.heap->Sem.wp M Γ t Q E p s ->
  Sem.wp M Γ t (λa p' s'=>Q a p' s'/\Kept h0 s'.heap) E p s:=by
 intro t
 induction t with
 | pure a=>exact λ_ k h=>⟨h,k⟩
 | raise e=>exact λ_ _ h=>h
 | unsupported=>exact λ_ _ h=>h
 | finish=>exact λ_ _ h=>h
 | rule _ k ih=>exact λhm kp h=>ih () hm kp h
 | «at» _ k ih=>exact λhm kp h=>ih () hm kp h
 | load _ _ k ih=>exact λhm kp ⟨o,e,h⟩=>⟨o,e,ih o (hm o) kp h⟩
 | update _ _ f k ih=>exact λhm kp ⟨e,h⟩=>⟨e,ih () hm.2 (kp.trans (Kept.update hm.1)) h⟩
 | loadIfAlive _ k ih=>exact λhm kp h=>ih _ (hm _) kp h
 | point _ k ih=>exact λhm kp h=>ih () hm kp h
 | register=>exact λ_ _ h=>h
 | alloc _ k ih=>exact λhm kp h=>ih _ (hm _) (kp.trans Kept.push) h
 | fresh k ih=>exact λhm kp h=>ih _ (hm _) kp h
 | ask k ih=>exact λhm kp h=>ih _ (hm _) kp h
 | choose _ _ k ih=>exact λhm kp ⟨n,h⟩=>⟨n,ih _ (hm _) kp h⟩
 | handled _ k ih=>exact λhm kp h=>ih _ (hm _) kp h
 | stack k ih=>exact λhm kp h=>ih _ (hm _) kp h
 | yield=>exact λ_ _ h=>h
 | fork=>exact λ_ _ h=>h
 | await=>exact λ_ _ h=>h
 | _=>exact λhm=>hm.elim
theorem cR {α:Type} {A:Around} {t:Sem α} {Q:α->Shared->Prop} {E:Value->Shared->Prop} {s:Shared} (hs:PX t) (h:wpAny M A t Q E s):wpAny M A t (λa s'=>Q a s'/\Kept s.heap s'.heap) E s :=
 λΓ p hΓ=>Ab hs Kept.refl (h Γ p hΓ)
theorem eL {α:Type} (a:α):PX (pure a:Sem α):=trivial
theorem xS (h:∀ o,(f o).dict=o.dict):PX (update a f):=⟨h,trivial⟩
theorem kJ:PX stack:=λ_=>trivial
theorem k8 (v:Value):PX (fieldsOf v):=by
 unfold fieldsOf;split
 ·refine PX.bind (λo=>?_) (λ_=>trivial);split <;> trivial
 ·trivial
theorem eZ (v:Value) (i:Nat):PX (field v i):=by unfold field;refine PX.bind (λvs=>?_) (k8 v);split <;> trivial
theorem ke (f:Array Value->Array Value) (o:Obj):(Obj.mapFields f o).dict=o.dict:=by unfold Obj.mapFields;split <;> rfl
theorem eh (v:Value) (i:Nat) (x:Value):PX (setField v i x):=by
 unfold setField;split
 ·unfold updateField;refine PX.bind (λo=>?_) (λ_=>trivial);split
  ·split
   ·exact ⟨λo=>ke _ o,trivial⟩
   ·trivial
  ·trivial
 ·trivial
theorem oZ (env:Env) (outer:List Env):PX (behindIsImport env outer):=by
 unfold behindIsImport;split
 ·trivial
 ·split
  ·trivial
  ·exact PX.bind (λ_=>eL _) (eZ _ _)
theorem uA (env:Env) (b:Bool) (outer:List Env):PX (keptBack env b outer):=by
 unfold keptBack;split
 ·split
  ·trivial
  ·have h:PX underTheClaimsCaller:=PX.bind (λ_=>eL _) kJ;exact PX.bind (λc=>eL _) h
 ·trivial
theorem kI:∀ l:List Env,PX (readyFrames l)
 | []=>trivial
 | env::outer=>by
  unfold readyFrames;split
  ·refine PX.bind (λo=>?_) (λ_=>trivial);split
   ·trivial
   ·refine PX.bind (λi=>PX.bind (λb=>PX.bind (λ_=>kI outer) ?_) (uA _ _ _)) (oZ _ _);exact xS λ_=>rfl
  ·trivial
theorem qE (env:Env):PX (frameOf env):=by
 unfold frameOf;have h:PX frameEnvs:=PX.bind (λ_=>eL _) kJ;refine PX.bind (λl=>?_) h;refine PX.bind (λo=>?_) ?_
 ·split <;> trivial
 ·unfold frameObject;split
  ·trivial
  ·exact PX.bind (λ_=>eL _) (kI (_::_))
theorem qF (f:Addr) (b:Bool):PX (entryPlaceOf f b):=by unfold entryPlaceOf;refine PX.bind (λl=>?_) (λ_=>trivial);split <;> trivial
theorem qD (a b c d e:Value) (l:List Value):PX (EntryCells.newEntry a b c d e l):=by
 unfold EntryCells.newEntry newFields newObj;have h:∀ d:Data,PX (newObjAsIs (.type "traceback") d):=λd _=>trivial;generalize ([a,b,c,d,e]++if l.isEmpty=true then List.replicate 6 Value.none else l).toArray=vs;dsimp only;split
 ·exact PX.bind (λ_=>h _) (m:=unsupported _) trivial
 ·exact h _
theorem fT (e:Value) (f:Option Addr):PX (setFlight e f):=by
 unfold setFlight;refine PX.bind (λtb=>?_) (eZ _ _);split
 ·exact eh _ _ _
 ·trivial
theorem iX (e:Value) (env:Env):PX (noteFrame e env):=by
 unfold noteFrame;split
 ·refine PX.bind (λhd=>?_) (eZ _ _)
  have last:∀ b:Bool,PX (do setField e 1 (<- EntryCells.newEntry hd (<- frameOf env) .none (rawInt ‹Addr›) .none (<- entryPlaceOf ‹Addr› b))):=λb =>
   PX.bind (λfr=>PX.bind (λpl=>PX.bind (λen=>eh _ _ _) (qD _ _ _ _ _ _)) (qF _ _)) (qE _)
  split
  ·refine PX.bind (λfl=>?_) (eZ _ _);split
   ·trivial
   ·exact PX.bind (λ_=>last _) (eh _ _ _)
  ·exact last _
 ·trivial
theorem e7 (env:Env) (e:Value):PX (leaving env e):=PX.bind (λ_=>fT _ _) (iX _ _)
end L2
namespace L2
open PySem PySem.Spec PySem.Calls PyProof.Rows PySem.W PySem.Builtin PySem.Builtin.ObjectAttr
noncomputable def DictAt (h:Heap) (a:Addr) (dx:Option Addr):Prop:=∃ oe,h.get? a=some oe/\oe.dict=dx
theorem Kept.dictAt {h h':Heap} {a:Addr} {dx:Option Addr} {cls a0:Value} {T:Addr} (k:Kept h h') (d:DictAt h a dx) (t:Wk h' a T cls a0):DictAt h' a dx:=by obtain ⟨oe,he,hd⟩:=d;obtain ⟨o2,_,_,_,h2,_⟩:=t;exact ⟨o2,h2,(k.at he h2).trans hd⟩
noncomputable def PK (P:Program) (w:World):Tf:=λouter H s E e s' =>
 ∃ a T cls a0 dx H',e=.ref a/\s'.os=s.os/\AllBare s'.gens/\Un (frs outer) [] H H' s.heap s'.heap/\QM P w H' s'.heap /\
  (s.heap.get? a=none/\s.heap.get? T=none/\H' a=none/\H' T=none)/\Wk s'.heap a T cls a0/\DictAt s'.heap a dx/\E cls dx H'
section
variable {X:Cx} {pins:List (Addr × Obj)} {σ:St} {H:Hp} {s s':Shared} {E:XK} {e:Value}
theorem PK.behind (I:Inv X pins σ H s) (x:PK X.prog X.w X.stack H s E e s'):∃ a T cls a0 dx H',e=.ref a/\E cls dx H'/\DictAt s'.heap a dx/\s.heap.get? a=none/\H' a=none/\Inv X pins σ H' s' /\
  Heap.FlyingW (W.hideAll s'.heap (a::T::frs X.stack)) X.stack a cls a0 s'.heap /\
  ∀ h2 l',Heap.FlyingW (W.hideAll s'.heap (a::T::frs X.stack)) l' a cls a0 h2->s'.heap.UpToSlots h2 ->
   ∃ T2,Inv X pins σ H' { s' with heap:=h2 }/\Wk h2 a T2 cls a0/\s.heap.get? T2=none/\H' T2=none/\Un (frs X.stack) [] H H' s.heap h2:=by
 obtain ⟨a,T,cls,a0,dx,H',rfl,os,bare,un,hok,fr,tr,da,q⟩:=x;obtain ⟨a2,T2,c2,a02,H2,e2,⟨rfl,rfl⟩,sa,na,J,fl,back⟩:=YO.behind (E:=λc _ G=>c=cls/\G=H') I ⟨a,T,cls,a0,H',rfl,os,bare,un,hok,fr,tr,rfl,rfl⟩;cases e2;exact ⟨a,T2,_,a02,dx,_,rfl,q,da,sa,na,J,fl,back⟩
end
variable {P:Program} {w:World} {K:W.Frag} {mg:Str->Option Value} {base:Heap} {N:List Str} {qual:Str} {scope:Scope} {f:Addr} {cd:Value} {outer:List Env} {H:Hp} {E:XK}
theorem aA {A:Around} {s:Shared} :
  Passes (PK P w) (dm (PK P w) P w K mg base N qual scope f cd A outer s H E) E:=by
 intro pins σ H1 s1 e s' I x;obtain ⟨a,T,cls,a0,dx,H',rfl,q,da,sa,na,J,fl,back⟩:=PK.behind I x
 refine MT (cR (e7 _ _) (wpAny_leaves_onW (Q:=λ_ s2=>∃ h2,s2={ s' with heap:=h2 }/\Heap.FlyingW (W.hideAll s'.heap (a::T::frs (envOfC qual scope s.heap.objs.size f cd::outer))) outer a cls a0 h2/\s'.heap.UpToSlots h2)
  (L:=s.heap.objs.size) I.ok.frames rfl fl λh2 f2 up=>⟨h2,rfl,f2,up⟩)) (λ_ s2 ⟨⟨h2,e2,f2,up⟩,kp⟩=>?_) λ_ _ z=>z
 subst e2;obtain ⟨T2,J2,t2,Xm,WN,_⟩:=back h2 _ f2 up
 have VY:∀ b,s1.heap.get? b=none->s.heap.get? b=none:=λb z=>by
  cases q:s.heap.get? b with
  | none=>rfl
  | some o =>obtain ⟨o',r⟩:=I.base.there b o q (by show b ∉ ([]:List Addr);simp);rw [z] at r;cases r
 exact ⟨a,T2,cls,a0,dx,H',rfl,J2.os,J2.bare,J2.base,J2.hok,⟨VY a sa,VY T2 Xm,na,WN⟩,t2,kp.dictAt da t2,q⟩
noncomputable def rW (P:Program) (w:World):Tf:=λouter H s E e s' =>
 ∃ a cls a0 dx H',e=.ref a/\s'.os=s.os/\AllBare s'.gens/\Un (frs outer) [] H H' s.heap s'.heap/\QM P w H' s'.heap /\
  (s.heap.get? a=none/\H' a=none)/\Fre s'.heap a cls a0/\DictAt s'.heap a dx/\E cls dx H'
theorem gJ {A:Around} {s:Shared} :
  Passes (rW P w) (dm (PK P w) P w K mg base N qual scope f cd A outer s H E) E:=by
 intro pins σ H1 s1 e s' I x;obtain ⟨a,cls,a0,dx,H',rfl,os,bare,un,hok,⟨sa,na⟩,⟨oe,vs,he,⟨hc,h0⟩,hd,hv⟩,da,q⟩:=x;have J:Inv (dm (PK P w) P w K mg base N qual scope f cd A outer s H E) pins σ H' s':=I.Rp (ch:=[]) os un hok bare (λb z=>absurd z (by simp));subst hc
 refine MT (cR (e7 _ _) (wpAny_leaving_firstW (Q:=λ_ s2=>∃ h2,s2={ s' with heap:=h2 }/\Heap.LeftW (W.hideAll s'.heap (a::a::frs (envOfC qual scope s.heap.objs.size f cd::outer))) (envOfC qual scope s.heap.objs.size f cd::outer) a oe.cls a0 s'.heap h2) (L:=s.heap.objs.size) (a0:=a0) I.ok.frames
  (W.funFrames_hide J.stack λenv hm b hb=>.tail _ (.tail _ (Oz.mpr ⟨env,hm,hb⟩))) rfl he (λb o q=>OT _ q) (NJ _ (.head _)) hd hv h0 λh2 L2=>⟨h2,rfl,L2⟩)) (λ_ s2 ⟨⟨h2,e2,k1,k2,k3,k4⟩,kp⟩=>?_) λ_ _ z=>z
 subst e2;obtain ⟨T2,t2,hT2,kk,sl2⟩:=j5 (T:=a) J.stack (show Heap.FlyingW _ _ a oe.cls a0 h2 from ⟨k1,NJ _ (.head _),k2,k3⟩) k4;have neT:T2≠a:=by obtain ⟨_,_,_,_,_,_,_,_,z,_⟩:=t2;exact z
 have nT:s'.heap.get? T2=none:=hT2.resolve_left neT
 have sT:s1.heap.get? T2=none:=by
  cases q:s1.heap.get? T2 with
  | none=>rfl
  | some o =>obtain ⟨o',r⟩:=un.there T2 o q (by simp);rw [nT] at r;cases r
 have VY:∀ b,s1.heap.get? b=none->s.heap.get? b=none:=λb z=>by
  cases q:s.heap.get? b with
  | none=>rfl
  | some o =>obtain ⟨o',r⟩:=I.base.there b o q (by show b ∉ ([]:List Addr);simp);rw [z] at r;cases r
 have J2:Inv (dm (PK P w) P w K mg base N qual scope f cd A outer s H E) pins σ H' { s' with heap:=h2 } :=
  I.Rp (s':={ s' with heap:=h2 }) (ch:=[]) os (rV un sa sa kk sl2) (pT hok na na J.RH kk) bare (λb z=>absurd z (by simp))
 exact ⟨a,T2,oe.cls,a0,dx,H',rfl,J2.os,J2.bare,J2.base,J2.hok,⟨VY a sa,VY T2 sT,na,hok.empty nT⟩,t2,kp.dictAt da t2,q⟩
variable {fd:FuncData} {ps:List Str}
theorem UQ.YZ {x:Str} {st:Stmt} {k:Nat} {sp:Sp} (F:UQ K x qual st f fd) (S:Pz N ps (ag st)) (len:∀ vs H Q E,sp vs H Q E->vs.length=ps.length)
  (hbody:∀ (cdv:Value) (A:Around) (outer:List Env) (s:Shared) (H:Hp) (vs:List V) (Q:VK) (E:XK),P5 k (A.deeper (envOfC qual (ag st) s.heap.objs.size f cdv))->sp vs H Q E ->
   ∃ t,QI (dm (PK P w) P w K mg base N qual (ag st) f cdv A outer s H E) (b8 st) t/\t { nx:=λ_ H'=>Q .PJ H',rt:=Q } (start N vs) H):PB P w K mg base (PK P w) (k+1) f fd ps sp:=by
 obtain ⟨oc,od,kV,doc,pm,an,cdv,ct,osl,rfl,lk,hcd⟩:=F.ex;exact Ah lk hcd S len λA outer s H vs Q E hr UL=>hbody cdv A outer s H vs Q E hr UL
theorem bR {CX:Tf} {A:Around} {s:Shared} :
  PassesOwn (model P w) (dm CX P w K mg base N qual scope f cd A outer s H E).A (dm CX P w K mg base N qual scope f cd A outer s H E).env (dm CX P w K mg base N qual scope f cd A outer s H E).xe :=
 λ_ _ h=>wpAny_leaving_again (SameStack.refl _) h
noncomputable def uL (e C:Addr) (a0:Value) (dx:Addr):HO:=.ext λh=>∃ oe vs,h.get? e=some oe/\(oe.cls=.ref C/\vs[0]?=some a0)/\oe.data=.fields vs/\vs[1]?=some .none/\oe.dict=some dx
noncomputable abbrev iB (H:Hp) (e C:Addr) (a0:Value) (dx:Addr) (f:Str) (v:V):Hp:=upd (upd H e (uL e C a0 dx)) dx (.xd [(f,v)])
section
variable {H:Hp} {e C dx b:Addr} {a0:Value} {f:Str} {v:V}
theorem yh:iB H e C a0 dx f v dx=some (.xd [(f,v)]):=aF
theorem nB (h:dx≠e):iB H e C a0 dx f v e=some (uL e C a0 dx):=(aE (MD h)).trans aF
theorem yi (h:b≠dx) (h':b≠e):iB H e C a0 dx f v b=H b:=(aE h).trans (aE h')
end
variable {X:Cx} {pos:Pos}
theorem qr {C:Addr} {f:Str} {o value:Expr} {ta tv:TE} {pos':Pos} (st:uN X.K C f) (ha:PE X o ta) (hv:PE X value tv) (hs:swapsWith value (some (.Attribute o f pos')) pos.line X.env=pure false:=by rfl) :
  PS X (.Assign [.Attribute o f pos'] value pos) (λD σ H=>tv σ H λy H1=>ta σ H1 λx H2=>∃ e a0,x=.ref e/\H2 e=some (jz e C a0)/\∀ dx,H2 dx=none->D.nx σ (iB H2 e C a0 dx f y)):=by
 intro pins s σ H D I h;refine plainObj_wpAny_Assign_Attribute (PR (hv pins s σ H _ I h) λu s1 ⟨y,H1,I1,ry,q⟩=>PR (ha pins s1 σ H1 _ I1 q) λov s2 ⟨x,H2,I2,rx,e,a0,ex,he,q2⟩=>?_) hs;subst ex;obtain rfl:ov=Value.ref e:=rx;obtain ⟨⟨oe,vs,UT,⟨hcl,hv0⟩,hdt,hv1,hdn⟩,_,_⟩:=(show P1 X.prog X.w H2 s2.heap e (jz e C a0) from I2.hok e _ he)
 refine o3 I2.QK st UT hcl hdn hdt λh' tk k hx' ns=>?_
 have sd:s2.heap.get? s2.heap.objs.size=none:=by
  cases q:s2.heap.get? s2.heap.objs.size with
  | none=>rfl
  | some o=>exact absurd (Mr q) (Nq _)
 have nd:H2 s2.heap.objs.size=none:=I2.hok.empty sd
 have J:Inv X pins σ (upd H2 e (uL e C a0 s2.heap.objs.size)) { s2 with heap:=h',toks:=tk }:=by refine I2.write (x:=e) (e:=e) (t':=tk) (by rw [he];trivial) (.inl rfl) k ⟨_,hx'⟩ ?_;exact ⟨⟨_,vs,hx',⟨hcl,hv0⟩,hdt,hv1,rfl⟩,⟨_,hx'⟩,λh1 h2 ⟨o1,v1,e1,c1⟩ k=>⟨o1,v1,k o1 e1,c1⟩⟩
 have nb:∀ b,H2 b=none->b≠e:=λb z y=>by rw [y,he] at z;cases z
 have un:Un (frs X.stack) [] H2 (upd H2 e (uL e C a0 s2.heap.objs.size)) s2.heap h':=by
  refine ⟨λb o q n hf hx=>k b o (nb b n) q,λb o q n hf hx=>⟨o.slots,k b o (nb b n) q⟩,λb o q n hx=>by rw [aE (nb b n)];exact n,λb o q hx=>?_,λb xs q=>?_,λb u xs q=>?_,λb ps q=>⟨#[],?_⟩⟩
  ·by_cases hb:b=e
   ·subst hb;exact ⟨_,hx'⟩
   ·exact ⟨o,k b o hb q⟩
  ·rw [aE (λz=>by rw [z,he] at q;cases q)];exact q
  ·rw [aE (λz=>by rw [z,he] at q;cases q)];exact q
  ·rw [Pf,aE (λz=>by rw [z,he] at q;cases q)];exact q
 refine ⟨σ,_,Inv.Tj (o:=.xd [(f,y)]) I2 J un sd (by rw [aE (nb _ nd)];exact nd) (show ∃ mA,h'.Ns1 _ mA/\_ from ⟨_,ns,λg=>?_⟩),q2 _ nd⟩;by_cases hg:g=f
 ·subst hg;rw [MF rfl,List.lookup_cons_self];exact ry
 ·rw [Mz hg]
  have e:List.lookup g [(f,y)]=none:=by rw [Nm,O3.mpr hg];rfl
  rw [e]
  trivial
noncomputable def iA (C:Addr) (f:Str):Sp:=λvs H Q _=>∃ e a0 v,vs=[.ref e,v]/\H e=some (jz e C a0)/\∀ dx,H dx=none->Q .PJ (iB H e C a0 dx f v)
section
variable {X:Cx} {pins:List (Addr × Obj)} {σ:St} {H:Hp} {s s':Shared} {C fI e dx:Addr} {fd:FuncData} {k:Nat} {ps:List Str} {a0:Value} {f:Str} {v:V}
theorem nC (I:Inv X pins σ H s) (hn:s.heap.get? e=none) (na:H e=none) (nd:upd H e (jz e C a0) dx=none) {h1:Heap} (k1:∀ b o,s.heap.get? b=some o->h1.get? b=some o)
  (un:Un (frs X.stack) [] (upd H e (jz e C a0)) (iB (upd H e (jz e C a0)) e C a0 dx f v) h1 s'.heap) (hok:QM X.prog X.w (iB (upd H e (jz e C a0)) e C a0 dx f v) s'.heap) :
  H dx=none/\dx≠e/\Un (frs X.stack) [] H (upd H dx (.xd [(f,v)])) s.heap s'.heap/\QM X.prog X.w (upd H dx (.xd [(f,v)])) s'.heap /\
   ∃ oe vs,s'.heap.get? e=some oe/\(oe.cls=.ref C/\vs[0]?=some a0)/\oe.data=.fields vs/\vs[1]?=some .none/\oe.dict=some dx:=by
 have de:dx≠e:=λz=>by rw [z,aF] at nd;cases nd
 have Yh:H dx=none:=by rw [aE de] at nd;exact nd
 have off:∀ b o,s.heap.get? b=some o->b≠e:=λb o q z=>by rw [z,hn] at q;cases q
 have offH:∀ b u,H b=some u->b≠e:=λb u q z=>by rw [z,na] at q;cases q
 have Wm:∀ b u,H b=some u->b≠dx:=λb u q z=>by rw [z,Yh] at q;cases q
 have same:∀ b,b≠e->iB (upd H e (jz e C a0)) e C a0 dx f v b=upd H dx (.xd [(f,v)]) b:=λb z=>by
  by_cases hb:b=dx
  ·rw [hb,yh,aF]
  ·rw [yi hb z,aE hb,aE z]
 refine ⟨Yh,de,⟨λb o q n hf hx=>?_,λb o q n hf hx=>?_,λb o q n hx=>?_,λb o q hx=>un.there b o (k1 b o q) hx,λb xs q=>?_,λb u xs q=>?_,λb ps q=>⟨#[],?_⟩⟩,λb u q=>?_,?_⟩
 ·exact un.keep b o (k1 b o q) (by rw [aE (off b o q)];exact n) hf hx
 ·exact un.slot b o (k1 b o q) (by rw [aE (off b o q)];exact n) hf hx
 ·have z:=un.free b o (k1 b o q) (by rw [aE (off b o q)];exact n) hx;rw [same b (off b o q)] at z;exact z
 ·rw [aE (Wm b _ q)];exact q
 ·rw [aE (Wm b _ q)];exact q
 ·rw [Pf,aE (Wm b _ q)];exact q
 ·have hb:b≠e:=λz=>by rw [z,aE (MD de),na] at q;cases q
  refine (hok b u (by rw [same b hb];exact q)).stay (λ_ _ _ z=>z) (λc z=>?_) λc xs z=>?_
  ·have hc:c≠e:=λy=>by rw [y,nB de] at z;cases z
   rw [same c hc] at z;exact z
  ·have hc:c≠e:=λy=>by rw [y,nB de] at z;cases z
   rw [same c hc] at z;exact z
 ·obtain ⟨q,_,_⟩:=(show P1 X.prog X.w _ s'.heap e (uL e C a0 dx) from hok e _ (nB de))
  exact q
theorem uz {E:XK} {u:Value} (kc:pA X.K C fI) (FI:PB X.prog X.w X.K X.mg X.base Ul k fI fd ps (iA C f)) (hb:Binds X.K fd ps []) (hr:P5 (k+1) X.A) (I:Inv X pins σ H s) (ru:RelV v u) (q:∀ dx,H dx=none->E (.ref C) (some dx) (upd H dx (.xd [(f,v)]))) :
  wpAny (model X.prog X.w) X.A (call (.ref C) [u]) (λr s'=>∃ e oe vs,r=.ref e/\s'.heap.get? e=some oe/\oe.cls=.ref C/\oe.data=.fields vs/\vs[1]?=some .none/\X.K.In s'.heap/\rW X.prog X.w X.stack H s E (.ref e) s') X.xe s:=by
 refine ub I.QK kc (by rw [Na];simp) ?_;have I2:Inv X pins σ H { s with heap:=jl s.heap C [u] }:=I.kept (t':=s.toks) du;have hn:s.heap.get? (s.heap.objs.size+1)=none:=ua;have na:H (s.heap.objs.size+1)=none:=I.hok.empty hn;have he:(jl s.heap C [u]).get? (s.heap.objs.size+1)=some (uT C s.heap.objs.size):=eF;generalize s.heap.objs.size+1=e at hn na he ⊢
 have I3:Inv X pins σ (upd H e (jz e C (.ref s.heap.objs.size))) { s with heap:=jl s.heap C [u] } :=
  Inv.Tj I I2 (Un.kept du) hn na ⟨⟨_,_,he,⟨rfl,rfl⟩,rfl,rfl,rfl⟩,⟨_,he⟩,λg1 g2 ⟨o1,v1,e1,c1⟩ kk=>⟨o1,v1,kk o1 e1,c1⟩⟩
 have hq:iA C f [.ref e,v] (upd H e (jz e C (.ref s.heap.objs.size))) (λw H2=>∃ dx,upd H e (jz e C (.ref s.heap.objs.size)) dx=none/\w=.PJ/\H2=iB (upd H e (jz e C (.ref s.heap.objs.size))) e C (.ref s.heap.objs.size) dx f v) (λ_ _ _=>True) :=
  ⟨e,_,v,rfl,aF,λdx n=>⟨dx,n,rfl,rfl⟩⟩
 have hl:([Value.ref e,u]++[]).length=ps.length:=FI.len _ _ _ _ hq;refine Oi (NQ (FI.run _ X.stack _ _ ⟨[.ref e,u],[]⟩ [.ref e,u] _ _ (λ_ _ _=>True) (hr.make C [u] []) (I3.VL.make C [u] []) (hb _ [.ref e,u] I3.QK hl) (show Vals [V.ref e,v] [Value.ref e,u] from .cons rfl (.cons ru .nil)) hq) λr s' hq'=>?_)
 cases r with
 | error _=>exact False.elim hq'
 | ok fl =>
  cases fl with
  | ret uu =>obtain ⟨_,_,os',bare',un',UP,rv,dx,nd,rfl,rfl⟩:=hq';obtain ⟨Yh,de,ZY,Xq,oe,ws,UT,hcl,hdt,hv1,hdx⟩:=nC I hn na nd du un' UP;have I4:Inv X pins σ _ s':=I.Rp (ch:=[]) os' ZY Xq bare' (λb z=>absurd z (by simp));exact ⟨rv,e,oe,ws,rfl,UT,hcl.1,hdt,hv1,I4.QK,e,.ref C,_,some dx,_,rfl,os',bare',ZY,Xq,⟨hn,by rw [aE (MD de)];exact na⟩,⟨oe,ws,UT,hcl,hdt,hv1⟩,⟨oe,UT,hdx⟩,q dx Yh⟩
  | _=>exact False.elim hq'
end
theorem qu {C fI:Addr} {k:Nat} {x f:Str} {np cpos:Pos} {e₀:Expr} {ta:TA} (kc:pA X.K C fI)
  (FI:PB X.prog X.w X.K X.mg X.base Ul k fI fd ps (iA C f)) (hb:Binds X.K fd ps []) (hr:P5 (k+1) X.A) (ht:Passes (rW X.prog X.w) X E) (hg:Gl X x) (hm:X.mg x=some (.ref C)) (ha:PA X [e₀] ta) (Vp:X.calm=true:=by rfl)
  (he:starEach [e₀] X.env=(false,eval e₀ X.env)::starEach [] X.env:=by rfl) (hpl:(backTo cpos (starEach [] X.env)).any (·.1)=false:=by rfl) (hd:(x == ("__debug__":Str))=false:=by decide) :
  PS X (.Raise (some (.Call (.Name x np) [e₀] [] cpos)) none pos) (λ_ σ H=>ta σ H λvs H1=>∃ v,vs=[v]/\∀ dx,H1 dx=none->E (.ref C) (some dx) (upd H1 dx (.xd [(f,v)]))):=by
 intro pins s σ H D I h;rw [arm_exec_Raise];refine pg (NI (ux (K:=X.K) kc (I.ok.hd Vp) ?_));refine pg (NR (dX I hg hm ?_ hd));refine OV (h₀:=X.base) I.ok.mod.VG kc.kp (PR (ha cpos pins s σ H _ I h) λus s1 ⟨vs,H1,I1,r,v,hv,q⟩=>⟨I1.QK,?_⟩) he hpl;subst hv;obtain ⟨u,rfl,ru⟩:=cH r;refine PR (uz (E:=E) kc FI hb hr I1 ru q) λr s2 ⟨e,oe,ws,er,h1,h2,h3,h4,h5,h6⟩=>pg (NI (Mq ?_));exact ⟨e,oe,ws,er,h1,h2,h3,h4,h5,ht pins σ H1 s1 _ _ I1 h6⟩
noncomputable def E4 (x D:Addr) (dx:Option Addr):HO:=.ext λh=>∃ oe vs,h.get? x=some oe/\oe.cls=.ref D/\oe.data=.fields vs/\oe.dict=dx
section
variable {K:W.Frag} {σ:St} {H:Hp} {tA:TA} {ar:List Ar} {d:D} {f:Str} {es:List D} {R:List Ar->D->Prop} {RL:List Ar->List D->Prop} {B:List Ar->Addr->Int->Prop} {E:XK} {Q:VK} {C:Addr} {i:Int}
end
end L2
namespace L2
open PySem PySem.Spec PySem.Calls PyProof.Rows
section
variable {prog:Program} {w:World} {A:Around} {E:Value->Shared->Prop} {s:Shared} {it t:Addr} {items:Array Value}
end
section
variable {X:Cx} {tg:Expr}
end
structure me (X:Cx) (pins:List (Addr × Obj)) (σ:St) (H:Hp) (a:Addr) (cls:Value) (dx:Option Addr) (s:Shared):Prop where
 ok:X.Ok
 inv:Inv X pins σ H s
 ty:W.Looks (model X.prog X.w) s.heap (typeOf (.ref a)) cls
 na:H a=none
 again:∀ (A:Around) (Q:Unit->Shared->Prop) (E:Value->Shared->Prop),(∀ h',Inv X pins σ H { s with heap:=h' }->(∀ Dx,cls=.ref Dx->Inv X pins σ (upd H a (E4 a Dx dx)) { s with heap:=h' }/\Inv X pins σ (upd H a (gi a Dx)) { s with heap:=h' })->Q () { s with heap:=h' })->wpAny (model X.prog X.w) A (setFlight (.ref a) none) Q E s
variable {X:Cx} {E:XK}
theorem Ee {pins QN:List (Addr × Obj)} {σ:St} {H1:Hp} {s1 s2:Shared} {e:Value} {xe E':Value->Shared->Prop} {R:Shared->Prop} (ok:X.Ok) (I1:Inv { X with pn:=X.pn++pins,xe:=xe } QN σ H1 s1) (x1:PK X.prog X.w X.stack H1 s1 E e s2)
  (hR:∀ a cls dx H' s',e=.ref a->E cls dx H'->me X pins σ H' a cls dx s'->R s') (hst:X.stack=X.env::X.outer:=by rfl) (hfr:X.env.frame=some X.env.locals:=by rfl) :
  wpAny (model X.prog X.w) X.A (noteFrame e X.env) (λ_ s₂=>wpAny (model X.prog X.w) X.A (setFlight e none) (λ_ s₃=>R s₃) E' s₂) E' s2:=by
 obtain ⟨a,T,cls,a0,dx,H',rfl,q,da,sa,na,J,fl,back⟩:=PK.behind I1 x1;have fr:X.A.frames=some (X.env::X.outer):=by rw [<- hst];exact ok.frames
 refine MT (cR (iX _ _) (wpAny_looks_onW (Q:=λ_ s4=>∃ h4,s4={ s2 with heap:=h4 }/\Heap.HeldW (W.hideAll s2.heap (a::T::frs X.stack)) (X.env::X.outer) a cls a0 X.env.locals h4/\s2.heap.UpToSlots h4) fr hfr (by rw [<- hst];exact fl) λh4 held WS=>⟨h4,rfl,held,WS⟩))
  (λ_ s4 ⟨⟨h4,e4,held,WS⟩,kp4⟩=>?_) λ_ _ z=>z
 subst e4
 refine MT (cR (fT _ _) (wpAny_landsW (Q:=λ_ s5=>∃ h5,s5={ s2 with heap:=h5 }/\Heap.FlyingW (W.hideAll s2.heap (a::T::frs X.stack)) (X.env::X.outer) a cls a0 h5/\h4.UpToSlots h5) held λh5 Yi VZ=>⟨h5,rfl,Yi,VZ⟩))
  (λ_ s5 ⟨⟨h5,e5,Yi,VZ⟩,Y0⟩=>?_) λ_ _ z=>z
 subst e5;obtain ⟨T5,J5,t5,sT5,nT5,_⟩:=back h5 _ Yi (WS.trans VZ);have da5:DictAt h5 a dx:=(kp4.trans Y0).dictAt da t5
 have LT:W.Looks (model X.prog X.w) h5 (typeOf (.ref a)) cls:=by obtain ⟨oe,vs,oT,ts,he,⟨hc,_⟩,_⟩:=t5;rw [<- hc];exact (W.Looks.ld he).andThen .now
 refine hR a cls dx H' _ rfl q ⟨ok,J5.QJ ok,LT,na,λA Q E2 hQ=>?_⟩
 refine MT (cR (fT _ _) (lands_againW (Q:=λ_ s6=>∃ h6,s6={ s2 with heap:=h6 }/\Heap.FlyingW (W.hideAll s2.heap (a::T::frs X.stack)) (X.env::X.outer) a cls a0 h6/\h5.UpToSlots h6) Yi λh6 Y3 Y4=>⟨h6,rfl,Y3,Y4⟩))
  (λ_ s6 ⟨⟨h6,e6,Y3,Y4⟩,kp6⟩=>?_) λ_ _ z=>z
 subst e6;obtain ⟨T6,J6,t6,_,_,ZZ⟩:=back h6 _ Y3 ((WS.trans VZ).trans Y4);have da6:DictAt h6 a dx:=Kept.dictAt kp6 da5 t6;refine hQ h6 (J6.QJ ok) λDx hD=>?_;subst hD;obtain ⟨oe,vs,oT,ts,he,⟨hc,_⟩,hdt,_⟩:=t6;obtain ⟨Z0,WT,hdx⟩:=da6;rw [he] at WT;cases WT;refine ⟨Inv.Tj (s:=s1) (H:=H1) (I1.QJ ok) (J6.QJ ok) ZZ sa na ?_,Inv.Tj (s:=s1) (H:=H1) (I1.QJ ok) (J6.QJ ok) ZZ sa na ?_⟩
 ·exact ⟨⟨oe,vs,he,hc,hdt,hdx⟩,⟨oe,he⟩,λh1 h2 ⟨o1,v1,e1,c1⟩ k=>⟨o1,v1,k o1 e1,c1⟩⟩
 ·exact ⟨⟨oe,he,hc⟩,⟨oe,he⟩,λh1 h2 ⟨o1,e1,c1⟩ k=>⟨o1,k o1 e1,c1⟩⟩
section
variable {X:Cx} {pins:List (Addr × Obj)} {σ:St} {H:Hp} {a:Addr} {cls C:Value} {dx:Option Addr} {s:Shared} {D:Ends} {x n:Str} {i:Nat} {np hpos:Pos} {b₀:Stmt} {suite:List Stmt} {rest:List ExceptHandler} {th:TS} {b:Bool}
theorem wq (L:me X pins σ H a cls dx s) (hg:Gl X x) (hm:X.mg x=some C) (hN:X.N.Nodup) (hi:X.N[i]?=some n) (hl:X.env.kindOf n=some .local) (hh:∀ e:Value,QI (X.hand e) (b₀::suite) th) (hx:W.exmOne X.K cls C=some b)
  (h1:b=true->∃ Dx,cls=.ref Dx/\th (D.gone i) (σ.set i (some (.ref a))) (upd H a (gi a Dx))) (h2:b=false->wpAny (model X.prog X.w) X.A (handleBy (.ref a) X.env rest) (SP X pins D) X.xe s) (hd:(x == ("__debug__":Str))=false:=by decide) :
  wpAny (model X.prog X.w) X.A (handleBy (.ref a) X.env (.ExceptHandler (some (.Name x np)) (some n) (b₀::suite) hpos::rest)) (SP X pins D) X.xe s:=by
 refine wpAny_handleBy_cons (codeAny_handlers_test (dX (X:=X.hand (.ref a)) L.inv.hand hg hm ?_ hd)) (by intro q;cases q);refine (W.exm_one L.inv.QK L.ty hx).here ?_
 cases b with
 | false=>exact h2 rfl
 | true =>
  obtain ⟨Dx,hD,q⟩:=h1 rfl;refine codeAny_handlers_suite_as (L.again _ _ _ λh6 J6 I6=>?_);refine eM (X:=X.hand (.ref a)) (v:=.ref a) ((I6 Dx hD).2.hand (e:=.ref a)) hN hi (.inl hl) rfl (λs7 I7=>?_) (.inr hl);refine MT (hh (.ref a) pins s7 _ _ (D.gone i) I7 q) (λf s3 hs=>?_) (λ_ _ z=>z.elim)
  cases f with
  | next=>obtain ⟨σ3,H3,I3,q3⟩:=hs;exact Inv.gone (I3.Ra L.ok) hN hi hl λs' J'=>⟨_,H3,J',q3⟩
  | brk=>obtain ⟨σ3,H3,I3,q3⟩:=hs;exact Inv.gone (I3.Ra L.ok) hN hi hl λs' J'=>⟨_,H3,J',q3⟩
  | cont=>obtain ⟨σ3,H3,I3,q3⟩:=hs;exact Inv.gone (I3.Ra L.ok) hN hi hl λs' J'=>⟨_,H3,J',q3⟩
  | ret u=>obtain ⟨v,σ3,H3,I3,r3,q3⟩:=hs;exact Inv.gone (I3.Ra L.ok) hN hi hl λs' J'=>⟨v,_,H3,J',r3,q3⟩
theorem yK (L:me X pins σ H a cls dx s) (hg:Gl X x) (hm:X.mg x=some C) (hh:∀ e:Value,QI (X.hand e) (b₀::suite) th) (hx:W.exmOne X.K cls C=some b)
  (h1:b=true->th D σ H) (h2:b=false->wpAny (model X.prog X.w) X.A (handleBy (.ref a) X.env rest) (SP X pins D) X.xe s) (hd:(x == ("__debug__":Str))=false:=by decide) :
  wpAny (model X.prog X.w) X.A (handleBy (.ref a) X.env (.ExceptHandler (some (.Name x np)) none (b₀::suite) hpos::rest)) (SP X pins D) X.xe s:=by
 refine wpAny_handleBy_cons (codeAny_handlers_test (dX (X:=X.hand (.ref a)) L.inv.hand hg hm ?_ hd)) (by intro q;cases q);refine (W.exm_one L.inv.QK L.ty hx).here ?_
 cases b with
 | false=>exact h2 rfl
 | true =>
  refine codeAny_handlers_suite (L.again _ _ _ λh6 J6 _=>?_);refine MT (hh (.ref a) pins _ σ H D J6.hand (h1 rfl)) (λf s3 hs=>?_) (λ_ _ z=>z.elim)
  cases f with
  | next=>obtain ⟨σ3,H3,I3,q3⟩:=hs;exact ⟨σ3,H3,I3.Ra L.ok,q3⟩
  | brk=>obtain ⟨σ3,H3,I3,q3⟩:=hs;exact ⟨σ3,H3,I3.Ra L.ok,q3⟩
  | cont=>obtain ⟨σ3,H3,I3,q3⟩:=hs;exact ⟨σ3,H3,I3.Ra L.ok,q3⟩
  | ret u=>obtain ⟨v,σ3,H3,I3,r3,q3⟩:=hs;exact ⟨v,σ3,H3,I3.Ra L.ok,r3,q3⟩
end
variable {body:List Stmt} {t:(St->XK)->TS} {pos:Pos}
theorem rE {hs:List ExceptHandler} {E:Ends->St->XK}
  (hb:∀ (pn:List (Addr × Obj)) (xe:Value->Shared->Prop) (E:St->XK),cm (PK X.prog X.w) { X with pn:=pn,xe:=xe } E->QI { X with pn:=pn,xe:=xe } body (t E))
  (hand:∀ (pins:List (Addr × Obj)) (D:Ends) (σ:St) (H:Hp) (a:Addr) (cls:Value) (dx:Option Addr) (s:Shared),me X pins σ H a cls dx s->E D σ cls dx H->wpAny (model X.prog X.w) X.A (handleBy (.ref a) X.env hs) (SP X pins D) X.xe s)
  (hst:X.stack=X.env::X.outer:=by rfl) (hfr:X.env.frame=some X.env.locals:=by rfl) (hne:∃ h t,hs=h::t) :
  PS X (.Try body hs [] [] pos) (λD σ H=>t (E D) D σ H):=by
 intro pins s σ H D I h;obtain ⟨h0,t0,rfl⟩:=hne
 refine wpAny_Try_except (MT (hb (X.pn++pins) (λe s₁=>wpAny (model X.prog X.w) X.A (noteFrame e X.env) (λ_ s₂=>wpAny (model X.prog X.w) X.A (setFlight e none) (λ_ s₃ =>
  wpAny (model X.prog X.w) X.A (handleBy e X.env (h0::t0)) (SP X pins D) X.xe s₃) X.xe s₂) X.xe s₁) _ ?_ [] s σ H D I.Xo h) (λf s1 hf=>?_) λe s1 z=>z)
 ·intro QN σ' H1 s1 e s2 I1 x1;refine Ee I.ok I1 x1 (λa cls dx H' s' he q L=>?_) hst hfr;subst he;exact hand pins D σ' H' a cls dx s' L q
 ·cases f with
  | next=>obtain ⟨σ3,H3,I3,q3⟩:=hf;exact eV pins s1 σ3 H3 D (I3.QJ I.ok) q3
  | brk=>obtain ⟨σ3,H3,I3,q3⟩:=hf;exact ⟨σ3,H3,I3.QJ I.ok,q3⟩
  | cont=>obtain ⟨σ3,H3,I3,q3⟩:=hf;exact ⟨σ3,H3,I3.QJ I.ok,q3⟩
  | ret u=>obtain ⟨v,σ3,H3,I3,r3,q3⟩:=hf;exact ⟨v,σ3,H3,I3.QJ I.ok,r3,q3⟩
variable {th:TS} {np hpos:Pos} {b₀:Stmt} {suite:List Stmt}
theorem zH {x:Str} {C:Value}
  (hb:∀ (pn:List (Addr × Obj)) (xe:Value->Shared->Prop) (E:St->XK),cm (PK X.prog X.w) { X with pn:=pn,xe:=xe } E->QI { X with pn:=pn,xe:=xe } body (t E))
  (hg:Gl X x) (hm:X.mg x=some C) (hh:∀ e:Value,QI (X.hand e) (b₀::suite) th)
  (hst:X.stack=X.env::X.outer:=by rfl) (hfr:X.env.frame=some X.env.locals:=by rfl) (hd:(x == ("__debug__":Str))=false:=by decide) :
  PS X (.Try body [.ExceptHandler (some (.Name x np)) none (b₀::suite) hpos] [] [] pos) (λD σ H=>t (λσ' cls _ H'=>W.exmOne X.K cls C=some true/\th D σ' H') D σ H) :=
 rE (E:=λD σ' cls _ H'=>W.exmOne X.K cls C=some true/\th D σ' H') hb (λ_ _ _ _ _ _ _ _ L q=>yK L hg hm hh q.1 (λ_=>q.2) (λz=>nomatch z) hd) hst hfr ⟨_,_,rfl⟩
theorem uw {x n:Str} {i:Nat} {C:Value}
  (hb:∀ (pn:List (Addr × Obj)) (xe:Value->Shared->Prop) (E:St->XK),cm (PK X.prog X.w) { X with pn:=pn,xe:=xe } E->QI { X with pn:=pn,xe:=xe } body (t E))
  (hg:Gl X x) (hm:X.mg x=some C) (hN:X.N.Nodup) (hi:X.N[i]?=some n) (hl:X.env.kindOf n=some .local) (hh:∀ e:Value,QI (X.hand e) (b₀::suite) th)
  (hst:X.stack=X.env::X.outer:=by rfl) (hfr:X.env.frame=some X.env.locals:=by rfl) (hd:(x == ("__debug__":Str))=false:=by decide) :
  PS X (.Try body [.ExceptHandler (some (.Name x np)) (some n) (b₀::suite) hpos] [] [] pos)
   (λD σ H=>t (λσ' cls _ H'=>W.exmOne X.K cls C=some true/\∃ Dx,cls=.ref Dx/\∀ a,H' a=none->th (D.gone i) (σ'.set i (some (.ref a))) (upd H' a (gi a Dx))) D σ H) :=
 rE (E:=λD σ' cls _ H'=>W.exmOne X.K cls C=some true/\∃ Dx,cls=.ref Dx/\∀ a,H' a=none->th (D.gone i) (σ'.set i (some (.ref a))) (upd H' a (gi a Dx))) hb (λ_ _ _ _ a _ _ _ L q=>wq L hg hm hN hi hl hh q.1 (λ_=>q.2.elim λDx h=>⟨Dx,h.1,h.2 a L.na⟩) (λz=>nomatch z) hd) hst hfr ⟨_,_,rfl⟩
theorem uv {C:Addr} {x:Str} {cpos:Pos} {e₀:Expr} {rest:List Expr} {ta:TA} {B Bn newId nid initId inN:String} {bmB bmN:List Value}
  (Fn:ExcBaseFacts Bn newId inN bmN) (hBn:bmB.contains (.type Bn)=true) (F:ExcBaseFacts B nid initId bmB) (hc:eE X.K C bmB newId none=true)
  (ht:Passes (rW X.prog X.w) X E) (hg:Gl X x) (hm:X.mg x=some (.ref C)) (ha:PA X (e₀::rest) ta) (Vp:X.calm=true:=by rfl)
  (he:starEach (e₀::rest) X.env=(false,eval e₀ X.env)::starEach rest X.env:=by rfl)
  (hplain:(backTo cpos (starEach rest X.env)).any (·.1)=false:=by rfl) (hd:(x == ("__debug__":Str))=false:=by decide) :
  PS X (.Raise (some (.Call (.Name x np) (e₀::rest) [] cpos)) none pos) (λ_ σ H=>ta σ H λvs H1=>vs.length<=sizeLine/\E (.ref C) none H1):=by
 intro pins s σ H D I h;obtain ⟨bm,N,nm,qn,bs,YU,sn,sub,ab,col,dd,k0,k1,k2,k3,k5,mN,hC,hN,hni,T⟩:=pR I.mod.VG hc
 refine wpAny_Raise_call_subU (C:=C) (nm:=nm) (q:=qn) (N:=N) (bs:=bs) (bm:=bm) (hdct:=YU) (sn:=sn) (sub:=sub) (ab:=ab) (col:=col) (dd:=dd) (k0:=k0) (k1:=k1) (k2:=k2) (k3:=k3) (k5:=k5)
  Fn hBn F (mN:=mN) (T.hasType F.hasBase) (I.ok.hd Vp) (by rw [he];show (false || (backTo cpos (starEach rest X.env)).any (·.1))=false;rw [hplain];rfl) hni (dX I hg hm ⟨rfl,?_⟩ hd)
 have w:=ha cpos pins s σ H _ I h;rw [he] at w ⊢;refine OX (PR w λus s2 ⟨vs,H1,I1,r,z,q⟩=>⟨rfl,by rw [<- r.length];exact z,I1.bk _ _ hC,hN.keeps I1.bk,T.keeps I1.bk,λh' e hm=>?_⟩);obtain ⟨t,h1,h2,h3⟩:=hm.there;exact ht pins σ H1 s2 _ _ I1 ⟨e,.ref C,.ref t,none,H1,rfl,rfl,I1.bare,Un.kept hm.keeps,I1.hok.kept hm.keeps,⟨hm.new,I1.hok.empty hm.new⟩,⟨_,_,h1,⟨rfl,rfl⟩,rfl,rfl⟩,⟨_,h1,rfl⟩,q⟩
end L2
namespace L2
open PySem PySem.Spec PyProof.Rows
section
variable {X:Cx}
end
section
variable {K:W.Frag} {σ:St} {H H':Hp} {d d':D} {ds es:List D} {t u ta tb te tl:TE} {tA:TA} {mk:St->St} {jj:Nat}
end
end L2
namespace L2
open PySem PySem.Spec PySem.Calls PyProof.Rows
noncomputable abbrev pY (t:Addr):Obj:={ cls:=.type "list_iterator",data:=.fields #[.ref t,.int 0 0] }
section
variable {elt t0 i0 t1 i1:Expr} {sc:Scope} {pos:Pos}
variable {prog:Program} {w:World} {A:Around} {R:Result->Shared->Prop} {s:Shared} {it acc:Value} {env:Env}
end
section
variable {X:Cx} {sc:Scope} {cl:List (Str × Addr)} {C:Addr} {N':List Str} {s0:Shared} {H0:Hp} {fp0:List Addr}
end
section
variable {X:Cx} {elt iter tg t1 i1:Expr} {sc:Scope} {pos:Pos} {wi w1:TI} {own:List Str} {fr:List Nat} {N':List Str} {g g1:TG} {te:TE}
end
section
variable {K:W.Frag} {σ:St} {H H':Hp} {d d':D} {ds es:List D} {t u ta tb te tl:TE} {tA:TA} {mk:St->St} {jj:Nat} {o:Option (List D)} {os:List (Option (List D))} {vs:List V} {ar:List Ar}
end
noncomputable def D1 (K:W.Frag) (n:Nat) (t:VC):TG:=λv σ H Q=>∃ a xs,v=.ref a/\P6 K H a xs/\xs.length=n/\t xs σ H Q
variable {X:Cx} {pos:Pos}
theorem zA {es:List Expr} {k:Nat} {t:VC} {n:Nat} (hc:X.calm=true) (h:VD X es t)
  (hn:(assignEach es X.env).length=n:=by rfl) (hst:(assignEach es X.env).findIdx? (·.1)=none:=by rfl):PG X (.Tuple es k pos) (D1 X.K n t):=λpins s σ H v u Q I r ⟨a,xs,ev,hq,hl,hw⟩=>by
 subst ev;cases r;obtain ⟨its,rv,pl,hz⟩:=I.list hq;have en:(assignEach es X.env).length=its.toArray.size:=by rw [hn,<- hl,rv.length,Mt]
 rw [assign_Tuple];refine pg (NI ?_);unfold unpack;rw [en,hst];refine pg (Nj (W.kun_itemsOf (I.ok.hd hc) pl.isList λh' hx=>?_));exact h pins _ σ H xs _ Q (I.kept (t':=s.toks) λb o e=>hx b o (Mv (Mr e)) e) (by simpa using rv) hw
section
variable {prog:Program} {w:World} {A:Around} {E:Value->Shared->Prop} {s:Shared}
variable {t sl:Addr} {items:Array Value}
theorem gA {x y z:Value} {Q:Value->Shared->Prop} (ht:IsTup s.heap t items) (hs:s.heap.IsSliceOf sl x y z)
  (h:wpAny (model prog w) A.in1 (Builtin.Slice.sliceApplied (.ref sl) (pure (items.size:Int))) (λr s1=>wpAny (model prog w) A.in1 (do
   if r.1 == 0 && r.2.1 == 1 && r.2.2 == items.size then
    if <- Builtin.Tuple.tupleIsExact (.ref t) then rule "tuple.getitem.whole";return <- ret (.ref t)
   return <- ret (<- Builtin.Tuple.tupleExact ((List.range r.2.2).filterMap λ(k:Nat)=>items[(r.1+(k:Int) * r.2.1).toNat]?).toArray)) (λfin s'=>∃ v,fin=.done (.ret v)/\Q v s') E s1) E s):wpAny (model prog w) A (getItem (.ref t) (.ref sl)) Q E s:=by
 obtain ⟨os,hos,hcs,hds⟩:=id hs;have YC:s.TypeIs (.ref sl) "slice":=⟨os,hos,hcs⟩
 unfold getItem
 try with_reducible refine Nj ?_
 first | refine pg (Mq ?_) | skip
 refine pg (wpAny_sequenceKey ht.typeIs (by decide) (pg (M8 (name:=Str.ofString "__getitem__") ht.typeIs M7
  (Ny M7 ht.typeIs entry_tuple_getitem ?_ (args_tuple_getitem _ _)))))
 show wpAny _ _ (Builtin.Tuple.tupleItemsOf (.ref t) >>= _) _ _ s;refine pg (tupleItemsOf_ ht (pg (wpAny_typeOf YC ?_)));rw [MF (by decide)];refine pg (MT h (λr s1 k=>?_) λ_ _ z=>z);obtain ⟨lo,step,n⟩:=r;refine MT k (λfin s2 ⟨v,e,q⟩=>⟨v,e,Mq q⟩) λ_ _ z=>z
theorem gX {vl vu:Value} {lo hi:Option Int} {Q:Value->Shared->Prop} (ht:IsTup s.heap t items) (hs:s.heap.IsSliceOf sl vl vu .none) (pl:IsPart vl lo) (pu:IsPart vu hi)
  (hw:HT.Qj items.size 0 lo=0/\HT.Qj items.size items.size hi=items.size) (h:Q (.ref t) s):wpAny (model prog w) A (getItem (.ref t) (.ref sl)) Q E s:=by
 refine gA ht hs (HT.QO hs pl pu ?_);rw [hw.1,hw.2];dsimp only;rw [MF (by simp)];unfold Builtin.Tuple.tupleIsExact;refine pg (pg (wpAny_typeOf ht.typeIs (Mq ?_)));rw [MF (by decide)];refine pg (OF ?_);exact pg (Mq (Mq ⟨_,rfl,h⟩))
end
noncomputable def FJ (K:W.Frag):V->Option Int->Option Int->Hp->VK->Prop:=λx lo hi H Q=>∃ a xs,x=.ref a/\Qq K H a xs/\(HT.Qj xs.length 0 lo=0/\HT.Qj xs.length xs.length hi=xs.length->Q x H) /\
 (¬ (HT.Qj xs.length 0 lo=0/\HT.Qj xs.length xs.length hi=xs.length)->∀ p,H p=none->Q (.ref p) (upd H p (.tup (gv xs lo hi))))
theorem rO:X0 X (FJ X.K):=λpins s σ H x v vl vu lo hi sl Q I rx hs pl pu ⟨a,xs,ex,hx,h1,h2⟩=>by
 by_cases hw:HT.Qj xs.length 0 lo=0/\HT.Qj xs.length xs.length hi=xs.length
 ·subst ex;cases rx;obtain ⟨its,r,ht,hz⟩:=I.tuple hx;have hlen:its.toArray.size=xs.length:=by rw [Mt];exact r.length.symm
  exact ⟨"tuple",_,M7.lookup,ht.typeIs,gX ht hs pl pu (by rw [hlen];exact hw) ⟨.ref a,H,I,rfl,h1 hw⟩⟩
 ·exact C1 pins s σ H x v vl vu lo hi sl Q I rx hs pl pu ⟨a,xs,ex,hx,hw,h2 hw⟩
noncomputable def Ay (K:W.Frag):R2:=λx y H Q=>∃ a b ys,x=.ref a/\y=.ref b/\Qq K H a []/\Qq K H b ys/\Q (.ref b) H
theorem VR:QA X (binaryOp .Add) (Ay X.K):=λpins s σ H x y v u Q I rx ry ⟨a,b,ys,ex,ey,ha,hb,q⟩=>by subst ex ey;cases rx;cases ry;obtain ⟨i1,r1,p1,_⟩:=I.tuple ha;obtain ⟨i2,r2,p2,_⟩:=I.tuple hb;have e1:=r1.Ss.mpr rfl;subst e1;obtain ⟨⟨c1,d1,t1,l1⟩,o1,k1,n1,m1⟩:=id p1;obtain ⟨⟨c2,d2,t2,l2⟩,o2,k2,n2,m2⟩:=id p2;simp only at k1 m1 k2 m2;subst k1 m1 k2 m2;exact concat_meets ⟨_,o1,rfl⟩ ⟨_,o2,rfl⟩ noFill_tuple_add seq_tuple_add F.slot_tuple_add Ph (Pc _ _) (tuple_addW0 a b _ _ n1 n2 d1 d2 l1 l2 rfl) ⟨o1,o2,.ref b,H,I,rfl,q⟩
noncomputable def AA (K:W.Frag):R2:=λx y H Q=>Ay K x y H Q\/Az K x y H Q
theorem bq:QA X (binaryOp .Add) (AA X.K):=VR.or zo
section
variable {K:W.Frag} {σ:St} {H H':Hp} {d:D} {ds es:List D} {t u ta tb te:TE} {n:Nat}
end
section
variable {K:W.Frag} {tl te:TE} {mk:St->St} {i j kk:Nat} {σ:St} {H:Hp} {cs es:List D} {wv:V}
end
section
variable {K:W.Frag} {σ:St} {H:Hp} {d:D} {ds:List D} {t ta tb:TE}
end
section
variable {K:W.Frag} {σ:St} {H:Hp} {tA:TA} {tl te ta tb:TE} {tc:TT} {mk:St->St} {j n:Nat} {cs:List D}
end
section
variable {X:Cx} {pins:List (Addr × Obj)} {σ:St} {H:Hp} {s:Shared} {sc:Scope} {cl:List (Str × Addr)} {own:List Str} {fr:List Nat} {N':List Str} {fp:List Addr} {x0:Str} {c0:Addr}
end
section
variable {X:Cx} {elt iter tg:Expr} {ifs:List Expr} {sc:Scope} {pos:Pos} {wi:TI} {own:List Str} {fr:List Nat} {N':List Str} {g:TG} {tt:TT} {te:TE} {x0:Str}
end
noncomputable abbrev jk (t:Addr):Obj:={ cls:=.type "list_iterator",data:=.fields #[.ref t,.int 0 0] }
theorem tW (t:Addr) (items:Array Value) (n:Nat) (d2:Option Addr) (s2:Array (Option Value)) :
  Meets (Builtin.«enumerate.__new__» ⟨[.type "enumerate",.ref t],[]⟩) (λ_ R s=>s.heap.get? t=some { cls:=.type "list",dict:=d2,data:=.seq items n,slots:=s2 } /\
   R (.ok (.ret (.ref (s.heap.push (jk t)).objs.size))) { s with heap:=(s.heap.push (jk t)).push (lI s.heap.objs.size) }) :=
 .of_wp λ_ _ _ _ s q=>by
  obtain ⟨h0,g0,d0,t0,o0⟩:=s;obtain ⟨a1,q⟩:=q;have Z1:Heap.IsList (Shared.heap ⟨h0,g0,d0,t0,o0⟩) t items:=⟨_,a1,rfl,n,rfl⟩
  have UE:=sub_enumerate
  wp_walk
  refine wpAny_stack_any λrows=>?_;refine Mq ?_;split
  ·rename_i cl _ _ _ _ _;cases (cl == Value.type "enumerate") <;> (wp_walk using Nb Z1;exact ⟨_,rfl,q⟩)
  ·wp_walk using Nb Z1
   exact ⟨_,rfl,q⟩
variable {prog:Program} {w:World}
theorem pE {A:Around} {E:Value->Shared->Prop} {s:Shared} {t:Addr} {items:Array Value} {Q:Value->Shared->Prop} (a1:s.heap.IsList t items)
  (q:Q (.ref (s.heap.objs.size+1)) { s with heap:=(s.heap.push (jk t)).push (lI s.heap.objs.size) }):wpAny (model prog w) A (call (.type "enumerate") [.ref t]) Q E s:=by
 obtain ⟨⟨c2,d2,Xp,s2⟩,a1,hc,n,hd⟩:=a1;obtain rfl:c2=.type "list":=hc;obtain rfl:Xp=.seq items n:=hd;have sz:(s.heap.push (jk t)).objs.size=s.heap.objs.size+1:=MM _ _;refine callType_new F.called_enumerate (by decide) (F.typeCall_enumerate_1 _) (F.newCall_enumerate_1 _) (λo=>F.args_object_init_2 o _) F.entry_enumerate_new (tW t items n d2 s2) ⟨a1,?_⟩;show _/\_;rw [sz];refine ⟨⟨lI s.heap.objs.size,?_,rfl⟩,q⟩;exact MJ sz.symm rfl
noncomputable def Dh (K:W.Frag) (a:Addr) (xs:List V):It:=⟨λi H=>i < xs.length/\P6 K H a xs,λi H x H'=>∃ p y,H p=none/\x=.ref p/\xs[i]?=some y/\H'=upd H p (.tup [.int i,y]),λi H=>i=xs.length/\P6 K H a xs⟩
variable {P:Program} {K:W.Frag} {elts:List Expr} {ps:Pos}
theorem qN {c1} (a e it:Addr) (xs:List V) (ne:e≠it):iD P w K (.Tuple elts c1 ps) (Dh K a xs) [e,it] e (λi h=>a≠it/\a≠e/\∃ old,IsEnum h e it i old/\h.IsListIter it a i) where
 mem:=by simp
 obj:=λi h st b hb=>by
  obtain ⟨_,_,old,q1,q2⟩:=st;rcases MA.mp hb with z | z
  ·subst z;exact ⟨_,q1,λv z=>by cases z⟩
  ·have z:b=it:=by simpa using z
   subst z;obtain ⟨o,e,c,d⟩:=q2;exact ⟨o,e,λv z=>by rw [d] at z;cases z⟩
 keep:=λi h h' ⟨n1,n2,old,q1,q2⟩ k=>⟨n1,n2,old,k e (by simp) _ q1,q2.at λo z=>k it (by simp) o z⟩
 item:=by
  intro X hP hw hK hc i pins s σ H E I hf st hg;subst hP hw hK;obtain ⟨hi,hq⟩:=hg;obtain ⟨Yj,Y5,old,q1,q2⟩:=st;obtain ⟨its,rv,p,hz⟩:=I.list hq;have hx:xs[i]?=some xs[i]:=Ms hi;obtain ⟨u,hu,ru⟩:=rv.get hx;have Yd:s.heap.IsList a its.toArray:=p.isList;have lr:=rv.length;refine wpAny_pyNext_enum_itemD (Draws.list (A:=X.A.in1) (I.ok.hd hc) it a Yj its.toArray) q1 ⟨q2,Yd⟩ (by rw [Mt];lia) ne (by simp [ne,MD Y5]) λy h' tk hy out st' tup sz kk=>⟨_,rfl,?_⟩
  have ey:y=u:=by
   have h1:its[i]?=some y:=by simpa using hy
   rw [hu] at h1;exact (MB h1).symm
  subst ey;refine wpAny_letOwnedTupleGo_enum (s:={ s with heap:=h',toks:=tk+1 }) out λh2 e2 same=>?_;have le:e < s.heap.objs.size:=Mr q1;have li:it < s.heap.objs.size:=let ⟨_,z,_⟩:=q2;Mr z;have Vo:h2.get? s.heap.objs.size=some { cls:=.type "tuple",data:=.seq #[.int i tk,y] }:=(same.2 _ (M0 le)).trans tup
  have I1:Inv X pins σ (upd H s.heap.objs.size (.tup [.int i,xs[i]])) { s with heap:=s.heap.push { cls:=.type "tuple",data:=.seq #[.int i tk,y] },toks:=s.toks } :=
   I.laid (o:=.tup [.int i,xs[i]]) (λb ob q=>LD _ q) (Mu _) ⟨by rw [Na];simp,[.int i tk,y],.cons ⟨_,rfl⟩ (.cons ru .nil),Ox _ _⟩
  have frees:∀ b,b < s.heap.objs.size->upd H s.heap.objs.size (.tup [.int i,xs[i]]) b=H b:=λb hb=>aE (Mv hb)
  have I2:Inv X pins σ (upd H s.heap.objs.size (.tup [.int i,xs[i]])) { s with heap:=h2,toks:=tk+1 }:=by
   refine Inv.RO (s:={ s with heap:=s.heap.push { cls:=.type "tuple",data:=.seq #[.int i tk,y] },toks:=s.toks }) (h':=h2) (its:=[e,it]) (t':=tk+1) I1 (λb o hb q=>?_) (λb hb=>?_)
   ·have h1:b≠e:=λz=>hb (by simp [z]);have h3:b≠it:=λz=>hb (by simp [z]);by_cases VQ:b=s.heap.objs.size
    ·subst VQ;have q':(s.heap.push { cls:=.type "tuple",data:=.seq #[.int i tk,y] }).get? s.heap.objs.size=some o:=q;rw [MJ rfl rfl] at q';cases q';exact Vo
    ·have q':s.heap.get? b=some o:=by
      have lt:b < s.heap.objs.size:=by have l1:b < (s.heap.push { cls:=.type "tuple",data:=.seq #[.int i tk,y] }).objs.size:=Mr q;rw [MM] at l1;exact Nat.lt_of_le_of_ne (Nat.le_of_lt_succ l1) VQ
      exact (Pp _ _ _ VQ).symm.trans q
     exact (same.2 b h1).trans (kk b o h1 h3 q')
   ·have lb:b < s.heap.objs.size:=by
     rcases MA.mp hb with z | z
     ·rw [z];exact le
     ·rw [show b=it by simpa using z];exact li
    obtain ⟨f0,f1,f2,f3,f4,f5⟩:=hf b hb;exact ⟨by rw [frees b lb];exact f0,f1,f3,f4,f5⟩
  refine ⟨.ref s.heap.objs.size,_,I2,rfl,⟨_,_,I.hok.fresh (Mu _),rfl,hx,rfl⟩,⟨Yj,Y5,y,?_,?_⟩,λb hb=>?_⟩
  ·have ec:((i+1:Nat):Int)=(i:Int)+1:=by lia
   rw [ec];exact e2
  ·exact st'.1.at λo z=>(same.2 it (MD ne)).trans z
  ·have lb:b < s.heap.objs.size:=by
    rcases MA.mp hb with z | z
    ·rw [z];exact le
    ·rw [show b=it by simpa using z];exact li
   rw [frees b lb];exact (hf b hb).1
 done:=by
  intro X hP hw hK hc i pins s σ H E I hf st hg;subst hP hw hK;obtain ⟨hi,hq⟩:=hg;obtain ⟨Yj,Y5,old,q1,q2⟩:=st;obtain ⟨its,rv,p,hz⟩:=I.list hq;have lr:=rv.length;have Yd:s.heap.IsList a its.toArray:=p.isList;obtain ⟨f0,f1,f2,f3,f4,f5⟩:=hf it (by simp);refine wpAny_pyNext_enum_endD (Draws.list (A:=X.A.in1) (I.ok.hd hc) it a Yj its.toArray) q1 (by rw [Mt,<- lr,<- hi];exact ⟨q2,Yd⟩) λh' eb=>⟨rfl,?_⟩
  exact I.turned (t':=s.toks) (λb o hb q=>eb b o hb q) f0 f1 f3 f4 f5
 self:=λA i s Q E ⟨_,_,_,q1,_⟩ q=>wpAny_pyIter_enum q1 q
noncomputable def BY (K:W.Frag) (ta:TA):TI:=λσ H R=>ta σ H λvs H1=>∃ a xs,vs=[.ref a]/\P6 K H1 a xs/\R (Dh K a xs) H1
variable {a:Expr} {ta:TA} {p:Pos}
theorem xi {c1} (hg:Gl X "enumerate") (hm:X.mg "enumerate"=none) (ha:PA X [a] ta) (hs:starEach [a] X.env=[(false,eval a X.env)]:=by rfl):PI X (.Tuple elts c1 ps) (.Call (.Name "enumerate" p) [a] [] pos) (BY X.K ta):=by
 intro pins s σ H R I h;refine Call_ (fH I hg hm mj (Nf (PR (ha pos pins s σ H _ I h) λus s1 ⟨vs,H1,I1,r1,q1⟩=>?_) hs rfl));obtain ⟨t,xs,ev,hq,q⟩:=q1;subst ev;obtain ⟨u,rfl,ru⟩:=cH r1;cases ru;obtain ⟨its,rv,pt,hz⟩:=I1.list hq;have lt:t < s1.heap.objs.size:=let ⟨_,z,_⟩:=pt.isList;Mr z;refine pE pt.isList ?_;have sz:(s1.heap.push (jk t)).objs.size=s1.heap.objs.size+1:=MM _ _;have q1:IsEnum ((s1.heap.push (jk t)).push (lI s1.heap.objs.size)) (s1.heap.objs.size+1) s1.heap.objs.size ((0:Nat):Int) .none:=MJ sz.symm rfl;have q2:((s1.heap.push (jk t)).push (lI s1.heap.objs.size)).IsListIter s1.heap.objs.size t 0:=⟨_,LD _ (MJ rfl rfl),rfl,rfl⟩
 refine wpAny_pyIter_enum (s:={ s1 with heap:=(s1.heap.push (jk t)).push (lI s1.heap.objs.size) }) q1 ?_;refine ⟨s1.heap.objs.size+1,[s1.heap.objs.size+1,s1.heap.objs.size],_,_,H1,rfl,I1.kept (t':=s1.toks) (λb o e=>LD _ (LD _ e)),qN t _ _ xs (M0 (Oj _)),⟨Mv lt,Mv (Po lt),.none,q1,q2⟩,λb hb=>?_,q⟩;rcases MA.mp hb with z | z
 ·subst z;exact I1.Te (Nat.le_succ _) (I1.hok.fresh (Nat.le_succ _))
 ·have z:b=s1.heap.objs.size:=by simpa using z
  subst z;exact I1.Te (Mu _) (I1.hok.fresh (Mu _))
section
variable {K:W.Frag} {σ:St} {H:Hp} {tA:TA} {tl te ta tb:TE} {tc:TT} {mk:St->St} {j n:Nat} {cs:List D}
end
section
variable {X:Cx} {elt iter tg:Expr} {ifs:List Expr} {sc:Scope} {pos:Pos} {wi:TI} {own:List Str} {fr:List Nat} {N':List Str} {g:TG} {tt:TT} {te:TE} {x0:Str}
end
noncomputable abbrev cT (h:Heap) (T:Addr) (a b c:Value):Prop:=h.get? T=some { cls:=.type "tuple",data:=.seq #[a,b,c] }
structure Z3 (z TI TO i1 i2 i3 l1 l2 l3:Addr):Prop where
 TIz:TI≠z
 TOz:TO≠z
 TITO:TI≠TO
 i12:i1≠i2
 Z2:i1≠i3
 Z4:i2≠i3
 it:∀ i,i=i1\/i=i2\/i=i3->i≠z/\TI≠i/\TO≠i
 ls:∀ l,l=l1\/l=l2\/l=l3->l≠z/\l≠TO/\l≠i1/\l≠i2/\l≠i3
section
variable {prog:Program} {w:World} {A:Around} {E:Value->Shared->Prop} {s:Shared} {z TI TO i1 i2 i3 l1 l2 l3:Addr} {k:Nat} {xs ys zs:Array Value}
variable {c:Value}
theorem nz {T:Addr} {a b x:Value} {j:Nat} {Q:Unit->Shared->Prop} (hT:cT s.heap T a b c)
  (h:∀ h',h'.get? T=some { cls:=.type "tuple",data:=.seq ((#[a,b,c]:Array Value).setIfInBounds j x) }->Heap.SameBut T s.heap h'->Q () { s with heap:=h' }) :
  wpAny (model prog w) A (updateSeq T (·.setIfInBounds j x)) Q E s :=
 wpAny_updateSeq hT rfl (h _ (by rw [Od _ hT rfl];simp [Obj.mapSeq]) (Heap.SameBut.update ..))
variable {a2 a3:Value}
theorem uI {x y a1:Value} {Q:Value->Shared->Prop} (hz:IsZip s.heap z TI TO .none) (hI:cT s.heap TI (.ref i1) (.ref i2) (.ref i3)) (hO:cT s.heap TO a1 a2 a3)
  (h1:s.heap.IsListIter i1 l1 k) (h2:s.heap.IsListIter i2 l2 k) (h3:s.heap.IsListIter i3 l3 k) (e1:s.heap.IsList l1 xs) (e2:s.heap.IsList l2 ys) (e3:s.heap.IsList l3 zs) (hx:xs[k]?=some x) (hy:ys[k]?=some y) (hc:zs[k]?=some c) (D:Z3 z TI TO i1 i2 i3 l1 l2 l3)
  (q:∀ h',IsZip h' z TI TO (rawInt s.heap.objs.size)->cT h' TO x y c->h'.IsListIter i1 l1 (k+1)->h'.IsListIter i2 l2 (k+1)->h'.IsListIter i3 l3 (k+1)->h'.get? s.heap.objs.size=some { cls:=.type "tuple",data:=.seq #[x,y,c] } ->
   (∀ b o,b≠z->b≠TO->b≠i1->b≠i2->b≠i3->s.heap.get? b=some o->h'.get? b=some o)->Q (.ref s.heap.objs.size) { s with heap:=h' }) :
  wpAny (model prog w) A (Builtin.«zip.__next__» ⟨[.ref z],[]⟩) (λfin s'=>∃ v,fin=.done (.ret v)/\Q v s') E s:=by
 obtain ⟨V0,Y6,WU⟩:=D.it i1 (.inl rfl);obtain ⟨Xr,Z5,Xs⟩:=D.it i2 (.inr (.inl rfl));obtain ⟨Xu,Z6,Xv⟩:=D.it i3 (.inr (.inr rfl));obtain ⟨Y7,m1O,m11,m12,m13⟩:=D.ls l1 (.inl rfl);obtain ⟨m2z,m2O,m21,m22,m23⟩:=D.ls l2 (.inr (.inl rfl));obtain ⟨m3z,Z7,m31,m32,m33⟩:=D.ls l3 (.inr (.inr rfl));show wpAny _ _ (field (.ref z) 2 >>= _) _ _ _;refine pg (MP hz rfl rfl ?_);show wpAny _ _ (field (.ref z) 3 >>= _) _ _ _;refine pg (MP hz rfl rfl ?_);refine pg (Nk hI rfl ?_);refine pg (pg (MP hz rfl rfl (Mq ?_)));refine pg (OF ?_);refine pg (MP hz rfl rfl ?_);refine pg (MX hz (by simp) λha za sa=>?_)
 replace za:IsZip ha z TI TO .ellipsis:=za
 rw [show (#[Value.ref i1,Value.ref i2,Value.ref i3]:Array Value).toList.zipIdx=[(.ref i1,0),(.ref i2,1),(.ref i3,2)] from rfl,ND];have oa:cT ha TO a1 a2 a3:=(sa.2 TO D.TOz).trans hO;refine pg (pg (pg (N6 (pg (N8 (s:={ s with heap:=ha }) (h1.at λo e=>(sa.2 i1 V0).trans e) (e1.extBut sa.extBut Y7) hx λhb p1 sb=>Mq ?_)))))
 replace sb:Heap.SameBut i1 ha hb:=sb
 have ob:cT hb TO a1 a2 a3:=(sb.2 TO WU).trans oa;refine pg (Nk (s:={ s with heap:=hb }) ob rfl ?_);refine pg (nz (s:={ s with heap:=hb }) ob λhd od sd=>?_)
 replace sd:Heap.SameBut TO hb hd:=sd
 replace od:cT hd TO x a2 a3:=od
 refine pg (O7 (Mq ?_));show wpAny _ _ (forIn [(Value.ref i2,1),(Value.ref i3,2)] _ _) _ _ _;rw [ND];have g2:hd.IsListIter i2 l2 k:=h2.at λo e=>(sd.2 i2 (MD Xs)).trans ((sb.2 i2 (MD D.i12)).trans ((sa.2 i2 Xr).trans e));have f2:hd.IsList l2 ys:=((e2.extBut sa.extBut m2z).extBut sb.extBut m21).extBut sd.extBut m2O;refine pg (pg (N6 (pg (N8 (s:={ s with heap:=hd }) g2 f2 hy λhe p2 se=>Mq ?_))))
 replace se:Heap.SameBut i2 hd he:=se
 have oe:cT he TO x a2 a3:=(se.2 TO Xs).trans od;refine pg (Nk (s:={ s with heap:=he }) oe rfl ?_);refine pg (nz (s:={ s with heap:=he }) oe λhf of sf=>?_)
 replace sf:Heap.SameBut TO he hf:=sf
 replace of:cT hf TO x y a3:=of
 refine pg (O7 (Mq ?_));show wpAny _ _ (forIn [(Value.ref i3,2)] _ _) _ _ _;rw [ND];have g3:hf.IsListIter i3 l3 k:=h3.at λo e=>(sf.2 i3 (MD Xv)).trans ((se.2 i3 (MD D.Z4)).trans ((sd.2 i3 (MD Xv)).trans ((sb.2 i3 (MD D.Z2)).trans ((sa.2 i3 Xu).trans e))));have f3:hf.IsList l3 zs:=((((e3.extBut sa.extBut m3z).extBut sb.extBut m31).extBut sd.extBut Z7).extBut se.extBut m32).extBut sf.extBut Z7;refine pg (pg (N6 (pg (N8 (s:={ s with heap:=hf }) g3 f3 hc λhg p3 sg=>Mq ?_))))
 replace sg:Heap.SameBut i3 hf hg:=sg
 have og:cT hg TO x y a3:=(sg.2 TO Xv).trans of;refine pg (Nk (s:={ s with heap:=hg }) og rfl ?_);refine pg (nz (s:={ s with heap:=hg }) og λhh oh sh=>?_)
 replace sh:Heap.SameBut TO hg hh:=sh
 replace oh:cT hh TO x y c:=oh
 refine pg (O7 (Mq ?_));show wpAny _ _ (forIn [] _ _) _ _ _;rw [List.forIn_nil];refine Mq ?_;show wpAny _ _ (seqItems? (.ref TO) >>= _) _ _ _;refine pg (Nk (s:={ s with heap:=hh }) oh rfl ?_);refine pg (wpAny_newTuple ?_);have Z8:hh.objs.size=s.heap.objs.size:=by rw [sh.1,sg.1,sf.1,se.1,sd.1,sb.1,sa.1]
 have all:∀ b,b≠z->b≠TO->b≠i1->b≠i2->b≠i3->hh.get? b=s.heap.get? b:=λb n1 n2 n3 n4 n5=>(sh.2 b n2).trans ((sg.2 b n5).trans ((sf.2 b n2).trans ((se.2 b n4).trans ((sd.2 b n2).trans ((sb.2 b n3).trans (sa.2 b n1))))));have zh:IsZip hh z TI TO .ellipsis:=(sh.2 z (MD D.TOz)).trans ((sg.2 z (MD Xu)).trans ((sf.2 z (MD D.TOz)).trans ((se.2 z (MD Xr)).trans ((sd.2 z (MD D.TOz)).trans ((sb.2 z (MD V0)).trans za)))));have q1:hh.IsListIter i1 l1 (k+1):=p1.at λo e=>(sh.2 i1 (MD WU)).trans ((sg.2 i1 D.Z2).trans ((sf.2 i1 (MD WU)).trans ((se.2 i1 D.i12).trans ((sd.2 i1 (MD WU)).trans e))));have q2:hh.IsListIter i2 l2 (k+1):=p2.at λo e=>(sh.2 i2 (MD Xs)).trans ((sg.2 i2 D.Z4).trans ((sf.2 i2 (MD Xs)).trans e));have q3:hh.IsListIter i3 l3 (k+1):=p3.at λo e=>(sh.2 i3 (MD Xv)).trans e;have lz:z < s.heap.objs.size:=Mr hz;have push:∀ b o,hh.get? b=some o->(hh.push { cls:=.type "tuple",data:=.seq #[x,y,c] }).get? b=some o:=λb o e=>LD _ e;have tf:(hh.push { cls:=.type "tuple",data:=.seq #[x,y,c] }).get? s.heap.objs.size=some { cls:=.type "tuple",data:=.seq #[x,y,c] }:=MJ Z8.symm rfl;have zf:IsZip (hh.push { cls:=.type "tuple",data:=.seq #[x,y,c] }) z TI TO .ellipsis:=push _ _ zh;generalize hh.push { cls:=.type "tuple",data:=.seq #[x,y,c] }=hp at push tf zf;show wpAny _ _ (Builtin.SmallTypes.ownedTupleHandOut (.ref z) (.ref hh.objs.size) >>= _) _ _ _;rw [Z8];refine pg (pg (MX (s:={ s with heap:=hp }) zf (by simp) λhq zq sq=>MX (s:={ s with heap:=hq }) zq (by simp) λhr zr sr=>Mq ⟨_,rfl,?_⟩))
 replace sq:Heap.SameBut z hp hq:=sq
 replace sr:Heap.SameBut z hq hr:=sr
 have on:∀ b o,b≠z->hp.get? b=some o->hr.get? b=some o:=λb o n e=>(sr.2 b n).trans ((sq.2 b n).trans e);exact q hr zr (on _ _ D.TOz (push _ _ oh)) (q1.at λo e=>on _ _ V0 (push _ _ e)) (q2.at λo e=>on _ _ Xr (push _ _ e)) (q3.at λo e=>on _ _ Xu (push _ _ e)) (on _ _ (M0 lz) tf) λb o n1 n2 n3 n4 n5 e=>on b o n1 (push b o ((all b n1 n2 n3 n4 n5).trans e))
theorem uH {a1:Value} {Q:Fin->Shared->Prop} (hh:A.handled=none) (hz:IsZip s.heap z TI TO .none) (hI:cT s.heap TI (.ref i1) (.ref i2) (.ref i3)) (hO:cT s.heap TO a1 a2 a3) (h1:s.heap.IsListIter i1 l1 k)
  (e1:s.heap.IsList l1 xs) (hx:xs[k]?=none) (D:Z3 z TI TO i1 i2 i3 l1 l2 l3)
  (q:∀ h' e,(∀ b o,b≠z->b≠i1->s.heap.get? b=some o->h'.get? b=some o)->(∃ o,h'.get? e=some o/\o.cls=.type "StopIteration")->E (.ref e) { s with heap:=h' }):wpAny (model prog w) A (Builtin.«zip.__next__» ⟨[.ref z],[]⟩) Q E s:=by
 obtain ⟨V0,Y6,WU⟩:=D.it i1 (.inl rfl);obtain ⟨Y7,m1O,m11,m12,m13⟩:=D.ls l1 (.inl rfl);show wpAny _ _ (field (.ref z) 2 >>= _) _ _ _;refine pg (MP hz rfl rfl ?_);show wpAny _ _ (field (.ref z) 3 >>= _) _ _ _;refine pg (MP hz rfl rfl ?_);refine pg (Nk hI rfl ?_);refine pg (pg (MP hz rfl rfl (Mq ?_)));refine pg (OF ?_);refine pg (MP hz rfl rfl ?_);refine pg (MX hz (by simp) λha za sa=>?_)
 replace za:IsZip ha z TI TO .ellipsis:=za
 rw [show (#[Value.ref i1,Value.ref i2,Value.ref i3]:Array Value).toList.zipIdx=[(.ref i1,0),(.ref i2,1),(.ref i3,2)] from rfl,ND];refine pg (pg (pg (N6 (pg (wpAny_nextOf_list_end (s:={ s with heap:=ha }) hh (h1.at λo e=>(sa.2 i1 V0).trans e) (e1.extBut sa.extBut Y7) hx λhb e sb he=>?_)))))
 replace sb:Heap.ExtBut i1 ha hb:=sb
 have zb:IsZip hb z TI TO .ellipsis:=sb z _ (MD V0) za;obtain ⟨oe,UT,hce⟩:=he;have YY:e≠z:=λy=>by rw [y,zb] at UT;cases UT;simp at hce
 refine MX (s:={ s with heap:=hb }) zb (by simp) λhc zc sc=>q hc e (λb o n1 n2 hb'=>?_) ⟨oe,(sc.2 e YY).trans UT,hce⟩;exact (sc.2 b n1).trans (sb b o n2 ((sa.2 b n1).trans hb'))
end
set_option maxHeartbeats 8000000 in
theorem yj (t1 t2 t3:Addr) (xs ys zs:Array Value) :
  Meets (Builtin.«zip.__new__» ⟨[.type "zip",.ref t1,.ref t2,.ref t3],[]⟩) (λ_ R s=>s.heap.IsList t1 xs/\s.heap.IsList t2 ys/\s.heap.IsList t3 zs /\
   ∀ h',IsZip h' (s.heap.objs.size+5) (s.heap.objs.size+3) (s.heap.objs.size+4) .none->cT h' (s.heap.objs.size+3) (.ref s.heap.objs.size) (.ref (s.heap.objs.size+1)) (.ref (s.heap.objs.size+2))->cT h' (s.heap.objs.size+4) .none .none .none ->
    h'.IsListIter s.heap.objs.size t1 0->h'.IsListIter (s.heap.objs.size+1) t2 0->h'.IsListIter (s.heap.objs.size+2) t3 0->(∀ b o,s.heap.get? b=some o->h'.get? b=some o)->R (.ok (.ret (.ref (s.heap.objs.size+5)))) { s with heap:=h' }) :=
 .of_wp λ_ _ _ _ s q=>by
  obtain ⟨h0,g0,d0,t0,o0⟩:=s;obtain ⟨a1,a2,a3,q⟩:=q;have UE:=sub_zip;have b1:Heap.IsList (Shared.heap ⟨h0,g0,d0,t0,o0⟩) t1 xs:=a1;have b2:Heap.IsList (Shared.heap ⟨h0.push (pY t1),g0,d0,t0,o0⟩) t2 ys:=OO a2 _;have b3:Heap.IsList (Shared.heap ⟨(h0.push (pY t1)).push (pY t2),g0,d0,t0,o0⟩) t3 zs:=OO (OO a3 _) _
  wp_walk using Nb b1,Nb b2,Nb b3
  refine ⟨_,rfl,?_⟩;simp only [MM];have P:∀ {h:Heap} {b:Addr} {o o':Obj},h.get? b=some o->(h.push o').get? b=some o:=λe=>LD _ e;refine q _ ?_ ?_ ?_ ?_ ?_ ?_ λb o e=>?_
  ·exact MJ (by simp [MM]) rfl
  ·exact P (P (MJ (by simp [MM]) rfl))
  ·exact P (MJ (by simp [MM]) rfl)
  ·exact ⟨_,P (P (P (P (P (MJ (by simp [MM]) rfl))))),rfl,rfl⟩
  ·exact ⟨_,P (P (P (P (MJ (by simp [MM]) rfl)))),rfl,rfl⟩
  ·exact ⟨_,P (P (P (MJ (by simp [MM]) rfl))),rfl,rfl⟩
  ·exact P (P (P (P (P (P e)))))
theorem uF (a b c:Value):checkTypeCall "zip" ⟨[a,b,c],[]⟩=pure ():=by kernel_rfl
theorem wO (a b c:Value):checkBuiltinCall "zip.__new__" ⟨[.type "zip",a,b,c],[]⟩=pure ():=by kernel_rfl
theorem D8 (a b c d:Value):argsOk "object.__init__" ⟨[a,b,c,d],[]⟩:=by unfold argsOk;rw [signature?_of (n:="__tini__".toList) (o:="tcejbo".toList) (by kernel_rfl) F.owner_object];kernel_rfl
theorem si {A:Around} {E:Value->Shared->Prop} {s:Shared} {t1 t2 t3:Addr} {xs ys zs:Array Value} {Q:Value->Shared->Prop} (a1:s.heap.IsList t1 xs) (a2:s.heap.IsList t2 ys) (a3:s.heap.IsList t3 zs)
  (q:∀ h',IsZip h' (s.heap.objs.size+5) (s.heap.objs.size+3) (s.heap.objs.size+4) .none->cT h' (s.heap.objs.size+3) (.ref s.heap.objs.size) (.ref (s.heap.objs.size+1)) (.ref (s.heap.objs.size+2))->cT h' (s.heap.objs.size+4) .none .none .none ->
   h'.IsListIter s.heap.objs.size t1 0->h'.IsListIter (s.heap.objs.size+1) t2 0->h'.IsListIter (s.heap.objs.size+2) t3 0->(∀ b o,s.heap.get? b=some o->h'.get? b=some o)->Q (.ref (s.heap.objs.size+5)) { s with heap:=h' }) :
  wpAny (model prog w) A (call (.type "zip") [.ref t1,.ref t2,.ref t3]) Q E s :=
 callType_new F.called_zip (by decide) (uF _ _ _) (wO _ _ _) (λo=>D8 o _ _ _) F.entry_zip_new (yj t1 t2 t3 xs ys zs) ⟨a1,a2,a3,λh' z1 z2 z3 z4 z5 z6 kk=>⟨⟨_,z1,rfl⟩,q h' z1 z2 z3 z4 z5 z6 kk⟩⟩
noncomputable def Z9 (K:W.Frag) (a b c:Addr) (xs ys zs:List V):It:=⟨λi H=>i < xs.length/\i < ys.length/\i < zs.length/\P6 K H a xs/\P6 K H b ys/\P6 K H c zs,λi H x H'=>∃ p u v y,H p=none/\x=.ref p/\xs[i]?=some u/\ys[i]?=some v/\zs[i]?=some y/\H'=upd H p (.tup [u,v,y]),λi H=>i=xs.length/\P6 K H a xs⟩
theorem uE {c1} (a b c z TI TO i1 i2 i3:Addr) (xs ys zs:List V) (D:Z3 z TI TO i1 i2 i3 a b c):iD P w K (.Tuple elts c1 ps) (Z9 K a b c xs ys zs) [z,TI,TO,i1,i2,i3] z
  (λi h=>∃ d e f,IsZip h z TI TO .none/\cT h TI (.ref i1) (.ref i2) (.ref i3)/\cT h TO d e f/\h.IsListIter i1 a i/\h.IsListIter i2 b i/\h.IsListIter i3 c i) where
 mem:=by simp
 obj:=λi h ⟨d,e,f,q1,q2,q3,q4,q5,q6⟩ b hb=>by
  simp only [MA,MR,NF] at hb;rcases hb with rfl | rfl | rfl | rfl | rfl | rfl
  ·exact ⟨_,q1,λv e=>by cases e⟩
  ·exact ⟨_,q2,λv e=>by cases e⟩
  ·exact ⟨_,q3,λv e=>by cases e⟩
  ·obtain ⟨o,e,c,d⟩:=q4;exact ⟨o,e,λv z=>by rw [d] at z;cases z⟩
  ·obtain ⟨o,e,c,d⟩:=q5;exact ⟨o,e,λv z=>by rw [d] at z;cases z⟩
  ·obtain ⟨o,e,c,d⟩:=q6;exact ⟨o,e,λv z=>by rw [d] at z;cases z⟩
 keep:=λi h h' ⟨d,e,f,q1,q2,q3,q4,q5,q6⟩ k=>⟨d,e,f,k z (by simp) _ q1,k TI (by simp) _ q2,k TO (by simp) _ q3,q4.at λo e=>k i1 (by simp) o e,q5.at λo e=>k i2 (by simp) o e,q6.at λo e=>k i3 (by simp) o e⟩
 item:=by
  intro X hP hw hK hc i pins s σ H E I hf st hg;subst hP hw hK;obtain ⟨d,e,f,q1,q2,q3,q4,q5,q6⟩:=st;obtain ⟨hi,hj,hk,ha,hb,hcl⟩:=hg;obtain ⟨us,ru,pu,_⟩:=I.list ha;obtain ⟨vs,rv,pv,_⟩:=I.list hb;obtain ⟨ws,rw',pw,_⟩:=I.list hcl;have hx:xs[i]?=some xs[i]:=Ms hi;have hy:ys[i]?=some ys[i]:=Ms hj;have hz:zs[i]?=some zs[i]:=Ms hk;obtain ⟨u,hu,r1⟩:=ru.get hx;obtain ⟨v,hv,r2⟩:=rv.get hy;obtain ⟨y,hw,r3⟩:=rw'.get hz;have ty:s.TypeIs (.ref z) "zip":=⟨_,q1,rfl⟩
  obtain ⟨V0,Y6,WU⟩:=D.it i1 (.inl rfl);obtain ⟨Xr,Z5,Xs⟩:=D.it i2 (.inr (.inl rfl));obtain ⟨Xu,Z6,Xv⟩:=D.it i3 (.inr (.inr rfl));unfold pyNext;refine pg (Oo (M8 (name:=Str.ofString "__next__") ty NG (Ny NG ty OP ?_ (OH _))));refine uI (x:=u) (y:=v) (c:=y) q1 q2 q3 q4 q5 q6 (show s.heap.IsList a us.toArray from pu.isList) (show s.heap.IsList b vs.toArray from pv.isList) (show s.heap.IsList c ws.toArray from pw.isList) (by simpa using hu) (by simpa using hv) (by simpa using hw) D λh' w1 w2 w3 w4 w5 w6 w7=>Mq ⟨_,rfl,?_⟩;refine wpAny_letOwnedTupleGo_zip (s:={ s with heap:=h' }) w1 λh2 e2 same=>?_
  replace same:Heap.SameBut z h' h2:=same
  have lz:z < s.heap.objs.size:=Mr q1;have lTI:TI < s.heap.objs.size:=Mr q2;have lTO:TO < s.heap.objs.size:=Mr q3;have l1:i1 < s.heap.objs.size:=by obtain ⟨o,e,_⟩:=q4;exact Mr e
  have l2:i2 < s.heap.objs.size:=by obtain ⟨o,e,_⟩:=q5;exact Mr e
  have l3:i3 < s.heap.objs.size:=by obtain ⟨o,e,_⟩:=q6;exact Mr e
  have low:∀ b ∈ [z,TI,TO,i1,i2,i3],b < s.heap.objs.size:=λb hb=>by simp only [MA,MR,NF] at hb;rcases hb with rfl | rfl | rfl | rfl | rfl | rfl <;> assumption
  have Vo:h2.get? s.heap.objs.size=some { cls:=.type "tuple",data:=.seq #[u,v,y] }:=(same.2 _ (M0 lz)).trans w6
  have I1:Inv X pins σ (upd H s.heap.objs.size (.tup [xs[i],ys[i],zs[i]])) { s with heap:=s.heap.push { cls:=.type "tuple",data:=.seq #[u,v,y] },toks:=s.toks } :=
   I.laid (o:=.tup [xs[i],ys[i],zs[i]]) (λb ob q=>LD _ q) (Mu _) ⟨by rw [Na];simp,[u,v,y],.cons r1 (.cons r2 (.cons r3 .nil)),Ox _ _⟩
  have frees:∀ b,b < s.heap.objs.size->upd H s.heap.objs.size (.tup [xs[i],ys[i],zs[i]]) b=H b:=λb hb=>aE (Mv hb)
  have I2:Inv X pins σ (upd H s.heap.objs.size (.tup [xs[i],ys[i],zs[i]])) { s with heap:=h2,toks:=s.toks }:=by
   refine Inv.RO (s:={ s with heap:=s.heap.push { cls:=.type "tuple",data:=.seq #[u,v,y] },toks:=s.toks }) (h':=h2) (its:=[z,TI,TO,i1,i2,i3]) (t':=s.toks) I1 (λb o hb q=>?_) (λb hb=>?_)
   ·simp only [MA,MR,NF,not_or] at hb;obtain ⟨n1,n2,n3,n4,n5,n6⟩:=hb;by_cases VQ:b=s.heap.objs.size
    ·subst VQ;have q':(s.heap.push { cls:=.type "tuple",data:=.seq #[u,v,y] }).get? s.heap.objs.size=some o:=q;rw [MJ rfl rfl] at q';cases q';exact Vo
    ·have q':s.heap.get? b=some o:=(Pp _ _ _ VQ).symm.trans q;exact (same.2 b n1).trans (w7 b o n1 n3 n4 n5 n6 q')
   ·obtain ⟨f0,f1,f2,f3,f4,f5⟩:=hf b hb;exact ⟨by rw [frees b (low b hb)];exact f0,f1,f3,f4,f5⟩
  refine ⟨.ref s.heap.objs.size,_,I2,rfl,⟨_,_,_,_,I.hok.fresh (Mu _),rfl,hx,hy,hz,rfl⟩,⟨u,v,y,e2,?_,?_,?_,?_,?_⟩,λb hb=>?_⟩
  ·exact (same.2 TI D.TIz).trans (w7 TI _ D.TIz D.TITO Y6 Z5 Z6 q2)
  ·exact (same.2 TO D.TOz).trans w2
  ·exact w3.at λo e=>(same.2 i1 V0).trans e
  ·exact w4.at λo e=>(same.2 i2 Xr).trans e
  ·exact w5.at λo e=>(same.2 i3 Xu).trans e
  ·rw [frees b (low b hb)];exact (hf b hb).1
 done:=by
  intro X hP hw hK hc i pins s σ H E I hf st hg;subst hP hw hK;obtain ⟨d,e,f,q1,q2,q3,q4,q5,q6⟩:=st;obtain ⟨hi,ha⟩:=hg;obtain ⟨us,ru,pu,_⟩:=I.list ha;have lr:=ru.length;have ty:s.TypeIs (.ref z) "zip":=⟨_,q1,rfl⟩
  unfold pyNext;refine pg (Oo (M8 (name:=Str.ofString "__next__") ty NG (Ny NG ty OP ?_ (OH _))));refine uH (I.ok.hd hc) q1 q2 q3 q4 (show s.heap.IsList a us.toArray from pu.isList) (by simp;lia) D λh' e kk ⟨o,ho,hco⟩=>?_;refine pg (wpAny_isInstance (T:="StopIteration") (b:=true) ⟨o,ho,hco⟩ isSubtype_stop (Mq ⟨rfl,?_⟩));refine Inv.RO (s:=s) (h':=h') (its:=[z,i1]) (t':=s.toks) I (λb o hb q=>kk b o (λy=>hb (by simp [y])) (λy=>hb (by simp [y])) q) (λb hb=>?_)
  obtain ⟨f0,f1,f2,f3,f4,f5⟩:=hf b (by
   simp only [MA,MR,NF] at hb;rcases hb with rfl | rfl <;> simp)
  exact ⟨f0,f1,f3,f4,f5⟩
 self:=λA i s Q E ⟨_,_,_,q1,_⟩ q=>OQ q1 q
noncomputable def qZ (K:W.Frag) (ta:TA):TI:=λσ H R=>ta σ H λvs H1=>∃ a b c xs ys zs,vs=[.ref a,.ref b,.ref c]/\P6 K H1 a xs/\P6 K H1 b ys/\P6 K H1 c zs/\R (Z9 K a b c xs ys zs) H1
theorem zD {b c:Expr} {c1} (hg:Gl X "zip") (hm:X.mg "zip"=none) (ha:PA X [a,b,c] ta) (hs:starEach [a,b,c] X.env=(false,eval a X.env)::starEach [b,c] X.env:=by rfl) (hpl:(backTo pos (starEach [b,c] X.env)).any (·.1)=false:=by rfl) :
  PI X (.Tuple elts c1 ps) (.Call (.Name "zip" p) [a,b,c] [] pos) (qZ X.K ta):=by
 intro pins s σ H R I h;refine Call_ (fH I hg hm vc (Nf (PR (ha pos pins s σ H _ I h) λus s1 ⟨vs,H1,I1,r1,q1⟩=>?_) hs hpl));obtain ⟨t1,t2,t3,xs,ys,zs,ev,hq1,hq2,hq3,q⟩:=q1;subst ev
 cases r1 with
 | cons e1 rt =>
 cases rt with
 | cons e2 rt =>
  obtain ⟨u3,rfl,e3⟩:=cH rt;cases e1;cases e2;cases e3;obtain ⟨us,ru,pu,_⟩:=I1.list hq1;obtain ⟨vs,rv,pv,_⟩:=I1.list hq2;obtain ⟨ws,rw',pw,_⟩:=I1.list hq3;have WQ:t1 < s1.heap.objs.size:=by obtain ⟨o,e,_⟩:=pu.isList;exact Mr e
  have WR:t2 < s1.heap.objs.size:=by obtain ⟨o,e,_⟩:=pv.isList;exact Mr e
  have lt3:t3 < s1.heap.objs.size:=by obtain ⟨o,e,_⟩:=pw.isList;exact Mr e
  refine si pu.isList pv.isList pw.isList λh' z1 z2 z3 z4 z5 z6 kk=>?_;refine OQ (s:={ s1 with heap:=h' }) z1 ?_;generalize hn:s1.heap.objs.size=n at *;have lo:∀ {l:Nat},l < n->l≠n+5/\l≠n+4/\l≠n/\l≠n+1/\l≠n+2:=λh=>⟨by lia,by lia,by lia,by lia,by lia⟩
  have ap:Z3 (n+5) (n+3) (n+4) n (n+1) (n+2) t1 t2 t3 :=
   ⟨Mv (by lia),Mv (by lia),Mv (by lia),Mv (by lia),Mv (by lia),Mv (by lia),λi h=>by rcases h with rfl | rfl | rfl <;> exact ⟨Mv (by lia),M0 (by lia),M0 (by lia)⟩,λl h=>by rcases h with rfl | rfl | rfl;exact lo WQ;exact lo WR;exact lo lt3⟩
  refine ⟨n+5,[n+5,n+3,n+4,n,n+1,n+2],_,_,H1,rfl,I1.kept (t':=s1.toks) kk,uE t1 t2 t3 _ _ _ _ _ _ xs ys zs ap,⟨.none,.none,.none,z1,z2,z3,z4,z5,z6⟩,λb hb=>?_,q⟩
  have lb:s1.heap.objs.size<=b:=by
   simp only [MA,MR,NF] at hb;rw [hn];rcases hb with rfl | rfl | rfl | rfl | rfl | rfl
   ·exact Nn _ _
   ·exact Nn _ _
   ·exact Nn _ _
   ·exact Mu _
   ·exact Nn _ _
   ·exact Nn _ _
  exact I1.Te lb (I1.hok.fresh lb)
end L2
namespace L2
open PySem PySem.Spec PyProof.Rows
section
variable {X:Cx}
noncomputable def zO (K:W.Frag) (neg:Bool):R2:=λx y H Q=>∃ l xs ds d,y=.ref l/\P6 K H l xs/\PF K H ds xs/\Dat K H d x/\Qh ds=true/\QF d=true/\Qa ds<=20/\Q (.bl (if neg then !(ds.any λe=>P4 e d) else ds.any λe=>P4 e d)) H
theorem ow {k:Nat} (hr:P5 k X.A) {pins:List (Addr × Obj)} {σ:St} {H:Hp} {s:Shared} {x:V} {u:Value} {l:Addr} {xs:List V} {ds:List D} {d:D} (I:Inv X pins σ H s) (ru:RelV x u) (hq:P6 X.K H l xs) (hds:PF X.K H ds xs) (hd:Dat X.K H d x) (n1:Qh ds=true) (n2:QF d=true) (dp:Qa ds<=20) :
  ∃ (its:List Value) (eq:Value->Bool),s.heap.IsList l its.toArray/\(∀ w ∈ its.toArray,SeqAt.EqAt X.A.in1 s w u (eq w))/\its.toArray.any eq=ds.any λe=>P4 e d:=by
 obtain ⟨its,r,pl,hz⟩:=I.list hq;have hl:=r.length;have ll:=hds.length
 have item:∀ (m:Nat) (w:Value),its[m]?=some w->∃ g,ds[m]?=some g/\∃ xv,RelV xv w/\Dat X.K H g xv:=λm w hw=>by have hm:m < its.length:=(Mk.mp hw).1;obtain ⟨g,hg,dg⟩:=hds.Vj (i:=m) (v:=xs[m]'(by lia)) (Ms (by lia));obtain ⟨w',Vm,rr⟩:=r.get (i:=m) (x:=xs[m]'(by lia)) (Ms (by lia));rw [hw] at Vm;cases Vm;exact ⟨g,hg,_,rr,dg⟩
 have Ut:∀ {x1 x2:V} {w:Value},RelV x1 w->RelV x2 w->x1=x2:=λ{x1 x2 w} h1 h2=>RelV.inj h1 h2
 classical
 let eq:Value->Bool:=λw=>if hw:∃ m:Nat,its[m]?=some w then (match ds[Classical.choose hw]? with | some g=>P4 g d | none=>false) else false
 have US:∀ (m:Nat) (w:Value) (g:D),its[m]?=some w->ds[m]?=some g->eq w=P4 g d:=λm w g hw hg=>by
  have Vm:∃ m:Nat,its[m]?=some w:=⟨m,hw⟩
  show (if hw:∃ m:Nat,its[m]?=some w then _ else false)=_;rw [dif_pos Vm];have hc:=Classical.choose_spec Vm;obtain ⟨g',hg',xv',r1,d1⟩:=item _ w hc;obtain ⟨g2,Xk,xv,r2,d2⟩:=item m w hw;rw [hg] at Xk;cases Xk;rw [hg'];have ex:=Ut r1 r2;subst ex;have:=jI I g' g (cW n1 hg') d1 d2 (cW n1 hg);rw [this]
 have hu:X.A.in1.units+20+1 < cLine:=by have:=hr.un;show X.A.units+1+20+1 < cLine;lia
 refine ⟨its,eq,pl.isList,λw hw=>?_,?_⟩
 ·obtain ⟨m,hm,rfl⟩:=Array.getElem_of_mem hw;have hm':m < its.length:=by simpa using hm
  have Xl:its[m]?=some (its[m]'hm'):=Ms hm';obtain ⟨g,hg,xv,r1,d1⟩:=item m _ Xl;have z1:its.toArray[m]=its[m]'hm':=by simp
  rw [z1,US m _ g Xl hg];exact mD I 20 X.A.in1 g d xv x _ u hu (MQ (eS hg) dp) (cW n1 hg) n2 d1 hd r1 ru
 ·rw [show its.toArray.any eq=its.any eq by simp]
  have em:its.map eq=ds.map λe=>P4 e d:=by
   apply List.ext_getElem?;intro m;rw [MH,MH]
   cases hw:its[m]? with
   | none =>have:its.length<=m:=NB.mp hw;rw [List.getElem?_eq_none (by lia)];rfl
   | some w =>obtain ⟨g,hg,_⟩:=item m w hw;rw [hg];show some (eq w)=some (P4 g d);rw [US m w g hw hg]
  have e1:∀ {α:Type} (f:α->Bool) (l:List α),l.any f=(l.map f).any id:=λf l=>by rw [List.any_map];rfl
  rw [e1 eq its,em,<- e1]
theorem wX {k:Nat} (hr:P5 k X.A):QA X (compareOp .In) (zO X.K false):=by intro pins s σ H x y v u Q I rx ry h;obtain ⟨l,xs,ds,d,rfl,hq,hds,hd,n1,n2,dp,q⟩:=h;cases ry;obtain ⟨its,eq,pl,ea,ee⟩:=ow hr I rx hq hds hd n1 n2 dp;exact SeqAt.in_listAt eq pl ea ⟨.bl _,H,I,rfl,by rw [ee];exact q⟩
theorem uj {k:Nat} (hr:P5 k X.A):QA X (compareOp .NotIn) (zO X.K true):=by intro pins s σ H x y v u Q I rx ry h;obtain ⟨l,xs,ds,d,rfl,hq,hds,hd,n1,n2,dp,q⟩:=h;cases ry;obtain ⟨its,eq,pl,ea,ee⟩:=ow hr I rx hq hds hd n1 n2 dp;exact SeqAt.notIn_listAt eq pl ea ⟨.bl _,H,I,rfl,by rw [ee];exact q⟩
end
section
variable {K:W.Frag} {σ:St} {H:Hp} {t ta tb:TE} {d:D} {ds:List D}
end
end L2
namespace L2
open PySem PySem.Spec PySem.Calls PyProof.Rows
theorem qM (l:Addr) (v:Value) (n:Nat) (dd:Option Addr) (sl:Array (Option Value)) (x:Int) (u:Tok) (h2:2<=x) (h3:x<=1000) :
  Meets (Builtin.«tuple.__mul__» ⟨[.ref l,.int x u],[]⟩) (λ_ R s=>s.heap.get? l=some { cls:=.type "tuple",dict:=dd,data:=.seq #[v] n,slots:=sl }/\R (.ok (.ret (Value.ref s.heap.objs.size))) { s with heap:=s.heap.push { cls:=.type "tuple",data:=.seq ((List.replicate x.toNat #[v]).foldl (λa b=>a++b) #[]) } }) :=
 .of_wp λ_ _ _ _ s q=>by
  obtain ⟨h0,g0,d0,t0,o0⟩:=s;obtain ⟨YT,q⟩:=q;have c1:¬ (decide (x < -2 ^ 63) || decide (x ≥ 2 ^ 63))=true:=by simp;omega
  have c2:¬ ((#[v]:Array Value).isEmpty || x == 1)=true:=by simp;omega
  have c3:¬ (decide (x<=0) || (#[v]:Array Value).isEmpty)=true:=by simp;omega
  have c4:¬ (((#[v]:Array Value).size:Int) * x > (2 ^ 63 - 1) / 8):=by simp;omega
  have c5:¬ Builtin.Tuple.tupleTooMany (((#[v]:Array Value).size:Int) * x)=true:=by unfold Builtin.Tuple.tupleTooMany;rw [Na];simp;omega
  have c6:((List.replicate x.toNat #[v]).foldl (λa b=>a++b) #[]).size<=sizeLine:=by have e:=dF [v] x.toNat [];have e':(List.replicate x.toNat #[v]).foldl (λa b=>a++b) #[]=([]++(List.replicate x.toNat [v]).flatten).toArray:=e;rw [e',Mt,List.nil_append,mI,Na];simp;omega
  generalize hW:(List.replicate x.toNat #[v]).foldl (λa b=>a++b) #[]=W at c6 q
  wp_walk
  rw [Mz c1]
  wp_walk
  rw [Mz c2];rw [Mz c3];rw [Mz c4];rw [Mz c5];rw [hW];exact pg (Nr (Mq ⟨_,rfl,q⟩) c6)
noncomputable def AB (K:W.Frag):R2:=λx y H Q=>∃ a v i,x=.ref a/\y=.int i/\2<=i/\i<=1000/\Qq K H a [v]/\∀ p,H p=none->Q (.ref p) (upd H p (.tup (List.replicate i.toNat v)))
theorem zT (v:Value) (n:Nat):(List.replicate n #[v]).foldl (λa b=>a++b) #[]=(List.replicate n v).toArray:=by
 have e:=dF [v] n [];have e':(List.replicate n #[v]).foldl (λa b=>a++b) #[]=([]++(List.replicate n [v]).flatten).toArray:=e;rw [e',List.nil_append];congr 1
 induction n with
 | zero=>rfl
 | succ n ih=>rw [Nl,NZ,ih (dF [v] n []) (dF [v] n []),Nl];rfl
theorem pb {z:V} {z':Value} (r:RelV z z'):∀ n:Nat,Vals (List.replicate n z) (List.replicate n z')
 | 0=>.nil
 | n+1=>.cons r (pb r n)
theorem zu {X:Cx}:QA X (binaryOp .Mult) (AB X.K):=by
 intro pins s σ H x y v u Q I rx ry h;obtain ⟨a,z,i,rfl,rfl,i2,i3,ha,q⟩:=h;cases rx;obtain ⟨t,rfl⟩:=ry;obtain ⟨its,r,p,_⟩:=I.tuple ha;obtain ⟨z',rfl,rz⟩:=cH r;obtain ⟨⟨cls,dd,data,sl⟩,ho,hc,n,hd⟩:=id p;simp only at hc hd;subst hc hd
 refine wpAny_binaryOp_repeat_ref (T:="tuple") (U:="int") (by decide) ⟨_,ho,rfl⟩ (λs'=>Pr s' i t) iJ F.fills_int_mul OY nc F.slot_int_index.lookup
  (N1 OY (Pr s i t) F.entry_int_rmul (F.args_int_rmul_2 _ _) (j8 i t a _ n dd sl)
   ⟨ho,rfl,⟨_,ho,rfl⟩,N1 F.slot_tuple_mul ⟨_,ho,rfl⟩ F.entry_tuple_mul (F.args_tuple_mul_2 _ _) (qM a z' n dd sl i t i2 i3) ⟨ho,?_⟩⟩)
 rw [zT];refine ⟨.ref s.heap.objs.size,_,I.laid (t':=s.toks) (o:=.tup (List.replicate i.toNat z)) (λb ob q=>LD _ q) (Mu _) ?_,rfl,q _ (I.hok.fresh (Mu _))⟩;exact ⟨by rw [Na,Oc];omega,_,pb rz _,Ox _ _⟩
end L2
namespace EV
open PySem PySem.Spec PyProof.Rows L2
inductive A where
 | PJ | bl (b:Bool) | int (i:Int) | str (n:Nat) | tup (xs:List A)
 | ref (i:Nat) | cl (xs:List A) | tab (t:Nat) | RP (n:Nat) | R5 (n:Nat) | Q0 | any
inductive C where
 | lst (xs:List A) | TJ (xs:List A) | dct (ks:List (Nat × A)) | RB
noncomputable abbrev Env:=List (Option A)
structure PD where
 nx:Nat
 cs:List (Nat × C)
noncomputable def look {α:Type} (n:Nat):List (Nat × α)->Option α
 | []=>none
 | (k,a)::r=>match Nat.beq k n with
  | true=>some a
  | false=>look n r
noncomputable def put {α:Type} (n:Nat) (x:α):List (Nat × α)->List (Nat × α)
 | []=>[]
 | (k,a)::r=>match Nat.beq k n with
  | true=>(k,x)::r
  | false=>(k,a)::put n x r
variable {n:Nat}
theorem aO {α:Type} {k:Nat} {a:α} {r:List (Nat × α)}:look n ((k,a)::r)=if k=n then some a else look n r:=by
 show (match Nat.beq k n with | true=>some a | false=>look n r)=_;by_cases h:k=n
 ·rw [MF h,h,show Nat.beq n n=true from O2 n]
 ·rw [Mz h]
  cases q:Nat.beq k n with
  | true=>exact absurd (ML q) h
  | false=>rfl
theorem ik {α:Type} {k:Nat} {a x:α} {r:List (Nat × α)}:put n x ((k,a)::r)=if k=n then (k,x)::r else (k,a)::put n x r:=by
 show (match Nat.beq k n with | true=>(k,x)::r | false=>(k,a)::put n x r)=_;by_cases h:k=n
 ·rw [MF h,h,show Nat.beq n n=true from O2 n]
 ·rw [Mz h]
  cases q:Nat.beq k n with
  | true=>exact absurd (ML q) h
  | false=>rfl
theorem eG {α:Type} {x:α}:∀ {l:List (Nat × α)} {j:Nat} {c:α},look j (put n x l)=some c->(j=n/\c=x/\∃ c0,look n l=some c0)\/(j≠n/\look j l=some c)
 | [],j,c,h=>nomatch h
 | (k,a)::r,j,c,h=>by
  rw [ik] at h;by_cases e:k=n
  ·rw [MF e,aO] at h;by_cases ej:k=j
   ·rw [MF ej] at h;cases h;exact .inl ⟨by rw [<- ej,e],rfl,a,by rw [aO,MF e]⟩
   ·rw [Mz ej] at h;exact .inr ⟨λz=>ej (by rw [e,z]),by rw [aO,Mz ej];exact h⟩
  ·rw [Mz e,aO] at h;by_cases ej:k=j
   ·rw [MF ej] at h;cases h;exact .inr ⟨λz=>e (by rw [ej,z]),by rw [aO,MF ej]⟩
   ·rw [Mz ej] at h;rcases eG h with ⟨z,q,c0,q0⟩ | ⟨z,q⟩
    ·exact .inl ⟨z,q,c0,by rw [aO,Mz e];exact q0⟩
    ·exact .inr ⟨z,by rw [aO,Mz ej];exact q⟩
structure Gx where
 K:W.Frag
 ST:List Str
 nd:ST.Nodup
 cls:Nat->Addr
 tb:Nat->Addr
mutual
noncomputable def R (g:Gx) (H:Hp) (m:List Addr):A->V->Prop
 | .PJ,v=>v=.PJ
 | .bl b,v=>v=.bl b
 | .int i,v=>v=.int i
 | .str n,v=>∃ x,g.ST[n]?=some x/\v=.str x
 | .tup xs,v=>∃ a vs,v=.ref a/\Qq g.K H a vs/\Rs g H m xs vs
 | .ref i,v=>∃ a,m[i]?=some a/\v=.ref a
 | .cl xs,v=>∃ a vs,v=.ref a/\yn g.K a vs/\Rs g H m xs vs
 | .tab t,v=>v=.ref (g.tb t)
 | .RP n,v=>∃ a,v=.ref a/\H a=some (.ext (nj a n))
 | .R5 n,v=>∃ a,v=.ref a/\H a=some (.R5 0 n)
 | .Q0,v=>∃ a ns,v=.ref a/\Vk g.K H a ns
 | .any,_=>True
noncomputable def Rs (g:Gx) (H:Hp) (m:List Addr):List A->List V->Prop
 | [],vs=>vs=[]
 | x::xs,vs=>∃ v r,vs=v::r/\R g H m x v/\Rs g H m xs r
end
noncomputable def Rk (g:Gx) (H:Hp) (m:List Addr):List (Nat × A)->List (Key × V)->Prop :=
 Paired λp q=>(∃ x,g.ST[p.1]?=some x/\q.1=.inr x)/\R g H m p.2 q.2
noncomputable def UU (g:Gx) (H:Hp) (m:List Addr):C->Addr->Prop
 | .lst xs,a=>∃ vs,H a=some (.lst vs)/\Rs g H m xs vs
 | .TJ xs,a=>∃ vs,H a=some (.lst vs)/\Rs g H m xs vs
 | .dct ks,a=>∃ kvs,H a=some (.dK kvs)/\Rk g H m ks kvs
 | .RB,a=>∃ p q rest,H a=some (.lst (.int p::.int q::rest))/\0<=p
structure PN (g:Gx) (m:List Addr) (S:PD) (H:Hp):Prop where
 len:m.length=S.nx
 nd:m.Nodup
 up:∀ a ∈ m,H a≠none
 cell:∀ (i:Nat) (c:C),look i S.cs=some c->∃ a,m[i]?=some a/\UU g H m c a
noncomputable def C.Yk:C->Bool
 | .TJ _=>false
 | _=>true
noncomputable def Ud (m:List Addr) (S:PD) (a:Addr):Prop:=∃ (i:Nat) (c:C),m[i]?=some a/\look i S.cs=some c/\c.Yk=true
structure Ext (m:List Addr) (S:PD) (H:Hp) (m':List Addr) (S':PD) (H':Hp):Prop where
 pre:∃ k,m'=m++k/\∀ a ∈ k,H a=none
 low:∀ a,H' a=none->H a=none
 keep:∀ a o,¬ Ud m S a->H a=some o->H' a=some o
 bk:∀ (i:Nat) (c:C),i < m.length->look i S'.cs=some c->c.Yk=true->∃ c0,look i S.cs=some c0/\c0.Yk=true
section
variable {g:Gx} {m m' m2:List Addr} {S S' S2:PD} {H H' H2:Hp}
theorem Rs.nil:Rs g H m [] []:=by unfold Rs;rfl
variable {v:V} {xs:List A} {vs:List V}
theorem Rs.cons {x:A} (h:R g H m x v) (r:Rs g H m xs vs):Rs g H m (x::xs) (v::vs):=by unfold Rs;exact ⟨v,vs,rfl,h,r⟩
theorem Rs.Qp (h:Rs g H m [] vs):vs=[]:=by unfold Rs at h;exact h
theorem Rs.PL {x:A} (h:Rs g H m (x::xs) vs):∃ v r,vs=v::r/\R g H m x v/\Rs g H m xs r:=by unfold Rs at h;exact h
theorem R.Qv (h:R g H m .PJ v):v=.PJ:=by unfold R at h;exact h
theorem R.QL {b:Bool} (h:R g H m (.bl b) v):v=.bl b:=by unfold R at h;exact h
theorem R.PY {i:Int} (h:R g H m (.int i) v):v=.int i:=by unfold R at h;exact h
variable {n:Nat}
theorem R.Qd (h:R g H m (.str n) v):∃ x,g.ST[n]?=some x/\v=.str x:=by unfold R at h;exact h
theorem R.P8 (h:R g H m (.tup xs) v):∃ a vs,v=.ref a/\Qq g.K H a vs/\Rs g H m xs vs:=by unfold R at h;exact h
variable {i:Nat}
theorem R.RD (h:R g H m (.ref i) v):∃ a,m[i]?=some a/\v=.ref a:=by unfold R at h;exact h
theorem R.Vq (h:R g H m (.cl xs) v):∃ a vs,v=.ref a/\yn g.K a vs/\Rs g H m xs vs:=by unfold R at h;exact h
theorem R.Xw {t:Nat} (h:R g H m (.tab t) v):v=.ref (g.tb t):=by unfold R at h;exact h
theorem R.Vr (h:R g H m (.RP n) v):∃ a,v=.ref a/\H a=some (.ext (nj a n)):=by unfold R at h;exact h
theorem R.Vs (h:R g H m (.R5 n) v):∃ a,v=.ref a/\H a=some (.R5 0 n):=by unfold R at h;exact h
theorem R.Vt (h:R g H m .Q0 v):∃ a ns,v=.ref a/\Vk g.K H a ns:=by unfold R at h;exact h
theorem R.PJ:R g H m .PJ .PJ:=by unfold R;rfl
theorem R.bl (b:Bool):R g H m (.bl b) (.bl b):=by unfold R;rfl
theorem R.int (i:Int):R g H m (.int i) (.int i):=by unfold R;rfl
theorem R.str {x:Str} (h:g.ST[n]?=some x):R g H m (.str n) (.str x):=by unfold R;exact ⟨x,h,rfl⟩
variable {a:Addr}
theorem R.tup (h:Qq g.K H a vs) (r:Rs g H m xs vs):R g H m (.tup xs) (.ref a):=by unfold R;exact ⟨a,vs,rfl,h,r⟩
theorem R.ref (h:m[i]?=some a):R g H m (.ref i) (.ref a):=by unfold R;exact ⟨a,h,rfl⟩
theorem R.any:R g H m .any v:=by unfold R;exact True.intro
theorem Rs.length:∀ {xs:List A} {vs:List V},Rs g H m xs vs->vs.length=xs.length
 | [],_,h=>by rw [h.Qp];rfl
 | _::xs,_,h=>by obtain ⟨v,r,e,_,h2⟩:=h.PL;subst e;simp [Rs.length h2]
theorem Rs.get:∀ {xs:List A} {vs:List V} {i:Nat} {x:A},Rs g H m xs vs->xs[i]?=some x->∃ v,vs[i]?=some v/\R g H m x v
 | [],_,_,_,_,e=>by simp at e
 | _::xs,_,0,x,h,e=>by obtain ⟨v,r,rfl,h1,_⟩:=h.PL;simp at e;subst e;exact ⟨v,rfl,h1⟩
 | _::xs,_,i+1,x,h,e=>by obtain ⟨v,r,rfl,_,h2⟩:=h.PL;obtain ⟨u,e1,e2⟩:=Rs.get (i:=i) (x:=x) h2 (by simpa using e);exact ⟨u,by simpa using e1,e2⟩
theorem Rs.append:∀ {xs ys:List A} {vs us:List V},Rs g H m xs vs->Rs g H m ys us->Rs g H m (xs++ys) (vs++us)
 | [],_,_,_,h,k=>by rw [h.Qp];exact k
 | x::xs,_,_,_,h,k=>by obtain ⟨v,r,rfl,h1,h2⟩:=h.PL;exact .cons h1 (Rs.append h2 k)
theorem Rs.take:∀ {xs:List A} {vs:List V} (n:Nat),Rs g H m xs vs->Rs g H m (xs.take n) (vs.take n)
 | _,_,0,_=>by simp only [List.take_zero];exact .nil
 | [],_,_+1,h=>by rw [h.Qp];exact .nil
 | x::xs,_,n+1,h=>by obtain ⟨v,r,rfl,h1,h2⟩:=h.PL;exact .cons h1 (Rs.take n h2)
theorem Rs.drop:∀ {xs:List A} {vs:List V} (n:Nat),Rs g H m xs vs->Rs g H m (xs.drop n) (vs.drop n)
 | _,_,0,h=>h
 | [],_,_+1,h=>by rw [h.Qp];exact .nil
 | x::xs,_,n+1,h=>by obtain ⟨v,r,rfl,h1,h2⟩:=h.PL;exact Rs.drop n h2
theorem Rs.rev:∀ {xs:List A} {vs:List V},Rs g H m xs vs->Rs g H m xs.reverse vs.reverse
 | [],_,h=>by rw [h.Qp];exact .nil
 | x::xs,_,h=>by obtain ⟨v,r,rfl,h1,h2⟩:=h.PL;rw [List.reverse_cons,List.reverse_cons];exact (Rs.rev h2).append (.cons h1 .nil)
theorem Rs.rep {x:A} (h:R g H m x v):∀ n,Rs g H m (List.replicate n x) (List.replicate n v)
 | 0=>.nil
 | n+1=>.cons h (Rs.rep h n)
theorem Ext.refl:Ext m S H m S H:=⟨⟨[],by simp⟩,λ_ h=>h,λ_ _ _ h=>h,λ_ c _ h o=>⟨c,h,o⟩⟩
theorem dH {α:Type} {l k:List α} {a:α} (h:l[i]?=some a):(l++k)[i]?=some a:=by rw [M3 (Mk.mp h).1];exact h
variable {c:C}
theorem UU.has (h:UU g H m c a):(∃ vs,H a=some (.lst vs))\/∃ kvs,H a=some (.dK kvs):=by
 cases c with
 | lst xs=>obtain ⟨vs,e,_⟩:=h;exact .inl ⟨vs,e⟩
 | TJ xs=>obtain ⟨vs,e,_⟩:=h;exact .inl ⟨vs,e⟩
 | dct ks=>obtain ⟨vs,e,_⟩:=h;exact .inr ⟨vs,e⟩
 | RB=>obtain ⟨p,q,r,e,_⟩:=h;exact .inl ⟨_,e⟩
variable {o:HO}
theorem PN.Rb (s:PN g m S H) (h:H a=some o) (h1:∀ vs,o≠.lst vs) (h2:∀ vs,o≠.dK vs):¬ Ud m S a:=λ⟨i,c,e,e2,_⟩=>by
 obtain ⟨b,q,ok⟩:=s.cell i c e2;rw [e] at q;cases q;rcases ok.has with ⟨vs,q⟩ | ⟨vs,q⟩
 ·rw [h] at q;exact h1 vs (MB q)
 ·rw [h] at q;exact h2 vs (MB q)
theorem Ext.VX (x:Ext m S H m' S' H') (s:PN g m S H) (h:Qq g.K H a vs):Qq g.K H' a vs:=by
 rcases h with (h | ⟨o,h⟩) | h
 ·exact .inl (.inl (x.keep _ _ (s.Rb h (λ_ z=>nomatch z) λ_ z=>nomatch z) h))
 ·exact .inl (.inr ⟨o,x.keep _ _ (s.Rb h (λ_ z=>nomatch z) λ_ z=>nomatch z) h⟩)
 ·exact .inr h
mutual
theorem R.mono (x:Ext m S H m' S' H') (s:PN g m S H):∀ (a:A) {v:V},R g H m a v->R g H' m' a v
 | .PJ,v,h=>by unfold R at h ⊢;exact h
 | .bl b,v,h=>by unfold R at h ⊢;exact h
 | .int i,v,h=>by unfold R at h ⊢;exact h
 | .str n,v,h=>by unfold R at h ⊢;exact h
 | .tab t,v,h=>by unfold R at h ⊢;exact h
 | .any,v,h=>by unfold R;exact True.intro
 | .Q0,v,h=>by
  obtain ⟨a,ns,e,q⟩:=h.Vt;unfold R;refine ⟨a,ns,e,?_⟩;rcases q with ⟨o,q⟩ | q
  ·exact .inl ⟨o,x.keep _ _ (s.Rb q (λ_ z=>nomatch z) λ_ z=>nomatch z) q⟩
  ·exact .inr q
 | .tup xs,v,h=>by obtain ⟨a,vs,e,q,r⟩:=h.P8;unfold R;exact ⟨a,vs,e,x.VX s q,Rs.mono x s xs r⟩
 | .cl xs,v,h=>by obtain ⟨a,vs,e,q,r⟩:=h.Vq;unfold R;exact ⟨a,vs,e,q,Rs.mono x s xs r⟩
 | .ref i,v,h=>by obtain ⟨a,e,q⟩:=h.RD;obtain ⟨k,rfl,_⟩:=x.pre;unfold R;exact ⟨a,dH e,q⟩
 | .RP n,v,h=>by obtain ⟨a,e,q⟩:=h.Vr;unfold R;exact ⟨a,e,x.keep _ _ (s.Rb q (λ_ z=>nomatch z) λ_ z=>nomatch z) q⟩
 | .R5 n,v,h=>by obtain ⟨a,e,q⟩:=h.Vs;unfold R;exact ⟨a,e,x.keep _ _ (s.Rb q (λ_ z=>nomatch z) λ_ z=>nomatch z) q⟩
theorem Rs.mono (x:Ext m S H m' S' H') (s:PN g m S H):∀ (xs:List A) {vs:List V},Rs g H m xs vs->Rs g H' m' xs vs
 | [],vs,h=>by unfold Rs at h ⊢;exact h
 | a::xs,vs,h=>by obtain ⟨v,r,rfl,h1,h2⟩:=h.PL;exact .cons (R.mono x s a h1) (Rs.mono x s xs h2)
end
theorem Rk.mono (x:Ext m S H m' S' H') (s:PN g m S H):∀ {ks:List (Nat × A)} {kvs:List (Key × V)},Rk g H m ks kvs->Rk g H' m' ks kvs
 | _,_,.nil=>.nil
 | _,_,.cons h t=>.cons ⟨h.1,R.mono x s _ h.2⟩ (Rk.mono x s t)
theorem Ext.trans (x:Ext m S H m' S' H') (y:Ext m' S' H' m2 S2 H2):Ext m S H m2 S2 H2:=by
 obtain ⟨k,rfl,hk⟩:=x.pre;obtain ⟨j,rfl,hj⟩:=y.pre;refine ⟨⟨k++j,by simp,λa ha=>?_⟩,λa h=>x.low a (y.low a h),λa o hn h=>?_,λi c hi h o=>?_⟩
 ·rcases Nc.mp ha with h | h
  ·exact hk a h
  ·exact x.low a (hj a h)
 ·refine y.keep a o (λ⟨i,c,e,e2,ho⟩=>hn ?_) (x.keep a o hn h);by_cases hi:i < m.length
  ·rw [M3 hi] at e;obtain ⟨c0,q,q0⟩:=x.bk i c hi e2 ho;exact ⟨i,c0,e,q,q0⟩
  ·rw [M9 (by omega)] at e;rw [hk a (Ni e)] at h;cases h
 ·obtain ⟨c1,q,o1⟩:=y.bk i c (by simp;omega) h o;exact x.bk i c1 hi q o1
variable {p:Addr}
theorem Ext.new (h:H p=none) (o:HO):Ext m S H m S (upd H p o) :=
 ⟨⟨[],by simp⟩,λa e=>by
   by_cases z:a=p
   ·rw [z];exact h
   ·rw [aE z] at e;exact e,λa o' _ e=>by rw [aE (aV e h)];exact e,λ_ c _ e o=>⟨c,e,o⟩⟩
theorem UU.mono (x:Ext m S H m' S' H') (s:PN g m S H) (h:UU g H m c a) (e:∀ o,H a=some o->H' a=some o):UU g H' m' c a:=by
 cases c with
 | lst xs=>obtain ⟨vs,q,r⟩:=h;exact ⟨vs,e _ q,Rs.mono x s _ r⟩
 | TJ xs=>obtain ⟨vs,q,r⟩:=h;exact ⟨vs,e _ q,Rs.mono x s _ r⟩
 | dct ks=>obtain ⟨vs,q,r⟩:=h;exact ⟨vs,e _ q,Rk.mono x s r⟩
 | RB=>obtain ⟨p,q,r,h,z⟩:=h;exact ⟨p,q,r,e _ h,z⟩
theorem PN.new (s:PN g m S H) (h:H p=none) (o:HO):PN g m S (upd H p o) :=
 ⟨s.len,s.nd,λa ha z=>s.up a ha ((Ext.new (m:=m) (S:=S) h o).low a z),λi c e=>by
  obtain ⟨a,q,ok⟩:=s.cell i c e;exact ⟨a,q,ok.mono (Ext.new h o) s λo' q=>by rw [aE (aV q h)];exact q⟩⟩
theorem PN.alloc (s:PN g m S H) (h:H p=none) (hc:Ext m S H (m++[p]) ⟨S.nx+1,(S.nx,c)::S.cs⟩ (upd H p o)->UU g (upd H p o) (m++[p]) c p) :
  PN g (m++[p]) ⟨S.nx+1,(S.nx,c)::S.cs⟩ (upd H p o)/\Ext m S H (m++[p]) ⟨S.nx+1,(S.nx,c)::S.cs⟩ (upd H p o):=by
 have x:Ext m S H (m++[p]) ⟨S.nx+1,(S.nx,c)::S.cs⟩ (upd H p o) :=
  ⟨⟨[p],rfl,λa ha=>by rw [MS.mp ha];exact h⟩,(Ext.new (m:=m) (S:=S) h o).low,(Ext.new h o).keep,λi c' hi e oo=>by
   rw [aO,Mz (by rw [<- s.len];omega)] at e;exact ⟨c',e,oo⟩⟩
 refine ⟨⟨by simp [s.len],?_,λa ha z=>?_,λi d e=>?_⟩,x⟩
 ·rw [List.nodup_append];refine ⟨s.nd,by simp,λa ha b hb z=>?_⟩;rw [MS.mp hb] at z;exact s.up p (z ▸ ha) h
 ·rcases Nc.mp ha with q | q
  ·exact s.up a q (x.low a z)
  ·rw [MS.mp q,aF] at z;cases z
 ·rw [aO] at e;by_cases hi:S.nx=i
  ·rw [MF hi] at e;cases e;refine ⟨p,?_,hc x⟩;rw [<- hi,<- s.len];simp
  ·rw [Mz hi] at e;obtain ⟨a,q,ok⟩:=s.cell i d e;exact ⟨a,dH q,ok.mono x s λo' q=>by rw [aE (aV q h)];exact q⟩
theorem PN.uniq (s:PN g m S H) {j:Nat} (h:m[i]?=some a) (h':m[j]?=some a):i=j:=(OI (Mk.mp h).1 s.nd).mp (by rw [h,h'])
theorem PN.write {c0:C} (s:PN g m S H) (hm:m[i]?=some a) (h0:look i S.cs=some c0) (ho:c0.Yk=true)
  (hc:Ext m S H m ⟨S.nx,put i c S.cs⟩ (upd H a o)->UU g (upd H a o) m c a):PN g m ⟨S.nx,put i c S.cs⟩ (upd H a o)/\Ext m S H m ⟨S.nx,put i c S.cs⟩ (upd H a o):=by
 have x:Ext m S H m ⟨S.nx,put i c S.cs⟩ (upd H a o):=by
  refine ⟨⟨[],by simp⟩,λb e=>?_,λb u hb e=>?_,λj c' _ e oo=>?_⟩
  ·by_cases z:b=a
   ·subst z;rw [aF] at e;cases e
   ·rw [aE z] at e;exact e
  ·have z:b≠a:=λz=>hb ⟨i,c0,by rw [z];exact hm,h0,ho⟩;rw [aE z];exact e
  ·rcases eG e with ⟨z,_,_⟩ | ⟨_,q⟩
   ·rw [z];exact ⟨c0,h0,ho⟩
   ·exact ⟨c',q,oo⟩
 refine ⟨⟨s.len,s.nd,λa ha z=>s.up a ha (x.low a z),λj d e=>?_⟩,x⟩;rcases eG e with ⟨z,q,_⟩ | ⟨z,q⟩
 ·rw [z,q];exact ⟨a,hm,hc x⟩
 ·obtain ⟨b,qb,ok⟩:=s.cell j d q;refine ⟨b,qb,ok.mono x s λo' q'=>?_⟩;have zb:b≠a:=λw=>z (s.uniq (w ▸ qb) hm);rw [aE zb];exact q'
theorem PN.drop {cs:List (Nat × C)} (s:PN g m S H) (h:∀ i c,look i cs=some c->look i S.cs=some c):PN g m ⟨S.nx,cs⟩ H/\Ext m S H m ⟨S.nx,cs⟩ H :=
 ⟨⟨s.len,s.nd,s.up,λi c e=>s.cell i c (h i c e)⟩,⟨⟨[],by simp⟩,λ_ h=>h,λ_ _ _ h=>h,λi c _ e o=>⟨c,h i c e,o⟩⟩⟩
end
inductive Res (α:Type) where
 | ok (a:α) (S:PD) | exc (c:Nat) (S:PD) | bad
noncomputable def Res.b {α β:Type} (r:Res α) (f:α->PD->Res β):Res β:=match r with
 | .ok a S=>f a S
 | .exc c S=>.exc c S
 | .bad=>.bad
inductive Fl where
 | nx (ρ:Env) | bk (ρ:Env) | ct (ρ:Env) | rt (a:A)
inductive XR where
 | ok (f:Fl) (S:PD) | exc (c:Nat) (ρ:Env) (S:PD) | bad
noncomputable def Res.x {α:Type} (r:Res α) (ρ:Env) (f:α->PD->XR):XR:=match r with
 | .ok a S=>f a S
 | .exc c S=>.exc c ρ S
 | .bad=>.bad
noncomputable def fl {α:Type} {β:Type}:List α->(List α->β)->β
 | [],k=>k []
 | x::xs,k=>fl xs λys=>k (x::ys)
theorem bW {α β:Type}:∀ (l:List α) (k:List α->β),fl l k=k l
 | [],k=>rfl
 | x::xs,k=>by show fl xs (λys=>k (x::ys))=_;rw [bW xs]
noncomputable def fn {β:Type}:Nat->(Nat->β)->β
 | 0,k=>k 0
 | n+1,k=>k (n+1)
theorem wg {β:Type} (n:Nat) (k:Nat->β):fn n k=k n:=by cases n <;> rfl
noncomputable def fi {β:Type}:Int->(Int->β)->β
 | .ofNat n,k=>fn n λn=>k (.ofNat n)
 | .negSucc n,k=>fn n λn=>k (.negSucc n)
theorem Ag {β:Type} (i:Int) (k:Int->β):fi i k=k i:=by cases i <;> exact wg _ _
noncomputable def Wn:Int->Int->Bool
 | .ofNat a,.ofNat b=>Nat.beq a b
 | .negSucc a,.negSucc b=>Nat.beq a b
 | _,_=>false
noncomputable def WV:Int->Int->Bool
 | .ofNat a,.ofNat b=>Nat.ble a b
 | .negSucc a,.negSucc b=>Nat.ble b a
 | .negSucc _,.ofNat _=>true
 | .ofNat _,.negSucc _=>false
noncomputable def Y8:Bool->Int
 | true=>.ofNat 1
 | false=>.ofNat 0
noncomputable def nb:Bool->Bool
 | true=>false
 | false=>true
noncomputable def AO:Bool->Bool->Bool
 | true,b=>b
 | false,b=>nb b
mutual
noncomputable def Td:A->A->Bool
 | .PJ,.PJ=>true
 | .bl a,.bl b=>AO a b
 | .int a,.int b=>Wn a b
 | .bl a,.int b=>Wn (Y8 a) b
 | .int a,.bl b=>Wn a (Y8 b)
 | .str a,.str b=>Nat.beq a b
 | .tup a,.tup b=>Ue a b
 | _,_=>false
noncomputable def Ue:List A->List A->Bool
 | [],[]=>true
 | a::r,b::q=>match Td a b with
  | true=>Ue r q
  | false=>false
 | _,_=>false
end
mutual
noncomputable def TY:Nat->A->Bool
 | _,.PJ=>true
 | _,.bl _=>true
 | _,.int _=>true
 | _,.str _=>true
 | n+1,.tup xs=>Sm n xs
 | _,_=>false
noncomputable def Sm:Nat->List A->Bool
 | _,[]=>true
 | n,x::xs=>match TY n x with
  | true=>Sm n xs
  | false=>false
end
noncomputable def few {α:Type}:Nat->List α->Bool
 | _,[]=>true
 | 0,_::_=>false
 | n+1,_::xs=>few n xs
noncomputable def Ug (S:PD) (i:Nat):Option (List A):=match look i S.cs with
 | some (.lst xs)=>some xs
 | some (.TJ xs)=>some xs
 | _=>none
noncomputable def Q6 (S:PD):A->Option (List A)
 | .ref i=>Ug S i
 | .cl xs=>some xs
 | .tup xs=>some xs
 | _=>none
noncomputable def PV (S:PD):A->Option (List A)
 | .ref i=>Ug S i
 | .cl xs=>some xs
 | _=>none
noncomputable def WJ:List A->Bool
 | []=>false
 | _::_=>true
noncomputable def Vu (S:PD):A->Option Bool
 | .PJ=>some false
 | .bl b=>some b
 | .int i=>some (nb (Wn i (.ofNat 0)))
 | a=>match Q6 S a with
  | some xs=>some (WJ xs)
  | none=>none
noncomputable def VS {α:Type} (xs:List α):Int->Option α
 | .ofNat n=>xs[n]?
 | .negSucc n=>match Nat.ble (n+1) xs.length with
  | true=>xs[xs.length - (n+1)]?
  | false=>none
noncomputable def allB:List A->Option Bool
 | []=>some true
 | .bl b::r=>match allB r with
  | some c=>some (match b with | true=>c | false=>false)
  | none=>none
 | _=>none
noncomputable def anyB:List A->Option Bool
 | []=>some false
 | .bl b::r=>match anyB r with
  | some c=>some (match b with | true=>true | false=>c)
  | none=>none
 | _=>none
noncomputable def TN:List A->Option Int
 | []=>some (.ofNat 0)
 | .int i::r=>match TN r with
  | some j=>some (i+j)
  | none=>none
 | _=>none
noncomputable def yY (x:A):List A->Bool
 | []=>false
 | y::r=>match Td y x with
  | true=>true
  | false=>yY x r
noncomputable def Uh (x:A):List A->Nat->Option Nat
 | [],_=>none
 | y::r,k=>match Td y x with
  | true=>some k
  | false=>Uh x r (k+1)
noncomputable def strsOf:List A->Option (List Nat)
 | []=>some []
 | .str n::r=>match strsOf r with
  | some l=>some (n::l)
  | none=>none
 | _=>none
noncomputable def cL (n:Nat):List Nat->Bool
 | []=>false
 | k::r=>match Nat.beq k n with
  | true=>true
  | false=>cL n r
noncomputable def sy:List Nat->List Nat->List Nat
 | acc,[]=>acc
 | acc,n::r=>match cL n acc with
  | true=>sy acc r
  | false=>sy (acc++[n]) r
noncomputable def Rc:Nat->Nat->List A
 | _,0=>[]
 | k,n+1=>.int (.ofNat k)::Rc (k+1) n
noncomputable def ob {α:Type} (o:Option α) (S:PD):Res α:=match o with
 | some a=>.ok a S
 | none=>.bad
noncomputable def bA (o:Option Bool) (S:PD):Res A:=match o with
 | some true=>.ok (.bl true) S
 | some false=>.ok (.bl false) S
 | none=>.bad
noncomputable def mk (c:C) (S:PD):Res A:=match S with
 | ⟨n,cs⟩=>fn n λn=>.ok (.ref n) ⟨n+1,(n,c)::cs⟩
theorem oH (c:C) (S:PD):mk c S=.ok (.ref S.nx) ⟨S.nx+1,(S.nx,c)::S.cs⟩:=by cases S;exact wg _ _
noncomputable def new (xs:List A) (S:PD):Res A:=match few 900 xs with
 | true=>fl xs λxs=>mk (.lst xs) S
 | false=>.bad
noncomputable def kN (xs:List A) (S:PD):Res A:=match few 900 xs with
 | true=>fl xs λxs=>.ok (.tup xs) S
 | false=>.bad
noncomputable def j7 (i:Int) (S:PD):Res A:=fi i λi=>.ok (.int i) S
noncomputable def wr {α:Type} (i:Nat) (c:C) (S:PD) (k:PD->α):α:=match S with
 | ⟨n,cs⟩=>fl (put i c cs) λcs=>k ⟨n,cs⟩
theorem ph {α:Type} (i:Nat) (c:C) (S:PD) (k:PD->α):wr i c S k=k ⟨S.nx,put i c S.cs⟩:=by cases S;exact bW _ _
noncomputable def yc (a:A) (S:PD):Res A:=match a with
 | .int i=>j7 (-i) S
 | _=>.bad
noncomputable def cB (a:A) (S:PD):Res A:=match Q6 S a with
 | some xs=>j7 (.ofNat xs.length) S
 | none=>.bad
noncomputable def ya (a:A) (S:PD):Res A:=match a with
 | .RP n=>match Nat.ble n 900 with
  | true=>j7 (.ofNat n) S
  | false=>.bad
 | _=>.bad
noncomputable def nv (a:A) (S:PD):Res A:=match PV S a with
 | some xs=>bA (allB xs) S
 | none=>.bad
noncomputable def C5 (a:A) (S:PD):Res A:=match PV S a with
 | some xs=>bA (anyB xs) S
 | none=>.bad
noncomputable def C8 (a:A) (S:PD):Res A:=match PV S a with
 | some xs=>match TN xs with
  | some i=>j7 i S
  | none=>.bad
 | none=>.bad
noncomputable def ny (a:A) (S:PD):Res A:=match Q6 S a with
 | some xs=>.ok (.tup xs) S
 | none=>.bad
noncomputable def yb (a:A) (S:PD):Res A:=match Q6 S a with
 | some xs=>new xs S
 | none=>.bad
noncomputable def AJ (a:A) (S:PD):Res A:=match a with
 | .R5 n=>new (Rc 0 n) S
 | _=>.bad
noncomputable def C7 (a:A) (S:PD):Res A:=match PV S a with
 | some xs=>match few 90 xs,strsOf xs with
  | true,some l=>fn (sy [] l).length λn=>.ok (.RP n) S
  | _,_=>.bad
 | none=>.bad
noncomputable def C6 (a:A) (S:PD):Res A:=match a with
 | .int (.ofNat n)=>match Nat.ble n 900 with
  | true=>.ok (.R5 n) S
  | false=>.bad
 | _=>.bad
noncomputable def WW (S:PD):A->Option Nat
 | .PJ=>some 0
 | .bl _=>some 1
 | .int _=>some 2
 | .str _=>some 3
 | .tup _=>some 4
 | .cl _=>some 5
 | .ref i=>match Ug S i with
  | some _=>some 5
  | none=>none
 | _=>none
noncomputable def Xx (t k:Nat):Bool:=match Nat.beq t k with
 | true=>true
 | false=>match k with
  | 1=>Nat.beq t 2
  | _=>false
noncomputable def UW (t:Nat) (a:A) (S:PD):Res A:=match WW S a with
 | some k=>bA (some (Xx t k)) S
 | none=>.bad
noncomputable def sk (f:Int->Int->Bool) (a b:A) (S:PD):Res A:=match a,b with
 | .int i,.int j=>bA (some (f i j)) S
 | _,_=>.bad
noncomputable def Wo (S:PD) (a b:A):Option Bool:=match PV S a with
 | some xs=>match PV S b with
  | some ys=>match Sm 20 xs,Sm 20 ys with
   | true,true=>some (Ue xs ys)
   | _,_=>none
  | none=>none
 | none=>match TY 20 a,TY 20 b with
  | true,true=>some (Td a b)
  | _,_=>none
noncomputable def V1 (ks:List (Nat × A)) (a:A):Option Bool:=match a with
 | .str n=>match look n ks with
  | some _=>some true
  | none=>some false
 | _=>none
noncomputable def Wq (a b:A):Option Bool:=match a,b with
 | .str n,.tup xs=>match strsOf xs with
  | some l=>some (cL n l)
  | none=>none
 | _,_=>none
noncomputable def Wr (S:PD) (a b:A):Option Bool:=match PV S b with
 | some xs=>match TY 20 a,Sm 20 xs with
  | true,true=>some (yY a xs)
  | _,_=>none
 | none=>none
noncomputable def nO:Option Bool->Option Bool
 | some b=>some (nb b)
 | none=>none
noncomputable def TQ {α:Type} (xs:List α):Nat->List α
 | 0=>[]
 | n+1=>xs++TQ xs n
noncomputable def c9 (a b:A) (S:PD):Res A:=match a with
 | .int i=>match b with
  | .int j=>j7 (i+j) S
  | _=>.bad
 | .tup xs=>match b with
  | .tup ys=>kN (xs++ys) S
  | _=>.bad
 | a=>match PV S a with
  | some xs=>match PV S b with
   | some ys=>new (xs++ys) S
   | none=>.bad
  | none=>.bad
noncomputable def wR (a b:A) (S:PD):Res A:=match a,b with
 | .int i,.int j=>j7 (i - j) S
 | _,_=>.bad
noncomputable def hX (a b:A) (S:PD):Res A:=match a with
 | .ref i=>match b with
  | .int (.ofNat n)=>match look i S.cs with
   | some (.lst xs)=>match Nat.ble n 900 with
    | true=>new (TQ xs n) S
    | false=>.bad
   | _=>.bad
  | _=>.bad
 | _=>.bad
noncomputable def Ap (a b:A) (S:PD):Res A:=match a with
 | .tup [x]=>match b with
  | .int (.ofNat (n+2))=>kN (List.replicate (n+2) x) S
  | _=>.bad
 | _=>.bad
noncomputable def y0 (a b:A) (S:PD):Res A:=match a with
 | .int i=>match b with
  | .int (.ofNat (n+1))=>j7 (i % (.ofNat (n+1))) S
  | _=>.bad
 | _=>.bad
noncomputable def wQ (a b:A) (S:PD):Res A:=match a with
 | .int i=>match b with
  | .int (.ofNat (n+1))=>match Nat.ble n 100000 with
   | true=>j7 (i / (.ofNat (n+1))) S
   | false=>.bad
  | _=>.bad
 | _=>.bad
noncomputable def oEq (a b:A) (S:PD):Res A:=bA (Wo S a b) S
noncomputable def Tn (a b:A) (S:PD):Res A:=bA (nO (Wo S a b)) S
noncomputable def oLt (a b:A) (S:PD):Res A:=sk (λi j=>nb (WV j i)) a b S
noncomputable def oLe (a b:A) (S:PD):Res A:=sk WV a b S
noncomputable def Ws (a b:A) (S:PD):Res A:=sk (λi j=>nb (WV i j)) a b S
noncomputable def Y9 (a b:A) (S:PD):Res A:=sk (λi j=>WV j i) a b S
noncomputable def Ai:A->Option Bool
 | .PJ=>some true
 | .any=>none
 | _=>some false
noncomputable def uG (a:A) (S:PD):Res A:=bA (Ai a) S
noncomputable def rT (a:A) (S:PD):Res A:=bA (nO (Ai a)) S
noncomputable def Am (a b:A) (S:PD):Res A:=match a,b with
 | .bl x,.bl y=>bA (some (nb (AO x y))) S
 | _,_=>.bad
noncomputable def Za (a b:A) (S:PD):Res A:=bA (Wr S a b) S
noncomputable def Ej (a b:A) (S:PD):Res A:=bA (nO (Wr S a b)) S
noncomputable def Ei (a b:A) (S:PD):Res A:=bA (Wq a b) S
noncomputable def Ao (a b:A) (S:PD):Res A:=bA (nO (Wq a b)) S
noncomputable def Qc (a b:A) (S:PD):Res A:=match b with
 | .int i=>match Q6 S a with
  | some xs=>ob (VS xs i) S
  | none=>.bad
 | _=>.bad
noncomputable def uf (a b:A) (S:PD):Res A:=match a with
 | .ref r=>match b with
  | .str n=>match look r S.cs with
   | some (.dct ks)=>ob (look n ks) S
   | _=>.bad
  | _=>.bad
 | _=>.bad
noncomputable def Rf (n:Nat):A->Option Nat
 | .int (.ofNat i)=>some (match Nat.ble i n with | true=>i | false=>n)
 | _=>none
noncomputable def qG (a lo:A) (S:PD):Res A:=match a with
 | .tup xs=>match Rf xs.length lo with
  | some l=>kN (xs.drop l) S
  | none=>.bad
 | _=>.bad
noncomputable def EN (a lo hi:A) (S:PD):Res A:=match a with
 | .tup xs=>match Rf xs.length lo,Rf xs.length hi with
  | some l,some h=>kN ((xs.drop l).take (h - l)) S
  | _,_=>.bad
 | _=>.bad
noncomputable def C0 (a lo:A) (S:PD):Res A:=match PV S a with
 | some xs=>match Rf xs.length lo with
  | some l=>new (xs.drop l) S
  | none=>.bad
 | none=>.bad
noncomputable def CZ (a hi:A) (S:PD):Res A:=match PV S a with
 | some xs=>match Rf xs.length hi with
  | some h=>new (xs.take h) S
  | none=>.bad
 | none=>.bad
noncomputable def kX (o a:A) (S:PD):Res A:=match o with
 | .ref i=>match look i S.cs with
  | some (.lst xs)=>match few 900 xs with
   | true=>fl (xs++[a]) λzs=>wr i (.lst zs) S λS=>.ok .PJ S
   | false=>.bad
  | _=>.bad
 | _=>.bad
noncomputable def dQ (o a:A) (S:PD):Res A:=match o with
 | .ref i=>match a with
  | .ref j=>match look i S.cs with
   | some (.lst xs)=>match look j S.cs with
    | some (.lst ys)=>match few 900 (xs++ys) with
     | true=>fl (xs++ys) λzs=>wr i (.lst zs) S λS=>.ok .PJ S
     | false=>.bad
    | _=>.bad
   | _=>.bad
  | _=>.bad
 | _=>.bad
noncomputable def wJ (o:A) (S:PD):Res A:=match o with
 | .ref i=>match look i S.cs with
  | some (.lst xs)=>match xs[xs.length - 1]? with
   | some y=>fl xs.dropLast λzs=>wr i (.lst zs) S λS=>.ok y S
   | none=>.bad
  | _=>.bad
 | _=>.bad
noncomputable def yX (o a:A) (S:PD):Res A:=match PV S o with
 | some xs=>match few 900 xs,TY 20 a,Sm 20 xs with
  | true,true,true=>match Uh a xs 0 with
   | some k=>j7 (.ofNat k) S
   | none=>.bad
  | _,_,_=>.bad
 | none=>.bad
noncomputable def zip2:List A->List A->List A
 | x::xs,y::ys=>.tup [x,y]::zip2 xs ys
 | _,_=>[]
noncomputable def R8:List A->List A->List A->List A
 | x::xs,y::ys,z::zs=>.tup [x,y,z]::R8 xs ys zs
 | _,_,_=>[]
noncomputable def Sz:Nat->List A->List A
 | _,[]=>[]
 | k,x::xs=>.tup [.int (.ofNat k),x]::Sz (k+1) xs
noncomputable def wH {α:Type} (a:A) (S:PD) (k:PD->α):α:=match a with
 | .ref i=>match look i S.cs with
  | some (.lst xs)=>wr i (.TJ xs) S k
  | _=>k S
 | _=>k S
noncomputable def uR {α:Type} (S0:PD) (a:A) (S:PD) (k:PD->α):α:=match a with
 | .ref i=>match look i S0.cs with
  | some (.lst xs)=>wr i (.lst xs) S k
  | _=>k S
 | _=>k S
noncomputable def iI {α:Type}:List A->PD->(PD->α)->α
 | [],S,k=>k S
 | a::r,S,k=>wH a S λS=>iI r S k
noncomputable def cJ {α:Type} (S0:PD):List A->PD->(PD->α)->α
 | [],S,k=>k S
 | a::r,S,k=>uR S0 a S λS=>cJ S0 r S k
noncomputable def XR.back (S0:PD) (ls:List A):XR->XR
 | .ok f S=>cJ S0 ls S λS=>.ok f S
 | .exc c ρ S=>cJ S0 ls S λS=>.exc c ρ S
 | .bad=>.bad
noncomputable def Res.back {α:Type} (S0:PD) (ls:List A):Res α->Res α
 | .ok a S=>cJ S0 ls S λS=>.ok a S
 | .exc c S=>cJ S0 ls S λS=>.exc c S
 | .bad=>.bad
noncomputable abbrev Ce:=Env->PD->Res A
noncomputable abbrev Ct:=Env->PD->Res Bool
noncomputable abbrev Ca:=Env->PD->Res (List A)
noncomputable abbrev Ci:=Env->PD->Res (List A × List A)
noncomputable abbrev Cs:=Env->PD->XR
noncomputable abbrev SD:=A->Env->Option Env
noncomputable def cV (i:Nat):Ce:=λρ S=>match ρ[i]? with
 | some (some a)=>.ok a S
 | _=>.bad
noncomputable def cC (a:A):Ce:=λ_ S=>.ok a S
noncomputable def aN:Ca:=λ_ S=>.ok [] S
noncomputable def aC (e:Ce) (r:Ca):Ca:=λρ S=>(e ρ S).b λx S=>(r ρ S).b λxs S=>.ok (x::xs) S
noncomputable def av (es:Ca):Ce:=λρ S=>(es ρ S).b λxs S=>kN xs S
noncomputable def a8 (es:Ca):Ce:=λρ S=>(es ρ S).b λxs S=>new xs S
noncomputable def cU (u:A->PD->Res A) (e:Ce):Ce:=λρ S=>(e ρ S).b u
noncomputable def cO (o:A->A->PD->Res A) (a b:Ce):Ce:=λρ S=>(a ρ S).b λx S=>(b ρ S).b λy S=>o x y S
noncomputable def cNt (a:Ce):Ce:=λρ S=>(a ρ S).b λx S=>match x with
 | .bl k=>bA (some (nb k)) S
 | _=>.bad
noncomputable def Vv (a b:Ce):Ce:=λρ S=>(a ρ S).b λx S=>match x with
 | .bl true=>b ρ S
 | .bl false=>.ok (.bl false) S
 | _=>.bad
noncomputable def Yl (a b:Ce):Ce:=λρ S=>(a ρ S).b λx S=>match x with
 | .bl true=>.ok (.bl true) S
 | .bl false=>b ρ S
 | _=>.bad
noncomputable def Zb (c:Ct) (a b:Ce):Ce:=λρ S=>(c ρ S).b λk S=>match k with
 | true=>a ρ S
 | false=>b ρ S
noncomputable def WX (a b c:Ce):Ce:=λρ S=>(a ρ S).b λx S=>(b ρ S).b λy S=>(oLe x y S).b λz S=>match z with
 | .bl true=>(c ρ S).b λw S=>oLe y w S
 | .bl false=>.ok (.bl false) S
 | _=>.bad
noncomputable def cSl (e lo hi:Ce):Ce:=λρ S=>(e ρ S).b λx S=>(lo ρ S).b λl S=>match l with
 | .int (.ofNat i)=>(hi ρ S).b λh S=>EN x (.int (.ofNat i)) h S
 | _=>.bad
noncomputable def au (f:List A->PD->Res A) (es:Ca):Ce:=λρ S=>(es ρ S).b f
noncomputable def vg (fs:List (List A->PD->Res A)) (i:Ce) (es:Ca):Ce:=λρ S=>(i ρ S).b λx S=>match x with
 | .int k=>match VS fs k with
  | some f=>(es ρ S).b f
  | none=>.bad
 | _=>.bad
noncomputable def rY (ks:List (Nat × A)) (a:Ce):Ce:=λρ S=>(a ρ S).b λx S=>bA (V1 ks x) S
noncomputable def Ad (ks:List (Nat × A)) (a:Ce):Ce:=λρ S=>(a ρ S).b λx S=>bA (nO (V1 ks x)) S
noncomputable def yq (ks:List (Nat × A)) (a:Ce):Ce:=λρ S=>(a ρ S).b λx S=>match x with
 | .str n=>ob (look n ks) S
 | _=>.bad
noncomputable def Ac (ks:List (Nat × A)) (a:Ce) (i:Int):Ce:=λρ S=>(a ρ S).b λx S=>match x with
 | .str n=>match look n ks with
  | some (.int j)=>.ok (.int j) S
  | some _=>.bad
  | none=>.ok (.int i) S
 | _=>.bad
noncomputable def cM (f:A->A->PD->Res A) (o e:Ce):Ce:=λρ S=>(o ρ S).b λx S=>match PV S x with
 | some _=>(e ρ S).b λy S=>f x y S
 | none=>.bad
noncomputable def Dp (ks:List Nat) (es:Ca):Ce:=λρ S=>(es ρ S).b λxs S=>fl (ks.zip xs) λl=>mk (.dct l) S
noncomputable def Qk (own:Nat) (fr:List Nat) (ρ:Env):Env:=List.replicate own none++fr.map λj=>(ρ[j]?).getD none
noncomputable def TR (tg:SD) (Uv:Ct) (elt:Ce):List A->Env->List A->PD->Res (List A)
 | [],_,ys,S=>.ok ys S
 | x::xs,ρ,ys,S=>match tg x ρ with
  | none=>.bad
  | some ρ=>(Uv ρ S).b λk S=>match k with
   | true=>(elt ρ S).b λy S=>fl (ys++[y]) λys=>TR tg Uv elt xs ρ ys S
   | false=>TR tg Uv elt xs ρ ys S
noncomputable def Res.UK {α:Type}:Res α->Res α
 | .exc _ _=>.bad
 | r=>r
noncomputable def bV (it:Ci) (own:Nat) (fr:List Nat) (tg:SD) (Uv:Ct) (elt:Ce):Ce:=λρ S=>(it ρ S).b λp S =>
 match few 900 p.1 with
 | true=>fl (Qk own fr ρ) λσ=>((iI p.2 S λL=>(TR tg Uv elt p.1 σ [] L).UK).back S p.2).b λys S=>new ys S
 | false=>.bad
noncomputable def ml (it:Ci) (own:Nat) (fr:List Nat) (tg:SD) (Uv:Ct) (elt:Ce):Ce:=λρ S=>(it ρ S).b λp S =>
 match few 900 p.1 with
 | true=>fl (Qk own fr ρ) λσ=>((iI p.2 S λL=>TR tg Uv elt p.1 σ [] L).back S p.2).b λys S=>new ys S
 | false=>.bad
noncomputable def tV (e:Ce):Ct:=λρ S=>(e ρ S).b λx S=>ob (Vu S x) S
noncomputable def tT:Ct:=λ_ S=>.ok true S
noncomputable def RG (a:Ct):Ct:=λρ S=>(a ρ S).b λk S=>.ok (nb k) S
noncomputable def Su (a b:Ct):Ct:=λρ S=>(a ρ S).b λk S=>match k with
 | true=>.ok true S
 | false=>b ρ S
noncomputable def iL (e:Ce):Ci:=λρ S=>(e ρ S).b λx S=>match PV S x with
 | some xs=>.ok (xs,[x]) S
 | none=>.bad
noncomputable def iT (e:Ce):Ci:=λρ S=>(e ρ S).b λx S=>match x with
 | .tup xs=>.ok (xs,[]) S
 | _=>.bad
noncomputable def yL (e:Ce):Ci:=λρ S=>(e ρ S).b λx S=>match PV S x with
 | some xs=>fl xs.reverse λys=>.ok (ys,[x]) S
 | none=>.bad
noncomputable def D3 (e:Ce):Ci:=λρ S=>(e ρ S).b λx S=>match PV S x with
 | some xs=>fl (Sz 0 xs) λys=>.ok (ys,[x]) S
 | none=>.bad
noncomputable def yM (a b:Ce):Ci:=λρ S=>(a ρ S).b λx S=>(b ρ S).b λy S=>match x,y with
 | .tup xs,.tup ys=>match Nat.beq xs.length ys.length with
  | true=>fl (zip2 xs ys) λzs=>.ok (zs,[]) S
  | false=>.bad
 | _,_=>.bad
noncomputable def qZ (a b c:Ce):Ci:=λρ S=>(a ρ S).b λx S=>(b ρ S).b λy S=>(c ρ S).b λz S=>match PV S x,PV S y,PV S z with
 | some xs,some ys,some zs=>match Nat.beq xs.length ys.length,Nat.beq xs.length zs.length with
  | true,true=>fl (R8 xs ys zs) λws=>.ok (ws,[x,y,z]) S
  | _,_=>.bad
 | _,_,_=>.bad
noncomputable def tZ (e:Ce):Ci:=λρ S=>(e ρ S).b λx S=>match x with
 | .int (.ofNat n)=>match Nat.ble n 900 with
  | true=>fl (Rc 0 n) λys=>.ok (ys,[]) S
  | false=>.bad
 | _=>.bad
noncomputable def VP (ks:List (Nat × A)):Ci:=λ_ S=>.ok (ks.map (λp=>.str p.1),[]) S
noncomputable def gN (i:Nat):SD:=λa ρ=>fl (ρ.set i (some a)) some
noncomputable def TU:List SD->List A->Env->Option Env
 | [],[],ρ=>some ρ
 | t::ts,x::xs,ρ=>match t x ρ with
  | some ρ'=>TU ts xs ρ'
  | none=>none
 | _,_,_=>none
noncomputable def gT (ts:List SD):SD:=λa ρ=>match a with
 | .tup xs=>TU ts xs ρ
 | _=>none
noncomputable def bF (i:Nat) (e:Ce):Cs:=λρ S=>(e ρ S).x ρ λx S=>fl (ρ.set i (some x)) λρ=>.ok (.nx ρ) S
noncomputable def iU (tg:SD) (e:Ce):Cs:=λρ S=>(e ρ S).x ρ λx S=>match tg x ρ with
 | some ρ=>.ok (.nx ρ) S
 | none=>.bad
noncomputable def EM (tg:List SD) (e:Ce):Cs:=λρ S=>(e ρ S).x ρ λx S=>match PV S x with
 | some xs=>match TU tg xs ρ with
  | some ρ=>.ok (.nx ρ) S
  | none=>.bad
 | none=>.bad
noncomputable def EL (tg:List SD) (es:Ca):Cs:=λρ S=>(es ρ S).x ρ λxs S=>match TU tg xs ρ with
 | some ρ=>.ok (.nx ρ) S
 | none=>.bad
noncomputable def xP (i:Nat) (e:Ce):Cs:=λρ S=>match ρ[i]? with
 | some (some (.int a))=>(e ρ S).x ρ λx S=>match x with
  | .int b=>fi (a+b) λc=>fl (ρ.set i (some (.int c))) λρ=>.ok (.nx ρ) S
  | _=>.bad
 | _=>.bad
noncomputable def QB (e:Ce):Cs:=λρ S=>(e ρ S).x ρ λ_ S=>.ok (.nx ρ) S
noncomputable def aQ (e:Ce):Cs:=λρ S=>(e ρ S).x ρ λx S=>.ok (.rt x) S
noncomputable def Qi (c:Ct) (a b:Cs):Cs:=λρ S=>(c ρ S).x ρ λk S=>match k with
 | true=>a ρ S
 | false=>b ρ S
noncomputable def lp (tg:SD) (b:Cs):List A->Env->PD->XR
 | [],ρ,S=>.ok (.nx ρ) S
 | x::xs,ρ,S=>match tg x ρ with
  | none=>.bad
  | some ρ=>match b ρ S with
   | .ok (.nx ρ) S=>lp tg b xs ρ S
   | .ok (.ct ρ) S=>lp tg b xs ρ S
   | .ok (.bk ρ) S=>.ok (.nx ρ) S
   | x=>x
noncomputable def iR (it:Ci) (tg:SD) (b:Cs):Cs:=λρ S=>(it ρ S).x ρ λp S=>(iI p.2 S λL=>lp tg b p.1 ρ L).back S p.2
noncomputable def wl (c:Ct) (b:Cs):Nat->Env->PD->XR
 | 0,_,_=>.bad
 | n+1,ρ,S=>(c ρ S).x ρ λk S=>match k with
  | false=>.ok (.nx ρ) S
  | true=>match b ρ S with
   | .ok (.nx ρ) S=>wl c b n ρ S
   | .ok (.ct ρ) S=>wl c b n ρ S
   | .ok (.bk ρ) S=>.ok (.nx ρ) S
   | x=>x
noncomputable def CW (c:Ct) (b:Cs):Cs:=wl c b 90
noncomputable def iS (c:Nat) (es:Ca):Cs:=λρ S=>(es ρ S).x ρ λxs S=>match few 9 xs with
 | true=>.exc c ρ S
 | false=>.bad
noncomputable def nh (c:Nat) (e:Ce):Cs:=λρ S=>(e ρ S).x ρ λ_ S=>.exc c ρ S
noncomputable def XR.UK:XR->XR
 | .exc _ _ _=>.bad
 | r=>r
noncomputable def zV (b:Cs) (cs:List Nat) (h:Cs):Cs:=λρ S=>match b ρ S with
 | .exc c ρ S=>match cL c cs with
  | true=>(h ρ S).UK
  | false=>.bad
 | x=>x
noncomputable def Zc:Cs:=λρ S=>.ok (.ct ρ) S
noncomputable def Qf:Cs:=λρ S=>.ok (.nx ρ) S
noncomputable def sq (s l:Cs):Cs:=λρ S=>match s ρ S with
 | .ok (.nx ρ) S=>l ρ S
 | x=>x
noncomputable def done:XR->Res A
 | .ok (.nx _) S=>.ok .PJ S
 | .ok (.rt a) S=>.ok a S
 | .exc c _ S=>.exc c S
 | _=>.bad
noncomputable def Ec:A->Bool
 | .ref _=>true
 | _=>false
noncomputable def jP:List A->Bool
 | []=>false
 | a::r=>match Ec a with
  | true=>true
  | false=>jP r
noncomputable def old (n:Nat):List (Nat × C)->List (Nat × C)
 | []=>[]
 | (i,c)::r=>match Nat.ble n i with
  | true=>old n r
  | false=>(i,c)::old n r
noncomputable def qL {α:Type} (n:Nat) (a:A) (S:PD) (k:PD->α):α:=match a with
 | .ref i=>match Nat.ble n i with
  | true=>match look i S.cs with
   | some (.lst xs)=>match jP xs with
    | false=>fl (old n S.cs) λcs=>k ⟨S.nx,(i,.lst xs)::cs⟩
    | true=>k S
   | _=>k S
  | false=>fl (old n S.cs) λcs=>k ⟨S.nx,cs⟩
 | .tup xs=>match jP xs with
  | false=>fl (old n S.cs) λcs=>k ⟨S.nx,cs⟩
  | true=>k S
 | .any=>k S
 | _=>fl (old n S.cs) λcs=>k ⟨S.nx,cs⟩
noncomputable def leave (n:Nat):Res A->Res A
 | .ok a S=>qL n a S λS=>.ok a S
 | .exc c S=>qL n .PJ S λS=>.exc c S
 | .bad=>.bad
noncomputable def bE (ar many:Nat) (body:Cs) (as:List A) (S:PD):Res A:=match Nat.beq as.length ar with
 | true=>fl (as.map some++List.replicate (many - as.length) none) λρ=>leave S.nx (done (body ρ S))
 | false=>.bad
noncomputable def Out {α:Type} (g:Gx) (m:List Addr) (S:PD) (H:Hp) (r:Res α) (P:α->List Addr->PD->Hp->Prop) (E:XK):Prop:=match r with
 | .ok a S'=>∀ m' H',Ext m S H m' S' H'->PN g m' S' H'->P a m' S' H'
 | .exc c S'=>∀ m' H' dx,Ext m S H m' S' H'->PN g m' S' H'->E (.ref (g.cls c)) dx H'
 | .bad=>False
section
variable {α β:Type} {g:Gx} {m m1:List Addr} {S S1:PD} {H H1:Hp} {r:Res α} {P P':α->List Addr->PD->Hp->Prop} {E:XK}
theorem Out.ext (x:Ext m S H m1 S1 H1) (h:Out g m S H r P E):Out g m1 S1 H1 r P E:=by
 cases r with
 | ok a S'=>exact λm' H' y s=>h m' H' (x.trans y) s
 | exc c S'=>exact λm' H' dx y s=>h m' H' dx (x.trans y) s
 | bad=>exact h
theorem Out.bind {f:α->PD->Res β} {P:β->List Addr->PD->Hp->Prop} (h:Out g m S H (r.b f) P E):Out g m S H r (λa m1 S1 H1=>Out g m1 S1 H1 (f a S1) P E) E:=by
 cases r with
 | ok a S'=>exact λm' H' y s=>Out.ext y h
 | exc c S'=>exact h
 | bad=>exact h
theorem Out.mono (h:Out g m S H r P E) (k:∀ a m' S' H',Ext m S H m' S' H'->PN g m' S' H'->P a m' S' H'->P' a m' S' H'):Out g m S H r P' E:=by
 cases r with
 | ok a S'=>exact λm' H' y s=>k a m' S' H' y s (h m' H' y s)
 | exc c S'=>exact h
 | bad=>exact h
theorem Out.ret {a:α} (h:Out g m S H (.ok a S) P E) (s:PN g m S H):P a m S H:=h m H Ext.refl s
end
structure Re (g:Gx) (H:Hp) (m:List Addr) (ρ:Env) (σ:L2.St):Prop where
 len:ρ.length=σ.length
 get:∀ (i:Nat) (a:A),ρ[i]?=some (some a)->∃ v,σ[i]?=some (some v)/\R g H m a v
section
variable {g:Gx} {m m':List Addr} {S S':PD} {H H':Hp} {ρ:Env} {σ:L2.St}
theorem Re.mono (e:Re g H m ρ σ) (x:Ext m S H m' S' H') (s:PN g m S H):Re g H' m' ρ σ :=
 ⟨e.len,λi a h=>let ⟨v,q,r⟩:=e.get i a h;⟨v,q,R.mono x s a r⟩⟩
theorem Re.set (e:Re g H m ρ σ) {a:A} {v:V} (h:R g H m a v) (i:Nat):Re g H m (ρ.set i (some a)) (σ.set i (some v)):=by
 refine ⟨by simp [e.len],λj b q=>?_⟩;by_cases hj:i=j
 ·subst hj
  have hl:i < ρ.length:=by have:=(Mk.mp q).1;simpa using this
  rw [NK hl] at q;cases q;exact ⟨v,NK (by rw [<- e.len];exact hl),h⟩
 ·rw [Oh hj] at q ⊢;exact e.get j b q
end
noncomputable def tE (g:Gx) (E:L2.St->XK) (c:Ce):TE:=λσ H Q=>∃ m ρ S,PN g m S H/\Re g H m ρ σ/\Out g m S H (c ρ S) (λa m' _ H'=>∀ v,R g H' m' a v->Q v H') (E σ)
noncomputable def tB (g:Gx) (E:L2.St->XK) (c:Ct):TT:=λσ H Q=>∃ m ρ S,PN g m S H/\Re g H m ρ σ/\Out g m S H (c ρ S) (λb _ _ H'=>Q b H') (E σ)
noncomputable def U7 (g:Gx) (E:L2.St->XK) (c:Ca):TA:=λσ H Q=>∃ m ρ S,PN g m S H/\Re g H m ρ σ/\Out g m S H (c ρ S) (λas m' _ H'=>∀ vs,Rs g H' m' as vs->Q vs H') (E σ)
variable {X:Cx} {e:Expr}
theorem Q2 {t t':TE} (h:PE X e t) (k:∀ σ H Q,t' σ H Q->t σ H Q):PE X e t':=λpins s σ H Q I hw=>h pins s σ H Q I (k σ H Q hw)
variable {t t':TT}
theorem V2 (h:PT X e t) (k:∀ σ H Q,t' σ H Q->t σ H Q):PT X e t':=λpins s σ H Q I hw=>h pins s σ H Q I (k σ H Q hw)
theorem imW (h:PW X e t) (k:∀ σ H Q,t' σ H Q->t σ H Q):PW X e t':=λw pins s σ H Q I hw=>h w pins s σ H Q I (k σ H Q hw)
theorem imA {es:List Expr} {t t':TA} (h:PA X es t) (k:∀ σ H Q,t' σ H Q->t σ H Q):PA X es t':=λp pins s σ H Q I hw=>h p pins s σ H Q I (k σ H Q hw)
theorem TZ {st:Stmt} {t t':TS} (h:PS X st t) (k:∀ D σ H,t' D σ H->t D σ H):PS X st t':=λpins s σ H D I hw=>h pins s σ H D I (k D σ H hw)
theorem yN {st:List Stmt} {t t':TS} (h:QI X st t) (k:∀ D σ H,t' D σ H->t D σ H):QI X st t':=λpins s σ H D I hw=>h pins s σ H D I (k D σ H hw)
noncomputable abbrev An (g:Gx) (Q:VK):A->List Addr->PD->Hp->Prop:=λa m' _ H'=>∀ v,R g H' m' a v->Q v H'
noncomputable def Sv (g:Gx) (r:R2) (o:A->A->PD->Res A):Prop:=∀ m S H a b v w Q E,PN g m S H->R g H m a v->R g H m b w->Out g m S H (o a b S) (An g Q) E->r v w H Q
noncomputable def TV (g:Gx) (r:V->Hp->VK->Prop) (u:A->PD->Res A):Prop:=∀ m S H a v Q E,PN g m S H->R g H m a v->Out g m S H (u a S) (An g Q) E->r v H Q
section
variable {X:Cx} {g:Gx} {E:L2.St->XK} {a b c e:Expr} {es rest:List Expr} {ca cb cc ce:Ce} {ct cu:Ct} {cs:Ca} {pos:Pos}
variable {i:Nat}
theorem q_v {x:Str} (hN:X.N[i]?=some x) (hv:V8 X.env.scope x) (hd:(x == ("__debug__":Str))=false:=by decide) (hcd:(x == ("__classdict__":Str))=false:=by decide):PE X (.Name x pos) (tE g E (cV i)) :=
 Q2 (xf hN hv hd hcd) λσ H Q ⟨m,ρ,S,s,re,h⟩=>by
  unfold cV at h
  cases q:ρ[i]? with
  | none=>rw [q] at h;exact h.elim
  | some o =>
   cases o with
   | none=>rw [q] at h;exact h.elim
   | some x =>rw [q] at h;obtain ⟨v,e,r⟩:=re.get i x q;exact ⟨v,e,h.ret s v r⟩
variable {v:V} {σ:L2.St} {H:Hp} {Q:VK}
theorem xV {x:A} (hr:∀ H m,R g H m x v) (h:tE g E (cC x) σ H Q):Q v H:=by obtain ⟨m,ρ,S,s,re,h⟩:=h;exact h.ret s v (hr H m)
variable {j:Nat}
theorem af {i:Int}:PE X (.Constant (.int i) j pos) (tE g E (cC (.int i))):=Q2 bB λ_ _ _ h=>xV (λ_ _=>R.int i) h
theorem bX {i:Bool}:PE X (.Constant (.bool i) j pos) (tE g E (cC (.bl i))):=Q2 rq λ_ _ _ h=>xV (λ_ _=>R.bl i) h
theorem dy:PE X (.Constant .none j pos) (tE g E (cC .PJ)):=Q2 Co λ_ _ _ h=>xV (λ_ _=>R.PJ) h
variable {n:Nat}
theorem Ey {x:Str} (h:g.ST[n]?=some x):PE X (.Constant (.str x) j pos) (tE g E (cC (.str n))):=Q2 iK λ_ _ _ q=>xV (λ_ _=>R.str h) q
theorem cF {x:Str} {u:Value} {y:A} (hg:Gl X x) (hm:X.mg x=some u) (r:RelV v u) (hy:∀ H m,R g H m y v) (hd:(x == ("__debug__":Str))=false:=by decide):PE X (.Name x pos) (tE g E (cC y)) :=
 Q2 (aW hg hm r hd) λ_ _ _ h=>xV hy h
theorem ae:PA X [] (U7 g E aN):=imA aM λ_ _ _ ⟨m,ρ,S,s,re,h⟩=>h.ret s [] .nil
theorem aa (ha:PE X a (tE g E ca)) (hr:PA X es (U7 g E cs)) (hs:dw a=true:=by rfl):PA X (a::es) (U7 g E (aC ca cs)) :=
 imA (a9 ha hr hs) λσ H Q ⟨m,ρ,S,s,re,h⟩=>⟨m,ρ,S,s,re,h.bind.mono λx m1 S1 H1 x1 s1 h1 v rv=>⟨m1,ρ,S1,s1,re.mono x1 s,h1.bind.mono λxs m2 S2 H2 x2 s2 h2 vs rs =>
  h2.ret s2 (v::vs) (.cons (R.mono x2 s1 _ rv) rs)⟩⟩
theorem dA {α:Type}:∀ {n:Nat} {xs:List α},few n xs=true->xs.length<=n
 | _,[],_=>Nd _
 | 0,_::_,h=>nomatch h
 | n+1,_::xs,h=>Nat.succ_le_succ (dA (n:=n) (xs:=xs) h)
theorem dj (h:n<=1000):n<=sizeLine:=MQ h (by rw [Na];decide)
variable {xs:List A} {vs:List V} {m:List Addr} {S:PD} {E':XK}
theorem Out.new (h:Out g m S H (new xs S) (An g Q) E') (s:PN g m S H) (r:Rs g H m xs vs):vs.length<=900/\∀ p,H p=none->Q (.ref p) (upd H p (.lst vs)):=by
 unfold EV.new at h
 cases q:few 900 xs with
 | false=>rw [q] at h;exact h.elim
 | true =>
  rw [q] at h;refine ⟨by rw [r.length];exact dA q,λp hp=>?_⟩;have h':Out g m S H (fl xs λxs=>mk (.lst xs) S) (An g Q) E':=h;rw [bW] at h';rw [oH] at h';obtain ⟨s2,x2⟩:=s.alloc (c:=.lst xs) (o:=.lst vs) hp λx=>⟨vs,aF,Rs.mono x s xs r⟩
  exact h' _ _ x2 s2 _ (R.ref (by rw [<- s.len];simp))
theorem Out.tup (h:Out g m S H (kN xs S) (An g Q) E') (s:PN g m S H) (r:Rs g H m xs vs):vs.length<=900/\(∀ p,H p=none->Q (.ref p) (upd H p (.tup vs)))/\∀ p,Qq g.K H p vs->Q (.ref p) H:=by
 unfold kN at h
 cases q:few 900 xs with
 | false=>rw [q] at h;exact h.elim
 | true =>rw [q] at h;have h':Out g m S H (fl xs λxs=>.ok (.tup xs) S) (An g Q) E':=h;rw [bW] at h';refine ⟨by rw [r.length];exact dA q,λp hp=>?_,λp hp=>h'.ret s _ (R.tup hp r)⟩;exact h' _ _ (Ext.new hp _) (s.new hp _) _ (R.tup (Qq.of aF) (Rs.mono (Ext.new hp _) s xs r))
theorem Out.int {i:Int} (h:Out g m S H (j7 i S) (An g Q) E') (s:PN g m S H):Q (.int i) H:=by unfold j7 at h;rw [Ag] at h;exact h.ret s _ (R.int i)
theorem Out.bA {o:Option Bool} (h:Out g m S H (bA o S) (An g Q) E') (s:PN g m S H):∃ b,o=some b/\Q (.bl b) H:=by
 cases o with
 | none=>exact h.elim
 | some b=>cases b <;> exact ⟨_,rfl,h.ret s _ (R.bl _)⟩
theorem ah {x1} (h:PA X es (U7 g E cs)):PE X (.Tuple es x1 pos) (tE g E (av cs)) :=
 Q2 (mR h) λσ H Q ⟨m,ρ,S,s,re,h⟩=>⟨m,ρ,S,s,re,h.bind.mono λxs m1 S1 H1 x1 s1 h1 vs rs=>let q:=Out.tup h1 s1 rs;⟨dj (by have:=q.1;omega),q.2.1⟩⟩
theorem aL (h:PA X es (U7 g E cs)):PE X (.List es pos) (tE g E (a8 cs)) :=
 Q2 (d7 h) λσ H Q ⟨m,ρ,S,s,re,h⟩=>⟨m,ρ,S,s,re,h.bind.mono λxs m1 S1 H1 x1 s1 h1 vs rs=>let q:=Out.new h1 s1 rs;⟨dj (by have:=q.1;omega),q.2⟩⟩
variable {r:R2} {o:A->A->PD->Res A}
theorem Vf.of (ok:Sv g r o) (h:tE g E (cO o ca cb) σ H Q):Vf r (tE g E ca) (tE g E cb) σ H Q:=by obtain ⟨m,ρ,S,s,re,h⟩:=h;exact ⟨m,ρ,S,s,re,h.bind.mono λx m1 S1 H1 x1 s1 h1 v rv=>⟨m1,ρ,S1,s1,re.mono x1 s,h1.bind.mono λy m2 S2 H2 x2 s2 h2 w rw=>ok m2 S2 H2 x y v w Q _ s2 (R.mono x2 s1 _ rv) rw h2⟩⟩
theorem bU {op:Operator} (ho:QA X (binaryOp op) r) (ok:Sv g r o) (ha:PE X a (tE g E ca)) (hb:PE X b (tE g E cb)):PE X (.BinOp a op b pos) (tE g E (cO o ca cb)) :=
 Q2 (cE ho ha hb) λσ H Q h=>Vf.of ok h
variable {op:CmpOp}
theorem dJ (ho:QA X (compareOp op) r) (ok:Sv g r o) (ha:PE X a (tE g E ca)) (hb:PE X b (tE g E cb)) (hm:behindInMarks op b=false):PE X (.Compare a [op] [b] pos) (tE g E (cO o ca cb)) :=
 Q2 (rA ho ha hb hm) λσ H Q h=>Vf.of ok h
theorem aY (ho:U5 X r) (ok:Sv g r o) (ha:PE X a (tE g E ca)) (hb:PE X b (tE g E cb)) (hs:jH b):PE X (.Subscript a b pos) (tE g E (cO o ca cb)) :=
 Q2 (fg ho ha hb hs) λσ H Q h=>Vf.of ok h
variable {u:A->PD->Res A}
theorem VJ.of {r:V->Hp->VK->Prop} (ok:TV g r u) (h:tE g E (cU u ca) σ H Q):VJ r (tE g E ca) σ H Q:=by obtain ⟨m,ρ,S,s,re,h⟩:=h;exact ⟨m,ρ,S,s,re,h.bind.mono λx m1 S1 H1 x1 s1 h1 v rv=>ok m1 S1 H1 x v Q _ s1 rv h1⟩
theorem zL {op:UnaryOp} {r:V->Hp->VK->Prop} (ho:XZ X (unaryOp op) r) (ok:TV g r u) (ha:PE X a (tE g E ca)):PE X (.UnaryOp op a pos) (tE g E (cU u ca)) :=
 Q2 (Au ho ha) λσ H Q h=>VJ.of ok h
variable {p:Pos}
theorem b0 {x:Str} {id:String} {r:List V->Hp->VK->Prop} (hc:cZ X (.builtin id) r) (ok:TV g (λv H Q=>r [v] H Q) u) (hg:Gl X x) (hm:X.mg x=none) (hv:bootBuiltins x=some (.builtin id)) (ha:PE X a (tE g E ca))
  (hs:dw a=true:=by rfl) (hn:x≠"__name__":=by decide) (hdb:(x == ("__debug__":Str))=false:=by decide) (he:starEach [a] X.env=(false,eval a X.env)::starEach [] X.env:=by rfl):PE X (.Call (.Name x p) [a] [] pos) (tE g E (cU u ca)) :=
 Q2 (bf hc hg hm hv (a9 ha aM hs) hn hdb he) λσ H Q h=>VJ.of ok h
theorem iN {x:Str} {T:String} {r:List V->Hp->VK->Prop} (hc:cZ X (.type T) r) (ok:TV g (λv H Q=>r [v] H Q) u) (hg:Gl X x) (hm:X.mg x=none) (hv:bootBuiltins x=some (.type T)) (ha:PE X a (tE g E ca))
  (hs:dw a=true:=by rfl) (hn:x≠"__name__":=by decide) (hdb:(x == ("__debug__":Str))=false:=by decide) (he:starEach [a] X.env=(false,eval a X.env)::starEach [] X.env:=by rfl):PE X (.Call (.Name x p) [a] [] pos) (tE g E (cU u ca)) :=
 Q2 (um hc hg hm hv (a9 ha aM hs) hn hdb he) λσ H Q h=>VJ.of ok h
noncomputable def Qg (e:Ce):Ct:=λρ S=>(e ρ S).b λx S=>match x with
 | .bl k=>.ok k S
 | _=>.bad
theorem RJ.of {t:TE} (k:∀ σ H Q,tE g E ca σ H Q->t σ H Q) {Q:Bool->Hp->Prop} (h:tB g E (Qg ca) σ H Q):RJ t σ H Q:=by
 obtain ⟨m,ρ,S,s,re,h⟩:=h;refine k σ H _ ⟨m,ρ,S,s,re,h.bind.mono λx m1 S1 H1 x1 s1 h1 v rv=>?_⟩
 cases x with
 | bl b=>exact ⟨b,rv.QL,h1.ret s1⟩
 | _=>exact h1.elim
theorem aT (ho:QA X (compareOp op) r) (ok:Sv g r o) (ha:PE X a (tE g E ca)) (hb:PE X b (tE g E cb)) (hm:behindInMarks op b=false):PT X (.Compare a [op] [b] pos) (tB g E (Qg (cO o ca cb))) :=
 V2 (dY ho ha hb hm) λσ H Q h=>RJ.of (λ_ _ _ z=>Vf.of ok z) h
theorem P6.look (s:PN g m S H) (h:Ug S i=some xs):∃ a vs,m[i]?=some a/\H a=some (.lst vs)/\Rs g H m xs vs:=by
 unfold Ug at h
 cases q:EV.look i S.cs with
 | none=>rw [q] at h;cases h
 | some c =>
  obtain ⟨a,e,ok⟩:=s.cell i c q
  cases c with
  | lst ys=>rw [q] at h;cases h;obtain ⟨vs,e1,e2⟩:=ok;exact ⟨a,vs,e,e1,e2⟩
  | TJ ys=>rw [q] at h;cases h;obtain ⟨vs,e1,e2⟩:=ok;exact ⟨a,vs,e,e1,e2⟩
  | dct ks=>rw [q] at h;cases h
  | RB=>rw [q] at h;cases h
theorem Q6.of {x:A} (s:PN g m S H) (r:R g H m x v) (h:Q6 S x=some xs):∃ a vs,v=.ref a/\(P6 g.K H a vs\/Qq g.K H a vs)/\Rs g H m xs vs:=by
 cases x with
 | ref i =>obtain ⟨a,e,rfl⟩:=r.RD;obtain ⟨b,vs,e1,e2,e3⟩:=P6.look s h;rw [e] at e1;cases e1;exact ⟨a,vs,rfl,.inl (P6.of e2),e3⟩
 | cl ys=>cases h;obtain ⟨a,vs,e,q,q2⟩:=r.Vq;exact ⟨a,vs,e,.inl (Sl.Q9 (.inr q)),q2⟩
 | tup ys=>cases h;obtain ⟨a,vs,e,q,q2⟩:=r.P8;exact ⟨a,vs,e,.inr q,q2⟩
 | _=>cases h
theorem PV.of {x:A} (s:PN g m S H) (r:R g H m x v) (h:PV S x=some xs):∃ a vs,v=.ref a/\Sl g.K H a vs/\Rs g H m xs vs:=by
 cases x with
 | ref i =>obtain ⟨a,e,rfl⟩:=r.RD;obtain ⟨b,vs,e1,e2,e3⟩:=P6.look s h;rw [e] at e1;cases e1;exact ⟨a,vs,rfl,.inl e2,e3⟩
 | cl ys=>cases h;obtain ⟨a,vs,e,q,q2⟩:=r.Vq;exact ⟨a,vs,e,.inr q,q2⟩
 | _=>cases h
theorem wa (i j:Int):Wn i j=decide (i=j):=by
 refine NV.mpr ?_;rw [decide_eq_true_iff]
 cases i with
 | ofNat a =>
  cases j with
  | ofNat b=>exact ⟨λh=>M5 _ (ML h),λh=>by cases h;exact O2 a⟩
  | negSucc b=>exact ⟨(λh=>nomatch h),(λh=>nomatch h)⟩
 | negSucc a =>
  cases j with
  | ofNat b=>exact ⟨(λh=>nomatch h),(λh=>nomatch h)⟩
  | negSucc b=>exact ⟨λh=>M5 _ (ML h),λh=>by cases h;exact O2 a⟩
theorem wN (r:Rs g H m xs vs):WJ xs=!vs.isEmpty:=by
 cases xs with
 | nil=>rw [r.Qp];rfl
 | cons x xs=>obtain ⟨v,t,rfl,_⟩:=r.PL;rfl
theorem nu {x:A} {k:Bool} (s:PN g m S H) (r:R g H m x v) (h:(match Q6 S x with | some xs=>some (WJ xs) | none=>none)=some k):uP g.K v H k:=by
 cases q:Q6 S x with
 | none=>rw [q] at h;cases h
 | some xs =>
  rw [q] at h;cases h;obtain ⟨a,vs,rfl,w,r2⟩:=Q6.of s r q;rcases w with w | w
  ·exact .inl ⟨vs,w,wN r2⟩
  ·exact .inr (.inl ⟨vs,w,wN r2⟩)
theorem Vu.of {x:A} {k:Bool} (s:PN g m S H) (r:R g H m x v) (h:Vu S x=some k):uP g.K v H k:=by
 cases x with
 | PJ=>cases h;rw [r.Qv];exact rfl
 | bl b=>cases h;rw [r.QL];exact rfl
 | int i =>
  have h':some (nb (Wn i (.ofNat 0)))=some k:=h;cases h';rw [r.PY,wa];show _=(i != 0)
  by_cases z:i=0
  ·subst z;rfl
  ·rw [M4 (show ¬ i=Int.ofNat 0 from z)];simp [nb,z]
 | tup ys=>exact nu s r h
 | ref i=>exact nu s r h
 | cl ys=>exact nu s r h
 | _=>cases h
theorem cG (hK:X.K=g.K) (ha:PE X a (tE g E ca)) (he:∀ whole,isTrue a X.env whole=(do let v <- whole;standAt a.pos;holding [v] (truthy v))):PT X a (tB g E (tV ca)) :=
 V2 (km ha he) λσ H Q ⟨m,ρ,S,s,re,h⟩=>⟨m,ρ,S,s,re,h.bind.mono λx m1 S1 H1 x1 s1 h1 v rv=>by
  cases q:Vu S1 x with
  | none=>rw [q] at h1;exact h1.elim
  | some k=>rw [q] at h1;exact ⟨k,hK ▸ Vu.of s1 rv q,h1.ret s1⟩⟩
theorem oI (b:Bool):nb b=!b:=by cases b <;> rfl
theorem bx (ha:PT X a (tB g E ct)):PT X (.UnaryOp .Not a pos) (tB g E (RG ct)) :=
 V2 (mU ha) λσ H Q ⟨m,ρ,S,s,re,h⟩=>⟨m,ρ,S,s,re,h.bind.mono λb m1 S1 H1 x1 s1 h1=>by have:=h1.ret s1;rw [oI] at this;exact this⟩
theorem dM (ha:PT X a (tB g E ct)) (hb:PW X (.BoolOp .Or (b::rest) pos) (tB g E cu)):PW X (.BoolOp .Or (a::b::rest) pos) (tB g E (Su ct cu)) :=
 imW (xr ha hb) λσ H Q ⟨m,ρ,S,s,re,h⟩=>⟨m,ρ,S,s,re,h.bind.mono λb m1 S1 H1 x1 s1 h1=>by
  cases b with
  | true=>rw [MF rfl];exact h1.ret s1
  | false=>rw [Mz Mx];exact ⟨m1,ρ,S1,s1,re.mono x1 s,h1⟩⟩
theorem CN (ha:PE X a (tE g E ca)):PE X (.UnaryOp .Not a pos) (tE g E (cNt ca)) :=
 Q2 (Cp ha) λσ H Q ⟨m,ρ,S,s,re,h⟩=>⟨m,ρ,S,s,re,h.bind.mono λx m1 S1 H1 x1 s1 h1 v rv=>by
  cases x with
  | bl k =>obtain ⟨b,e,q⟩:=Out.bA h1 s1;cases e;exact ⟨k,rv.QL,by rw [oI] at q;exact q⟩
  | _=>exact h1.elim⟩
theorem d8 (ha:PE X a (tE g E ca)) (hb:PE X (.BoolOp .And (b::rest) pos) (tE g E cb)):PE X (.BoolOp .And (a::b::rest) pos) (tE g E (Vv ca cb)) :=
 Q2 (Ck ha hb) λσ H Q ⟨m,ρ,S,s,re,h⟩=>⟨m,ρ,S,s,re,h.bind.mono λx m1 S1 H1 x1 s1 h1 v rv=>by
  cases x with
  | bl k =>
   refine ⟨k,rv.QL,?_⟩
   cases k with
   | true=>rw [MF rfl];exact ⟨m1,ρ,S1,s1,re.mono x1 s,h1⟩
   | false=>rw [Mz Mx];exact h1.ret s1 _ (R.bl _)
  | _=>exact h1.elim⟩
theorem xC (ha:PE X a (tE g E ca)) (hb:PE X (.BoolOp .Or (b::rest) pos) (tE g E cb)):PE X (.BoolOp .Or (a::b::rest) pos) (tE g E (Yl ca cb)) :=
 Q2 (Ep ha hb) λσ H Q ⟨m,ρ,S,s,re,h⟩=>⟨m,ρ,S,s,re,h.bind.mono λx m1 S1 H1 x1 s1 h1 v rv=>by
  cases x with
  | bl k =>
   refine ⟨k,rv.QL,?_⟩
   cases k with
   | true=>rw [MF rfl];exact h1.ret s1 _ (R.bl _)
   | false=>rw [Mz Mx];exact ⟨m1,ρ,S1,s1,re.mono x1 s,h1⟩
  | _=>exact h1.elim⟩
theorem Et (hc:PT X c (tB g E ct)) (ha:PE X a (tE g E ca)) (hb:PE X b (tE g E cb)):PE X (.IfExp c a b pos) (tE g E (Zb ct ca cb)) :=
 Q2 (xc hc ha hb) λσ H Q ⟨m,ρ,S,s,re,h⟩=>⟨m,ρ,S,s,re,h.bind.mono λk m1 S1 H1 x1 s1 h1=>by
  cases k with
  | true=>rw [MF rfl];exact ⟨m1,ρ,S1,s1,re.mono x1 s,h1⟩
  | false=>rw [Mz Mx];exact ⟨m1,ρ,S1,s1,re.mono x1 s,h1⟩⟩
theorem pZ (i j:Int):WV i j=decide (i<=j):=by
 refine NV.mpr ?_;rw [decide_eq_true_iff]
 cases i with
 | ofNat a =>
  cases j with
  | ofNat b=>exact ⟨λh=>Int.ofNat_le.mpr (MY h),λh=>Oe (Int.ofNat_le.mp h)⟩
  | negSucc b=>exact ⟨(λh=>nomatch h),λh=>absurd h (by have:Int.negSucc b < 0:=Ou b;have:(0:Int)<=Int.ofNat a:=Int.natCast_nonneg a;omega)⟩
 | negSucc a =>
  cases j with
  | ofNat b=>exact ⟨λ_=>by have:Int.negSucc a < 0:=Ou a;have:(0:Int)<=Int.ofNat b:=Int.natCast_nonneg b;omega,λ_=>rfl⟩
  | negSucc b=>exact ⟨λh=>by have:=MY h;omega,λh=>Oe (by omega)⟩
theorem rp:Sv g (Tz λi j=>.bl (decide (i<=j))) oLe:=λm S H a b v w Q E s ra rb h=>by
 unfold oLe sk at h
 cases a with
 | int i =>
  cases b with
  | int j =>obtain ⟨k,e,q⟩:=Out.bA h s;cases e;rw [pZ] at q;exact ⟨i,j,ra.PY,rb.PY,q⟩
  | _=>exact h.elim
 | _=>exact h.elim
theorem Q8.of (h:tE g E (WX ca cb cc) σ H Q):Q8 (Tz λi j=>.bl (decide (i<=j))) (Tz λi j=>.bl (decide (i<=j))) (tE g E ca) (tE g E cb) (tE g E cc) σ H Q:=by
 obtain ⟨m,ρ,S,s,re,h⟩:=h;refine ⟨m,ρ,S,s,re,h.bind.mono λx m1 S1 H1 x1 s1 h1 v rv=>⟨m1,ρ,S1,s1,re.mono x1 s,h1.bind.mono λy m2 S2 H2 x2 s2 h2 w rw=>?_⟩⟩;refine rp m2 S2 H2 x y v w _ _ s2 (R.mono x2 s1 _ rv) rw (h2.bind.mono λz m3 S3 H3 x3 s3 h3 u ru=>?_)
 cases z with
 | bl k =>
  refine ⟨k,ru.QL,?_⟩
  cases k with
  | true =>rw [MF rfl];exact ⟨m3,ρ,S3,s3,(re.mono x1 s).mono (x2.trans x3) s1,h3.bind.mono λy' m4 S4 H4 x4 s4 h4 w' rw'=>rp m4 S4 H4 y y' w w' Q _ s4 (R.mono (x3.trans x4) s2 _ rw) rw' h4⟩
  | false=>rw [Mz Mx];exact h3.ret s3 _ (R.bl _)
 | _=>exact h3.elim
end
mutual
noncomputable def toD (g:Gx):A->D
 | .PJ=>.PJ
 | .bl b=>.bl b
 | .int i=>.int i
 | .str n=>.str (g.ST.getD n "")
 | .tup xs=>.tup (Qw g xs)
 | _=>.lst
noncomputable def Qw (g:Gx):List A->List D
 | []=>[]
 | x::xs=>toD g x::Qw g xs
end
section
variable {g:Gx} {m:List Addr} {S:PD} {H:Hp}
variable {n:Nat}
theorem mF {x:Str} (h:g.ST[n]?=some x):g.ST.getD n ""=x:=by rw [NX,h];rfl
mutual
theorem jZ:∀ {n:Nat} (a:A) {v:V},TY n a=true->R g H m a v->Dat g.K H (toD g a) v/\QF (toD g a)=true/\dU (toD g a)<=n
 | n,.PJ,v,_,r=>by rw [r.Qv];unfold toD;exact ⟨Dat.Xj,rfl,Nd _⟩
 | n,.bl b,v,_,r=>by rw [r.QL];unfold toD;exact ⟨Dat.Vi b,rfl,Nd _⟩
 | n,.int i,v,_,r=>by rw [r.PY];unfold toD;exact ⟨Dat.Ur i,rfl,Nd _⟩
 | n,.str k,v,_,r=>by obtain ⟨x,e,rfl⟩:=r.Qd;unfold toD;rw [mF e];exact ⟨Dat.Vh x,rfl,Nd _⟩
 | 0,.tup xs,v,h,r=>nomatch h
 | n+1,.tup xs,v,h,r=>by obtain ⟨a,vs,rfl,q,rs⟩:=r.P8;obtain ⟨d,e,f⟩:=Rn (n:=n) xs h rs;unfold toD;exact ⟨Dat.tupI q d,by unfold QF;exact e,by unfold dU;omega⟩
 | _,.ref i,v,h,r=>by unfold TY at h;cases h
 | _,.cl xs,v,h,r=>by unfold TY at h;cases h
 | _,.tab t,v,h,r=>by unfold TY at h;cases h
 | _,.RP t,v,h,r=>by unfold TY at h;cases h
 | _,.R5 t,v,h,r=>by unfold TY at h;cases h
 | _,.any,v,h,r=>by unfold TY at h;cases h
 | _,.Q0,v,h,r=>by unfold TY at h;cases h
theorem Rn:∀ {n:Nat} (xs:List A) {vs:List V},Sm n xs=true->Rs g H m xs vs->PF g.K H (Qw g xs) vs/\Qh (Qw g xs)=true/\Qa (Qw g xs)<=n
 | n,[],vs,_,r=>by rw [r.Qp];unfold Qw;exact ⟨PF.nil,by unfold Qh;rfl,by unfold Qa;exact Nd _⟩
 | n,x::xs,vs,h,r=>by
  obtain ⟨v,t,rfl,r1,r2⟩:=r.PL;unfold Sm at h
  cases q:TY n x with
  | false=>rw [q] at h;cases h
  | true =>rw [q] at h;obtain ⟨d1,e1,f1⟩:=jZ x q r1;obtain ⟨d2,e2,f2⟩:=Rn xs h r2;unfold Qw;exact ⟨PF.cons d1 d2,by unfold Qh;rw [e1,e2];rfl,by unfold Qa;exact Nat.max_le.mpr ⟨f1,f2⟩⟩
end
theorem qH {k:Nat} {x y:Str} (h:g.ST[n]?=some x) (h':g.ST[k]?=some y):(x == y)=Nat.beq n k:=by
 refine NV.mpr ⟨λe=>?_,λe=>?_⟩
 ·have e:=eq_of_beq e;subst e;have e2:n=k:=(OI (Mk.mp h).1 g.nd).mp (h.trans h'.symm);rw [e2];exact O2 k
 ·have e:=ML e;subst e;rw [h] at h';cases h';exact beq_self_eq_true x
theorem mh (a b:Bool):AO a b=(a == b):=by cases a <;> cases b <;> rfl
theorem qX (a b:Int):Wn a b=(a == b):=by rw [wa];rfl
theorem uQ (a:Bool):Y8 a=if a then 1 else 0:=by cases a <;> rfl
mutual
theorem mC:∀ (a b:A) {v w:V},R g H m a v->R g H m b w->P4 (toD g a) (toD g b)=Td a b
 | .PJ,b,v,w,_,_=>by cases b <;> simp [toD,P4,Td]
 | .bl x,b,v,w,_,_=>by cases b <;> simp [toD,P4,Td,mh,qX,uQ]
 | .int x,b,v,w,_,_=>by cases b <;> simp [toD,P4,Td,mh,qX,uQ]
 | .str x,b,v,w,r,r'=>by
  cases b with
  | str y =>obtain ⟨s,e,_⟩:=r.Qd;obtain ⟨t,e',_⟩:=r'.Qd;unfold toD P4 Td;rw [mF e,mF e'];exact qH e e'
  | _=>simp [toD,P4,Td]
 | .tup x,b,v,w,r,r'=>by
  cases b with
  | tup y =>obtain ⟨_,_,_,_,r⟩:=r.P8;obtain ⟨_,_,_,_,r'⟩:=r'.P8;unfold toD P4 Td;exact TX x y r r'
  | _=>simp [toD,P4,Td]
 | .ref x,b,v,w,_,_=>by cases b <;> simp [toD,P4,Td]
 | .cl x,b,v,w,_,_=>by cases b <;> simp [toD,P4,Td]
 | .tab x,b,v,w,_,_=>by cases b <;> simp [toD,P4,Td]
 | .RP x,b,v,w,_,_=>by cases b <;> simp [toD,P4,Td]
 | .R5 x,b,v,w,_,_=>by cases b <;> simp [toD,P4,Td]
 | .any,b,v,w,_,_=>by cases b <;> simp [toD,P4,Td]
 | .Q0,b,v,w,_,_=>by cases b <;> simp [toD,P4,Td]
theorem TX:∀ (a b:List A) {v w:List V},Rs g H m a v->Rs g H m b w->Qm (Qw g a) (Qw g b)=Ue a b
 | [],[],_,_,_,_=>by simp [Qw,Qm,Ue]
 | [],_::_,_,_,_,_=>by simp [Qw,Qm,Ue]
 | _::_,[],_,_,_,_=>by simp [Qw,Qm,Ue]
 | x::xs,y::ys,_,_,r,r'=>by obtain ⟨_,_,_,r1,r2⟩:=r.PL;obtain ⟨_,_,_,q1,q2⟩:=r'.PL;unfold Qw Qm Ue;rw [mC x y r1 q1,TX xs ys r2 q2];cases Td x y <;> rfl
end
theorem bI:Sv g (λx y H Q=>Tz (λi j=>.int (i+j)) x y H Q\/rJ g.K x y H Q\/AA g.K x y H Q) c9:=λm S H a b v w Q E s ra rb h=>by
 have lists:∀ {xs ys:List A},PV S a=some xs->PV S b=some ys->Out g m S H (new (xs++ys) S) (An g Q) E->rJ g.K v w H Q:=λha hb h=>by obtain ⟨p,vs,rfl,q,r⟩:=PV.of s ra ha;obtain ⟨p',vs',rfl,q',r'⟩:=PV.of s rb hb;obtain ⟨z,k⟩:=Out.new h s (r.append r');exact ⟨p,p',vs,vs',rfl,rfl,q,q',by rw [MO] at z;omega,k⟩
 have gen:(match PV S a with | some xs=>(match PV S b with | some ys=>new (xs++ys) S | none=>Res.bad) | none=>Res.bad)=c9 a b S->rJ g.K v w H Q:=λe=>by
  rw [<- e] at h
  cases qa:PV S a with
  | none=>rw [qa] at h;exact h.elim
  | some xs =>
   cases qb:PV S b with
   | none=>rw [qa,qb] at h;exact h.elim
   | some ys=>rw [qa,qb] at h;exact lists qa qb h
 cases a with
 | int i =>
  cases b with
  | int j=>exact .inl ⟨i,j,ra.PY,rb.PY,Out.int h s⟩
  | _=>exact h.elim
 | tup xs =>
  cases b with
  | tup ys =>
   obtain ⟨p,vs,rfl,q,r⟩:=ra.P8;obtain ⟨p',vs',rfl,q',r'⟩:=rb.P8;obtain ⟨z,k,k'⟩:=Out.tup h s (r.append r');refine .inr (.inr ?_)
   cases vs with
   | nil=>exact .inl ⟨p,p',vs',rfl,rfl,q,q',k' p' q'⟩
   | cons v0 vs =>refine .inr ⟨p,p',v0::vs,vs',rfl,rfl,q,q',(λz=>nomatch z),dj (by rw [MO] at z;omega),λe=>?_,λ_=>k⟩;subst e;exact k' p (by rw [Ov];exact q)
  | _=>exact h.elim
 | ref i=>exact .inr (.inl (gen rfl))
 | cl i=>exact .inr (.inl (gen rfl))
 | _=>exact h.elim
theorem mM:Sv g (Tz λi j=>.int (i - j)) wR:=λm S H a b v w Q E s ra rb h=>by
 cases a with
 | int i =>
  cases b with
  | int j=>exact ⟨i,j,ra.PY,rb.PY,Out.int h s⟩
  | _=>exact h.elim
 | _=>exact h.elim
theorem qp:Sv g (rI (λ_ j=>0 < j) λi j=>.int (i % j)) y0:=λm S H a b v w Q E s ra rb h=>by
 cases a with
 | int i =>
  cases b with
  | int j =>
   cases j with
   | ofNat n =>
    cases n with
    | zero=>exact h.elim
    | succ n=>exact ⟨i,_,ra.PY,rb.PY,Int.natCast_pos.mpr (Nat.succ_pos n),Out.int h s⟩
   | negSucc n=>exact h.elim
  | _=>exact h.elim
 | _=>exact h.elim
theorem qk:Sv g (rI Dg λi j=>.int (i / j)) wQ:=λm S H a b v w Q E s ra rb h=>by
 cases a with
 | int i =>
  cases b with
  | int j =>
   cases j with
   | ofNat n =>
    cases n with
    | zero=>exact h.elim
    | succ n =>
     unfold wQ at h;dsimp only at h
     cases q:Nat.ble n 100000 with
     | false=>rw [q] at h;exact h.elim
     | true =>rw [q] at h;have:=MY q;exact ⟨i,_,ra.PY,rb.PY,⟨Int.natCast_pos.mpr (Nat.succ_pos n),by show ((n+1:Nat):Int) < 1073741824;omega⟩,Out.int h s⟩
   | negSucc n=>exact h.elim
  | _=>exact h.elim
 | _=>exact h.elim
theorem rK {α:Type} (xs:List α):∀ n,TQ xs n=(List.replicate n xs).flatten
 | 0=>rfl
 | n+1=>by show xs++TQ xs n=_;rw [rK xs n,Nl,NZ]
variable {xs:List A} {vs:List V}
theorem Rs.TQ (h:Rs g H m xs vs):∀ n,Rs g H m (EV.TQ xs n) (EV.TQ vs n)
 | 0=>.nil
 | n+1=>h.append (Rs.TQ h n)
theorem eU:Sv g EF hX:=λm S H a b v w Q E s ra rb h=>by
 cases a with
 | ref i =>
  cases b with
  | int j =>
   cases j with
   | ofNat n =>
    unfold hX at h;dsimp only at h
    cases q:look i S.cs with
    | none=>rw [q] at h;exact h.elim
    | some c =>
     rw [q] at h
     cases c with
     | lst xs =>
      dsimp only at h
      cases z9:Nat.ble n 900 with
      | false=>rw [z9] at h;exact h.elim
      | true =>rw [z9] at h;have n9:=MY z9;obtain ⟨p,e,vs,q1,r⟩:=s.cell i _ q;obtain ⟨p',e',rfl⟩:=ra.RD;rw [e] at e';cases e';obtain ⟨z,k⟩:=Out.new h s (r.TQ n);rw [rK] at z k;rw [mI] at z;exact ⟨p,_,vs,rfl,rb.PY,q1,by show -(2 ^ 63)<=((n:Nat):Int);omega,by show ((n:Nat):Int) < 2 ^ 63;omega,dj (by show vs.length * n<=1000;rw [Nat.mul_comm];omega),k⟩
     | _=>exact h.elim
   | negSucc n=>exact h.elim
  | _=>exact h.elim
 | _=>exact h.elim
theorem zk:Sv g (AB g.K) Ap:=λm S H a b v w Q E s ra rb h=>by
 cases a with
 | tup xs =>
  cases xs with
  | nil=>exact h.elim
  | cons x xs =>
   cases xs with
   | cons _ _=>exact h.elim
   | nil =>
    cases b with
    | int j =>
     cases j with
     | ofNat n =>
      cases n with
      | zero=>exact h.elim
      | succ n =>
       cases n with
       | zero=>exact h.elim
       | succ n =>obtain ⟨p,vs,rfl,q,r⟩:=ra.P8;obtain ⟨v0,t,rfl,r0,r1⟩:=r.PL;have r1:=r1.Qp;subst r1;have h':Out g m S H (kN (List.replicate (n+2) x) S) (An g Q) E:=h;obtain ⟨z,k,_⟩:=Out.tup h' s (Rs.rep r0 (n+2));rw [Oc] at z;exact ⟨p,v0,_,rfl,rb.PY,by show (2:Int)<=((n+2:Nat):Int);omega,by show ((n+2:Nat):Int)<=1000;omega,q,k⟩
     | negSucc n=>exact h.elim
    | _=>exact h.elim
 | _=>exact h.elim
theorem qh {f:Int->Int->Bool} {p:Int->Int->Bool} (e:∀ i j,f i j=p i j):Sv g (Tz λi j=>.bl (p i j)) (sk f):=λm S H a b v w Q E s ra rb h=>by
 cases a with
 | int i =>
  cases b with
  | int j =>obtain ⟨k,e',q⟩:=Out.bA h s;cases e';rw [e] at q;exact ⟨i,j,ra.PY,rb.PY,q⟩
  | _=>exact h.elim
 | _=>exact h.elim
theorem nle (i j:Int):nb (WV i j)=decide (j < i):=by
 rw [pZ,oI];by_cases h:i<=j
 ·rw [N2 h,M4 (by omega)];rfl
 ·rw [M4 h,N2 (by omega)];rfl
theorem oN:Sv g (Tz λi j=>.bl (decide (i < j))) oLt:=qh λi j=>nle j i
theorem lP:Sv g (Tz λi j=>.bl (decide (j < i))) Ws:=qh λi j=>nle i j
theorem Aq:Sv g (Tz λi j=>.bl (decide (j<=i))) Y9:=qh λi j=>pZ j i
variable {a:A} {v w:V}
theorem Wo.of {b:A} {k:Bool} (s:PN g m S H) (ra:R g H m a v) (rb:R g H m b w) (h:Wo S a b=some k) :
  (∃ d e,Dat g.K H d v/\Dat g.K H e w/\QF d=true/\QF e=true/\dU d<=20/\P4 d e=k) \/
  ∃ p q xs ys ds es,v=.ref p/\w=.ref q/\P6 g.K H p xs/\P6 g.K H q ys/\PF g.K H ds xs/\PF g.K H es ys/\Qh ds=true/\Qh es=true/\Qa ds<=20/\Qm ds es=k:=by
 unfold Wo at h
 cases qa:PV S a with
 | some xs =>
  rw [qa] at h;dsimp only at h
  cases qb:PV S b with
  | none=>rw [qb] at h;cases h
  | some ys =>
   rw [qb] at h;dsimp only at h
   cases oa:Sm 20 xs with
   | false=>rw [oa] at h;cases h
   | true =>
    cases ob:Sm 20 ys with
    | false=>rw [oa,ob] at h;cases h
    | true =>rw [oa,ob] at h;cases h;obtain ⟨p,vs,rfl,q,r⟩:=PV.of s ra qa;obtain ⟨p',vs',rfl,q',r'⟩:=PV.of s rb qb;obtain ⟨d,e,f⟩:=Rn xs oa r;obtain ⟨d',e',f'⟩:=Rn ys ob r';exact .inr ⟨p,p',vs,vs',_,_,rfl,rfl,q.Q9,q'.Q9,d,d',e,e',f,TX xs ys r r'⟩
 | none =>
  rw [qa] at h;dsimp only at h
  cases oa:TY 20 a with
  | false=>rw [oa] at h;cases h
  | true =>
   cases ob:TY 20 b with
   | false=>rw [oa,ob] at h;cases h
   | true =>rw [oa,ob] at h;cases h;obtain ⟨d,e,f⟩:=jZ a oa ra;obtain ⟨d',e',f'⟩:=jZ b ob rb;exact .inl ⟨_,_,d,d',e,e',f,mC a b ra rb⟩
theorem cj:Sv g (λx y H Q=>zM g.K false x y H Q\/zN g.K false x y H Q) oEq:=λm S H a b v w Q E s ra rb h=>by
 obtain ⟨k,e,q⟩:=Out.bA h s;rcases Wo.of s ra rb e with ⟨d,e,h1,h2,h3,h4,h5,h6⟩ | ⟨p,p',xs,ys,ds,es,e1,e2,h1,h2,h3,h4,h5,h6,h7,h8⟩
 ·exact .inl ⟨d,e,h1,h2,h3,h4,h5,by rw [<- h6] at q;exact q⟩
 ·exact .inr ⟨p,p',xs,ys,ds,es,e1,e2,h1,h2,h3,h4,h5,h6,h7,by rw [<- h8] at q;exact q⟩
theorem nO.of {o:Option Bool} {k:Bool} (h:nO o=some k):o=some (!k):=by
 cases o with
 | none=>cases h
 | some b=>cases h;rw [oI,OE]
theorem cX:Sv g (λx y H Q=>zM g.K true x y H Q\/zN g.K true x y H Q) Tn:=λm S H a b v w Q E s ra rb h=>by
 obtain ⟨k,e,q⟩:=Out.bA h s;rcases Wo.of s ra rb (nO.of e) with ⟨d,e,h1,h2,h3,h4,h5,h6⟩ | ⟨p,p',xs,ys,ds,es,e1,e2,h1,h2,h3,h4,h5,h6,h7,h8⟩
 ·exact .inl ⟨d,e,h1,h2,h3,h4,h5,by rw [<- OE (b:=k),<- h6] at q;exact q⟩
 ·exact .inr ⟨p,p',xs,ys,ds,es,e1,e2,h1,h2,h3,h4,h5,h6,h7,by rw [<- OE (b:=k),<- h8] at q;exact q⟩
theorem y8:Sv g (λx y H Q=>∃ a b,x=.bl a/\y=.bl b/\Q (.bl (a != b)) H) Am:=λm S H a b v w Q E s ra rb h=>by
 cases a with
 | bl i =>
  cases b with
  | bl j =>obtain ⟨k,e,q⟩:=Out.bA h s;cases e;rw [mh,oI] at q;exact ⟨i,j,ra.QL,rb.QL,q⟩
  | _=>exact h.elim
 | _=>exact h.elim
theorem rn {x:A} (r:R g H m x v):∀ (xs:List A) {vs:List V},Rs g H m xs vs->((Qw g xs).any λe=>P4 e (toD g x))=yY x xs
 | [],_,_=>rfl
 | y::ys,_,rs=>by obtain ⟨_,_,_,r1,r2⟩:=rs.PL;unfold Qw yY;rw [NW,mC y x r1 r,rn r ys r2];cases Td y x <;> rfl
theorem Wr.of {b:A} {k:Bool} (s:PN g m S H) (ra:R g H m a v) (rb:R g H m b w) (h:Wr S a b=some k) :
  ∃ l xs ds d,w=.ref l/\P6 g.K H l xs/\PF g.K H ds xs/\Dat g.K H d v/\Qh ds=true/\QF d=true/\Qa ds<=20/\(ds.any λe=>P4 e d)=k:=by
 unfold Wr at h
 cases qb:PV S b with
 | none=>rw [qb] at h;cases h
 | some ys =>
  rw [qb] at h;dsimp only at h
  cases oa:TY 20 a with
  | false=>rw [oa] at h;cases h
  | true =>
   cases ob:Sm 20 ys with
   | false=>rw [oa,ob] at h;cases h
   | true =>rw [oa,ob] at h;cases h;obtain ⟨p,vs,rfl,q,r⟩:=PV.of s rb qb;obtain ⟨d,e,f⟩:=jZ a oa ra;obtain ⟨d',e',f'⟩:=Rn ys ob r;exact ⟨p,vs,_,_,rfl,q.Q9,d',d,e',e,f',rn ra ys r⟩
theorem As:Sv g (zO g.K false) Za:=λm S H a b v w Q E s ra rb h=>by obtain ⟨k,e,q⟩:=Out.bA h s;obtain ⟨l,xs,ds,d,h1,h2,h3,h4,h5,h6,h7,h8⟩:=Wr.of s ra rb e;exact ⟨l,xs,ds,d,h1,h2,h3,h4,h5,h6,h7,by rw [<- h8] at q;exact q⟩
theorem B9:Sv g (zO g.K true) Ej:=λm S H a b v w Q E s ra rb h=>by obtain ⟨k,e,q⟩:=Out.bA h s;obtain ⟨l,xs,ds,d,h1,h2,h3,h4,h5,h6,h7,h8⟩:=Wr.of s ra rb (nO.of e);exact ⟨l,xs,ds,d,h1,h2,h3,h4,h5,h6,h7,by rw [<- OE (b:=k),<- h8] at q;exact q⟩
theorem strsOf.of:∀ {xs:List A} {vs:List V} {l:List Nat},Rs g H m xs vs->strsOf xs=some l->∃ zs:List Str,vs=zs.map V.str/\Paired (λ(n:Nat) (x:Str)=>g.ST[n]?=some x) l zs
 | [],vs,l,r,h=>by cases h;rw [r.Qp];exact ⟨[],rfl,.nil⟩
 | x::xs,vs,l,r,h=>by
  obtain ⟨v,t,rfl,r1,r2⟩:=r.PL
  cases x with
  | str n =>
   unfold strsOf at h
   cases q:strsOf xs with
   | none=>rw [q] at h;cases h
   | some l' =>rw [q] at h;cases h;obtain ⟨zs,rfl,p⟩:=strsOf.of r2 q;obtain ⟨x,e,rfl⟩:=r1.Qd;exact ⟨x::zs,rfl,.cons e p⟩
  | _=>cases h
theorem lJ:∀ zs:List Str,(zs.map V.str).all fF=true
 | []=>rfl
 | z::zs=>by rw [MZ,N5,lJ zs];rfl
theorem oy {x:Str} (h:g.ST[n]?=some x):∀ {l:List Nat} {zs:List Str},Paired (λ(n:Nat) (x:Str)=>g.ST[n]?=some x) l zs->Xg (.str x) (zs.map V.str)=cL n l
 | _,_,.nil=>rfl
 | _,_,.cons (a:=k) (b:=y) e p=>by
  have ih:=oy h p;unfold Xg at ih ⊢;rw [MZ,NW,ih];show (y == x || cL n _)=(match Nat.beq k n with | true=>true | false=>cL n _)
  rw [qH e h];cases Nat.beq k n <;> rfl
theorem Wq.of {b:A} {k:Bool} (s:PN g m S H) (ra:R g H m a v) (rb:R g H m b w) (h:Wq a b=some k):∃ p xs,w=.ref p/\(P6 g.K H p xs\/Qq g.K H p xs)/\fF v=true/\xs.all fF=true/\Xg v xs=k:=by
 cases a with
 | str n =>
  cases b with
  | tup xs =>
   unfold Wq at h;dsimp only at h
   cases q:strsOf xs with
   | none=>rw [q] at h;cases h
   | some l =>rw [q] at h;cases h;obtain ⟨x,e,rfl⟩:=ra.Qd;obtain ⟨p,vs,rfl,q2,r⟩:=rb.P8;obtain ⟨zs,rfl,pz⟩:=strsOf.of r q;exact ⟨p,_,rfl,.inr q2,rfl,lJ zs,oy e pz⟩
  | _=>cases h
 | _=>cases h
theorem B7:Sv g (X3 g.K false) Ei:=λm S H a b v w Q E s ra rb h=>by obtain ⟨k,e,q⟩:=Out.bA h s;obtain ⟨p,xs,h1,h2,h3,h4,h5⟩:=Wq.of s ra rb e;exact ⟨p,xs,h1,h2,h3,h4,by rw [<- h5] at q;exact q⟩
theorem zi:Sv g (X3 g.K true) Ao:=λm S H a b v w Q E s ra rb h=>by obtain ⟨k,e,q⟩:=Out.bA h s;obtain ⟨p,xs,h1,h2,h3,h4,h5⟩:=Wq.of s ra rb (nO.of e);exact ⟨p,xs,h1,h2,h3,h4,by rw [<- OE (b:=k),<- h5] at q;exact q⟩
theorem VS.of {i:Int} {x:A} (r:Rs g H m xs vs) (h:VS xs i=some x):∃ v,Uk vs i=some v/\R g H m x v:=by
 cases i with
 | ofNat n =>obtain ⟨v,e,q⟩:=r.get (show xs[n]?=some x from h);exact ⟨v,fW e,q⟩
 | negSucc n =>
  unfold VS at h;dsimp only at h
  cases z:Nat.ble (n+1) xs.length with
  | false=>rw [z] at h;cases h
  | true =>
   rw [z] at h;dsimp only at h;obtain ⟨v,e,q⟩:=r.get h;refine ⟨v,?_,q⟩;have hl:=r.length;have hn:=MY z
   have e1:Up vs.length (Int.negSucc n)=some (xs.length - (n+1)):=by
    unfold Up;have a1:¬ (0:Int)<=Int.negSucc n:=by have:=Ou n;omega
    have a2:-(vs.length:Int)<=Int.negSucc n:=by rw [hl,O6];omega
    rw [Mz a1,MF a2];congr 1;rw [hl,O6];omega
   unfold Uk;rw [e1];exact e
theorem aJ:Sv g (ZK g.K) Qc:=λm S H a b v w Q E s ra rb h=>by
 cases b with
 | int i =>
  unfold Qc at h;dsimp only at h
  cases q:Q6 S a with
  | none=>rw [q] at h;exact h.elim
  | some xs =>
   rw [q] at h;dsimp only at h
   cases qi:VS xs i with
   | none=>rw [qi] at h;exact h.elim
   | some x =>
    rw [qi] at h;obtain ⟨p,vs,rfl,sq,r⟩:=Q6.of s ra q;obtain ⟨u,e,ru⟩:=VS.of r qi;have fin:=h.ret s u ru;rcases sq with sq | sq
    ·exact .inl ⟨p,vs,i,u,rfl,rb.PY,sq,e,fin⟩
    ·exact .inr (.inl ⟨p,vs,i,u,rfl,rb.PY,sq,e,fin⟩)
 | _=>exact h.elim
theorem mL:TV g (rU λi=>.int (-i)) yc:=λm S H a v Q E s ra h=>by
 cases a with
 | int i=>exact ⟨i,ra.PY,Out.int h s⟩
 | _=>exact h.elim
theorem wV:TV g (λx H Q=>Q (.bl (decide (x=.PJ))) H) uG:=λm S H a v Q E s ra h=>by
 obtain ⟨k,e,q⟩:=Out.bA h s
 cases a with
 | PJ=>cases e;rw [ra.Qv];exact q
 | any=>cases e
 | bl b=>cases e;rw [ra.QL];exact q
 | int b=>cases e;rw [ra.PY];exact q
 | str n=>cases e;obtain ⟨x,_,rfl⟩:=ra.Qd;exact q
 | tup n=>cases e;obtain ⟨x,_,rfl,_⟩:=ra.P8;exact q
 | ref n=>cases e;obtain ⟨x,_,rfl⟩:=ra.RD;exact q
 | cl n=>cases e;obtain ⟨x,_,rfl,_⟩:=ra.Vq;exact q
 | tab n=>cases e;rw [ra.Xw];exact q
 | RP n=>cases e;obtain ⟨x,rfl,_⟩:=ra.Vr;exact q
 | R5 n=>cases e;obtain ⟨x,rfl,_⟩:=ra.Vs;exact q
 | Q0=>cases e;obtain ⟨x,_,rfl,_⟩:=ra.Vt;exact q
theorem zj:TV g (λx H Q=>Q (.bl (!decide (x=.PJ))) H) rT:=λm S H a v Q E s ra h=>by
 obtain ⟨k,e,q⟩:=Out.bA h s
 cases a with
 | PJ=>cases e;rw [ra.Qv];exact q
 | any=>cases e
 | bl b=>cases e;rw [ra.QL];exact q
 | int b=>cases e;rw [ra.PY];exact q
 | str n=>cases e;obtain ⟨x,_,rfl⟩:=ra.Qd;exact q
 | tup n=>cases e;obtain ⟨x,_,rfl,_⟩:=ra.P8;exact q
 | ref n=>cases e;obtain ⟨x,_,rfl⟩:=ra.RD;exact q
 | cl n=>cases e;obtain ⟨x,_,rfl,_⟩:=ra.Vq;exact q
 | tab n=>cases e;rw [ra.Xw];exact q
 | RP n=>cases e;obtain ⟨x,rfl,_⟩:=ra.Vr;exact q
 | R5 n=>cases e;obtain ⟨x,rfl,_⟩:=ra.Vs;exact q
 | Q0=>cases e;obtain ⟨x,_,rfl,_⟩:=ra.Vt;exact q
theorem bw:TV g (λv H Q=>∃ p ys,[v]=[V.ref p]/\(P6 g.K H p ys\/Qq g.K H p ys)/\Q (.int ys.length) H) cB:=λm S H a v Q E s ra h=>by
 unfold cB at h
 cases q:Q6 S a with
 | none=>rw [q] at h;exact h.elim
 | some xs =>rw [q] at h;obtain ⟨p,vs,rfl,sq,r⟩:=Q6.of s ra q;refine ⟨p,vs,rfl,sq,?_⟩;rw [r.length];exact Out.int h s
theorem y9:TV g (λv H Q=>∃ (p:Addr) (n:Nat),[v]=[V.ref p]/\H p=some (.ext (nj p n))/\n<=1000/\Q (.int n) H) ya:=λm S H a v Q E s ra h=>by
 cases a with
 | RP n =>
  obtain ⟨p,rfl,q⟩:=ra.Vr;unfold ya at h;dsimp only at h
  cases z:Nat.ble n 900 with
  | false=>rw [z] at h;exact h.elim
  | true =>rw [z] at h;exact ⟨p,n,rfl,q,by have:=MY z;omega,Out.int h s⟩
 | _=>exact h.elim
theorem allB.of:∀ {xs:List A} {vs:List V} {k:Bool},Rs g H m xs vs->allB xs=some k->∃ bs:List Bool,vs=bs.map V.bl/\bs.all id=k
 | [],vs,k,r,h=>by cases h;rw [r.Qp];exact ⟨[],rfl,rfl⟩
 | x::xs,vs,k,r,h=>by
  obtain ⟨v,t,rfl,r1,r2⟩:=r.PL
  cases x with
  | bl b =>
   unfold allB at h
   cases q:allB xs with
   | none=>rw [q] at h;cases h
   | some c =>rw [q] at h;obtain ⟨bs,rfl,e⟩:=allB.of r2 q;rw [r1.QL];refine ⟨b::bs,rfl,?_⟩;rw [N5,e];cases b <;> exact MB h
  | _=>cases h
theorem anyB.of:∀ {xs:List A} {vs:List V} {k:Bool},Rs g H m xs vs->anyB xs=some k->∃ bs:List Bool,vs=bs.map V.bl/\bs.any id=k
 | [],vs,k,r,h=>by cases h;rw [r.Qp];exact ⟨[],rfl,rfl⟩
 | x::xs,vs,k,r,h=>by
  obtain ⟨v,t,rfl,r1,r2⟩:=r.PL
  cases x with
  | bl b =>
   unfold anyB at h
   cases q:anyB xs with
   | none=>rw [q] at h;cases h
   | some c =>rw [q] at h;obtain ⟨bs,rfl,e⟩:=anyB.of r2 q;rw [r1.QL];refine ⟨b::bs,rfl,?_⟩;rw [NW,e];cases b <;> exact MB h
  | _=>cases h
theorem TN.of:∀ {xs:List A} {vs:List V} {k:Int},Rs g H m xs vs->TN xs=some k->∃ ns:List Int,vs=ns.map V.int/\ns.sum=k
 | [],vs,k,r,h=>by cases h;rw [r.Qp];exact ⟨[],rfl,rfl⟩
 | x::xs,vs,k,r,h=>by
  obtain ⟨v,t,rfl,r1,r2⟩:=r.PL
  cases x with
  | int i =>
   unfold TN at h
   cases q:TN xs with
   | none=>rw [q] at h;cases h
   | some c =>rw [q] at h;cases h;obtain ⟨ns,rfl,e⟩:=TN.of r2 q;rw [r1.PY];exact ⟨i::ns,rfl,by rw [List.sum_cons,e]⟩
  | _=>cases h
theorem gB:TV g (λv H Q=>∃ (l:Addr) (bs:List Bool),[v]=[V.ref l]/\P6 g.K H l (bs.map V.bl)/\Q (.bl (bs.all id)) H) nv:=λm S H a v Q E s ra h=>by
 unfold nv at h
 cases q:PV S a with
 | none=>rw [q] at h;exact h.elim
 | some xs =>rw [q] at h;obtain ⟨p,vs,rfl,sq,r⟩:=PV.of s ra q;obtain ⟨k,e,fin⟩:=Out.bA h s;obtain ⟨bs,rfl,eb⟩:=allB.of r e;exact ⟨p,bs,rfl,sq.Q9,by rw [eb];exact fin⟩
theorem B6:TV g (λv H Q=>∃ (l:Addr) (bs:List Bool),[v]=[V.ref l]/\P6 g.K H l (bs.map V.bl)/\Q (.bl (bs.any id)) H) C5:=λm S H a v Q E s ra h=>by
 unfold C5 at h
 cases q:PV S a with
 | none=>rw [q] at h;exact h.elim
 | some xs =>rw [q] at h;obtain ⟨p,vs,rfl,sq,r⟩:=PV.of s ra q;obtain ⟨k,e,fin⟩:=Out.bA h s;obtain ⟨bs,rfl,eb⟩:=anyB.of r e;exact ⟨p,bs,rfl,sq.Q9,by rw [eb];exact fin⟩
theorem Cg:TV g (λv H Q=>∃ (l:Addr) (ns:List Int),[v]=[V.ref l]/\P6 g.K H l (ns.map V.int)/\Q (.int ns.sum) H) C8:=λm S H a v Q E s ra h=>by
 unfold C8 at h
 cases q:PV S a with
 | none=>rw [q] at h;exact h.elim
 | some xs =>
  rw [q] at h;dsimp only at h
  cases e:TN xs with
  | none=>rw [e] at h;exact h.elim
  | some i =>rw [e] at h;obtain ⟨p,vs,rfl,sq,r⟩:=PV.of s ra q;obtain ⟨ns,rfl,eb⟩:=TN.of r e;exact ⟨p,ns,rfl,sq.Q9,by rw [eb];exact Out.int h s⟩
theorem gC:TV g (λv H Q=>∃ p ys,[v]=[V.ref p]/\((P6 g.K H p ys/\∀ l,H l=none->Q (.ref l) (upd H l (.tup ys)))\/(Qq g.K H p ys/\Q (.ref p) H))) ny:=λm S H a v Q E s ra h=>by
 unfold ny at h
 cases q:Q6 S a with
 | none=>rw [q] at h;exact h.elim
 | some xs =>
  rw [q] at h;obtain ⟨p,vs,rfl,sq,r⟩:=Q6.of s ra q;refine ⟨p,vs,rfl,?_⟩;rcases sq with sq | sq
  ·exact .inl ⟨sq,λl hl=>h _ _ (Ext.new hl _) (s.new hl _) _ (R.tup (Qq.of aF) (Rs.mono (Ext.new hl _) s xs r))⟩
  ·exact .inr ⟨sq,h.ret s _ (R.tup sq r)⟩
theorem qo:TV g (λv H Q=>∃ p ys,[v]=[V.ref p]/\(P6 g.K H p ys\/Qq g.K H p ys)/\∀ l,H l=none->Q (.ref l) (upd H l (.lst ys))) yb:=λm S H a v Q E s ra h=>by
 unfold yb at h
 cases q:Q6 S a with
 | none=>rw [q] at h;exact h.elim
 | some xs =>rw [q] at h;obtain ⟨p,vs,rfl,sq,r⟩:=Q6.of s ra q;exact ⟨p,vs,rfl,sq,(Out.new h s r).2⟩
theorem Rc.of:∀ (n k:Nat),Rs g H m (Rc k n) ((List.range' k n).map λi:Nat=>V.int i)
 | 0,k=>.nil
 | n+1,k=>by unfold Rc;rw [List.range'_succ,MZ];exact .cons (R.int _) (Rc.of n (k+1))
theorem wu (n:Nat):Rs g H m (Rc 0 n) ((List.range n).map λi:Nat=>V.int i):=by have:=Rc.of (g:=g) (H:=H) (m:=m) n 0;rw [<- List.range_eq_range'] at this;exact this
theorem zd:TV g (λv H Q=>∃ (p:Addr) (n:Nat),[v]=[V.ref p]/\H p=some (.R5 0 n)/\n<=1000/\∀ l,H l=none->Q (.ref l) (upd H l (.lst ((List.range n).map λi:Nat=>V.int i)))) AJ:=λm S H a v Q E s ra h=>by
 cases a with
 | R5 n =>obtain ⟨p,rfl,q⟩:=ra.Vs;obtain ⟨z,k⟩:=Out.new h s (wu n);rw [MK,Pk] at z;exact ⟨p,n,rfl,q,by omega,k⟩
 | _=>exact h.elim
theorem Cc:TV g (λv H Q=>∃ n:Nat,[v]=[V.int n]/\∀ p,H p=none->Q (.ref p) (upd H p (.R5 0 n))) C6:=λm S H a v Q E s ra h=>by
 cases a with
 | int i =>
  cases i with
  | ofNat n =>
   unfold C6 at h;dsimp only at h
   cases z:Nat.ble n 900 with
   | false=>rw [z] at h;exact h.elim
   | true =>rw [z] at h;refine ⟨n,by rw [ra.PY];rfl,λp hp=>h _ _ (Ext.new hp _) (s.new hp _) _ ?_⟩;unfold R;exact ⟨p,rfl,aF⟩
  | negSucc n=>exact h.elim
 | _=>exact h.elim
noncomputable abbrev Sd (g:Gx):List Nat->List Str->Prop:=Paired (λ(n:Nat) (x:Str)=>g.ST[n]?=some x)
theorem oE {x:Str} (h:g.ST[n]?=some x):∀ {l:List Nat} {zs:List Str},Sd g l zs->(zs.any λy=>y == x)=cL n l
 | _,_,.nil=>rfl
 | _,_,.cons (a:=k) (b:=y) e p=>by
  rw [NW,oE h p,qH e h];show _=(match Nat.beq k n with | true=>true | false=>cL n _)
  cases Nat.beq k n <;> rfl
theorem j0:∀ {l:List Nat} {zs:List Str} {acc:List Nat} {az:List Str},Sd g l zs->Sd g acc az->(zs.foldl step_dedup az).length=(sy acc l).length
 | _,_,acc,az,.nil,h=>h.length.symm
 | _,_,acc,az,.cons (a:=n) (b:=x) e p,h=>by
  rw [List.foldl_cons];have hm:=oE e h;unfold sy
  cases q:cL n acc with
  | true =>
   rw [q] at hm;have:step_dedup az x=az:=by unfold step_dedup;rw [MF hm]
   rw [this];exact j0 p h
  | false =>
   rw [q] at hm;have:step_dedup az x=az++[x]:=by unfold step_dedup;rw [Mz (by rw [hm];exact Mx)]
   rw [this];exact j0 p (h.snoc e)
theorem wK (zs:List Str):(List.range zs.length).map (λi=>zs.getD i "")=zs:=by refine List.ext_getElem (by simp) λi h1 h2=>?_;rw [List.getElem_map,List.getElem_range,NX,Ms h2];rfl
theorem Cd:TV g (λv H Q=>∃ (l:Addr) (zs:List Str),[v]=[V.ref l]/\P6 g.K H l (zs.map V.str)/\zs.length<=100/\∀ p,H p=none->Q (.ref p) (upd H p (.ext (nj p (pG zs))))) C7:=λm S H a v Q E s ra h=>by
 unfold C7 at h
 cases q:PV S a with
 | none=>rw [q] at h;exact h.elim
 | some xs =>
  rw [q] at h;dsimp only at h
  cases q9:few 90 xs with
  | false=>rw [q9] at h;exact h.elim
  | true =>
   cases ql:strsOf xs with
   | none=>rw [q9,ql] at h;exact h.elim
   | some l =>
    rw [q9,ql] at h;dsimp only at h;rw [wg] at h;obtain ⟨p,vs,rfl,sq,r⟩:=PV.of s ra q;obtain ⟨zs,rfl,pz⟩:=strsOf.of r ql;have hl:=r.length;rw [MK] at hl;refine ⟨p,zs,rfl,sq.Q9,by have:=dA q9;omega,λb hb=>h _ _ (Ext.new hb _) (s.new hb _) _ ?_⟩;unfold R;refine ⟨b,rfl,?_⟩;rw [aF]
    have:pG zs=(sy [] l).length:=by unfold pG met;rw [wK];exact j0 pz .nil
    rw [this]
end
noncomputable def TyA (K:W.Frag) (H:Hp) (k:Nat) (v:V):Prop:=match k with
 | 0=>v=.PJ
 | 1=>∃ b,v=.bl b
 | 2=>∃ b,v=.int b
 | 3=>∃ b,v=.str b
 | 4=>∃ a vs,v=.ref a/\Qq K H a vs
 | 5=>∃ a vs,v=.ref a/\P6 K H a vs
 | _=>False
noncomputable def Wt:Nat->String
 | 0=>"NoneType"
 | 1=>"bool"
 | 2=>"int"
 | 3=>"str"
 | 4=>"tuple"
 | _=>"list"
theorem vi (t:Nat) (hk:∀ k,k<=5->W.kitOne X.K (.type (Wt k)) (.type (Wt t))=some (Xx t k)) :
  cZ X (.builtin "isinstance") (λxs H Q=>∃ x k,xs=[x,.ty (Wt t)]/\TyA X.K H k x/\Q (.bl (Xx t k)) H):=by
 intro pins s σ H xs us Q I r h;obtain ⟨x,k,e,q,h⟩:=h;subst e;obtain ⟨u,c,e,ru,rc⟩:=AK r;subst e;cases (show c=Value.type (Wt t) from rc);have fin:∀ tk,EP X pins σ Q (.bool (Xx t k)) { s with toks:=tk }:=λtk=>⟨.bl _,H,I.tok tk,rfl,h⟩
 have k5:k<=5:=Nat.le_of_not_lt λz=>by
  obtain ⟨j,rfl⟩:∃ j,k=j+6:=⟨k - 6,by omega⟩
  exact q
 have kd:=hk k k5
 match k with
 | 0=>subst q;cases ru;exact NS W.kitx_none I.QK True.intro kd (λz=>nomatch z) fin
 | 1=>obtain ⟨b,rfl⟩:=q;cases ru;exact NS W.kitx_bool I.QK True.intro kd (λz=>nomatch z) fin
 | 2=>obtain ⟨b,rfl⟩:=q;obtain ⟨t,rfl⟩:=ru;exact NS W.kitx_int I.QK True.intro kd (λz=>nomatch z) fin
 | 3=>obtain ⟨b,rfl⟩:=q;obtain ⟨t,rfl⟩:=ru;exact NS W.kitx_str I.QK True.intro kd (λz=>nomatch z) fin
 | 4 =>obtain ⟨a,vs,rfl,sq⟩:=q;cases ru;obtain ⟨its,_,⟨o,e1,e2,_⟩,_⟩:=I.tuple sq;exact NS W.kitx_tuple I.QK ⟨o,e1,e2⟩ kd (λz=>nomatch z) fin
 | 5 =>obtain ⟨a,vs,rfl,sq⟩:=q;cases ru;obtain ⟨its,_,⟨o,_,e1,e2,_⟩,_⟩:=I.list sq;exact NS W.kitx_list I.QK ⟨o,e1,e2⟩ kd (λz=>nomatch z) fin
 | k+6=>exact q.elim
theorem yV {K:W.Frag} {t:Nat} (h1:1<=t) (h5:t<=5) (k:Nat) (hk:k<=5):W.kitOne K (.type (Wt k)) (.type (Wt t))=some (Xx t k):=by
 match t,h1,h5 with
 | 1,_,_=>match k,hk with | 0,_=>rfl | 1,_=>rfl | 2,_=>rfl | 3,_=>rfl | 4,_=>rfl | 5,_=>rfl
 | 2,_,_=>match k,hk with | 0,_=>rfl | 1,_=>rfl | 2,_=>rfl | 3,_=>rfl | 4,_=>rfl | 5,_=>rfl
 | 3,_,_=>match k,hk with | 0,_=>rfl | 1,_=>rfl | 2,_=>rfl | 3,_=>rfl | 4,_=>rfl | 5,_=>rfl
 | 4,_,_=>match k,hk with | 0,_=>rfl | 1,_=>rfl | 2,_=>rfl | 3,_=>rfl | 4,_=>rfl | 5,_=>rfl
 | 5,_,_=>match k,hk with | 0,_=>rfl | 1,_=>rfl | 2,_=>rfl | 3,_=>rfl | 4,_=>rfl | 5,_=>rfl
section
variable {g:Gx} {m:List Addr} {S:PD} {H:Hp}
theorem WW.of {a:A} {v:V} {k:Nat} (s:PN g m S H) (r:R g H m a v) (h:WW S a=some k):TyA g.K H k v:=by
 cases a with
 | PJ=>cases h;exact r.Qv
 | bl b=>cases h;exact ⟨b,r.QL⟩
 | int b=>cases h;exact ⟨b,r.PY⟩
 | str b=>cases h;obtain ⟨x,_,e⟩:=r.Qd;exact ⟨x,e⟩
 | tup b=>cases h;obtain ⟨p,vs,e,q,_⟩:=r.P8;exact ⟨p,vs,e,q⟩
 | cl b=>cases h;obtain ⟨p,vs,e,q,_⟩:=r.Vq;exact ⟨p,vs,e,Sl.Q9 (.inr q)⟩
 | ref i =>
  unfold WW at h;dsimp only at h
  cases q:Ug S i with
  | none=>rw [q] at h;cases h
  | some xs =>rw [q] at h;cases h;obtain ⟨p,e,rfl⟩:=r.RD;obtain ⟨p',vs,e1,e2,_⟩:=P6.look s q;rw [e] at e1;cases e1;exact ⟨p,vs,rfl,P6.of e2⟩
 | _=>cases h
end
section
variable {X:Cx} {g:Gx} {E:L2.St->XK} {a b c e:Expr} {es rest:List Expr} {ca cb cc ce:Ce} {ct cu:Ct} {cs:Ca} {pos:Pos}
variable {p:Pos}
theorem fP {t:Nat} {u:Expr} (h1:1<=t) (h5:t<=5) (hK:X.K=g.K) (hm:X.mg "isinstance"=none) (hg:Gl X "isinstance") (hv:bootBuiltins "isinstance"=some (.builtin "isinstance")) (ha:PE X a (tE g E ca)) (hu:PE X u (L2.tC (.ty (Wt t))))
  (hs:dw a=true:=by rfl) (hs2:dw u=true:=by rfl) (he:starEach [a,u] X.env=(false,eval a X.env)::starEach [u] X.env:=by rfl) (hpl:(backTo pos (starEach [u] X.env)).any (·.1)=false:=by rfl) :
  PE X (.Call (.Name "isinstance" p) [a,u] [] pos) (tE g E (cU (UW t) ca)):=by
 exact Q2 (bf (vi t λk z=>yV h1 h5 k z) hg hm hv (a9 ha (a9 hu aM hs2) hs) (by decide) (by decide) he hpl) λσ H Q ⟨m,ρ,S,s,re,h⟩=>⟨m,ρ,S,s,re,h.bind.mono λx m1 S1 H1 x1 s1 h1 v rv=>by
  unfold UW at h1
  cases q:WW S1 x with
  | none=>rw [q] at h1;exact h1.elim
  | some k =>rw [q] at h1;obtain ⟨b,e,fin⟩:=Out.bA h1 s1;cases e;exact ⟨v,k,rfl,hK ▸ WW.of s1 rv q,fin⟩⟩
structure jN (g:Gx) (T:List (Str × KTD.Dat)) (ks:List (Nat × A)):Prop where
 mem:∀ (n:Nat) (x:Str),g.ST[n]?=some x->KTD.inKeys x T=(look n ks).isSome
 plain:(T.all λp=>KTD.plain p.2)=true
 int:∀ (n:Nat) (x:Str) (i:Int),g.ST[n]?=some x->look n ks=some (.int i)->KTD.datumAt x T=some (.flat (.int i))
 str:∀ (n:Nat) (x:Str) (k:Nat),g.ST[n]?=some x->look n ks=some (.str k)->∃ z,g.ST[k]?=some z/\KTD.datumAt x T=some (.flat (.str z))
 flat:∀ (n:Nat) (x:A),look n ks=some x->(∃ i,x=.int i)\/∃ k,x=.str k
variable {T:List (Str × KTD.Dat)} {ks:List (Nat × A)} {m:List Addr} {H:Hp}
theorem V1.of (tb:jN g T ks) {x:A} {v:V} {k:Bool} (r:R g H m x v) (h:V1 ks x=some k):∃ y,v=.str y/\KTD.inKeys y T=k:=by
 cases x with
 | str n =>
  obtain ⟨y,e,rfl⟩:=r.Qd;refine ⟨y,rfl,?_⟩;rw [tb.mem n y e];unfold V1 at h;dsimp only at h
  cases q:look n ks with
  | none=>rw [q] at h;cases h;rfl
  | some z=>rw [q] at h;cases h;rfl
 | _=>cases h
variable {t:Addr}
theorem Eu (tb:jN g T ks) (hK:X.K=g.K) (tk:gK g.K t T) (ha:PE X a (tE g E ca)) (hb:PE X b (L2.tC (.ref t))) (hm:behindInMarks .In b=false):PE X (.Compare a [.In] [b] pos) (tE g E (rY ks ca)) :=
 Q2 (rA oO ha hb hm) λσ H Q ⟨m,ρ,S,s,re,h⟩=>⟨m,ρ,S,s,re,h.bind.mono λx m1 S1 H1 x1 s1 h1 v rv=>by
  obtain ⟨k,e,q⟩:=Out.bA h1 s1;obtain ⟨y,rfl,e2⟩:=V1.of tb rv e;exact ⟨y,t,T,rfl,rfl,hK ▸ tk,by rw [e2];exact q⟩⟩
theorem qC (tb:jN g T ks) (hK:X.K=g.K) (tk:gK g.K t T) (ha:PE X a (tE g E ca)) (hb:PE X b (L2.tC (.ref t))) (hm:behindInMarks .In b=false):PT X (.Compare a [.In] [b] pos) (tB g E (Qg (rY ks ca))) :=
 V2 (dY oO ha hb hm) λσ H Q ⟨m,ρ,S,s,re,h⟩=>⟨m,ρ,S,s,re,h.bind.bind.mono λx m1 S1 H1 x1 s1 h1 v rv=>by
  obtain ⟨k,e,q⟩:=Out.bA (Q:=λu H'=>∃ k,u=.bl k/\Q k H') (h1.mono λz m2 S2 H2 x2 s2 h2 u ru=>by
   cases z with
   | bl k=>exact ⟨k,ru.QL,h2.ret s2⟩
   | _=>exact h2.elim) s1
  obtain ⟨y,rfl,e2⟩:=V1.of tb rv e;exact ⟨y,t,T,rfl,rfl,hK ▸ tk,by rw [e2];exact q⟩⟩
theorem zK (tb:jN g T ks) (hK:X.K=g.K) (tk:gK g.K t T) (ha:PE X a (tE g E ca)) (hb:PE X b (L2.tC (.ref t))) (hm:behindInMarks .NotIn b=false):PT X (.Compare a [.NotIn] [b] pos) (tB g E (Qg (Ad ks ca))) :=
 V2 (dY oP ha hb hm) λσ H Q ⟨m,ρ,S,s,re,h⟩=>⟨m,ρ,S,s,re,h.bind.bind.mono λx m1 S1 H1 x1 s1 h1 v rv=>by
  obtain ⟨k,e,q⟩:=Out.bA (Q:=λu H'=>∃ k,u=.bl k/\Q k H') (h1.mono λz m2 S2 H2 x2 s2 h2 u ru=>by
   cases z with
   | bl k=>exact ⟨k,ru.QL,h2.ret s2⟩
   | _=>exact h2.elim) s1
  obtain ⟨y,rfl,e2⟩:=V1.of tb rv (nO.of e);exact ⟨y,t,T,rfl,rfl,hK ▸ tk,by rw [e2,OE];exact q⟩⟩
theorem xw (tb:jN g T ks) (hK:X.K=g.K) (tk:gK g.K t T) (hb:PE X b (L2.tC (.ref t))) (ha:PE X a (tE g E ca)) (hs:jH a):PE X (.Subscript b a pos) (tE g E (yq ks ca)) :=
 Q2 (fg (Wj.or yT) hb ha hs) λσ H Q ⟨m,ρ,S,s,re,h⟩=>⟨m,ρ,S,s,re,h.bind.mono λx m1 S1 H1 x1 s1 h1 v rv=>by
  cases x with
  | str n =>
   obtain ⟨y,e,rfl⟩:=rv.Qd;dsimp only at h1
   cases q:look n ks with
   | none=>rw [q] at h1;exact h1.elim
   | some z =>
    rw [q] at h1;rcases tb.flat n z q with ⟨i,rfl⟩ | ⟨k,rfl⟩
    ·exact .inl ⟨t,y,T,i,rfl,rfl,hK ▸ tk,tb.plain,tb.int n y i e q,h1.ret s1 _ (R.int i)⟩
    ·obtain ⟨z,e1,e2⟩:=tb.str n y k e q;exact .inr ⟨t,y,T,z,rfl,rfl,hK ▸ tk,tb.plain,e2,h1.ret s1 _ (R.str e1)⟩
  | _=>exact h1.elim⟩
variable {j:Nat}
theorem CD {i:Int} {pi apos:Pos} (tb:jN g T ks) (hi:∀ p ∈ T,∃ j,p.2=.flat (.int j)) (hK:X.K=g.K) (tk:gK g.K t T) (hb:PE X b (L2.tC (.ref t))) (ha:PE X a (tE g E ca)) (m2:M2 X b "get" apos a (.Constant (.int i) j pi) pos) :
  PE X (.Call (.Attribute b "get" apos) [a,.Constant (.int i) j pi] [] pos) (tE g E (Ac ks ca i)) :=
 Q2 (uo hb ha bB m2) λσ H Q ⟨m,ρ,S,s,re,h⟩=>⟨t,T,rfl,hK ▸ tk,m,ρ,S,s,re,h.bind.mono λx m1 S1 H1 x1 s1 h1 v rv=>by
  cases x with
  | str n =>
   obtain ⟨y,e,rfl⟩:=rv.Qd;refine ⟨y,i,rfl,rfl,hi,?_⟩;dsimp only at h1
   cases q:look n ks with
   | none =>
    rw [q] at h1
    have:KTD.datumAt y T=none:=by
     have hm:=tb.mem n y e;rw [q] at hm
     cases z:KTD.datumAt y T with
     | none=>rfl
     | some d=>rw [<- Pe,z] at hm;cases hm
    rw [this];exact h1.ret s1 _ (R.int i)
   | some z =>
    rw [q] at h1;rcases tb.flat n z q with ⟨i',rfl⟩ | ⟨k,rfl⟩
    ·rw [tb.int n y i' e q];exact h1.ret s1 _ (R.int i')
    ·exact h1.elim
  | _=>exact h1.elim⟩
variable {S:PD}
theorem Out.Xy {α β:Type} {r:Res α} {f:α->PD->Res β} {P:β->List Addr->PD->Hp->Prop} {E:XK} (h:Out g m S H (r.b f) P E):Out g m S H r (λa _ S1 _=>Out g m S H (f a S1) P E) E:=by
 cases r with
 | ok a S'=>exact λm' H' y s=>h
 | exc c S'=>exact h
 | bad=>exact h
noncomputable def PQ (X:Cx) (g:Gx) (E:L2.St->XK) (pos:Pos) (keys:List (Option Expr)) (values:List Expr) (xs:List Str) (c:Ca):Prop :=
 ∃ UO,Xi X pos keys values UO/\∀ σ H Q,U7 g E c σ H (λvs H'=>vs.length=xs.length->Q ((xs.map V.str).zip vs) H')->nr UO σ H Q
theorem Cy:PQ X g E pos [] [] [] aN:=⟨[],zF,λσ H Q ⟨m,ρ,S,s,re,h⟩=>h.ret s [] .nil rfl⟩
variable {xs:List Str}
theorem mT {x:Str} {ks:List (Option Expr)} {vs:List Expr} (hv:PE X a (tE g E ca)) (hr:PQ X g E pos ks vs xs cs):PQ X g E pos (some (.Constant (.str x) j p)::ks) (a::vs) (x::xs) (aC ca cs):=by obtain ⟨UO,hp,k⟩:=hr;refine ⟨_,xn iK hv hp,λσ H Q ⟨m,ρ,S,s,re,h⟩=>⟨m,ρ,S,s,re,h.bind.mono λy m1 S1 H1 x1 s1 h1 v rv=>k σ H1 _ ⟨m1,ρ,S1,s1,re.mono x1 s,h1.bind.mono λys m2 S2 H2 x2 s2 h2 us rus hl=>?_⟩⟩⟩;have:=h2.ret s2 (v::us) (.cons (R.mono x2 s1 _ rv) rus) (by simp [hl]);exact this
theorem jm:∀ (kvs acc:List (Key × V)),(kvs.map (·.1)).Nodup->(∀ p ∈ acc,p.1 ∉ kvs.map (·.1))->fM acc kvs=acc++kvs
 | [],acc,_,_=>by show acc=acc++[];rw [Ov]
 | p::r,acc,nd,hd=>by
  rw [MZ,N7] at nd
  have e:kn acc p.1 p.2=acc++[p]:=by unfold kn;rw [Mz];intro z;obtain ⟨q,hq,e⟩:=List.any_eq_true.mp z;exact hd q hq (by rw [M1 e];exact MW)
  show fM (kn acc p.1 p.2) r=_;rw [e,jm r (acc++[p]) nd.2 λq hq=>?_,N9]
  ·rfl
  ·rcases Nc.mp hq with hq | hq
   ·exact λz=>hd q hq (MU _ z)
   ·rw [MS.mp hq];exact nd.1
theorem yk:∀ {xs:List Str} {vs:List V},vs.length=xs.length->(xs.map V.str).zip vs=((xs.map (Sum.inr:Str->Key)).zip vs).map λkv=>(kV kv.1,kv.2)
 | [],_,_=>rfl
 | x::xs,[],h=>nomatch h
 | x::xs,v::vs,h=>by simp only [MZ,List.zip_cons_cons];rw [yk (by simpa using h)];rfl
theorem Rk.zip:∀ {ks:List Nat} {xs:List Str} {as:List A} {vs:List V},Sd g ks xs->Rs g H m as vs->Rk g H m (ks.zip as) ((xs.map (Sum.inr:Str->Key)).zip vs)
 | _,_,as,vs,.nil,_=>by simp;exact .nil
 | _,_,[],vs,.cons e p,r=>by rw [r.Qp];simp;exact .nil
 | _,_,a::as,vs,.cons e p,r=>by obtain ⟨v,t,rfl,r1,r2⟩:=r.PL;exact .cons ⟨⟨_,e,rfl⟩,r1⟩ (Rk.zip p r2)
theorem Sd.keys {ks:List Nat} (h:Sd g ks xs) (nd:ks.Nodup):xs.Nodup:=by
 induction h with
 | nil=>exact List.nodup_nil
 | @cons a b l1 l2 e p ih =>
  rw [N7] at nd ⊢;refine ⟨λhb=>nd.1 ?_,ih nd.2⟩;clear ih nd
  induction p with
  | nil=>exact absurd hb (by simp)
  | @cons c d l1 l2 e' p ih =>
   rcases MA.mp hb with z | z
   ·rw [z] at e;have:a=c:=(OI (Mk.mp e).1 g.nd).mp (e.trans e'.symm);rw [this];exact MW
   ·exact MU _ (ih z)
mutual
variable {m:List Addr} {H:Hp}
theorem R.more (k:List Addr):∀ (a:A) {v:V},R g H m a v->R g H (m++k) a v
 | .PJ,v,h=>by unfold R at h ⊢;exact h
 | .bl b,v,h=>by unfold R at h ⊢;exact h
 | .int i,v,h=>by unfold R at h ⊢;exact h
 | .str n,v,h=>by unfold R at h ⊢;exact h
 | .tab t,v,h=>by unfold R at h ⊢;exact h
 | .any,v,h=>by unfold R;exact True.intro
 | .tup xs,v,h=>by obtain ⟨a,vs,e,q,r⟩:=h.P8;unfold R;exact ⟨a,vs,e,q,Rs.more k xs r⟩
 | .cl xs,v,h=>by obtain ⟨a,vs,e,q,r⟩:=h.Vq;unfold R;exact ⟨a,vs,e,q,Rs.more k xs r⟩
 | .ref i,v,h=>by obtain ⟨a,e,q⟩:=h.RD;unfold R;exact ⟨a,dH e,q⟩
 | .RP n,v,h=>by unfold R at h ⊢;exact h
 | .R5 n,v,h=>by unfold R at h ⊢;exact h
 | .Q0,v,h=>by unfold R at h ⊢;exact h
theorem Rs.more (k:List Addr):∀ (xs:List A) {vs:List V},Rs g H m xs vs->Rs g H (m++k) xs vs
 | [],vs,h=>by unfold Rs at h ⊢;exact h
 | a::xs,vs,h=>by obtain ⟨v,r,rfl,h1,h2⟩:=h.PL;exact .cons (R.more k a h1) (Rs.more k xs h2)
end
theorem Rk.more (k:List Addr):∀ {ks:List (Nat × A)} {kvs:List (Key × V)},Rk g H m ks kvs->Rk g H (m++k) ks kvs
 | _,_,.nil=>.nil
 | _,_,.cons h t=>.cons ⟨h.1,R.more k _ h.2⟩ (Rk.more k t)
theorem PN.adopt {p:Addr} {c:C} (s:PN g m S H) (hp:p ∉ m) (hc:UU g H (m++[p]) c p):PN g (m++[p]) ⟨S.nx+1,(S.nx,c)::S.cs⟩ H:=by
 refine ⟨by simp [s.len],?_,λa ha=>?_,λi d e=>?_⟩
 ·rw [List.nodup_append];exact ⟨s.nd,by simp,λa ha b hb z=>hp (by rw [<- MS.mp hb,<- z];exact ha)⟩
 ·rcases Nc.mp ha with w | w
  ·exact s.up a w
  ·rw [MS.mp w];rcases hc.has with ⟨vs,q⟩ | ⟨vs,q⟩ <;> (rw [q];exact λz=>nomatch z)
 ·rw [aO] at e;by_cases hi:S.nx=i
  ·rw [MF hi] at e;cases e;exact ⟨p,by rw [<- hi,<- s.len];simp,hc⟩
  ·rw [Mz hi] at e;obtain ⟨a,q,ok⟩:=s.cell i d e;refine ⟨a,dH q,?_⟩
   cases d with
   | lst xs=>obtain ⟨vs,q,r⟩:=ok;exact ⟨vs,q,Rs.more _ _ r⟩
   | TJ xs=>obtain ⟨vs,q,r⟩:=ok;exact ⟨vs,q,Rs.more _ _ r⟩
   | dct ks=>obtain ⟨vs,q,r⟩:=ok;exact ⟨vs,q,Rk.more _ r⟩
   | RB=>exact ok
theorem Es {keys:List (Option Expr)} {values:List Expr} {ks:List Nat} (hq:PQ X g E pos keys values xs cs) (sd:Sd g ks xs) (nd:ks.Nodup) (hx:xs.length<=15) (hall:keys.all (·.isSome)=true) (hl:keys.length=values.length) (h0:keys≠[])
  (YD:keys.length<=15):PE X (.Dict keys values pos) (tE g E (Dp ks cs)):=by
 obtain ⟨UO,hp,k⟩:=hq;refine Q2 (zz hp hall hl h0 YD) λσ H Q ⟨m,ρ,S,s,re,h⟩ p hp0=>k σ _ _ ⟨m,ρ,S,s.new hp0 _,re.mono (Ext.new hp0 _) s,((Out.Xy h).ext (Ext.new hp0 (.dK []))).mono λas m2 S2 H2 x2 s2 h2 vs rs hlen=>?_⟩;have Ym:p ∉ m:=λz=>s.up p z hp0;have hnl:¬ Ud m S p:=λ⟨i,c,e,_⟩=>Ym (Ni e);refine ⟨x2.keep p _ hnl aF,(xs.map Sum.inr).zip vs,yk hlen,by rw [List.length_zip,MK];omega,?_⟩;have hxn:((xs.map (Sum.inr:Str->Key)).zip vs).map (·.1)=xs.map Sum.inr:=List.map_fst_zip (by rw [MK];omega)
 have hm:fM [] ((xs.map (Sum.inr:Str->Key)).zip vs)=(xs.map Sum.inr).zip vs:=by rw [jm _ [] (by rw [hxn];exact List.Pairwise.map _ (λ_ _ z e=>z (Sum.inr.inj e)) (sd.keys nd)) (λ_ z=>nomatch z)];rfl
 rw [hm];rw [bW,oH] at h2;obtain ⟨k2,e2,hk2⟩:=x2.pre
 have hp2:p ∉ m2:=by
  rw [e2];intro z;rcases Nc.mp z with z | z
  ·exact Ym z
  ·have:=hk2 p z;rw [aF] at this;cases this
 have h2p:H2 p=some (.dK []):=x2.keep p _ hnl aF;have s3:=s2.adopt (c:=.dct []) hp2 ⟨[],h2p,.nil⟩;obtain ⟨s4,_⟩:=s3.write (a:=p) (i:=S2.nx) (c:=.dct (ks.zip as)) (o:=.dK ((xs.map Sum.inr).zip vs)) (by rw [<- s2.len];simp) (by rw [aO,MF rfl]) rfl λx=>⟨_,aF,Rk.mono x s3 (Rk.zip sd (Rs.more _ _ rs))⟩
 rw [ik,MF rfl] at s4;refine h2 (m2++[p]) _ ⟨⟨k2++[p],by rw [e2,N9],λa ha=>?_⟩,λa z=>?_,λa o hn ha=>?_,λi c hi e oo=>?_⟩ s4 _ (R.ref ?_)
 ·rcases Nc.mp ha with z | z
  ·exact (Ext.new (m:=m) (S:=S) hp0 (.dK [])).low a (hk2 a z)
  ·rw [MS.mp z];exact hp0
 ·by_cases zp:a=p
  ·rw [zp];exact hp0
  ·rw [aE zp] at z;exact (Ext.new (m:=m) (S:=S) hp0 (.dK [])).low a (x2.low a z)
 ·have zp:a≠p:=aV ha hp0;rw [aE zp];exact x2.keep a o hn (by rw [aE zp];exact ha)
 ·rw [aO] at e;by_cases z:S2.nx=i
  ·have:=s2.len;rw [e2,MO] at this;omega
  ·rw [Mz z] at e;exact x2.bk i c hi e oo
 ·rw [<- s2.len];simp
end
noncomputable def Yn (g:Gx) (r:V->List V->Hp->VK->Prop) (f:A->A->PD->Res A):Prop:=∀ m S H a b v w Q E,PN g m S H->R g H m a v->R g H m b w->Out g m S H (f a b S) (An g Q) E->r v [w] H Q
section
variable {g:Gx} {m:List Addr} {S:PD} {H:Hp}
variable {n:Nat}
theorem rj {x:Str} (e:g.ST[n]?=some x):∀ {ks:List (Nat × A)} {kvs:List (Key × V)} {a:A},Rk g H m ks kvs->look n ks=some a->∃ v,i5 kvs (.inr x)=some v/\R g H m a v
 | _,_,a,.nil,h=>nomatch h
 | _,_,a,.cons (a:=p) (b:=q) hp t,h=>by
  obtain ⟨k,b⟩:=p;obtain ⟨k',v⟩:=q;obtain ⟨⟨y,ey,rfl⟩,r⟩:=hp;rw [aO] at h;by_cases z:k=n
  ·subst z;rw [MF rfl] at h;cases h;have:y=x:=MB (ey.symm.trans e);subst this;exact ⟨v,by unfold i5;rw [NC,N2 rfl];rfl,r⟩
  ·rw [Mz z] at h;obtain ⟨u,e1,e2⟩:=rj e t h;refine ⟨u,?_,e2⟩;unfold i5 at e1 ⊢;rw [NC]
   have:decide ((Sum.inr y:Key)=Sum.inr x)=false:=M4 λw=>z (by
    have:y=x:=Sum.inr.inj w;subst this;exact (OI (Mk.mp ey).1 g.nd).mp (ey.trans e.symm))
   simp only [this];exact e1
variable {xs:List A} {v:V}
theorem qU {i:Nat} (s:PN g m S H) (r:R g H m (.ref i) v) (h:look i S.cs=some (.lst xs)):∃ a vs,v=.ref a/\m[i]?=some a/\H a=some (.lst vs)/\Rs g H m xs vs:=by obtain ⟨a,e,vs,q,r2⟩:=s.cell i _ h;obtain ⟨a',e',rfl⟩:=r.RD;rw [e] at e';cases e';exact ⟨a,vs,rfl,e,q,r2⟩
theorem fO:Yn g rH kX:=λm S H a b v w Q E s ra rb h=>by
 cases a with
 | ref i =>
  unfold kX at h;dsimp only at h
  cases q:look i S.cs with
  | none=>rw [q] at h;exact h.elim
  | some c =>
   rw [q] at h
   cases c with
   | lst xs =>
    dsimp only at h
    cases q9:few 900 xs with
    | false=>rw [q9] at h;exact h.elim
    | true =>
     rw [q9] at h;dsimp only at h;rw [bW,ph] at h;obtain ⟨p,vs,rfl,e,hp,r⟩:=qU s ra q;obtain ⟨s2,x2⟩:=s.write (a:=p) (i:=i) (c:=.lst (xs++[b])) (o:=.lst (vs++[w])) e q rfl λx=>⟨_,aF,(Rs.mono x s xs r).append (.cons (R.mono x s b rb) .nil)⟩
     have hl:=r.length;have h9:=dA q9;exact ⟨p,vs,w,rfl,rfl,hp,by rw [Na];omega,h _ _ x2 s2 _ R.PJ⟩
   | _=>exact h.elim
 | _=>exact h.elim
theorem bZ:Yn g mW dQ:=λm S H a b v w Q E s ra rb h=>by
 cases a with
 | ref i =>
  cases b with
  | ref j =>
   unfold dQ at h;dsimp only at h
   cases q:look i S.cs with
   | none=>rw [q] at h;exact h.elim
   | some c =>
    rw [q] at h
    cases c with
    | lst xs =>
     dsimp only at h
     cases qj:look j S.cs with
     | none=>rw [qj] at h;exact h.elim
     | some c =>
      rw [qj] at h
      cases c with
      | lst ys =>
       dsimp only at h
       cases q9:few 900 (xs++ys) with
       | false=>rw [q9] at h;exact h.elim
       | true =>
        rw [q9] at h;dsimp only at h;rw [bW,ph] at h;obtain ⟨p,vs,rfl,e,hp,r⟩:=qU s ra q;obtain ⟨p',us,rfl,e',Zd,r'⟩:=qU s rb qj;obtain ⟨s2,x2⟩:=s.write (a:=p) (i:=i) (c:=.lst (xs++ys)) (o:=.lst (vs++us)) e q rfl λx=>⟨_,aF,(Rs.mono x s xs r).append (Rs.mono x s ys r')⟩
        have hl:=r.length;have hl':=r'.length;have h9:=dA q9;rw [MO] at h9;exact ⟨p,p',vs,us,rfl,rfl,hp,Zd,by rw [Na];omega,h _ _ x2 s2 _ R.PJ⟩
      | _=>exact h.elim
    | _=>exact h.elim
  | _=>exact h.elim
 | _=>exact h.elim
theorem Rs.dropLast {vs:List V} (r:Rs g H m xs vs):Rs g H m xs.dropLast vs.dropLast:=by rw [List.dropLast_eq_take,List.dropLast_eq_take,r.length];exact r.take _
theorem Cb:TV g (λv H Q=>EE v [] H Q) wJ:=λm S H a v Q E s ra h=>by
 cases a with
 | ref i =>
  unfold wJ at h;dsimp only at h
  cases q:look i S.cs with
  | none=>rw [q] at h;exact h.elim
  | some c =>
   rw [q] at h
   cases c with
   | lst xs =>
    dsimp only at h
    cases q9:xs[xs.length - 1]? with
    | none=>rw [q9] at h;exact h.elim
    | some y =>
     rw [q9] at h;dsimp only at h;rw [bW,ph] at h;obtain ⟨p,vs,rfl,e,hp,r⟩:=qU s ra q;obtain ⟨u,eu,ru⟩:=r.get q9;obtain ⟨s2,x2⟩:=s.write (a:=p) (i:=i) (c:=.lst xs.dropLast) (o:=.lst vs.dropLast) e q rfl λx=>⟨_,aF,Rs.mono x s _ r.dropLast⟩
     exact ⟨p,vs,u,rfl,rfl,hp,by rw [r.length];exact eu,h _ _ x2 s2 _ (R.mono x2 s y ru)⟩
   | _=>exact h.elim
 | _=>exact h.elim
theorem Uh.of {x:A} (r:R g H m x v):∀ {xs:List A} {vs:List V} {k j:Nat},Rs g H m xs vs->Uh x xs k=some j->∃ i,j=k+i/\(∃ e,(Qw g xs)[i]?=some e/\P4 e (toD g x)=true)/\∀ (n:Nat) e,n < i->(Qw g xs)[n]?=some e->P4 e (toD g x)=false
 | [],_,k,j,_,h=>nomatch h
 | y::ys,_,k,j,rs,h=>by
  obtain ⟨u,t,rfl,r1,r2⟩:=rs.PL;unfold Uh at h;have e0:=mC y x r1 r
  cases q:Td y x with
  | true =>rw [q] at h;cases h;exact ⟨0,rfl,⟨toD g y,by unfold Qw;rfl,by rw [e0,q]⟩,λn e z=>absurd z (Nat.not_lt_zero n)⟩
  | false =>
   rw [q] at h;obtain ⟨i,e1,⟨e,e2,e3⟩,e4⟩:=Uh.of r r2 h;refine ⟨i+1,by omega,⟨e,by unfold Qw;exact e2,e3⟩,λn e' hn he=>?_⟩;unfold Qw at he
   cases n with
   | zero =>
    have:toD g y=e':=by simpa using he
    rw [<- this,e0,q]
   | succ n=>exact e4 n e' (by omega) (by simpa using he)
theorem wU:Yn g (mX g.K) yX:=λm S H a b v w Q E s ra rb h=>by
 unfold yX at h
 cases q:PV S a with
 | none=>rw [q] at h;exact h.elim
 | some xs =>
  rw [q] at h;dsimp only at h
  cases q9:few 900 xs with
  | false=>rw [q9] at h;exact h.elim
  | true =>
   cases qa:TY 20 b with
   | false=>rw [q9,qa] at h;exact h.elim
   | true =>
    cases qs:Sm 20 xs with
    | false=>rw [q9,qa,qs] at h;exact h.elim
    | true =>
     rw [q9,qa,qs] at h;dsimp only at h
     cases qi:Uh b xs 0 with
     | none=>rw [qi] at h;exact h.elim
     | some k =>
      rw [qi] at h;obtain ⟨p,vs,rfl,sq,r⟩:=PV.of s ra q;obtain ⟨d,e,f⟩:=jZ b qa rb;obtain ⟨d',e',f'⟩:=Rn xs qs r;obtain ⟨i,e1,e2,e3⟩:=Uh.of rb r qi;have hl:=r.length;have h9:=dA q9;have:k=i:=by omega
      subst this;exact ⟨p,vs,w,_,_,k,rfl,rfl,sq,d',d,e',e,f',by omega,e2,e3,Out.int h s⟩
theorem Rf.of {x:A} {l:Nat} (r:R g H m x v) (h:Rf n x=some l):∃ i:Nat,v=.int i/\l=min i n:=by
 cases x with
 | int i =>
  cases i with
  | ofNat i =>
   refine ⟨i,r.PY,?_⟩;have h':some (match Nat.ble i n with | true=>i | false=>n)=some l:=h
   cases q:Nat.ble i n with
   | true=>rw [q] at h';cases h';have:=MY q;show i=min i n;omega
   | false =>
    rw [q] at h';cases h';have:¬ i<=n:=λz=>by rw [Oe z] at q;cases q
    show n=min i n;omega
  | negSucc i=>cases h
 | _=>cases h
end
section
variable {X:Cx} {g:Gx} {E:L2.St->XK} {a b c e lo hi:Expr} {es rest:List Expr} {ca cb cc ce cl ch:Ce} {ct cu:Ct} {cs:Ca} {pos p2 apos:Pos}
variable {m:List Addr} {H:Hp} {xs:List A}
theorem nM {S:PD} {vs:List V} (r:Rs g H m xs vs) (i:Nat):Rs g H m (xs.drop (min i xs.length)) (gv vs (some (i:Int)) none):=by unfold gv;rw [HT.Sy,HT.Rm,r.length];have e:(vs.drop (min i xs.length)).take (xs.length - min i xs.length)=vs.drop (min i xs.length):=NO (by rw [List.length_drop,r.length];exact Mu _);rw [e];exact r.drop _
theorem kq (hK:X.K=g.K) (ha:PE X a (tE g E ca)) (hl:PE X lo (tE g E cl)):PE X (.Subscript a (.Slice (some lo) none none p2) pos) (tE g E (cO qG ca cl)) :=
 Q2 (ig (hK ▸ rO) ha (ij hl) mS) λσ H Q ⟨m,ρ,S,s,re,h⟩=>⟨m,ρ,S,s,re,h.bind.mono λx m1 S1 H1 x1 s1 h1 v rv=>⟨m1,ρ,S1,s1,re.mono x1 s,h1.bind.mono λy m2 S2 H2 x2 s2 h2 w rw=>by
  have rv:=R.mono x2 s1 _ rv
  cases x with
  | tup xs =>
   unfold qG at h2;dsimp only at h2
   cases q:Rf xs.length y with
   | none=>rw [q] at h2;exact h2.elim
   | some l =>rw [q] at h2;obtain ⟨i,rfl,rfl⟩:=Rf.of rw q;obtain ⟨p,vs,rfl,sq,r⟩:=rv.P8;have rc:=nM (S:=S2) r i;obtain ⟨z,k,k'⟩:=Out.tup h2 s2 rc;refine ⟨_,rfl,p,vs,rfl,sq,λ⟨z1,z2⟩=>?_,λ_=>k⟩;refine k' p ?_;rw [HT.Rm] at z1;unfold gv;rw [HT.Rm,z1,HT.Sy,Of,Nat.sub_zero,NO (Mu _)];exact sq
  | _=>exact h2.elim⟩⟩
theorem CL (hK:X.K=g.K) (ha:PE X a (tE g E ca)) (hl:PE X lo (tE g E cl)) (hh:PE X hi (tE g E ch)):PE X (.Subscript a (.Slice (some lo) (some hi) none p2) pos) (tE g E (cSl ca cl ch)) :=
 Q2 (ig (hK ▸ rO) ha (ij hl) (ij hh)) λσ H Q ⟨m,ρ,S,s,re,h⟩=>⟨m,ρ,S,s,re,h.bind.mono λx m1 S1 H1 x1 s1 h1 v rv=>⟨m1,ρ,S1,s1,re.mono x1 s,h1.bind.mono λy m2 S2 H2 x2 s2 h2 w rw=>by
  cases y with
  | int y =>
   cases y with
   | ofNat i =>
    refine ⟨_,rw.PY,m2,ρ,S2,s2,(re.mono x1 s).mono x2 s1,h2.bind.mono λz m3 S3 H3 x3 s3 h3 u ru=>?_⟩;have rv:=R.mono (x2.trans x3) s1 _ rv
    cases x with
    | tup xs =>
     unfold EN at h3;dsimp only at h3
     cases q:Rf xs.length (.int (.ofNat i)) with
     | none=>rw [q] at h3;exact h3.elim
     | some l =>
      cases q':Rf xs.length z with
      | none=>rw [q,q'] at h3;exact h3.elim
      | some l' =>
       rw [q,q'] at h3;dsimp only at h3;obtain ⟨i',e1,rfl⟩:=Rf.of (R.int (g:=g) (H:=H3) (m:=m3) _) q;have e1:i=i':=by have:=V.int.inj e1;exact Int.ofNat.inj this
       subst e1;obtain ⟨j,rfl,rfl⟩:=Rf.of ru q';obtain ⟨p,vs,rfl,sq,r⟩:=rv.P8
       have rc:Rs g H3 m3 ((xs.drop (min i xs.length)).take (min j xs.length - min i xs.length)) (gv vs (some (i:Int)) (some (j:Int))):=by unfold gv;rw [HT.Rm,HT.Rm,r.length];exact (r.drop _).take _
       obtain ⟨z,k,k'⟩:=Out.tup h3 s3 rc;refine ⟨_,rfl,p,vs,rfl,sq,λ⟨z1,z2⟩=>k' p ?_,λ_=>k⟩;have z1:HT.Qj vs.length 0 (some (i:Int))=0:=z1;unfold gv;rw [z1,z2,Of,Nat.sub_zero,NO (Mu _)];exact sq
    | _=>exact h3.elim
   | negSucc i=>exact h2.elim
  | _=>exact h2.elim⟩⟩
theorem CK (hK:X.K=g.K) (ha:PE X a (tE g E ca)) (hl:PE X lo (tE g E cl)):PE X (.Subscript a (.Slice (some lo) none none p2) pos) (tE g E (cO C0 ca cl)) :=
 Q2 (ig (hK ▸ rN) ha (ij hl) mS) λσ H Q ⟨m,ρ,S,s,re,h⟩=>⟨m,ρ,S,s,re,h.bind.mono λx m1 S1 H1 x1 s1 h1 v rv=>⟨m1,ρ,S1,s1,re.mono x1 s,h1.bind.mono λy m2 S2 H2 x2 s2 h2 w rw=>by
  have rv:=R.mono x2 s1 _ rv;unfold C0 at h2
  cases qx:PV S2 x with
  | none=>rw [qx] at h2;exact h2.elim
  | some xs =>
   rw [qx] at h2;dsimp only at h2
   cases q:Rf xs.length y with
   | none=>rw [q] at h2;exact h2.elim
   | some l =>rw [q] at h2;obtain ⟨i,rfl,rfl⟩:=Rf.of rw q;obtain ⟨p,vs,rfl,sq,r⟩:=PV.of s2 rv qx;exact ⟨_,rfl,p,vs,rfl,sq.Q9,(Out.new h2 s2 (nM (S:=S2) r i)).2⟩⟩⟩
theorem CJ (hK:X.K=g.K) (ha:PE X a (tE g E ca)) (hl:PE X hi (tE g E cl)):PE X (.Subscript a (.Slice none (some hi) none p2) pos) (tE g E (cO CZ ca cl)) :=
 Q2 (ig (hK ▸ rN) ha mS (ij hl)) λσ H Q ⟨m,ρ,S,s,re,h⟩=>⟨m,ρ,S,s,re,h.bind.mono λx m1 S1 H1 x1 s1 h1 v rv=>⟨m1,ρ,S1,s1,re.mono x1 s,h1.bind.mono λy m2 S2 H2 x2 s2 h2 w rw=>by
  have rv:=R.mono x2 s1 _ rv;unfold CZ at h2
  cases qx:PV S2 x with
  | none=>rw [qx] at h2;exact h2.elim
  | some xs =>
   rw [qx] at h2;dsimp only at h2
   cases q:Rf xs.length y with
   | none=>rw [q] at h2;exact h2.elim
   | some l =>rw [q] at h2;obtain ⟨i,rfl,rfl⟩:=Rf.of rw q;obtain ⟨p,vs,rfl,sq,r⟩:=PV.of s2 rv qx;refine ⟨_,rfl,p,vs,rfl,sq.Q9,(Out.new h2 s2 (vs:=gv vs none (some (i:Int))) ?_).2⟩;unfold gv;rw [HT.Sy,HT.Rm,Of,Nat.sub_zero,r.length];exact r.take _⟩⟩
theorem mV {k:Nat} (hr:P5 k X.A) (ha:PE X a (tE g E ca)) (hb:PE X b (tE g E cb)) (hs:AL b):PE X (.Subscript a b pos) (tE g E (cO uf ca cb)) :=
 Q2 (zy (D2 hr) ha hb hs) λσ H Q ⟨m,ρ,S,s,re,h⟩=>⟨m,ρ,S,s,re,h.bind.mono λx m1 S1 H1 x1 s1 h1 v rv=>⟨m1,ρ,S1,s1,re.mono x1 s,h1.bind.mono λy m2 S2 H2 x2 s2 h2 w rw=>by
  have rv:=R.mono x2 s1 _ rv
  cases x with
  | ref r =>
   cases y with
   | str n =>
    unfold uf at h2;dsimp only at h2
    cases q:look r S2.cs with
    | none=>rw [q] at h2;exact h2.elim
    | some c =>
     rw [q] at h2
     cases c with
     | dct ks =>
      dsimp only at h2
      cases q2:look n ks with
      | none=>rw [q2] at h2;exact h2.elim
      | some z =>rw [q2] at h2;obtain ⟨p,e,kvs,hp,rk⟩:=s2.cell r _ q;obtain ⟨p',e',rfl⟩:=rv.RD;rw [e] at e';cases e';obtain ⟨y,ey,rfl⟩:=rw.Qd;obtain ⟨u,e1,e2⟩:=rj ey rk q2;exact ⟨p,u,rfl,e1 ▸ UN.k (k:=.inr y) hp,h2.ret s2 _ e2⟩
     | _=>exact h2.elim
   | _=>exact h2.elim
  | _=>exact h2.elim⟩⟩
theorem o6 {S:PD} {x:A} {v:V} (s:PN g m S H) (r:R g H m x v) (h:PV S x=some xs):X4 g.K "list" v H:=by obtain ⟨p,vs,rfl,q,_⟩:=PV.of s r h;exact .inl ⟨rfl,vs,q.Q9⟩
variable {name:Str} {id:String}
theorem cS {r:V->List V->Hp->VK->Prop} {f:A->A->PD->Res A} (slot:Slot "list" name id) (hty:typeOf (.builtin id)=pure (.type "method_descriptor")) (hm:Xf X id r) (ok:Yn g r f) (hK:X.K=g.K) (ha:PE X a (tE g E ca)) (hb:PE X b (tE g E cb))
  (hs1:dw b=true:=by rfl) (hbase:attributeBase a name X.env (eval a X.env)=eval a X.env:=by rfl)
  (hfew:((backTo pos (starEach [b] X.env)).all (λx=>!x.1) && (backToKw pos (keywordEach [] X.env)).all (λx=>x.1.isSome)
   && decide ([b].length+([]:List Keyword).length+(if ([]:List Keyword).isEmpty then 0 else 1) < 30))=true:=by rfl)
  (hline:(apos.endLine == pos.line)=true:=by rfl) (hs:starEach [b] X.env=(false,eval b X.env)::starEach [] X.env:=by rfl):PE X (.Call (.Attribute a name apos) [b] [] pos) (tE g E (cM f ca cb)) :=
 Q2 (lS NH slot hty hm ha (a9 hb aM hs1) hbase hfew hline hs) λσ H Q ⟨m,ρ,S,s,re,h⟩=>⟨m,ρ,S,s,re,h.bind.mono λx m1 S1 H1 x1 s1 h1 v rv=>by
  cases q:PV S1 x with
  | none=>rw [q] at h1;exact h1.elim
  | some xs =>rw [q] at h1;exact ⟨hK ▸ o6 s1 rv q,m1,ρ,S1,s1,re.mono x1 s,h1.bind.mono λy m2 S2 H2 x2 s2 h2 w rw=>ok m2 S2 H2 x y v w Q _ s2 (R.mono x2 s1 _ rv) rw h2⟩⟩
theorem FF {r:V->List V->Hp->VK->Prop} {f:A->PD->Res A} (slot:Slot "list" name id) (hty:typeOf (.builtin id)=pure (.type "method_descriptor")) (hm:Xf X id r) (ok:TV g (λv H Q=>r v [] H Q) f) (hl:∀ x S Q E m H,Out g m S H (f x S) (An g Q) E->∃ xs,PV S x=some xs) (hK:X.K=g.K) (ha:PE X a (tE g E ca))
  (hbase:attributeBase a name X.env (eval a X.env)=eval a X.env:=by rfl) (hline:(apos.endLine == pos.line)=true:=by rfl):PE X (.Call (.Attribute a name apos) [] [] pos) (tE g E (cU f ca)) :=
 Q2 (Cm NH slot hty hm ha hbase hline) λσ H Q ⟨m,ρ,S,s,re,h⟩=>⟨m,ρ,S,s,re,h.bind.mono λx m1 S1 H1 x1 s1 h1 v rv=>by
  obtain ⟨xs,q⟩:=hl x S1 Q (E σ) m1 H1 h1;exact ⟨hK ▸ o6 s1 rv q,ok m1 S1 H1 x v Q _ s1 rv h1⟩⟩
theorem xm (x:A) (S:PD) (Q:VK) (E:XK) (m:List Addr) (H:Hp) (h:Out g m S H (wJ x S) (An g Q) E):∃ xs,PV S x=some xs:=by
 cases x with
 | ref i =>
  unfold wJ at h;dsimp only at h
  cases q:look i S.cs with
  | none=>rw [q] at h;exact h.elim
  | some c =>
   cases c with
   | lst xs=>exact ⟨xs,by show Ug S i=_;unfold Ug;rw [q]⟩
   | _=>rw [q] at h;exact h.elim
 | _=>exact h.elim
noncomputable def PZ (g:Gx) (f:List A->PD->Res A):Sp:=λvs H Q E=>∃ m S as,PN g m S H/\Rs g H m as vs/\Out g m S H (f as S) (An g Q) E
theorem aj {CX:Tf} {k:Nat} {f:Addr} {fd:FuncData} {ps:List Str} {x:Str} {p:Pos} {F:List A->PD->Res A} (ok:PB X.prog X.w X.K X.mg X.base CX k f fd ps (PZ g F)) (hr:P5 k X.A) (hg:Gl X x) (hm:X.mg x=some (.ref f)) (hk:W.keepIn X.K (.ref f)=true) (hb:Binds X.K fd ps []) (hx:cm CX X E)
  (ha:PA X (a::es) (U7 g E cs)) (hdb:(x == ("__debug__":Str))=false:=by decide) (he:starEach (a::es) X.env=(false,eval a X.env)::starEach es X.env:=by rfl) (hpl:(backTo pos (starEach es X.env)).any (·.1)=false:=by rfl) :
  PE X (.Call (.Name x p) (a::es) [] pos) (tE g E (au F cs)) :=
 Q2 (eH (Sq:=[]) ok hr hg hm hk hb .nil hx ha hdb he hpl) λσ H Q ⟨m,ρ,S,s,re,h⟩=>⟨m,ρ,S,s,re,h.bind.mono λas m1 S1 H1 x1 s1 h1 vs rs=>⟨m1,S1,as,s1,by rw [Ov];exact rs,h1⟩⟩
end
noncomputable def UX (a:A) (S:PD):PD:=match a with
 | .ref i=>match look i S.cs with
  | some (.lst xs)=>⟨S.nx,put i (.TJ xs) S.cs⟩
  | _=>S
 | _=>S
noncomputable def Wu (S0:PD) (a:A) (S:PD):PD:=match a with
 | .ref i=>match look i S0.cs with
  | some (.lst xs)=>⟨S.nx,put i (.lst xs) S.cs⟩
  | _=>S
 | _=>S
noncomputable def SE:List A->PD->PD
 | [],S=>S
 | a::r,S=>SE r (UX a S)
noncomputable def U8 (S0:PD):List A->PD->PD
 | [],S=>S
 | a::r,S=>U8 S0 r (Wu S0 a S)
theorem wI {α:Type} (a:A) (S:PD) (k:PD->α):wH a S k=k (UX a S):=by
 cases a with
 | ref i =>
  unfold wH UX;dsimp only
  cases look i S.cs with
  | none=>rfl
  | some c=>cases c <;> first | exact ph _ _ _ _ | rfl
 | _=>rfl
theorem uS {α:Type} (S0:PD) (a:A) (S:PD) (k:PD->α):uR S0 a S k=k (Wu S0 a S):=by
 cases a with
 | ref i =>
  unfold uR Wu;dsimp only
  cases look i S0.cs with
  | none=>rfl
  | some c=>cases c <;> first | exact ph _ _ _ _ | rfl
 | _=>rfl
theorem gd {α:Type}:∀ (ls:List A) (S:PD) (k:PD->α),iI ls S k=k (SE ls S)
 | [],S,k=>rfl
 | a::r,S,k=>by unfold iI SE;rw [wI,gd r]
theorem cw {α:Type} (S0:PD):∀ (ls:List A) (S:PD) (k:PD->α),cJ S0 ls S k=k (U8 S0 ls S)
 | [],S,k=>rfl
 | a::r,S,k=>by unfold cJ U8;rw [uS,cw S0 r]
theorem d6 {α:Type} {x c0:α}:∀ {l:List (Nat × α)},look n l=some c0->look n (put n x l)=some x
 | [],h=>nomatch h
 | (k,a)::r,h=>by
  rw [aO] at h;rw [ik];by_cases z:k=n
  ·rw [MF z,aO,MF z]
  ·rw [Mz z] at h;rw [Mz z,aO,Mz z];exact d6 h
theorem fK {α:Type} {j:Nat} {x:α} (hj:j≠n):∀ {l:List (Nat × α)},look j (put n x l)=look j l
 | []=>rfl
 | (k,a)::r=>by
  rw [ik];by_cases z:k=n
  ·rw [MF z,aO,aO,Mz (λw=>hj (by rw [<- w,z])),Mz (λw=>hj (by rw [<- w,z]))]
  ·rw [Mz z,aO,aO,fK hj]
theorem B4 (a:A) (S:PD):(UX a S).nx=S.nx:=by
 unfold UX;split
 ·split <;> rfl
 ·rfl
theorem wG:∀ (ls:List A) (S:PD),(SE ls S).nx=S.nx
 | [],S=>rfl
 | a::r,S=>by unfold SE;rw [wG r,B4]
theorem AR (S0:PD) (a:A) (S:PD):(Wu S0 a S).nx=S.nx:=by
 unfold Wu;split
 ·split <;> rfl
 ·rfl
theorem uW (S0:PD):∀ (ls:List A) (S:PD),(U8 S0 ls S).nx=S.nx
 | [],S=>rfl
 | a::r,S=>by unfold U8;rw [uW S0 r,AR]
variable {a:A} {S:PD} {i:Nat} {c:C}
theorem oA (h:look i (UX a S).cs=some c):look i S.cs=some c\/∃ xs,c=.TJ xs/\look i S.cs=some (.lst xs):=by
 unfold UX at h;split at h
 ·rename_i j;split at h
  ·rename_i xs q;rcases eG h with ⟨rfl,rfl,_⟩ | ⟨_,h⟩
   ·exact .inr ⟨xs,rfl,q⟩
   ·exact .inl h
  ·exact .inl h
 ·exact .inl h
theorem hU:∀ {ls:List A} {S:PD} {i:Nat} {c:C},look i (SE ls S).cs=some c->look i S.cs=some c\/∃ xs,c=.TJ xs/\look i S.cs=some (.lst xs)
 | [],S,i,c,h=>.inl h
 | a::r,S,i,c,h=>by
  rcases hU (ls:=r) h with h2 | ⟨xs,e,h2⟩
  ·exact oA h2
  ·rcases oA h2 with h3 | ⟨ys,e',_⟩
   ·exact .inr ⟨xs,e,h3⟩
   ·cases e'
variable {xs:List A}
theorem wD (h:look i S.cs=some (.TJ xs)):look i (UX a S).cs=some (.TJ xs):=by
 unfold UX;split
 ·rename_i j;split
  ·rename_i ys q;by_cases z:i=j
   ·subst z;rw [q] at h;cases h
   ·show look i (put j _ S.cs)=_;rw [fK z];exact h
  ·exact h
 ·exact h
theorem g9:∀ {ls:List A} {S:PD} {i:Nat} {xs:List A},look i S.cs=some (.TJ xs)->look i (SE ls S).cs=some (.TJ xs)
 | [],S,i,xs,h=>h
 | a::r,S,i,xs,h=>g9 (ls:=r) (wD h)
theorem wF (h:look i S.cs=some (.lst xs)):look i (UX (.ref i) S).cs=some (.TJ xs):=by unfold UX;dsimp only;rw [h];exact d6 h
theorem oB:∀ {ls:List A} {S:PD} {i:Nat} {xs:List A},A.ref i ∈ ls->look i S.cs=some (.lst xs)->look i (SE ls S).cs=some (.TJ xs)
 | [],S,i,xs,h,_=>nomatch h
 | a::r,S,i,xs,h,q=>by
  rcases MA.mp h with h | h
  ·subst h;exact g9 (ls:=r) (wF q)
  ·by_cases z:look i (UX a S).cs=some (.lst xs)
   ·exact oB (ls:=r) h z
   ·refine g9 (ls:=r) ?_;unfold UX at z ⊢;split
    ·rename_i j;dsimp only at z;split
     ·rename_i ys q2;rw [q2] at z;by_cases e:i=j
      ·subst e;rw [q] at q2;cases q2;exact d6 q
      ·exact absurd (show look i (put j _ S.cs)=_ by rw [fK e];exact q) z
     ·rename_i hq;exact absurd (by split at z <;> first | exact q | (rename_i w;exact absurd w (hq _))) z
    ·rename_i hq;exact absurd (by split at z <;> first | exact q | (rename_i w _;exact absurd rfl (hq _))) z
variable {S0:PD}
theorem uV (h:look i (Wu S0 a S).cs=some c):look i S.cs=some c\/∃ xs,c=.lst xs/\look i S0.cs=some (.lst xs)/\a=.ref i:=by
 unfold Wu at h;split at h
 ·rename_i j;split at h
  ·rename_i xs q;rcases eG h with ⟨rfl,rfl,_⟩ | ⟨_,h⟩
   ·exact .inr ⟨xs,rfl,q,rfl⟩
   ·exact .inl h
  ·exact .inl h
 ·exact .inl h
theorem jQ:∀ {ls:List A} {S:PD} {i:Nat} {c:C},look i (U8 S0 ls S).cs=some c->look i S.cs=some c\/∃ xs,c=.lst xs/\look i S0.cs=some (.lst xs)/\A.ref i ∈ ls
 | [],S,i,c,h=>.inl h
 | a::r,S,i,c,h=>by
  rcases jQ (ls:=r) h with h | ⟨xs,e,h,hm⟩
  ·rcases uV h with h | ⟨xs,e,h,ha⟩
   ·exact .inl h
   ·exact .inr ⟨xs,e,h,by rw [ha];exact MW⟩
  ·exact .inr ⟨xs,e,h,MU _ hm⟩
section
variable {g:Gx} {m m':List Addr} {S S':PD} {H H':Hp} {ls:List A}
theorem PN.lock (s:PN g m S H):PN g m (SE ls S) H:=by
 refine ⟨by rw [wG];exact s.len,s.nd,s.up,λi c h=>?_⟩;rcases hU h with h2 | ⟨xs,e,h2⟩
 ·exact s.cell i c h2
 ·rw [e];obtain ⟨a,q,ok⟩:=s.cell i _ h2;exact ⟨a,q,ok⟩
variable {a:Addr}
theorem Ud.unlock (h:Ud m (SE ls S) a):Ud m S a:=by
 obtain ⟨i,c,e,e2,o⟩:=h;rcases hU e2 with h | ⟨xs,rfl,h⟩
 ·exact ⟨i,c,e,h,o⟩
 ·exact nomatch o
theorem PN.locked (s:PN g m S H) {i:Nat} {xs:List A} (hl:A.ref i ∈ ls) (hm:m[i]?=some a) (h:Ug S i=some xs):¬ Ud m (SE ls S) a:=λ⟨j,c,e,e2,o⟩=>by
 have z:=s.uniq hm e;subst z;unfold Ug at h;split at h
 ·rename_i ys q;rw [oB hl q] at e2;cases e2;exact nomatch o
 ·rename_i ys q;rw [g9 q] at e2;cases e2;exact nomatch o
 ·cases h
theorem Ext.unlock (x:Ext m (SE ls S) H m' S' H') (s:PN g m S H) (s':PN g m' S' H'):Ext m S H m' (U8 S ls S') H'/\PN g m' (U8 S ls S') H':=by
 refine ⟨⟨x.pre,x.low,λa o hn h=>x.keep a o (λz=>hn z.unlock) h,λi c hi h o=>?_⟩,⟨by rw [uW];exact s'.len,s'.nd,s'.up,λi c h=>?_⟩⟩
 ·rcases jQ h with h | ⟨xs,rfl,h,_⟩
  ·obtain ⟨c0,h0,o0⟩:=x.bk i c hi h o;rcases hU h0 with h | ⟨xs,rfl,h⟩
   ·exact ⟨c0,h,o0⟩
   ·exact nomatch o0
  ·exact ⟨_,h,rfl⟩
 ·rcases jQ h with h | ⟨xs,rfl,h,hm⟩
  ·exact s'.cell i c h
  ·obtain ⟨a,e,vs,q,r⟩:=s.cell i _ h;obtain ⟨k,rfl,_⟩:=x.pre;refine ⟨a,dH e,vs,x.keep a _ (s.locked hm e (by unfold Ug;rw [h])) q,Rs.mono x s.lock xs r⟩
end
noncomputable def tG (g:Gx) (c:SD):TG:=λv σ H Q=>∃ m ρ S a ρ',PN g m S H/\Re g H m ρ σ/\R g H m a v/\c a ρ=some ρ'/\∀ σ',Re g H m ρ' σ'->Q σ' H
noncomputable def Xz (g:Gx) (cs:List SD):VC:=λvs σ H Q=>∃ m ρ S as ρ',PN g m S H/\Re g H m ρ σ/\Rs g H m as vs/\TU cs as ρ=some ρ'/\∀ σ',Re g H m ρ' σ'->Q σ' H
noncomputable def QC (g:Gx) (m:List Addr) (S:PD) (H:Hp) (r:XR) (D:Ends) (E:L2.St->XK):Prop:=match r with
 | .ok (.nx ρ) S'=>∀ m' H' σ',Ext m S H m' S' H'->PN g m' S' H'->Re g H' m' ρ σ'->D.nx σ' H'
 | .ok (.bk ρ) S'=>∀ m' H' σ',Ext m S H m' S' H'->PN g m' S' H'->Re g H' m' ρ σ'->D.bk σ' H'
 | .ok (.ct ρ) S'=>∀ m' H' σ',Ext m S H m' S' H'->PN g m' S' H'->Re g H' m' ρ σ'->D.ct σ' H'
 | .ok (.rt a) S'=>∀ m' H' v,Ext m S H m' S' H'->PN g m' S' H'->R g H' m' a v->D.rt v H'
 | .exc c ρ S'=>∀ m' H' σ' dx,Ext m S H m' S' H'->PN g m' S' H'->Re g H' m' ρ σ'->E σ' (.ref (g.cls c)) dx H'
 | .bad=>False
noncomputable def tS (g:Gx) (E:L2.St->XK) (c:Cs):TS:=λD σ H=>∃ m ρ S,PN g m S H/\Re g H m ρ σ/\QC g m S H (c ρ S) D E
section
variable {g:Gx} {m m1:List Addr} {S S1:PD} {H H1:Hp} {r:XR} {D D':Ends} {E:L2.St->XK} {ρ:Env} {σ:L2.St}
theorem QC.ext (x:Ext m S H m1 S1 H1) (h:QC g m S H r D E):QC g m1 S1 H1 r D E:=by
 cases r with
 | ok f S'=>cases f <;> exact λm' H' z y s=>h m' H' z (x.trans y) s
 | exc c ρ S'=>exact λm' H' z dx y s=>h m' H' z dx (x.trans y) s
 | bad=>exact h
theorem QC.x {α:Type} {r:Res α} {f:α->PD->XR} (h:QC g m S H (r.x ρ f) D E) (s:PN g m S H) (re:Re g H m ρ σ):Out g m S H r (λa m1 S1 H1=>QC g m1 S1 H1 (f a S1) D E) (E σ):=by
 cases r with
 | ok a S'=>exact λm' H' y s=>QC.ext y h
 | exc c S'=>exact λm' H' dx y s'=>h m' H' σ dx y s' (re.mono y s)
 | bad=>exact h
end
section
variable {X:Cx} {g:Gx} {E:L2.St->XK} {a b c e:Expr} {es rest:List Expr} {ca cb cc ce:Ce} {ct cu:Ct} {cs:Ca} {tg:SD} {U9:List SD} {st:Stmt} {sts Ze:List Stmt} {k1 k2:Cs} {pos:Pos}
variable {i:Nat}
theorem a6 {x:Str} (hN:X.N.Nodup) (hi:X.N[i]?=some x) (hx:Loc X.env.scope x) (hf:X.fn x=true\/X.env.scope.names.lookup x=some .local:=by first | exact .inl rfl | exact .inr rfl | assumption):PG X (.Name x pos) (tG g (gN i)):=by intro pins s σ H v u Q I r ⟨m,ρ,S,a,ρ',sm,re,ra,e,q⟩;unfold gN at e;rw [bW] at e;cases e;exact rC hN hi hx hf pins s σ H v u Q I r (q _ (re.set ra i))
theorem bN:VD X [] (Xz g []):=by
 intro pins s σ H vs us Q I r ⟨m,ρ,S,as,ρ',sm,re,ra,e,q⟩;refine zB pins s σ H vs us Q I r ?_
 cases as with
 | nil=>cases e;exact ⟨ra.Qp,q σ re⟩
 | cons _ _=>cases e
theorem aG (hg:PG X a (tG g tg)) (hr:VD X es (Xz g U9)) (h1:(assignEach (a::es) X.env).map (·.2)=assign a X.env::(assignEach es X.env).map (·.2):=by rfl):VD X (a::es) (Xz g (tg::U9)):=by
 intro pins s σ H vs us Q I r ⟨m,ρ,S,as,ρ',sm,re,ra,e,q⟩;refine xh hg hr h1 pins s σ H vs us Q I r ?_
 cases as with
 | nil=>cases e
 | cons x xs =>
  obtain ⟨v,t,rfl,r1,r2⟩:=ra.PL;unfold TU at e
  cases q1:tg x ρ with
  | none=>rw [q1] at e;cases e
  | some ρ1 =>rw [q1] at e;exact ⟨v,t,rfl,m,ρ,S,x,ρ1,sm,re,r1,q1,λσ1 Rr=>⟨m,ρ1,S,xs,ρ',sm,Rr,r2,e,q⟩⟩
theorem mE:∀ {U9:List SD} {xs:List A} {ρ ρ':Env},TU U9 xs ρ=some ρ'->xs.length=U9.length
 | [],[],_,_,_=>rfl
 | [],_::_,_,_,h=>nomatch h
 | _::_,[],_,_,h=>nomatch h
 | t::ts,x::xs,ρ,ρ',h=>by
  unfold TU at h
  cases q:t x ρ with
  | none=>rw [q] at h;cases h
  | some ρ1=>rw [q] at h;simp [mE h]
theorem dR {k:Nat} (hK:X.K=g.K) (hc:X.calm=true) (h:VD X es (Xz g U9)) (hn:(assignEach es X.env).length=U9.length:=by rfl) (hst:(assignEach es X.env).findIdx? (·.1)=none:=by rfl):PG X (.Tuple es k pos) (tG g (gT U9)):=by
 intro pins s σ H v u Q I r ⟨m,ρ,S,a,ρ',sm,re,ra,e,q⟩;refine Cq hc h hn hst pins s σ H v u Q I r ?_
 cases a with
 | tup xs =>obtain ⟨p,vs,rfl,sq,rs⟩:=ra.P8;exact ⟨p,vs,rfl,hK ▸ sq,by rw [rs.length];exact mE e,m,ρ,S,xs,ρ',sm,re,rs,e,q⟩
 | _=>cases e
theorem br:QI X [] (tS g E Qf):=yN eV λD σ H ⟨m,ρ,S,s,re,h⟩=>h m H σ Ext.refl s re
theorem ao (h:PS X st (tS g E k1)):QI X [st] (tS g E k1):=cy h
theorem aH (h:PS X st (tS g E k1)) (hr:QI X sts (tS g E k2)):QI X (st::sts) (tS g E (sq k1 k2)) :=
 yN (aS h hr) λD σ H ⟨m,ρ,S,s,re,h⟩=>⟨m,ρ,S,s,re,by
  unfold sq at h
  cases q:k1 ρ S with
  | ok f S1 =>
   rw [q] at h
   cases f with
   | nx ρ1=>exact λm1 H1 σ1 x1 s1 Rr=>⟨m1,ρ1,S1,s1,Rr,QC.ext x1 h⟩
   | bk ρ1=>exact h
   | ct ρ1=>exact h
   | rt a=>exact h
  | exc c ρ1 S1=>rw [q] at h;exact h
  | bad=>rw [q] at h;exact h⟩
theorem Er:PS X (.Continue pos) (tS g E Zc):=TZ oS λD σ H ⟨m,ρ,S,s,re,h⟩=>h m H σ Ext.refl s re
theorem aD (ha:PE X a (tE g E ca)):PS X (.Return (some a) pos) (tS g E (aQ ca)) :=
 TZ (dc ha) λD σ H ⟨m,ρ,S,s,re,h⟩=>⟨m,ρ,S,s,re,(h.x s re).mono λx m1 S1 H1 x1 s1 h1 v rv=>h1 m1 H1 v Ext.refl s1 rv⟩
theorem bO (ha:PE X a (tE g E ca)) (hs:swapsWith a none pos.line X.env=pure false:=by rfl):PS X (.Expr a pos) (tS g E (QB ca)) :=
 TZ (jK ha hs) λD σ H ⟨m,ρ,S,s,re,h⟩=>⟨m,ρ,S,s,re,(h.x s re).mono λx m1 S1 H1 x1 s1 h1 v rv=>h1 m1 H1 σ Ext.refl s1 (re.mono x1 s)⟩
theorem aU (hc:PT X c (tB g E ct)) (ha:QI X sts (tS g E k1)) (hb:QI X Ze (tS g E k2)):PS X (.If c sts Ze pos) (tS g E (Qi ct k1 k2)) :=
 TZ (lT hc ha hb) λD σ H ⟨m,ρ,S,s,re,h⟩=>⟨m,ρ,S,s,re,(h.x s re).mono λk m1 S1 H1 x1 s1 h1=>by
  cases k with
  | true=>rw [MF rfl];exact ⟨m1,ρ,S1,s1,re.mono x1 s,h1⟩
  | false=>rw [Mz Mx];exact ⟨m1,ρ,S1,s1,re.mono x1 s,h1⟩⟩
theorem RI.of {D:Ends} {σ:L2.St} {H:Hp} (h:tS g E (bF i ca) D σ H):RI (tE g E ca) (ff i) D σ H:=by
 obtain ⟨m,ρ,S,s,re,h⟩:=h
 exact ⟨m,ρ,S,s,re,(h.x s re).mono λx m1 S1 H1 x1 s1 h1 v rv=>by
  rw [bW] at h1;exact h1 m1 H1 _ Ext.refl s1 ((re.mono x1 s).set rv i)⟩
variable {pos':Pos}
theorem bg {x:Str} (hN:X.N.Nodup) (hi:X.N[i]?=some x) (hx:Loc X.env.scope x) (he:PE X a (tE g E ca)) (hs:swapsWith a (some (.Name x pos')) pos.line X.env=pure false:=by rfl) (hf:X.fn x=true\/X.env.scope.names.lookup x=some .local:=by first | exact .inl rfl | exact .inr rfl | assumption) :
  PS X (.Assign [.Name x pos'] a pos) (tS g E (bF i ca)):=TZ (gE hN hi hx he hs hf) λD σ H h=>RI.of h
theorem fj (he:PE X a (tE g E ca)) (hg:PG X b (tG g tg)) (hs:swapsWithSole [b] a pos.line X.env=pure false:=by rfl) (hw:swappedStores [b] a X.env=pure none:=by rfl)
  (h1:(assignEach [b] X.env).map (·.2)=[assign b X.env]:=by rfl):PS X (.Assign [b] a pos) (tS g E (iU tg ca)) :=
 TZ (kl he hg hs hw h1) λD σ H ⟨m,ρ,S,s,re,h⟩=>⟨m,ρ,S,s,re,(h.x s re).mono λx m1 S1 H1 x1 s1 h1 v rv=>by
  cases q:tg x ρ with
  | none=>rw [q] at h1;exact h1.elim
  | some ρ1=>rw [q] at h1;exact ⟨m1,ρ,S1,x,ρ1,s1,re.mono x1 s,rv,q,λσ1 Rr=>h1 m1 H1 σ1 Ext.refl s1 Rr⟩⟩
theorem Ez {k:Nat} {pt:Pos} (hK:X.K=g.K) (hc:X.calm=true) (he:PE X a (tE g E ca)) (hg:VD X es (Xz g U9)) (hn:(assignEach es X.env).length=U9.length:=by rfl) (hst:(assignEach es X.env).findIdx? (·.1)=none:=by rfl)
  (hs:swapsWithSole [.Tuple es k pt] a pos.line X.env=pure false:=by rfl) (hw:swappedStores [.Tuple es k pt] a X.env=pure none:=by rfl)
  (h1:(assignEach [.Tuple es k pt] X.env).map (·.2)=[assign (.Tuple es k pt) X.env]:=by rfl):PS X (.Assign [.Tuple es k pt] a pos) (tS g E (EM U9 ca)) :=
 TZ (kl he (zA hc hg hn hst) hs hw h1) λD σ H ⟨m,ρ,S,s,re,h⟩=>⟨m,ρ,S,s,re,(h.x s re).mono λx m1 S1 H1 x1 s1 h1 v rv=>by
  cases q:PV S1 x with
  | none=>rw [q] at h1;exact h1.elim
  | some xs =>
   rw [q] at h1;dsimp only at h1
   cases q2:TU U9 xs ρ with
   | none=>rw [q2] at h1;exact h1.elim
   | some ρ1 =>rw [q2] at h1;obtain ⟨p,vs,rfl,sq,rs⟩:=PV.of s1 rv q;exact ⟨p,vs,rfl,hK ▸ sq.Q9,by rw [rs.length];exact mE q2,m1,ρ,S1,xs,ρ1,s1,re.mono x1 s,rs,q2,λσ1 Rr=>h1 m1 H1 σ1 Ext.refl s1 Rr⟩⟩
theorem ot {a:A} {ρ:Env}:gN i a ρ=some (ρ.set i (some a)):=bW _ _
theorem Ex {j:Nat} {x y:Str} {px py pt:Pos} {kt k2 V9} (hc:X.calm=true) (hN:X.N.Nodup) (hi:X.N[i]?=some x) (hj:X.N[j]?=some y) (hij:i≠j) (hx:X.env.scope.names.lookup x=some .local) (hy:X.env.scope.names.lookup y=some .local) (ha:PA X [a,b] (U7 g E cs))
  (hw:swappedStores [Expr.Tuple [Expr.Name x px,Expr.Name y py] kt pt] (Expr.Tuple [a,b] k2 V9) X.env=pure (some [x,y])) (hs:swapsWithSole [Expr.Tuple [Expr.Name x px,Expr.Name y py] kt pt] (Expr.Tuple [a,b] k2 V9) pos.line X.env=pure false:=by rfl) :
  PS X (.Assign [Expr.Tuple [Expr.Name x px,Expr.Name y py] kt pt] (Expr.Tuple [a,b] k2 V9) pos) (tS g E (EL [gN i,gN j] cs)) :=
 TZ (CB hc hN hi hj hij hx hy ha hw hs) λD σ H ⟨m,ρ,S,s,re,h⟩=>⟨m,ρ,S,s,re,(h.x s re).mono λxs m1 S1 H1 x1 s1 h1 vs rs=>by
  match xs,rs with
  | [],rs=>exact h1.elim
  | [u],rs=>unfold TU at h1;rw [ot] at h1;exact h1.elim
  | [u,w],rs =>unfold TU at h1;rw [ot] at h1;dsimp only at h1;unfold TU at h1;rw [ot] at h1;dsimp only at h1;obtain ⟨v,t,rfl,r1,r2⟩:=rs.PL;obtain ⟨v',t,rfl,r3,r4⟩:=r2.PL;rw [r4.Qp];exact ⟨v,v',rfl,h1 m1 H1 _ Ext.refl s1 (((re.mono x1 s).set r1 i).set r3 j)⟩
  | u::w::z::r,rs =>unfold TU at h1;rw [ot] at h1;dsimp only at h1;unfold TU at h1;rw [ot] at h1;exact h1.elim⟩
theorem xu {x:Str} (hN:X.N.Nodup) (hi:X.N[i]?=some x) (hx:Loc X.env.scope x) (he:PE X a (tE g E ca)) (hf:X.fn x=true\/X.env.scope.names.lookup x=some .local:=by first | exact .inl rfl | exact .inr rfl | assumption) :
  PS X (.AugAssign (.Name x pos') .Add a pos) (tS g E (xP i ca)) :=
 TZ (Cz hN hi hx he wx hf) λD σ H ⟨m,ρ,S,s,re,h⟩=>by
  unfold xP at h
  cases q:ρ[i]? with
  | none=>rw [q] at h;exact h.elim
  | some o =>
   rw [q] at h
   cases o with
   | none=>exact h.elim
   | some y =>
    cases y with
    | int k =>
     obtain ⟨v,e,r⟩:=re.get i _ q;have r:=r.PY;subst r
     exact ⟨_,e,m,ρ,S,s,re,(h.x s re).mono λz m1 S1 H1 x1 s1 h1 v rv=>by
      cases z with
      | int j =>dsimp only at h1;rw [Ag,bW] at h1;exact ⟨k,j,rfl,rv.PY,h1 m1 H1 _ Ext.refl s1 ((re.mono x1 s).set (R.int _) i)⟩
      | _=>exact h1.elim⟩
    | _=>exact h.elim
end
noncomputable def E5 (g:Gx) (m:List Addr) (S:PD) (H:Hp) (p:List A × List A) (J:It):Prop:=∀ m1 S1 H1,Ext m (SE p.2 S) H m1 S1 H1->PN g m1 S1 H1 ->
 (∀ (i:Nat) (x:A),p.1[i]?=some x->J.go i H1/\∀ v H2,J.VE i H1 v H2->Ext m1 S1 H1 m1 S1 H2/\PN g m1 S1 H2/\R g H2 m1 x v)/\J.stop p.1.length H1
noncomputable def tI (g:Gx) (E:L2.St->XK) (c:Ci):TI:=λσ H R'=>∃ m ρ S,PN g m S H/\Re g H m ρ σ/\Out g m S H (c ρ S) (λp m' S' H'=>∀ J,E5 g m' S' H' p J->R' J H') (E σ)
theorem V3 {tg iter:Expr} {t t':TI} (h:PI X tg iter t) (k:∀ σ H R',t' σ H R'->t σ H R'):PI X tg iter t':=λpins s σ H R' I hw=>h pins s σ H R' I (k σ H R' hw)
section
variable {g:Gx} {m m1:List Addr} {S S1:PD} {H H1:Hp} {ls:List A}
variable {v:V} {xs:List A}
theorem l8 {x:A} (s:PN g m S H) (r:R g H m x v) (h:PV S x=some xs) (hl:x ∈ ls):∃ a vs,v=.ref a/\Sl g.K H a vs/\Rs g H m xs vs/\∀ m1 S1 H1,Ext m (SE ls S) H m1 S1 H1->Sl g.K H1 a vs/\Rs g H1 m1 xs vs:=by
 cases x with
 | ref i =>obtain ⟨a,e,rfl⟩:=r.RD;obtain ⟨b,vs,e1,e2,e3⟩:=P6.look s h;rw [e] at e1;cases e1;exact ⟨a,vs,rfl,.inl e2,e3,λm1 S1 H1 x=>⟨.inl (x.keep a _ (s.locked hl e h) e2),Rs.mono x s.lock xs e3⟩⟩
 | cl ys=>cases h;obtain ⟨a,vs,e,q,q2⟩:=r.Vq;exact ⟨a,vs,e,.inr q,q2,λm1 S1 H1 x=>⟨.inr q,Rs.mono x s.lock _ q2⟩⟩
 | _=>cases h
theorem Rs.at {vs:List V} {i:Nat} {x:A} (r:Rs g H m xs vs) (h:xs[i]?=some x) (h':vs[i]?=some v):R g H m x v:=by obtain ⟨u,e,q⟩:=r.get h;rw [h'] at e;cases e;exact q
end
section
variable {X:Cx} {g:Gx} {E:L2.St->XK} {a b c e tgt:Expr} {es rest elts:List Expr} {ca cb cc ce:Ce} {ct cu:Ct} {cs:Ca} {ci:Ci} {tg:SD} {st:Stmt} {sts Ze:List Stmt} {k1 k2:Cs} {pos p ps:Pos} {c1:Nat}
theorem gF (hK:X.K=g.K) (ha:PE X a (tE g E ca)):PI X tgt a (tI g E (iL ca)) :=
 V3 (zC ha) λσ H R' ⟨m,ρ,S,s,re,h⟩=>⟨m,ρ,S,s,re,h.bind.mono λx m1 S1 H1 x1 s1 h1 v rv=>by
  cases q:PV S1 x with
  | none=>rw [q] at h1;exact h1.elim
  | some xs =>rw [q] at h1;obtain ⟨a,vs,rfl,al,r,st⟩:=l8 (ls:=[x]) s1 rv q MW;refine ⟨a,rfl,⟨vs,hK ▸ al.Q9⟩,h1.ret s1 _ λm2 S2 H2 x2 s2=>?_⟩;obtain ⟨V4,r2⟩:=st m2 S2 H2 x2;refine ⟨λi y hy=>?_,⟨vs,hK ▸ V4.Q9,by rw [r2.length];exact Mu _⟩⟩;obtain ⟨u,eu,ru⟩:=r2.get hy;refine ⟨⟨vs,u,hK ▸ V4.Q9,eu⟩,λv H3 ⟨e3,k⟩=>?_⟩;subst e3;have:=k vs (hK ▸ V4.Q9);rw [eu] at this;cases this;exact ⟨Ext.refl,s2,ru⟩⟩
theorem kZ (hK:X.K=g.K) (ha:PE X a (tE g E ca)):PI X tgt a (tI g E (iT ca)) :=
 V3 (Cw ha) λσ H R' ⟨m,ρ,S,s,re,h⟩=>⟨m,ρ,S,s,re,h.bind.mono λx m1 S1 H1 x1 s1 h1 v rv=>by
  cases x with
  | tup xs =>obtain ⟨a,vs,rfl,sq,r⟩:=rv.P8;refine ⟨a,rfl,⟨vs,hK ▸ sq⟩,h1.ret s1 _ λm2 S2 H2 x2 s2=>?_⟩;have Zf:=x2.VX s1 sq;have r2:=Rs.mono x2 s1 xs r;refine ⟨λi y hy=>?_,⟨vs,hK ▸ Zf,by rw [r2.length];exact Mu _⟩⟩;obtain ⟨u,eu,ru⟩:=r2.get hy;refine ⟨⟨vs,u,hK ▸ Zf,eu⟩,λv H3 ⟨e3,k⟩=>?_⟩;subst e3;have:=k vs (hK ▸ Zf);rw [eu] at this;cases this;exact ⟨Ext.refl,s2,ru⟩
  | _=>exact h1.elim⟩
theorem ko (hg:Gl X "range") (hm:X.mg "range"=none) (ha:PE X a (tE g E ca)) (hs1:dw a=true:=by rfl) (hs:starEach [a] X.env=[(false,eval a X.env)]:=by rfl):PI X tgt (.Call (.Name "range" p) [a] [] pos) (tI g E (tZ ca)) :=
 V3 (uq hg hm (a9 ha aM hs1) hs) λσ H R' ⟨m,ρ,S,s,re,h⟩=>⟨m,ρ,S,s,re,h.bind.mono λx m1 S1 H1 x1 s1 h1 v rv=>by
  cases x with
  | int i =>
   cases i with
   | ofNat n =>
    dsimp only at h1
    cases q:Nat.ble n 900 with
    | false=>rw [q] at h1;exact h1.elim
    | true =>
     rw [q] at h1;dsimp only at h1;rw [bW] at h1;have n9:=MY q;refine ⟨_,by rw [rv.PY],by show -(2 ^ 62)<=((n:Nat):Int);omega,by show ((n:Nat):Int) < 2 ^ 62;omega,h1.ret s1 _ λm2 S2 H2 x2 s2=>?_⟩;have r2:Rs g H2 m2 (Rc 0 n) _:=wu n;have hl:=r2.length;rw [MK,Pk] at hl;refine ⟨λi y hy=>?_,?_⟩
     ·have hi:i < n:=by rw [hl];exact (Mk.mp hy).1
      refine ⟨hi,λv H3 ⟨e3,e4⟩=>?_⟩;subst e3;refine ⟨Ext.refl,s2,r2.at hy ?_⟩;rw [MH,List.getElem?_range hi,e4];show some (V.int (i:Int))=_;rw [Int.zero_add]
     ·show n<=(Rc 0 n).length;omega
   | negSucc n=>exact h1.elim
  | _=>exact h1.elim⟩
theorem CG (hK:X.K=g.K) (hg:Gl X "reversed") (hm:X.mg "reversed"=none) (ha:PE X a (tE g E ca)) (hs1:dw a=true:=by rfl) (hs:starEach [a] X.env=[(false,eval a X.env)]:=by rfl):PI X tgt (.Call (.Name "reversed" p) [a] [] pos) (tI g E (yL ca)) :=
 V3 (Cr hg hm (a9 ha aM hs1) hs) λσ H R' ⟨m,ρ,S,s,re,h⟩=>⟨m,ρ,S,s,re,h.bind.mono λx m1 S1 H1 x1 s1 h1 v rv=>by
  cases q:PV S1 x with
  | none=>rw [q] at h1;exact h1.elim
  | some xs =>
   rw [q] at h1;dsimp only at h1;rw [bW] at h1;obtain ⟨a,vs,rfl,al,r,st⟩:=l8 (ls:=[x]) s1 rv q MW;refine ⟨a,vs,rfl,hK ▸ al.Q9,h1.ret s1 _ λm2 S2 H2 x2 s2=>?_⟩;obtain ⟨V4,r2⟩:=st m2 S2 H2 x2;have hl:=r2.length;refine ⟨λi y hy=>?_,by show xs.reverse.length=vs.length;rw [List.length_reverse,hl]⟩;have hi:i < xs.length:=by have:=(Mk.mp hy).1;rwa [List.length_reverse] at this
   refine ⟨⟨by rw [hl];exact hi,hK ▸ V4.Q9⟩,λv H3 ⟨e3,e4⟩=>?_⟩;subst e3;refine ⟨Ext.refl,s2,r2.rev.at hy ?_⟩;rw [List.getElem?_reverse (by rw [hl];exact hi)];exact e4⟩
theorem Sz.get:∀ {xs:List A} {k i:Nat} {y:A},(Sz k xs)[i]?=some y->∃ x,xs[i]?=some x/\y=.tup [.int (.ofNat (k+i)),x]
 | [],k,i,y,h=>by simp [Sz] at h
 | x::xs,k,0,y,h=>by
  have:A.tup [.int (.ofNat k),x]=y:=by simpa [Sz] using h
  exact ⟨x,rfl,this.symm⟩
 | x::xs,k,i+1,y,h=>by obtain ⟨z,e,q⟩:=Sz.get (xs:=xs) (k:=k+1) (i:=i) (y:=y) (by simpa [Sz] using h);exact ⟨z,by simpa using e,by rw [q];congr 4;omega⟩
theorem oi:∀ (xs:List A) (k:Nat),(Sz k xs).length=xs.length
 | [],_=>rfl
 | x::xs,k=>by unfold Sz;simp [oi xs]
theorem CF (hK:X.K=g.K) (hg:Gl X "enumerate") (hm:X.mg "enumerate"=none) (ha:PE X a (tE g E ca)) (hs1:dw a=true:=by rfl) (hs:starEach [a] X.env=[(false,eval a X.env)]:=by rfl):PI X (.Tuple elts c1 ps) (.Call (.Name "enumerate" p) [a] [] pos) (tI g E (D3 ca)) :=
 V3 (xi hg hm (a9 ha aM hs1) hs) λσ H R' ⟨m,ρ,S,s,re,h⟩=>⟨m,ρ,S,s,re,h.bind.mono λx m1 S1 H1 x1 s1 h1 v rv=>by
  cases q:PV S1 x with
  | none=>rw [q] at h1;exact h1.elim
  | some xs =>rw [q] at h1;dsimp only at h1;rw [bW] at h1;obtain ⟨a,vs,rfl,al,r,st⟩:=l8 (ls:=[x]) s1 rv q MW;refine ⟨a,vs,rfl,hK ▸ al.Q9,h1.ret s1 _ λm2 S2 H2 x2 s2=>?_⟩;obtain ⟨V4,r2⟩:=st m2 S2 H2 x2;have hl:=r2.length;refine ⟨λi y hy=>?_,⟨by rw [oi];exact hl.symm,hK ▸ V4.Q9⟩⟩;obtain ⟨z,ez,rfl⟩:=Sz.get hy;have hi:i < xs.length:=(Mk.mp ez).1;refine ⟨⟨by rw [hl];exact hi,hK ▸ V4.Q9⟩,λv H3 ⟨b,u,hb,ev,eu,e3⟩=>?_⟩;subst e3 ev;refine ⟨Ext.new hb _,s2.new hb _,R.tup (Qq.of aF) (.cons ?_ (.cons (R.mono (Ext.new hb _) s2 _ (r2.at ez eu)) .nil))⟩;rw [Nat.zero_add];exact R.int _⟩
theorem zip2.get:∀ {xs ys:List A} {i:Nat} {z:A},(zip2 xs ys)[i]?=some z->∃ x y,xs[i]?=some x/\ys[i]?=some y/\z=.tup [x,y]
 | [],_,i,z,h=>by simp [zip2] at h
 | _::_,[],i,z,h=>by simp [zip2] at h
 | x::xs,y::ys,0,z,h=>by
  have:A.tup [x,y]=z:=by simpa [zip2] using h
  exact ⟨x,y,rfl,rfl,this.symm⟩
 | x::xs,y::ys,i+1,z,h=>by obtain ⟨u,w,e,f,q⟩:=zip2.get (xs:=xs) (ys:=ys) (i:=i) (z:=z) (by simpa [zip2] using h);exact ⟨u,w,by simpa using e,by simpa using f,q⟩
theorem pj:∀ {xs ys:List A},xs.length=ys.length->(zip2 xs ys).length=xs.length
 | [],[],_=>rfl
 | x::xs,y::ys,h=>by unfold zip2;simp [pj (xs:=xs) (ys:=ys) (by simpa using h)]
theorem qA (hK:X.K=g.K) (hg:Gl X "zip") (hm:X.mg "zip"=none) (ha:PE X a (tE g E ca)) (hb:PE X b (tE g E cb)) (hs1:dw a=true:=by rfl) (hs2:dw b=true:=by rfl) (hs:starEach [a,b] X.env=(false,eval a X.env)::starEach [b] X.env:=by rfl) (hpl:(backTo pos (starEach [b] X.env)).any (·.1)=false:=by rfl) :
  PI X (.Tuple elts c1 ps) (.Call (.Name "zip" p) [a,b] [] pos) (tI g E (yM ca cb)) :=
 V3 (zE false false hg hm (a9 ha (a9 hb aM hs2) hs1) hs hpl) λσ H R' ⟨m,ρ,S,s,re,h⟩=>⟨m,ρ,S,s,re,h.bind.mono λx m1 S1 H1 x1 s1 h1 v rv=>⟨m1,ρ,S1,s1,re.mono x1 s,h1.bind.mono λy m2 S2 H2 x2 s2 h2 w rw=>by
  have rv:=R.mono x2 s1 _ rv
  cases x with
  | tup xs =>
   cases y with
   | tup ys =>
    dsimp only at h2
    cases q:Nat.beq xs.length ys.length with
    | false=>rw [q] at h2;exact h2.elim
    | true =>rw [q] at h2;dsimp only at h2;rw [bW] at h2;have Zg:=ML q;obtain ⟨a,vs,rfl,sq,r⟩:=rv.P8;obtain ⟨b,ws,rfl,sq',r'⟩:=rw.P8;refine ⟨a,b,vs,ws,rfl,hK ▸ sq,hK ▸ sq',h2.ret s2 _ λm3 S3 H3 x3 s3=>?_⟩;have sq3:=x3.VX s2 sq;have Zh:=x3.VX s2 sq';have r3:=Rs.mono x3 s2 xs r;have r3':=Rs.mono x3 s2 ys r';have hl:=r3.length;have hl':=r3'.length;refine ⟨λi z hz=>?_,⟨by rw [pj Zg];exact hl.symm,hK ▸ sq3⟩⟩;obtain ⟨x,y,ex,ey,rfl⟩:=zip2.get hz;have hi:i < xs.length:=(Mk.mp ex).1;refine ⟨⟨by omega,by omega,hK ▸ sq3,hK ▸ Zh⟩,λv H4 ⟨b,u,w,hb,ev,eu,ew,e3⟩=>?_⟩;subst e3 ev;exact ⟨Ext.new hb _,s3.new hb _,R.tup (Qq.of aF) (.cons (R.mono (Ext.new hb _) s3 _ (r3.at ex eu)) (.cons (R.mono (Ext.new hb _) s3 _ (r3'.at ey ew)) .nil))⟩
   | _=>exact h2.elim
  | _=>exact h2.elim⟩⟩
theorem R8.get:∀ {xs ys zs:List A} {i:Nat} {w:A},(R8 xs ys zs)[i]?=some w->∃ x y z,xs[i]?=some x/\ys[i]?=some y/\zs[i]?=some z/\w=.tup [x,y,z]
 | [],_,_,i,z,h=>by simp [R8] at h
 | _::_,[],_,i,z,h=>by simp [R8] at h
 | _::_,_::_,[],i,z,h=>by simp [R8] at h
 | x::xs,y::ys,z::zs,0,w,h=>by
  have:A.tup [x,y,z]=w:=by simpa [R8] using h
  exact ⟨x,y,z,rfl,rfl,rfl,this.symm⟩
 | x::xs,y::ys,z::zs,i+1,w,h=>by obtain ⟨u,w,t,e,f,f',q⟩:=R8.get (xs:=xs) (ys:=ys) (zs:=zs) (i:=i) (w:=w) (by simpa [R8] using h);exact ⟨u,w,t,by simpa using e,by simpa using f,by simpa using f',q⟩
theorem pq:∀ {xs ys zs:List A},xs.length=ys.length->xs.length=zs.length->(R8 xs ys zs).length=xs.length
 | [],[],[],_,_=>rfl
 | x::xs,y::ys,z::zs,h,h'=>by unfold R8;simp [pq (xs:=xs) (ys:=ys) (zs:=zs) (by simpa using h) (by simpa using h')]
theorem zJ (hK:X.K=g.K) (hg:Gl X "zip") (hm:X.mg "zip"=none) (ha:PE X a (tE g E ca)) (hb:PE X b (tE g E cb)) (hc:PE X c (tE g E cc)) (hs1:dw a=true:=by rfl) (hs2:dw b=true:=by rfl) (hs3:dw c=true:=by rfl) (hs:starEach [a,b,c] X.env=(false,eval a X.env)::starEach [b,c] X.env:=by rfl) (hpl:(backTo pos (starEach [b,c] X.env)).any (·.1)=false:=by rfl) :
  PI X (.Tuple elts c1 ps) (.Call (.Name "zip" p) [a,b,c] [] pos) (tI g E (qZ ca cb cc)) :=
 V3 (zD hg hm (a9 ha (a9 hb (a9 hc aM hs3) hs2) hs1) hs hpl) λσ H R' ⟨m,ρ,S,s,re,h⟩=>⟨m,ρ,S,s,re,h.bind.mono λx m1 S1 H1 x1 s1 h1 v rv=>⟨m1,ρ,S1,s1,re.mono x1 s,h1.bind.mono λy m2 S2 H2 x2 s2 h2 w rw=>⟨m2,ρ,S2,s2,(re.mono x1 s).mono x2 s1,h2.bind.mono λz m3 S3 H3 x3 s3 h3 t rt=>by
  have rv:=R.mono (x2.trans x3) s1 _ rv;have rw:=R.mono x3 s2 _ rw
  cases qx:PV S3 x with
  | none=>rw [qx] at h3;exact h3.elim
  | some xs =>
   cases qy:PV S3 y with
   | none=>rw [qx,qy] at h3;exact h3.elim
   | some ys =>
    cases qz:PV S3 z with
    | none=>rw [qx,qy,qz] at h3;exact h3.elim
    | some zs =>
     rw [qx,qy,qz] at h3;dsimp only at h3
     cases q:Nat.beq xs.length ys.length with
     | false=>rw [q] at h3;exact h3.elim
     | true =>
      cases q':Nat.beq xs.length zs.length with
      | false=>rw [q,q'] at h3;exact h3.elim
      | true =>rw [q,q'] at h3;dsimp only at h3;rw [bW] at h3;have Zg:=ML q;have Zi:=ML q';obtain ⟨a,vs,rfl,al,r,st⟩:=l8 (ls:=[x,y,z]) s3 rv qx (by simp);obtain ⟨a',vs',rfl,al',r',st'⟩:=l8 (ls:=[x,y,z]) s3 rw qy (by simp);obtain ⟨a'',Zj,rfl,Zk,r'',st''⟩:=l8 (ls:=[x,y,z]) s3 rt qz (by simp);refine ⟨a,a',a'',vs,vs',Zj,rfl,hK ▸ al.Q9,hK ▸ al'.Q9,hK ▸ Zk.Q9,h3.ret s3 _ λm4 S4 H4 x4 s4=>?_⟩;obtain ⟨al4,r4⟩:=st m4 S4 H4 x4;obtain ⟨Zl,r4'⟩:=st' m4 S4 H4 x4;obtain ⟨XA,XC⟩:=st'' m4 S4 H4 x4;have hl:=r4.length;have hl':=r4'.length;have hl'':=XC.length;refine ⟨λi z hz=>?_,⟨by rw [pq Zg Zi];exact hl.symm,hK ▸ al4.Q9⟩⟩;obtain ⟨x,y,z,ex,ey,ez,rfl⟩:=R8.get hz;have hi:i < xs.length:=(Mk.mp ex).1;refine ⟨⟨by omega,by omega,by omega,hK ▸ al4.Q9,hK ▸ Zl.Q9,hK ▸ XA.Q9⟩,λv H5 ⟨b,u,w,t,hb,ev,eu,ew,et,e3⟩=>?_⟩;subst e3 ev;have mn:=λ{q:A} {o:V} (h:R g H4 m4 q o)=>R.mono (Ext.new (m:=m4) (S:=S4) hb (.tup [u,w,t])) s4 q h;exact ⟨Ext.new hb _,s4.new hb _,R.tup (Qq.of aF) (.cons (mn (r4.at ex eu)) (.cons (mn (r4'.at ey ew)) (.cons (mn (XC.at ez et)) .nil)))⟩⟩⟩⟩
theorem CH {t:Addr} {ks:List (Nat × A)} {zs:List Str} (hK:uM X.prog X.w X.K t zs) (sd:Sd g (ks.map (·.1)) zs) (hb:PE X b (L2.tC (.ref t))):PI X tgt b (tI g E (VP ks)) :=
 V3 (Cv hb) λσ H R' ⟨m,ρ,S,s,re,h⟩=>⟨t,zs,rfl,hK,h.ret s _ λm2 S2 H2 x2 s2=>by
  have r:∀ {l:List Nat} {zs:List Str},Sd g l zs->Rs g H2 m2 (l.map A.str) (zs.map V.str):=λ{l zs} h=>by
   induction h with
   | nil=>exact .nil
   | cons e _ ih=>exact .cons (R.str e) ih
  have r:=r sd;rw [List.map_map] at r;have hl:=r.length;rw [MK] at hl;refine ⟨λi y hy=>?_,hl.symm⟩;have hi:=(Mk.mp hy).1;refine ⟨by show i < zs.length;rw [hl];exact hi,λv H3 ⟨e3,k,ek,ev⟩=>?_⟩;subst e3 ev;exact ⟨Ext.refl,s2,r.at hy (by rw [MH,ek];rfl)⟩⟩
theorem yW {tg:SD} {b:Cs} {xs:List A} {i:Nat} {x:A} {ρ:Env} {S:PD} (h:xs[i]?=some x):lp tg b (xs.drop i) ρ S=match tg x ρ with
  | none=>.bad
  | some ρ=>match b ρ S with
   | .ok (.nx ρ) S=>lp tg b (xs.drop (i+1)) ρ S
   | .ok (.ct ρ) S=>lp tg b (xs.drop (i+1)) ρ S
   | .ok (.bk ρ) S=>.ok (.nx ρ) S
   | x=>x:=by
 have e:xs.drop i=x::xs.drop (i+1):=by have hi:=(Mk.mp h).1;rw [List.drop_eq_getElem_cons hi];congr 1;exact (Mk.mp h).2
 rw [e];rfl
theorem fh (hp:PassesOwn (model X.prog X.w) X.A X.env X.xe) (hc:X.calm=true) (hi:PI X tgt e (tI g E ci)) (hg:PG X tgt (tG g tg)) (hb:QI X sts (tS g E k1)) (hs:∀ x,foldedSetIterable e X.env x=pure x:=by intro _;rfl):PS X (.For tgt e sts [] pos) (tS g E (iR ci tg k1)) :=
 TZ (CA hp hc hi hg hb hs) λD σ H ⟨m,ρ,S,s,re,h⟩=>⟨m,ρ,S,s,re,(h.x s re).mono λp m1 S1 H1 x1 s1 h1 J it=>by
  rw [gd] at h1;have Rr:=re.mono x1 s
  refine ⟨λi n σ' H'=>∃ m2 ρ2 S2,n=p.1.length - i/\i<=p.1.length/\Ext m1 (SE p.2 S1) H1 m2 S2 H'/\PN g m2 S2 H'/\Re g H' m2 ρ2 σ'/\QC g m1 S1 H1 ((lp tg k1 (p.1.drop i) ρ2 S2).back S1 p.2) D E,
   ⟨_,m1,ρ,SE p.2 S1,rfl,Nd _,Ext.refl,s1.lock,Rr,by rw [Of];exact h1⟩,?_⟩
  rintro i n σ2 H2 ⟨m2,ρ2,S2,hn,hil,x2,s2,T4,h2⟩;obtain ⟨go,stop⟩:=it m2 S2 H2 x2 s2
  cases q:p.1[i]? with
  | none =>
   have hle:=NB.mp q;have:i=p.1.length:=by omega
   subst this;refine .inl ⟨stop,?_⟩;rw [List.drop_length] at h2;have h2':QC g m1 S1 H1 (cJ S1 p.2 S2 λS=>.ok (.nx ρ2) S) D E:=h2;rw [cw] at h2';obtain ⟨x3,s3⟩:=x2.unlock s1 s2;exact h2' m2 H2 σ2 x3 s3 T4
  | some x =>
   have hlt:=(Mk.mp q).1;obtain ⟨g1,yl⟩:=go i x q;rw [yW q] at h2
   refine .inr ⟨g1,λσ' H'=>∃ m2 ρ2 S2,Ext m1 (SE p.2 S1) H1 m2 S2 H'/\PN g m2 S2 H'/\Re g H' m2 ρ2 σ'/\QC g m1 S1 H1 ((lp tg k1 (p.1.drop (i+1)) ρ2 S2).back S1 p.2) D E,
    λσ' H' ⟨m3,ρ3,S3,x3,s3,Tg,h3⟩=>⟨p.1.length - (i+1),by omega,m3,ρ3,S3,rfl,hlt,x3,s3,Tg,h3⟩,λv H3 yd=>?_⟩
   obtain ⟨x3,s3,rv⟩:=yl v H3 yd;have Tg:=T4.mono x3 s2
   cases qt:tg x ρ2 with
   | none=>rw [qt] at h2;exact h2.elim
   | some ρ3 =>
    rw [qt] at h2;dsimp only at h2;refine ⟨m2,ρ2,S2,x,ρ3,s3,Tg,rv,qt,λσ4 Um=>⟨m2,ρ3,S2,s3,Um,?_⟩⟩;have xx:=x2.trans x3
    cases qb:k1 ρ3 S2 with
    | bad=>rw [qb] at h2;exact h2.elim
    | exc c ρ5 S5 =>rw [qb] at h2;dsimp only at h2;have h2':QC g m1 S1 H1 (cJ S1 p.2 S5 λS=>.exc c ρ5 S) D E:=h2;rw [cw] at h2';intro m5 H5 σ5 dx x5 s5 Sn;obtain ⟨x6,s6⟩:=(xx.trans x5).unlock s1 s5;exact h2' m5 H5 σ5 dx x6 s6 Sn
    | ok f S5 =>
     rw [qb] at h2
     cases f with
     | nx ρ5=>exact λm5 H5 σ5 x5 s5 Sn=>⟨m5,ρ5,S5,xx.trans x5,s5,Sn,h2⟩
     | ct ρ5=>exact λm5 H5 σ5 x5 s5 Sn=>⟨m5,ρ5,S5,xx.trans x5,s5,Sn,h2⟩
     | bk ρ5 =>intro m5 H5 σ5 x5 s5 Sn;have h2':QC g m1 S1 H1 (cJ S1 p.2 S5 λS=>.ok (.nx ρ5) S) D E:=h2;rw [cw] at h2';obtain ⟨x6,s6⟩:=(xx.trans x5).unlock s1 s5;exact h2' m5 H5 σ5 x6 s6 Sn
     | rt a =>intro m5 H5 v5 x5 s5 r5;have h2':QC g m1 S1 H1 (cJ S1 p.2 S5 λS=>.ok (.rt a) S) D E:=h2;rw [cw] at h2';obtain ⟨x6,s6⟩:=(xx.trans x5).unlock s1 s5;exact h2' m5 H5 v5 x6 s6 r5⟩
theorem Ax (hp:PassesOwn (model X.prog X.w) X.A X.env X.xe) (hc:PT X c (tB g E ct)) (hb:QI X sts (tS g E k1)):PS X (.While c sts [] pos) (tS g E (CW ct k1)) :=
 TZ (xo hp hc hb) λD σ H ⟨m,ρ,S,s,re,h⟩=>by
  refine ⟨λn σ' H'=>∃ m2 ρ2 S2,PN g m2 S2 H'/\Re g H' m2 ρ2 σ'/\QC g m2 S2 H' (wl ct k1 n ρ2 S2) D E,⟨90,m,ρ,S,s,re,h⟩,?_⟩;rintro n σ2 H2 ⟨m2,ρ2,S2,s2,T4,h2⟩
  cases n with
  | zero=>exact h2.elim
  | succ n =>
   refine ⟨m2,ρ2,S2,s2,T4,(QC.x h2 s2 T4).mono λk m3 S3 H3 x3 s3 h3=>?_⟩
   cases k with
   | false=>rw [Mz Mx];exact h3 m3 H3 σ2 Ext.refl s3 (T4.mono x3 s2)
   | true =>
    rw [MF rfl];refine ⟨λσ' H'=>∃ m2 ρ2 S2,PN g m2 S2 H'/\Re g H' m2 ρ2 σ'/\QC g m2 S2 H' (wl ct k1 n ρ2 S2) D E,λσ' H' h=>⟨n,Oj n,h⟩,m3,ρ2,S3,s3,T4.mono x3 s2,?_⟩;dsimp only at h3
    cases qb:k1 ρ2 S3 with
    | bad=>rw [qb] at h3;exact h3.elim
    | exc c ρ5 S5=>rw [qb] at h3;exact h3
    | ok f S5 =>
     rw [qb] at h3
     cases f with
     | nx ρ5=>exact λm5 H5 σ5 x5 s5 Sn=>⟨m5,ρ5,S5,s5,Sn,QC.ext x5 h3⟩
     | ct ρ5=>exact λm5 H5 σ5 x5 s5 Sn=>⟨m5,ρ5,S5,s5,Sn,QC.ext x5 h3⟩
     | bk ρ5=>exact h3
     | rt a=>exact h3
end
section
variable {g:Gx} {m m':List Addr} {S S':PD} {H H':Hp} {p:Addr}
mutual
variable {vs ws:List V}
theorem R.Qs (h:H p=some (.lst vs)):∀ (a:A) {v:V},R g H m a v->R g (upd H p (.lst ws)) m a v
 | .PJ,v,q=>by unfold R at q ⊢;exact q
 | .bl b,v,q=>by unfold R at q ⊢;exact q
 | .int i,v,q=>by unfold R at q ⊢;exact q
 | .str n,v,q=>by unfold R at q ⊢;exact q
 | .tab t,v,q=>by unfold R at q ⊢;exact q
 | .any,v,q=>by unfold R;exact True.intro
 | .ref i,v,q=>by unfold R at q ⊢;exact q
 | .cl xs,v,q=>by obtain ⟨a,us,e,r,t⟩:=q.Vq;unfold R;exact ⟨a,us,e,r,Rs.Qs h xs t⟩
 | .tup xs,v,q=>by
  obtain ⟨a,us,e,r,t⟩:=q.P8;unfold R;refine ⟨a,us,e,?_,Rs.Qs h xs t⟩;rcases r with (r | ⟨o,r⟩) | r
  ·exact .inl (.inl (by rw [aE (oJ r h (λz=>nomatch z))];exact r))
  ·exact .inl (.inr ⟨o,by rw [aE (oJ r h (λz=>nomatch z))];exact r⟩)
  ·exact .inr r
 | .RP n,v,q=>by obtain ⟨a,e,r⟩:=q.Vr;unfold R;exact ⟨a,e,by rw [aE (oJ r h (λz=>nomatch z))];exact r⟩
 | .R5 n,v,q=>by obtain ⟨a,e,r⟩:=q.Vs;unfold R;exact ⟨a,e,by rw [aE (oJ r h (λz=>nomatch z))];exact r⟩
 | .Q0,v,q=>by
  obtain ⟨a,ns,e,r⟩:=q.Vt;unfold R;refine ⟨a,ns,e,?_⟩;rcases r with ⟨o,r⟩ | r
  ·exact .inl ⟨o,by rw [aE (oJ r h (λz=>nomatch z))];exact r⟩
  ·exact .inr r
theorem Rs.Qs (h:H p=some (.lst vs)):∀ (xs:List A) {us:List V},Rs g H m xs us->Rs g (upd H p (.lst ws)) m xs us
 | [],us,q=>by unfold Rs at q ⊢;exact q
 | a::xs,us,q=>by obtain ⟨v,r,rfl,h1,h2⟩:=q.PL;exact .cons (R.Qs h a h1) (Rs.Qs h xs h2)
end
variable {vs ws:List V}
theorem Rk.Qs (h:H p=some (.lst vs)):∀ {ks:List (Nat × A)} {kvs:List (Key × V)},Rk g H m ks kvs->Rk g (upd H p (.lst ws)) m ks kvs
 | _,_,.nil=>.nil
 | _,_,.cons q t=>.cons ⟨q.1,R.Qs h _ q.2⟩ (Rk.Qs h t)
theorem PN.Qs (s:PN g m S H) (hp:p ∉ m) (h:H p=some (.lst vs)):PN g m S (upd H p (.lst ws)):=by
 refine ⟨s.len,s.nd,λa ha z=>?_,λi c e=>?_⟩
 ·have ne:a≠p:=λw=>hp (w ▸ ha);rw [aE ne] at z;exact s.up a ha z
 ·obtain ⟨a,q,ok⟩:=s.cell i c e;have ne:a≠p:=λw=>hp (w ▸ Ni q);refine ⟨a,q,?_⟩
  cases c with
  | lst xs=>obtain ⟨us,q,r⟩:=ok;exact ⟨us,by rw [aE ne];exact q,Rs.Qs h _ r⟩
  | TJ xs=>obtain ⟨us,q,r⟩:=ok;exact ⟨us,by rw [aE ne];exact q,Rs.Qs h _ r⟩
  | dct ks=>obtain ⟨us,q,r⟩:=ok;exact ⟨us,by rw [aE ne];exact q,Rk.Qs h r⟩
  | RB=>obtain ⟨p',q',r,q,z⟩:=ok;exact ⟨p',q',r,by rw [aE ne];exact q,z⟩
theorem Re.Qs {ρ:Env} {σ:L2.St} (e:Re g H m ρ σ) (h:H p=some (.lst vs)):Re g (upd H p (.lst ws)) m ρ σ:=⟨e.len,λi a q=>let ⟨v,e1,r⟩:=e.get i a q;⟨v,e1,R.Qs h a r⟩⟩
theorem Ext.Qs (x:Ext m S H m' S' H') (h0:H p=none):Ext m S H m' S' (upd H' p (.lst vs)) :=
 ⟨x.pre,λa z=>by
  by_cases e:a=p
  ·rw [e];exact h0
  ·rw [aE e] at z;exact x.low a z,λa o hn h=>by rw [aE (aV h h0)];exact x.keep a o hn h,x.bk⟩
theorem Ext.SG {m2:List Addr} {S2:PD} {H2:Hp} {o:HO} (x:Ext m S H m2 S2 H2) (hp:p ∉ m) (h:H p=some o):p ∉ m2/\H2 p=some o:=by
 obtain ⟨k,rfl,hk⟩:=x.pre;refine ⟨λz=>?_,x.keep p o (λ⟨i,c,e,_⟩=>hp (Ni e)) h⟩;rcases Nc.mp z with z | z
 ·exact hp z
 ·rw [hk p z] at h;cases h
end
theorem nI {tg:SD} {Uv:Ct} {elt:Ce} {x:A} {ρ:Env} {ys:List A} (h:xs[i]?=some x):TR tg Uv elt (xs.drop i) ρ ys S=match tg x ρ with
  | none=>.bad
  | some ρ=>(Uv ρ S).b λk S=>match k with
   | true=>(elt ρ S).b λy S=>TR tg Uv elt (xs.drop (i+1)) ρ (ys++[y]) S
   | false=>TR tg Uv elt (xs.drop (i+1)) ρ ys S:=by
 have e:xs.drop i=x::xs.drop (i+1):=by have hi:=(Mk.mp h).1;rw [List.drop_eq_getElem_cons hi];congr 1;exact (Mk.mp h).2
 rw [e]
 show (match tg x ρ with | none=>Res.bad | some ρ=>(Uv ρ S).b λk S=>match k with
   | true=>(elt ρ S).b λy S=>fl (ys++[y]) λys=>TR tg Uv elt (xs.drop (i+1)) ρ ys S
   | false=>TR tg Uv elt (xs.drop (i+1)) ρ ys S)=_
 simp only [bW]
section
variable {X:Cx} {g:Gx} {E:L2.St->XK} {elt iter tgt:Expr} {ifs:List Expr} {sc:Scope} {pos:Pos} {own:List Str} {fr:List Nat} {N':List Str} {tg:SD} {ct:Ct} {ce:Ce} {ci:Ci}
variable {H:Hp} {σ:L2.St}
theorem xK {m:List Addr} {ρ:Env} (re:Re g H m ρ σ) (own:List Str) (fr:List Nat):Re g H m (Qk own.length fr ρ) (UD own fr σ):=by
 unfold Qk UD;refine ⟨by simp,λi a h=>?_⟩;by_cases hi:i < own.length
 ·rw [M3 (by simp;exact hi),OG,MF hi] at h;cases h
 ·rw [M9 (by simp;omega),Oc,MH] at h;rw [M9 (by simp;omega),MK,MH]
  cases q:fr[i - own.length]? with
  | none=>rw [q] at h;cases h
  | some j =>
   rw [q] at h;have h':(ρ[j]?).getD none=some a:=MB h
   have hj:ρ[j]?=some (some a):=by
    cases z:ρ[j]? with
    | none=>rw [z] at h';cases h'
    | some o=>rw [z] at h';cases h';rfl
   obtain ⟨v,e,r⟩:=re.get j a hj;exact ⟨v,by show some ((σ[j]?).getD none)=_;rw [e];rfl,r⟩
noncomputable abbrev E0:L2.St->XK:=λ_ _ _ _=>False
theorem RM.of {Q:VK} (h:tE g E (bV ci own.length fr tg ct ce) σ H Q):RM (tI g E ci) (UD own fr) (tG g tg) (tB g E0 ct) (tE g E0 ce) σ H Q:=by
 obtain ⟨m,ρ,S,s,re,h⟩:=h;refine ⟨m,ρ,S,s,re,h.bind.mono λp m1 S1 H1 x1 s1 h1 J it D hD=>?_⟩;have Rr:=re.mono x1 s
 cases q9:few 900 p.1 with
 | false=>rw [q9] at h1;exact h1.elim
 | true =>
 rw [q9] at h1;dsimp only at h1;have h9:=dA q9;rw [bW,gd] at h1;have Zm:D ∉ m1:=λz=>s1.up D z hD
 refine ⟨λi n σ' H'=>∃ m2 ρ2 S2 ys vs,n=p.1.length - i/\i<=p.1.length/\Ext m1 (SE p.2 S1) H1 m2 S2 H'/\PN g m2 S2 H'/\Re g H' m2 ρ2 σ'/\D ∉ m2/\H' D=some (.lst vs)/\Rs g H' m2 ys vs/\vs.length<=i /\
   Out g m1 S1 H1 (((TR tg ct ce (p.1.drop i) ρ2 ys S2).UK.back S1 p.2).b λys S=>new ys S) (λa m' _ H'=>∀ v,R g H' m' a v->Q v H') (E σ),
  ⟨_,m1,Qk own.length fr ρ,SE p.2 S1,[],[],rfl,Nd _,Ext.refl.Qs hD,s1.lock.new hD _,(xK Rr own fr).mono (Ext.new (S:=S1) hD _) s1,Zm,aF,.nil,Nd _,by rw [Of];exact h1⟩,?_⟩
 rintro i n σ2 H2 ⟨m2,ρ2,S2,ys,vs,hn,hil,x2,s2,T4,Wv,XD,XF,hvl,h2⟩;obtain ⟨go,stop⟩:=it m2 S2 H2 x2 s2
 cases q:p.1[i]? with
 | none =>
  have hle:=NB.mp q;have:i=p.1.length:=by omega
  subst this;refine .inl ⟨stop,?_⟩;rw [List.drop_length] at h2;have h2':Out g m1 S1 H1 ((cJ S1 p.2 S2 λS=>Res.ok ys S).b λys S=>new ys S) (λa m' _ H'=>∀ v,R g H' m' a v->Q v H') (E σ):=h2;rw [cw] at h2';obtain ⟨x3,s3⟩:=x2.unlock s1 s2;have h3:Out g m1 S1 H1 (new ys (U8 S1 p.2 S2)) (λa m' _ H'=>∀ v,R g H' m' a v->Q v H') (E σ):=h2';unfold new at h3
  cases q9:few 900 ys with
  | false=>rw [q9] at h3;exact h3.elim
  | true =>
   rw [q9] at h3;dsimp only at h3;rw [bW,oH] at h3;have s4:=s3.adopt (c:=.lst ys) Wv ⟨vs,XD,Rs.more _ _ XF⟩;obtain ⟨k,ek,hk⟩:=x3.pre;refine h3 (m2++[D]) H2 ⟨⟨k++[D],by rw [ek,N9],λa ha=>?_⟩,x3.low,x3.keep,λj c hj e o=>?_⟩ s4 _ (R.ref (by rw [<- s3.len];simp))
   ·rcases Nc.mp ha with z | z
    ·exact hk a z
    ·rw [MS.mp z];exact hD
   ·rw [aO] at e;by_cases z:(U8 S1 p.2 S2).nx=j
    ·have:=s3.len;rw [ek,MO] at this;omega
    ·rw [Mz z] at e;exact x3.bk j c hj e o
 | some x =>
  have hlt:=(Mk.mp q).1;obtain ⟨g1,yl⟩:=go i x q;rw [nI q] at h2
  refine .inr ⟨g1,λσ' H'=>∃ m2 ρ2 S2 ys vs,Ext m1 (SE p.2 S1) H1 m2 S2 H'/\PN g m2 S2 H'/\Re g H' m2 ρ2 σ'/\D ∉ m2/\H' D=some (.lst vs)/\Rs g H' m2 ys vs/\vs.length<=i+1 /\
   Out g m1 S1 H1 (((TR tg ct ce (p.1.drop (i+1)) ρ2 ys S2).UK.back S1 p.2).b λys S=>new ys S) (λa m' _ H'=>∀ v,R g H' m' a v->Q v H') (E σ),
   λσ' H' ⟨m3,ρ3,S3,ys,vs,x3,s3,Tg,d1,d2,d3,d4,h3⟩=>⟨p.1.length - (i+1),by omega,m3,ρ3,S3,ys,vs,rfl,hlt,x3,s3,Tg,d1,d2,d3,d4,h3⟩,λv H3 yd=>?_⟩
  obtain ⟨x3,s3,rv⟩:=yl v H3 yd;have Tg:=T4.mono x3 s2;have Zn:=Rs.mono x3 s2 ys XF;have Zo:=(x3.SG Wv XD).2
  cases qt:tg x ρ2 with
  | none=>rw [qt] at h2;exact h2.elim
  | some ρ3 =>
   rw [qt] at h2;dsimp only at h2;refine ⟨m2,ρ2,S2,x,ρ3,s3,Tg,rv,qt,λσ4 Um=>⟨m2,ρ3,S2,s3,Um,?_⟩⟩
   cases qc:ct ρ3 S2 with
   | bad=>rw [qc] at h2;exact h2.elim
   | exc c S5=>rw [qc] at h2;exact h2.elim
   | ok b S5 =>
    rw [qc] at h2;intro m5 H5 x5 s5;obtain ⟨XG,XH⟩:=x5.SG Wv Zo;have Sn:=Um.mono x5 s3;have XI:=Rs.mono x5 s3 ys Zn;have xx:=(x2.trans x3).trans x5
    cases b with
    | false =>rw [Mz Mx];exact ⟨m5,ρ3,S5,ys,vs,xx,s5,Sn,XG,XH,XI,by omega,h2⟩
    | true =>
     rw [MF rfl];refine ⟨m5,ρ3,S5,s5,Sn,?_⟩
     cases qe:ce ρ3 S5 with
     | bad =>have h2':Out g m1 S1 H1 ((((ce ρ3 S5).b λy S=>TR tg ct ce (p.1.drop (i+1)) ρ3 (ys++[y]) S).UK.back S1 p.2).b λys S=>new ys S) (λa m' _ H'=>∀ v,R g H' m' a v->Q v H') (E σ):=h2;rw [qe] at h2';exact h2'.elim
     | exc c S6 =>have h2':Out g m1 S1 H1 ((((ce ρ3 S5).b λy S=>TR tg ct ce (p.1.drop (i+1)) ρ3 (ys++[y]) S).UK.back S1 p.2).b λys S=>new ys S) (λa m' _ H'=>∀ v,R g H' m' a v->Q v H') (E σ):=h2;rw [qe] at h2';exact h2'.elim
     | ok y S6 =>have h2':Out g m1 S1 H1 ((((ce ρ3 S5).b λy S=>TR tg ct ce (p.1.drop (i+1)) ρ3 (ys++[y]) S).UK.back S1 p.2).b λys S=>new ys S) (λa m' _ H'=>∀ v,R g H' m' a v->Q v H') (E σ):=h2;rw [qe] at h2';intro m6 H6 x6 s6 u ru;obtain ⟨XJ,Vw⟩:=x6.SG XG XH;refine ⟨vs,Vw,?_,m6,ρ3,S6,ys++[y],vs++[u],(xx.trans x6).Qs hD,s6.Qs XJ Vw,(Sn.mono x6 s5).Qs Vw,XJ,aF,(Rs.Qs Vw _ (Rs.mono x6 s5 ys XI)).append (.cons (R.Qs Vw _ ru) .nil),by rw [MO];show vs.length+1<=i+1;omega,h2'⟩;rw [Na];omega
theorem bP (hi:PI X tgt iter (tI g E ci)) (hk:sc.kind=.function) (hb:bj X.N X.env.kindOf sc.names own fr N'=true) (hc:X.calm=true)
  (hg:∀ cl C s H fp,PG (X.Qk sc cl C N' s H fp) tgt (tG g tg)) (ht:∀ cl C s H fp,jM (X.Qk sc cl C N' s H fp) ifs (tB g E0 ct)) (he:∀ cl C s H fp,PE (X.Qk sc cl C N' s H fp) elt (tE g E0 ce))
  (hs:∀ x,foldedSetIterable iter X.env x=pure x:=by intro _;rfl):PE X (.ListComp elt [⟨tgt,iter,ifs,0⟩] sc pos) (tE g E (bV ci own.length fr tg ct ce)) :=
 Q2 (rB hi hk hb hc hg ht he hs) λσ H Q h=>RM.of h
theorem lU {i:Nat} {y:Str} {py spos:Pos} (hi:PI X tgt iter (tI g E ci)) (hk:sc.kind=.function) (hb:bj X.N X.env.kindOf sc.names own fr N'=true) (hc:X.calm=true)
  (hg:∀ cl C s H fp,PG (X.Qk sc cl C N' s H fp) tgt (tG g tg)) (ht:∀ cl C s H fp,jM (X.Qk sc cl C N' s H fp) ifs (tB g E0 ct)) (he:∀ cl C s H fp,PE (X.Qk sc cl C N' s H fp) elt (tE g E0 ce))
  (hN:X.N.Nodup) (hy:X.N[i]?=some y) (hx:X.env.scope.names.lookup y=some .local)
  (hsw:swapsWith (.ListComp elt [⟨tgt,iter,ifs,0⟩] sc pos) (some (.Name y py)) spos.line X.env=pure true)
  (hs:∀ x,foldedSetIterable iter X.env x=pure x:=by intro _;rfl):PS X (.Assign [.Name y py] (.ListComp elt [⟨tgt,iter,ifs,0⟩] sc pos) spos) (tS g E (bF i (bV ci own.length fr tg ct ce))) :=
 TZ (qw hi hk hb hc hg ht he hN hy hx hsw hs) λD σ H h=>RM.of (E:=E) (show tE g E (bV ci own.length fr tg ct ce) σ H _ from RI.of h)
theorem dD:jM X [] (tB g E tT):=λpins s σ H Q I ⟨m,ρ,S,sm,re,h⟩=>oR pins s σ H Q I (h.ret sm)
end
section
variable {X:Cx} {g:Gx} {a:Expr} {es:List Expr} {ca:Ce} {cs:Ca} {k1 k2:Cs} {pos:Pos}
variable {E:XK} {n:Nat} {np cpos:Pos}
theorem ip {C:Addr} {x:Str} {e₀:Expr} {rest:List Expr} {B Bn newId nid initId inN:String} {bmB bmN:List Value}
  (fn':ExcBaseFacts Bn newId inN bmN) (hb:bmB.contains (.type Bn)=true) (fb:ExcBaseFacts B nid initId bmB) (hat:eE X.K C bmB newId none=true) (hx:Passes (rW X.prog X.w) X E) (hg:Gl X x) (hm:X.mg x=some (.ref C)) (hC:g.cls n=C)
  (ha:PA X (e₀::rest) (U7 g (λ_=>E) cs)) (hc:X.calm=true:=by rfl) (he:starEach (e₀::rest) X.env=(false,eval e₀ X.env)::starEach rest X.env:=by rfl) (hpl:((backTo cpos (starEach rest X.env)).any λx=>x.fst)=false:=by rfl) (hd:(x == ("__debug__":Str))=false:=by decide) :
  PS X (.Raise (some (.Call (.Name x np) (e₀::rest) [] cpos)) none pos) (tS g (λ_=>E) (iS n cs)) :=
 TZ (uv fn' hb fb hat hx hg hm ha hc he hpl hd) λD σ H ⟨m,ρ,S,s,re,h⟩=>⟨m,ρ,S,s,re,(h.x s re).mono λxs m1 S1 H1 x1 s1 h1 vs rs=>by
  cases q:few 9 xs with
  | false=>rw [q] at h1;exact h1.elim
  | true =>rw [q] at h1;refine ⟨dj (by rw [rs.length];have:=dA q;omega),?_⟩;have:=h1 m1 H1 σ none Ext.refl s1 (re.mono x1 s);rw [hC] at this;exact this⟩
theorem oW {C fI:Addr} {fd:FuncData} {k:Nat} {ps:List Str} {x f:Str} (kc:pA X.K C fI) (FI:PB X.prog X.w X.K X.mg X.base Ul k fI fd ps (iA C f)) (hb:Binds X.K fd ps []) (hr:P5 (k+1) X.A) (hx:Passes (rW X.prog X.w) X E) (hg:Gl X x) (hm:X.mg x=some (.ref C)) (hC:g.cls n=C)
  (ha:PE X a (tE g (λ_=>E) ca)) (hs1:dw a=true:=by rfl) (hc:X.calm=true:=by rfl) (he:starEach [a] X.env=(false,eval a X.env)::starEach [] X.env:=by rfl) (hpl:((backTo cpos (starEach [] X.env)).any λx=>x.fst)=false:=by rfl) (hd:(x == ("__debug__":Str))=false:=by decide) :
  PS X (.Raise (some (.Call (.Name x np) [a] [] cpos)) none pos) (tS g (λ_=>E) (nh n ca)) :=
 TZ (qu kc FI hb hr hx hg hm (a9 ha aM hs1) hc he hpl hd) λD σ H ⟨m,ρ,S,s,re,h⟩=>⟨m,ρ,S,s,re,(h.x s re).mono λy m1 S1 H1 x1 s1 h1 v rv=>⟨v,rfl,λdx hdx=>by
  have:=h1 m1 (upd H1 dx (.xd [(f,v)])) σ (some dx) (Ext.new hdx _) (s1.new hdx _) ((re.mono x1 s).mono (Ext.new hdx _) s1);rw [hC] at this;exact this⟩⟩
theorem Aw {E:L2.St->XK} {body:List Stmt} {cs:List Nat} {x:Str} {C:Value} {hpos:Pos} {b₀:Stmt} {suite:List Stmt}
  (hb:∀ (pn:List (Addr × Obj)) (xe:Value->Shared->Prop) (E:L2.St->XK),cm (PK X.prog X.w) { X with pn:=pn,xe:=xe } E->QI { X with pn:=pn,xe:=xe } body (tS g E k1))
  (hg:Gl X x) (hm:X.mg x=some C) (hx:∀ c,cL c cs=true->W.exmOne X.K (.ref (g.cls c)) C=some true) (hh:∀ e:Value,QI (X.hand e) (b₀::suite) (tS g E0 k2))
  (hst:X.stack=X.env::X.outer:=by rfl) (hfr:X.env.frame=some X.env.locals:=by rfl) (hd:(x == ("__debug__":Str))=false:=by decide) :
  PS X (.Try body [.ExceptHandler (some (.Name x np)) none (b₀::suite) hpos] [] [] pos) (tS g E (zV k1 cs k2)) :=
 TZ (zH (t:=λE=>tS g E k1) hb hg hm hh hst hfr hd) λD σ H ⟨m,ρ,S,s,re,h⟩=>⟨m,ρ,S,s,re,by
  unfold zV at h
  cases q:k1 ρ S with
  | bad=>rw [q] at h;exact h
  | ok f S1=>rw [q] at h;cases f <;> exact h
  | exc c ρ1 S1 =>
   rw [q] at h;dsimp only at h
   cases qc:cL c cs with
   | false=>rw [qc] at h;exact h.elim
   | true =>
    rw [qc] at h;dsimp only at h;refine λm1 H1 σ1 dx x1 s1 Rr=>⟨hx c qc,m1,ρ1,S1,s1,Rr,?_⟩
    have h2:=QC.ext x1 h
    cases q2:k2 ρ1 S1 with
    | bad=>rw [q2] at h2;exact h2
    | exc c ρ2 S2=>rw [q2] at h2;exact h2.elim
    | ok f S2=>rw [q2] at h2;cases f <;> exact h2⟩
theorem bY {P:Program} {w:World}:cm (PK P w) X E0:=λpins σ H s e s' I x=>by obtain ⟨a,T,cls,a0,dx,H',_,_,_,_,_,_,_,_,z⟩:=x;exact z.elim
end
theorem ib:∀ {cs:List (Nat × C)} {i:Nat} {c:C},look i (old n cs)=some c->look i cs=some c/\i < n
 | [],i,c,h=>nomatch h
 | (k,d)::r,i,c,h=>by
  unfold old at h
  cases q:Nat.ble n k with
  | true =>rw [q] at h;obtain ⟨h1,h2⟩:=ib (cs:=r) h;refine ⟨?_,h2⟩;have:=MY q;rw [aO,Mz (by omega)];exact h1
  | false =>
   rw [q] at h;dsimp only at h;rw [aO] at h;by_cases z:k=i
   ·rw [MF z] at h;have:¬ n<=k:=λw=>by rw [Oe w] at q;cases q
    exact ⟨by rw [aO,MF z];exact h,by omega⟩
   ·rw [Mz z] at h;obtain ⟨h1,h2⟩:=ib (cs:=r) h;exact ⟨by rw [aO,Mz z];exact h1,h2⟩
theorem rR (n:Nat) (a:A) (S:PD):∃ cs,(∀ i c,look i cs=some c->look i S.cs=some c)/\∀ {α:Type} (k:PD->α),qL n a S k=k ⟨S.nx,cs⟩:=by
 have d1:∀ i c,look i (old n S.cs)=some c->look i S.cs=some c:=λi c h=>(ib h).1;have keep:∃ cs,(∀ i c,look i cs=some c->look i S.cs=some c)/\∀ {α:Type} (k:PD->α),k S=k ⟨S.nx,cs⟩:=⟨S.cs,λ_ _ h=>h,λk=>rfl⟩
 have drop:∃ cs,(∀ i c,look i cs=some c->look i S.cs=some c)/\∀ {α:Type} (k:PD->α),(fl (old n S.cs) λcs=>k ⟨S.nx,cs⟩)=k ⟨S.nx,cs⟩:=⟨old n S.cs,d1,λk=>bW _ _⟩
 cases a with
 | ref i =>
  unfold qL;dsimp only
  cases q:Nat.ble n i with
  | false=>exact drop
  | true =>
   cases q2:look i S.cs with
   | none=>exact keep
   | some c =>
    cases c with
    | lst xs =>
     dsimp only
     cases jP xs with
     | true=>exact keep
     | false =>
      refine ⟨(i,.lst xs)::old n S.cs,λj c h=>?_,λk=>bW _ _⟩;rw [aO] at h;by_cases z:i=j
      ·rw [MF z] at h;cases h;rw [<- z];exact q2
      ·rw [Mz z] at h;exact d1 j c h
    | _=>exact keep
 | tup xs =>
  unfold qL;dsimp only
  cases jP xs with
  | true=>exact keep
  | false=>exact drop
 | any=>exact keep
 | _=>exact drop
section
variable {P:Program} {w:World} {g:Gx} {mg:Str->Option Value} {base:Heap}
variable {N:List Str}
theorem kr {H:Hp} {m:List Addr} {as:List A} {vs:List V} (r:Rs g H m as vs) (hN:vs.length<=N.length):Re g H m (as.map some++List.replicate (N.length - as.length) none) (L2.start N vs):=by
 unfold L2.start;refine ⟨by simp [r.length],λi a h=>?_⟩;by_cases hi:i < as.length
 ·rw [M3 (by simpa using hi),MH] at h;rw [M3 (by rw [MK,r.length];exact hi),MH]
  cases q:as[i]? with
  | none=>rw [q] at h;cases h
  | some b =>rw [q] at h;cases h;obtain ⟨v,e,rv⟩:=r.get q;exact ⟨v,by rw [e];rfl,rv⟩
 ·rw [M9 (by simpa using hi),OG] at h;split at h <;> cases h
theorem a7 {x qual:Str} {st:Stmt} {f:Addr} {fd:FuncData} {ps:List Str} {k:Nat} {body:Cs} (F:UQ g.K x qual st f fd) (S:Pz N ps (ag st))
  (hb:∀ (cdv:Value) (A:Around) (outer:List PySem.Env) (s:Shared) (H:Hp) (E:XK),P5 k (A.deeper (envOfC qual (ag st) s.heap.objs.size f cdv))->QI (dm (PK P w) P w g.K mg base N qual (ag st) f cdv A outer s H E) (b8 st) (tS g (λ_=>E) body)) :
  PB P w g.K mg base (PK P w) (k+1) f fd ps (PZ g (bE ps.length N.length body)):=by
 have hpl:ps.length<=N.length:=by have:=M5 List.length S.pre;rw [N3] at this;omega
 have ar:∀ {as:List A} {m:List Addr} {S:PD} {H:Hp} {Q:VK} {E:XK},Out g m S H (bE ps.length N.length body as S) (An g Q) E->as.length=ps.length/\Out g m S H (leave S.nx (done (body (as.map some++List.replicate (N.length - as.length) none) S))) (An g Q) E:=λ{as m S H Q E} h=>by
  unfold bE at h
  cases q:Nat.beq as.length ps.length with
  | false=>rw [q] at h;exact h.elim
  | true=>rw [q] at h;dsimp only at h;rw [bW] at h;exact ⟨ML q,h⟩
 refine F.YZ S (λvs H Q E ⟨m,S,as,s,r,h⟩=>by rw [r.length];exact (ar h).1) λcdv A outer s H vs Q E hr ⟨m,S',as,sm,r,h⟩=>⟨_,hb cdv A outer s H E hr,?_⟩
 obtain ⟨ha,h⟩:=ar h;refine ⟨m,_,S',sm,kr r (by rw [r.length,ha];exact hpl),?_⟩;generalize body (as.map some++List.replicate (N.length - as.length) none) S'=o at h
 have out:∀ {b:EV.A} {S1:PD},Out g m S' H (leave S'.nx (.ok b S1)) (An g Q) E->∀ m1 H1 v,Ext m S' H m1 S1 H1->PN g m1 S1 H1->R g H1 m1 b v->Q v H1:=λ{b S1} h m1 H1 v x1 s1 rb=>by have h':Out g m S' H (qL S'.nx b S1 λS=>.ok b S) (An g Q) E:=h;obtain ⟨cs,hd,e⟩:=rR S'.nx b S1;rw [e] at h';obtain ⟨s2,x2⟩:=s1.drop hd;exact h' m1 H1 (x1.trans x2) s2 v rb
 cases o with
 | bad=>exact h
 | ok fl S1 =>
  cases fl with
  | nx ρ=>exact λm1 H1 σ1 x1 s1 Rr=>out h m1 H1 .PJ x1 s1 R.PJ
  | rt b=>exact λm1 H1 v x1 s1 rb=>out h m1 H1 v x1 s1 rb
  | bk ρ=>exact h.elim
  | ct ρ=>exact h.elim
 | exc c ρ S1 =>intro m1 H1 σ1 dx x1 s1 Rr;have h':Out g m S' H (qL S'.nx .PJ S1 λS=>.exc c S) (An g Q) E:=h;obtain ⟨cs,hd,e⟩:=rR S'.nx .PJ S1;rw [e] at h';obtain ⟨s2,x2⟩:=s1.drop hd;exact h' m1 H1 dx (x1.trans x2) s2
end
end EV
namespace My
open PySem L2 PyProof.Rows
noncomputable abbrev TL:List (Str × KTD.Dat):=[("num",.flat (.int 9999)),("arg",.flat (.int 3))]
noncomputable abbrev TB:List (Str × KTD.Dat):=[("add",.flat (.int 2)),("sub",.flat (.int 2)),("mul",.flat (.int 2)),("less",.flat (.int 2)),("pick",.flat (.int 3))]
noncomputable abbrev TM:List (Str × KTD.Dat):=[("hole",.flat (.int 2)),("gap",.flat (.int 3)),("slot",.flat (.int 2))]
noncomputable abbrev TF:List (Str × KTD.Dat):=[("low",.flat (.str "gap")),("high",.flat (.str "gap")),("arg",.flat (.str "slot"))]
noncomputable abbrev AHE:List D:=[.int 10,.int 11]
noncomputable abbrev BAS:List D:=[.tup [.str "one",.tup [.str "gap",.int 0,.int 99],.tup [.int 1,.tup [.str "low",.int 0]]],.tup [.str "two",.tup [.str "gap",.int 0,.int 9999],.tup [.int 2,.tup [.str "low",.int 0],.tup [.str "high",.int 0]]],.tup [.str "slot",.tup [.str "slot",.int 0],.tup [.int 3,.tup [.str "arg",.int 0]]],.tup [.str "add",.tup [.str "add",.tup [.str "hole",.int 0],.tup [.str "hole",.int 1]],.tup [.int 4]],.tup [.str "sub",.tup [.str "sub",.tup [.str "hole",.int 0],.tup [.str "hole",.int 1]],.tup [.int 5]],.tup [.str "mul",.tup [.str "mul",.tup [.str "hole",.int 0],.tup [.str "hole",.int 1]],.tup [.int 6]],.tup [.str "less",.tup [.str "less",.tup [.str "hole",.int 0],.tup [.str "hole",.int 1]],.tup [.int 7]],.tup [.str "more",.tup [.str "add",.tup [.str "hole",.int 0],.tup [.str "gap",.int 0,.int 99]],.tup [.int 12,.tup [.str "low",.int 0]]]]
noncomputable abbrev BEH:List D:=[.int 8,.int 9]
noncomputable abbrev INS:List D:=[.tup [.str "end",.int 0],.tup [.str "put",.int 1],.tup [.str "far",.int 2],.tup [.str "load",.int 1],.tup [.str "add",.int 0],.tup [.str "sub",.int 0],.tup [.str "mul",.int 0],.tup [.str "less",.int 0],.tup [.str "skip",.int 1],.tup [.str "jump",.int 2],.tup [.str "zero",.int 1],.tup [.str "none",.int 2],.tup [.str "more",.int 1],.tup [.str "twice",.int 0],.tup [.str "about",.int 0],.tup [.str "call",.int 2],.tup [.str "back",.int 0]]
noncomputable abbrev STR:List D:=[.str "put",.str "far",.str "load",.str "add",.str "sub",.str "mul",.str "less",.str "more",.str "twice",.str "about"]
noncomputable abbrev kE:Stmt:=top 18
theorem Sa:Pz ["thing","low","high"] ["thing","low","high"] (ag kE):=.Qo
noncomputable abbrev ju:Stmt:=top 19
theorem RQ:Pz ["thing"] ["thing"] (ag ju):=.Qo
noncomputable abbrev lZ:Stmt:=top 26
theorem SH:Pz ["thing","kind"] ["thing"] (ag lZ):=.Qo
noncomputable abbrev fS:Stmt:=top 27
theorem Q3:Pz ["tree"] ["tree"] (ag fS):=.Qo
noncomputable abbrev iW:Stmt:=top 28
theorem SI:Pz ["thing","waiting","parts","part","deep"] ["thing"] (ag iW):=.Qo
noncomputable abbrev jy:Stmt:=top 29
theorem RS:Pz ["tree"] ["tree"] (ag jy):=.Qo
noncomputable abbrev oY:Stmt:=top 30
theorem To:Pz ["tree","parts","within"] ["tree"] (ag oY):=.Qo
noncomputable abbrev eJ:Stmt:=top 34
theorem QG:Pz ["cells","place","name","many","behind"] ["cells","place"] (ag eJ):=.Qo
noncomputable abbrev lY:Stmt:=top 44
theorem SJ:Pz ["thing"] ["thing"] (ag lY):=.Qo
noncomputable abbrev cY:Stmt:=top 45
theorem QD:Pz ["thing","deep"] ["thing","deep"] (ag cY):=.Qo
noncomputable abbrev kG:Stmt:=top 46
theorem Sb:Pz ["pattern","kind","marks","within"] ["pattern","kind"] (ag kG):=.Qo
noncomputable abbrev d9:Stmt:=top 47
theorem Rg:Pz ["pattern","kind","numbers"] ["pattern","kind"] (ag d9):=.Qo
noncomputable abbrev eY:Stmt:=top 48
theorem Rt:Pz ["thing"] ["thing"] (ag eY):=.Qo
noncomputable abbrev iu:Stmt:=top 49
theorem Ru:Pz ["thing","pattern"] ["thing","pattern"] (ag iu):=.Qo
noncomputable abbrev lX:Stmt:=top 50
theorem SK:Pz ["thing","pattern"] ["thing","pattern"] (ag lX):=.Qo
noncomputable abbrev cP:Stmt:=top 51
theorem Qy:Pz ["cells","pattern","place","name","behind"] ["cells","pattern"] (ag cP):=.Qo
noncomputable abbrev kD:Stmt:=top 52
theorem Se:Pz ["thing","name","pattern","cells"] ["thing"] (ag kD):=.Qo
noncomputable abbrev iw:Stmt:=top 53
theorem Tp:Pz ["thing"] ["thing"] (ag iw):=.Qo
noncomputable abbrev kH:Stmt:=top 54
theorem Sf:Pz ["some"] ["some"] (ag kH):=.Qo
noncomputable abbrev fu:Stmt:=top 55
theorem QT:Pz ["mark","tree"] ["mark","tree"] (ag fu):=.Qo
noncomputable abbrev l4:Stmt:=top 56
theorem SM:Pz ["pattern","tree","found","kind"] ["pattern","tree","found"] (ag l4):=.Qo
noncomputable abbrev kC:Stmt:=top 57
theorem Sg:Pz ["piece","tree","found"] ["piece","tree"] (ag kC):=.Qo
noncomputable abbrev gr:Stmt:=top 58
theorem Rh:Pz ["cell","nums","ks"] ["cell","nums","ks"] (ag gr):=.Qo
noncomputable abbrev jv:Stmt:=top 64
theorem RU:Pz ["many","kinds","near","far"] ["many","kinds"] (ag jv):=.Qo
noncomputable abbrev ft:Stmt:=top 65
theorem QU:Pz ["second","third","behind","ahead"] ["second","third"] (ag ft):=.Qo
noncomputable abbrev l5:Stmt:=top 66
theorem SN:Pz ["tree","some","ways","piece","found"] ["tree","some"] (ag l5):=.Qo
noncomputable abbrev jw:Stmt:=top 67
theorem RV:Pz ["name","cells","lengths","own","ahead","behind"] ["name","cells","lengths"] (ag jw):=.Qo
noncomputable abbrev b5:Stmt:=top 68
theorem Q4:Pz ["tree","some","done","bests","best","name","cells","trees","within","length"] ["tree","some","done","bests"] (ag b5):=.Qo
noncomputable abbrev fm:Stmt:=top 69
theorem QV:Pz ["tree","some","done","bests","part"] ["tree","some"] (ag fm):=.Qo
noncomputable abbrev fq:Stmt:=top 70
theorem QW:Pz ["tree","some","thing","name","cells","trees"] ["tree","some","thing"] (ag fq):=.Qo
noncomputable abbrev dh:Stmt:=top 71
theorem QH:Pz ["trees","some","things"] ["trees","some","things"] (ag dh):=.Qo
noncomputable abbrev jx:Stmt:=top 72
theorem RW:Pz ["tree","some"] ["tree","some"] (ag jx):=.Qo
noncomputable abbrev kB:Stmt:=top 73
theorem Sh:Pz ["tree","some"] ["tree","some"] (ag kB):=.Qo
noncomputable abbrev gu:Stmt:=top 74
theorem Ri:Pz ["tree","some","thing"] ["tree","some","thing"] (ag gu):=.Qo
noncomputable abbrev fR:Stmt:=top 78
theorem RX:Pz ["tree","some","cover","places","first","second","third","ahead","behind"] ["tree","some","cover","places"] (ag fR):=.Qo
noncomputable abbrev dE:Stmt:=top 79
theorem Rv:Pz ["tree","some","cover","places","name","within","piece","holes","nums","ks","cells","hole","inner"] ["tree","some","cover","places"] (ag dE):=.Qo
noncomputable abbrev ix:Stmt:=top 80
theorem Rw:Pz ["tree","some","cover","places","place"] ["tree","some","cover","places"] (ag ix):=.Qo
noncomputable abbrev lW:Stmt:=top 81
theorem SQ:Pz ["tree","some","length","cover"] ["tree","some"] (ag lW):=.Qo
noncomputable abbrev AF:Stmt:=top 82
theorem Vx:Pz ["tree","some"] ["tree","some"] (ag AF):=.Qo
noncomputable abbrev xR:Stmt:=top 83
theorem UG:Pz ["tree","some","thing"] ["tree","some","thing"] (ag xR):=.Qo
noncomputable abbrev dZ:Stmt:=top 87
theorem RY:Pz ["thing","tree","there"] ["thing","tree"] (ag dZ):=.Qo
noncomputable abbrev iy:Stmt:=top 88
theorem Rx:Pz ["parts","tree"] ["parts","tree"] (ag iy):=.Qo
noncomputable abbrev iz:Stmt:=top 89
theorem Ry:Pz ["tree","parts"] ["tree","parts"] (ag iz):=.Qo
noncomputable abbrev cz:Stmt:=top 90
theorem Qu:Pz ["tree","parts","within"] ["tree","parts"] (ag cz):=.Qo
noncomputable abbrev d5:Stmt:=top 91
theorem RZ:Pz ["tree","some","parts","roots","closings","bests","places","place","length","cover","code","root","closing"] ["tree","some","parts"] (ag d5):=.Qo
noncomputable abbrev kF:Stmt:=top 92
theorem Si:Pz ["tree","some","parts"] ["tree","some","parts"] (ag kF):=.Qo
noncomputable abbrev xQ:Stmt:=top 93
theorem UH:Pz ["tree","some","part"] ["tree","some","part"] (ag xQ):=.Qo
noncomputable abbrev jt:Stmt:=top 94
theorem R0:Pz ["tree","some","plain","best","most","part","gained"] ["tree","some"] (ag jt):=.Qo
noncomputable abbrev iV:Stmt:=top 20
theorem SR:Pz ["thing"] ["thing"] (ag iV):=.Qo
noncomputable abbrev jq:Stmt:=top 96
theorem R1:Pz ["_law_script","_law_town","_law_many","_law_one","_law_at","_law_mixed"] ["_law_script","_law_town","_law_many"] (ag jq):=.Qo
noncomputable abbrev jr:Stmt:=top 97
theorem R3:Pz ["_law_script","_law_town","_law_some"] ["_law_script","_law_town","_law_some"] (ag jr):=.Qo
noncomputable abbrev fQ:Stmt:=top 101
theorem Q5:Pz ["_law_script","_law_town","_law_num","_law_arg","_law_low","_law_k","_law_wide","_law_bad"] ["_law_script","_law_town"] (ag fQ):=.Qo
noncomputable abbrev fk:Stmt:=top 102
theorem QX:Pz ["_law_script","_law_town","_law_hole","_law_gap","_law_slot","_law_two","_law_bad"] ["_law_script","_law_town"] (ag fk):=.Qo
noncomputable abbrev ir:Stmt:=top 103
theorem Rz:Pz ["_law_e","_law_own"] ["_law_e"] (ag ir):=.Qo
noncomputable abbrev gI:Stmt:=top 104
theorem Sj:Pz ["_law_what","_law_tree_here","_law_some","_law_other","_law_e"] ["_law_what","_law_tree_here","_law_some","_law_other"] (ag gI):=.Qo
noncomputable abbrev dN:Stmt:=top 105
theorem Qz:Pz ["_law_tree_here","_law_basic","_law_four","_law_seven","_law_few"] ["_law_tree_here","_law_basic"] (ag dN):=.Qo
noncomputable abbrev eK:Stmt:=top 106
theorem Uw:Pz ["_law_script","_law_town","_law_bad","_law_tree_here","_law_basic","_law_odd","_law_few","_law_wrong","_law_part"] ["_law_script"] (ag eK):=.Qo
noncomputable def AZ (s:Stmt):Stmt:=match s with
 | .ClassDef _ _ _ (d::_) _ _ _ _ _ _ _=>d
 | _=>.Pass ⟨0,0,0,0⟩
noncomputable abbrev bC:Stmt:=AZ (top 14)
theorem Rj:Pz ["self","place"] ["self","place"] (ag bC):=.Qo
structure Df (K:W.Frag) (mg:Str->Option Value) (n:Str) (st:Stmt) (ps:List Str) where
 a:Addr
 d:FuncData
 f:UQ K n n st a d
 m:mg n=some (.ref a)
 b:Binds K d ps []
noncomputable abbrev Ok (P:Program) (w:World) (base:Heap) (k:Nat) {K:W.Frag} {mg:Str->Option Value} {n:Str} {st:Stmt} {ps:List Str} (D:Df K mg n st ps) (sp:Sp):Prop:=PB P w K mg base Ul k D.a D.d ps sp
theorem pc {X:Cx} {k:Nat} {n:Str} {st:Stmt} {ps:List Str} {sp:Sp} {e:Expr} {es:List Expr} {t:TA} {p pos:Pos} {D:Df X.K X.mg n st ps} (F:PB X.prog X.w X.K X.mg X.base Ul k D.a D.d ps sp) (hr:P5 k X.A) (ha:PA X (e::es) t) (hg:Gl X n:=by rfl) (hdb:(n == ("__debug__":Str))=false:=by decide) (he:starEach (e::es) X.env=(false,eval e X.env)::starEach es X.env:=by rfl) (hpl:(backTo pos (starEach es X.env)).any (·.1)=false:=by rfl):PE X (.Call (.Name n p) (e::es) [] pos) (fU sp [] E0 t):=zx F hr hg D.m D.f.kp D.b .nil Eo ha hdb he hpl
set_option genInjectivity false in
set_option genSizeOfSpec false in
structure Dfs (K:W.Frag) (mg:Str->Option Value) where
 Ge:Df K mg "is_whole" kE ["thing","low","high"]
 Gj:Df K mg "is_tagged" ju ["thing"]
 IF:Df K mg "is_node" lZ ["thing"]
 F5:Df K mg "trees_within" fS ["tree"]
 IG:Df K mg "is_tree" iW ["thing"]
 F3:Df K mg "need_tree" jy ["tree"]
 GX:Df K mg "walked" oY ["tree"]
 GF:Df K mg "instruction_at" eJ ["cells","place"]
 Jz:Df K mg "is_mark" lY ["thing"]
 Gg:Df K mg "is_pattern_part" cY ["thing","deep"]
 GJ:Df K mg "marks_in" kG ["pattern","kind"]
 Hi:Df K mg "is_numbered" d9 ["pattern","kind"]
 Ig:Df K mg "is_pattern" eY ["thing"]
 Ie:Df K mg "is_filling" iu ["thing","pattern"]
 Jy:Df K mg "is_cell" lX ["thing","pattern"]
 Gq:Df K mg "are_instructions" cP ["cells","pattern"]
 Jh:Df K mg "is_piece" kD ["thing"]
 JM:Df K mg "is_set" iw ["thing"]
 F6:Df K mg "need_set" kH ["some"]
 GP:Df K mg "may_stand_for" fu ["mark","tree"]
 Hd:Df K mg "matches" l4 ["pattern","tree","found"]
 HH:Df K mg "found_in" kC ["piece","tree"]
 Hh:Df K mg "filled_cell" gr ["cell","nums","ks"]
 GW:Df K mg "jump_over" jv ["many","kinds"]
 Gk:Df K mg "jumps_of_pick" ft ["second","third"]
 IH:Df K mg "ways_of" l5 ["tree","some"]
 IL:Df K mg "length_by" jw ["name","cells","lengths"]
 GV:Df K mg "best_by_ways" b5 ["tree","some","done","bests"]
 F7:Df K mg "best_covering" fm ["tree","some"]
 Gd:Df K mg "is_covered_by" fq ["tree","some","thing"]
 GE:Df K mg "are_covered_by" dh ["trees","some","things"]
 Hj:Df K mg "length_of" jx ["tree","some"]
 Ik:Df K mg "covering" kB ["tree","some"]
 GH:Df K mg "is_covering" gu ["tree","some","thing"]
 IK:Df K mg "laid_pick" fR ["tree","some","cover","places"]
 Ih:Df K mg "laid_piece" dE ["tree","some","cover","places"]
 F9:Df K mg "laid_cells" ix ["tree","some","cover","places"]
 Hc:Df K mg "code_of" lW ["tree","some"]
 KI:Df K mg "lay" AF ["tree","some"]
 Kc:Df K mg "laid" xR ["tree","some","thing"]
 IJ:Df K mg "are_parts" dZ ["thing","tree"]
 GK:Df K mg "need_parts" iy ["parts","tree"]
 GL:Df K mg "with_calls" iz ["tree","parts"]
 Gb:Df K mg "with_calls_within" cz ["tree","parts"]
 Gv:Df K mg "code_once" d5 ["tree","some","parts"]
 Il:Df K mg "lay_once" kF ["tree","some","parts"]
 Kb:Df K mg "gain" xQ ["tree","some","part"]
 Hg:Df K mg "best_part" jt ["tree","some"]
 Jo:Df K mg "is_name" iV ["thing"]
 J9:Df K mg "_law_draw" jq ["_law_script","_law_town","_law_many"]
 F1:Df K mg "_law_pick" jr ["_law_script","_law_town","_law_some"]
 Gw:Df K mg "_law_no_tree" fQ ["_law_script","_law_town"]
 Gr:Df K mg "_law_no_piece" fk ["_law_script","_law_town"]
 Ic:Df K mg "_law_which" ir ["_law_e"]
 F0:Df K mg "_law_ask" gI ["_law_what","_law_tree_here","_law_some","_law_other"]
 Ga:Df K mg "_law_parts_right" dN ["_law_tree_here","_law_basic"]
 KA:Df K mg "law" eK ["_law_script"]
set_option genInjectivity false in
set_option genSizeOfSpec false in
structure Txt (P:Program) (w:World) (K:W.Frag) (mg:Str->Option Value) extends Dfs K mg where
 JD:Tok
 Jk:mg "MOST_PARTS"=some (.int 40 JD)
 JK:Tok
 Jw:mg "MOST_DEEP"=some (.int 8 JK)
 Jg:Tok
 Iq:mg "LONGEST_NAME"=some (.int 8 Jg)
 JJ:Tok
 Jf:mg "MOST_CELL"=some (.int 99 JJ)
 He:Tok
 GN:mg "MOST_PATTERN_DEEP"=some (.int 3 He)
 J3:Tok
 JF:mg "MOST_GAP"=some (.int 9999 J3)
 HG:Tok
 GS:mg "MOST_PIECE_CELLS"=some (.int 12 HG)
 Jq:Tok
 IU:mg "MOST_PIECES"=some (.int 16 Jq)
 JL:Tok
 Jx:mg "MOST_NEAR"=some (.int 9 JL)
 JC:Tok
 Jj:mg "CALL_CELLS"=some (.int 3 JC)
 LR:Tok
 Lc:mg "END"=some (.int 0 LR)
 Lo:Tok
 K9:mg "CALL"=some (.int 15 Lo)
 Ln:Tok
 K8:mg "BACK"=some (.int 16 Ln)
 Jr:Tok
 IV:mg "MOST_SHARED"=some (.int 6 Jr)
 Je:Addr
 HD:mg "MOST_IN_LEAF"=some (.ref Je)
 HF:gK K Je TL
 GY:Addr
 Gs:mg "TREES_IN_BRANCH"=some (.ref GY)
 Gu:gK K GY TB
 HB:Addr
 GU:mg "MARK_LENGTHS"=some (.ref HB)
 HE:gK K HB TM
 Jp:Addr
 Ii:mg "FILLED_FROM"=some (.ref Jp)
 Ij:gK K Jp TF
 Jd:Addr
 HC:mg "INSTRUCTIONS"=some (.ref Jd)
 Io:c7 K (.tup INS) (.ref Jd)=true
 Kq:Addr
 JH:mg "STRAIGHT"=some (.ref Kq)
 Kr:c7 K (.tup STR) (.ref Kq)=true
 Lf:Addr
 KD:mg "AHEAD"=some (.ref Lf)
 Lg:c7 K (.tup AHE) (.ref Lf)=true
 KS:Addr
 Ki:mg "BEHIND"=some (.ref KS)
 KU:c7 K (.tup BEH) (.ref KS)=true
 Ja:Addr
 Im:mg "BASIC"=some (.ref Ja)
 Gy:kb K BAS Ja=true
 Ky:uM P w K HB ["hole","gap","slot"]
 GI:Addr
 Jm:mg "PieceError"=some (.ref GI)
 IS:Addr
 Kn:mg "NoSize"=some (.ref IS)
 Gc:Addr
 JZ:mg "NoTree"=some (.ref Gc)
 IP:Addr
 Kk:mg "NoArgs"=some (.ref IP)
 IQ:Addr
 Kl:mg "NoCode"=some (.ref IQ)
 HJ:Addr
 JU:mg "NoSteps"=some (.ref HJ)
 JO:Addr
 La:mg "Late"=some (.ref JO)
 HI:Addr
 JT:mg "NoPiece"=some (.ref HI)
 Gi:Addr
 Ks:mg "NoSet"=some (.ref Gi)
 F4:Addr
 Jl:mg "NoCover"=some (.ref F4)
 F8:Addr
 JG:mg "NoParts"=some (.ref F8)
 IR:Addr
 Km:mg "NoName"=some (.ref IR)
 Jt:Addr
 KG:mg "Taken"=some (.ref Jt)
 Hf:Addr
 JQ:mg "Fault"=some (.ref Hf)
 IM:Addr
 Kj:mg "Broken"=some (.ref IM)
 Lh:Addr
 KW:FuncData
 Ll:UQ K "__init__" "Fault.__init__" bC Lh KW
 LA:pA K Hf Lh
 LQ:uN K Hf "place"
 K0:fA K Hf
 Ko:eE K Gc [.type "ValueError",.type "Exception",.type "BaseException",.type "object"] "ValueError.__new__" none=true
 GD:fA K Gc
 KH:eE K Gi [.type "ValueError",.type "Exception",.type "BaseException",.type "object"] "ValueError.__new__" none=true
 Hb:fA K Gi
 JI:eE K F4 [.type "ValueError",.type "Exception",.type "BaseException",.type "object"] "ValueError.__new__" none=true
 Gn:fA K F4
 JV:eE K F8 [.type "ValueError",.type "Exception",.type "BaseException",.type "object"] "ValueError.__new__" none=true
 Gp:fA K F8
 GM:W.exmOne K (.ref Gc) (.ref GI)=some true
 GR:W.exmOne K (.ref Gi) (.ref GI)=some true
 Gz:W.exmOne K (.ref F4) (.ref GI)=some true
 GA:W.exmOne K (.ref F8) (.ref GI)=some true
 IT:W.exmOne K (.ref Hf) (.ref Hf)=some true
 GZ:W.exmOne K (.ref F4) (.ref F4)=some true
 Ia:W.kitOne K (.ref Gc) (.ref IS)=some false
 Ib:W.kitOne K (.ref Gc) (.ref Gc)=some true
 HX:W.kitOne K (.ref Gc) (.ref IP)=some false
 HY:W.kitOne K (.ref Gc) (.ref IQ)=some false
 HA:W.kitOne K (.ref Gc) (.ref HJ)=some false
 IZ:W.kitOne K (.ref Gc) (.ref JO)=some false
 Hz:W.kitOne K (.ref Gc) (.ref HI)=some false
 ID:W.kitOne K (.ref Gc) (.ref Gi)=some false
 Hx:W.kitOne K (.ref Gc) (.ref F4)=some false
 Hy:W.kitOne K (.ref Gc) (.ref F8)=some false
 HZ:W.kitOne K (.ref Gc) (.ref IR)=some false
 IE:W.kitOne K (.ref Gc) (.ref Jt)=some false
 IC:W.kitOne K (.ref Gc) (.ref Hf)=some false
 HW:W.kitOne K (.ref Gc) (.ref IM)=some false
 IA:W.kitOne K (.ref Gi) (.ref IS)=some false
 IB:W.kitOne K (.ref Gi) (.ref Gc)=some false
 Iw:W.kitOne K (.ref Gi) (.ref IP)=some false
 Iy:W.kitOne K (.ref Gi) (.ref IQ)=some false
 HV:W.kitOne K (.ref Gi) (.ref HJ)=some false
 Jn:W.kitOne K (.ref Gi) (.ref JO)=some false
 HU:W.kitOne K (.ref Gi) (.ref HI)=some false
 IX:W.kitOne K (.ref Gi) (.ref Gi)=some true
 HR:W.kitOne K (.ref Gi) (.ref F4)=some false
 HS:W.kitOne K (.ref Gi) (.ref F8)=some false
 Iz:W.kitOne K (.ref Gi) (.ref IR)=some false
 IY:W.kitOne K (.ref Gi) (.ref Jt)=some false
 IW:W.kitOne K (.ref Gi) (.ref Hf)=some false
 Iv:W.kitOne K (.ref Gi) (.ref IM)=some false
 Ho:W.kitOne K (.ref F4) (.ref IS)=some false
 Hq:W.kitOne K (.ref F4) (.ref Gc)=some false
 Hl:W.kitOne K (.ref F4) (.ref IP)=some false
 Hm:W.kitOne K (.ref F4) (.ref IQ)=some false
 G6:W.kitOne K (.ref F4) (.ref HJ)=some false
 Ir:W.kitOne K (.ref F4) (.ref JO)=some false
 G5:W.kitOne K (.ref F4) (.ref HI)=some false
 HL:W.kitOne K (.ref F4) (.ref Gi)=some false
 G0:W.kitOne K (.ref F4) (.ref F4)=some true
 G4:W.kitOne K (.ref F4) (.ref F8)=some false
 Hn:W.kitOne K (.ref F4) (.ref IR)=some false
 HM:W.kitOne K (.ref F4) (.ref Jt)=some false
 HK:W.kitOne K (.ref F4) (.ref Hf)=some false
 Hk:W.kitOne K (.ref F4) (.ref IM)=some false
 Hv:W.kitOne K (.ref F8) (.ref IS)=some false
 Hw:W.kitOne K (.ref F8) (.ref Gc)=some false
 Hs:W.kitOne K (.ref F8) (.ref IP)=some false
 Ht:W.kitOne K (.ref F8) (.ref IQ)=some false
 Ha:W.kitOne K (.ref F8) (.ref HJ)=some false
 Iu:W.kitOne K (.ref F8) (.ref JO)=some false
 G9:W.kitOne K (.ref F8) (.ref HI)=some false
 HP:W.kitOne K (.ref F8) (.ref Gi)=some false
 G7:W.kitOne K (.ref F8) (.ref F4)=some false
 G8:W.kitOne K (.ref F8) (.ref F8)=some true
 Hu:W.kitOne K (.ref F8) (.ref IR)=some false
 HQ:W.kitOne K (.ref F8) (.ref Jt)=some false
 HN:W.kitOne K (.ref F8) (.ref Hf)=some false
 Hr:W.kitOne K (.ref F8) (.ref IM)=some false
 GO:W.kitOne K (.ref Gc) (.type "ValueError")=some true
 GT:W.kitOne K (.ref Gi) (.type "ValueError")=some true
 GB:W.kitOne K (.ref F4) (.type "ValueError")=some true
 GC:W.kitOne K (.ref F8) (.type "ValueError")=some true
 GQ:mg "len"=none
 F2:mg "isinstance"=none
 L8:mg "int"=none
 L7:mg "bool"=none
 L9:mg "str"=none
 Jv:mg "tuple"=none
 Kz:mg "list"=none
 Kt:mg "range"=none
 KZ:mg "all"=none
 Mj:mg "any"=none
 Ml:mg "set"=none
 Mm:mg "sum"=none
 Lm:mg "reversed"=none
 LP:mg "zip"=none
 Ld:mg "enumerate"=none
 KY:mg "ValueError"=none
section
variable {P:Program} {w:World} {K:W.Frag} {mg:Str->Option Value} {base:Heap} {k:Nat}
theorem nE (T:Txt P w K mg):Binds K T.KW ["self","place"] []:=T.Ll.binds λ_ _ _ _ _ _ us hl=>match us,hl with | [_,_],_=>rfl
theorem fN (T:Txt P w K mg):PB P w K mg base Ul (k+1) T.Lh T.KW ["self","place"] (iA T.Hf "place"):=by refine T.Ll.ok Rj (λvs H Q E ⟨e,a0,v,h,_⟩=>by rw [h];rfl) (λcdv A outer s H vs Q E hr ⟨e,a0,v,h,h2,q⟩=>?_);have nd:=Rj.nd;refine ⟨_,(cy (qr T.LQ (pv 0) (pv 1))),?_⟩;subst h;exact ⟨_,rfl,_,rfl,e,a0,rfl,h2,q⟩
theorem xj {ns:List Int} {k:Int} (h0:0<=k) (h1:k < (ns.length:Int)):∃ z,Uk (ns.map V.int) k=some (.int z):=by
 have hk:k.toNat < ns.length:=by lia
 refine ⟨ns[k.toNat],?_⟩;have e:k=((k.toNat:Nat):Int):=by lia
 have q:Uk (ns.map V.int) ((k.toNat:Nat):Int)=some (.int ns[k.toNat]):=fW (by rw [MH,Ms hk] <;> rfl);rw [<- e] at q;exact q
theorem hZ (T:Txt P w K mg)  : Ok P w base (k+1) T.J9 (xU K):=by
 refine T.J9.f.ok R1 (λvs H Q E h=>?_) (λcdv A outer s H vs Q E hr h=>?_)
 ·obtain ⟨a,t,ns,m,p,q,rest,rfl,_⟩:=h;rfl
 have nd:=R1.nd;obtain ⟨a,t,ns,m,p,q,rest,rfl,hS,hT,hp,hm,hm2,post⟩:=h;refine ⟨_,(aS (lT (dY ki (fg Ql (pv 1) bB) bB (aI _)) (aS (gE (i:=3) nd rfl (Or.inl rfl) (cE dB (fg Ql (pv 1) bB) (pv 2)))
 (aS (kl (cE ic (fg Ql (pv 1) bB) (pv 2)) (xg (pv 1) bB kK))
 (cy (dc (pv 3))))) eV)
 (aS (gE (i:=4) nd rfl (Or.inl rfl) (fg Ql (pv 1) bB))
 (aS (zG (pv 1) bB wm bB wx kK)
 (aS (lT (dY (bD hr) (pv 0) (d7 aM) (aI _)) (cy (dc (cE dB (pv 4) (pv 2)))) eV)
 (aS (lT (PW.pt (CC (dY lQ (pv 4) (bf aw rfl T.GQ bb (a9 (pv 0) aM)) (aI _)) (zI (dY wW (fg Ql (pv 0) (pv 4)) (cE mP bB bB) (aI _))))) (aS (kl (cE dB (cE ic (fg Ql (pv 0) (pv 4)) (pv 2)) (cE zt (cE mP bB bB) (cE mP bB bB))) (xg (pv 1) bB kK))
 (cy (dc (cE dB (fg Ql (pv 0) (pv 4)) (pv 2))))) eV)
 (aS (gE (i:=5) nd rfl (Or.inl rfl) (cE dB (cE P0 (cE P0 (cE wZ (fg Ql (pv 0) (cE dB (pv 4) (bf aw rfl T.GQ bb (a9 (pv 0) aM)))) bB) (cE wZ bB (pv 4))) bB) bB))
 (cy (dc (cE dB (cE dB (cE dB (cE mP (pv 5) bB) bB) bB) (pv 2)))))))))),?_⟩
 refine ⟨_,rfl,t,_,1,_,rfl,rfl,P6.of hT,YK,q,0,rfl,rfl,_,rfl,?_⟩;refine yR (λc=>?_) (λc=>?_)
 ·refine ⟨_,rfl,t,_,1,_,rfl,rfl,P6.of hT,YK,_,rfl,q,m,rfl,rfl,hm,?_⟩;refine ⟨_,rfl,t,_,1,_,rfl,rfl,P6.of hT,YK,_,rfl,q,m,rfl,rfl,⟨hm,by lia⟩,?_⟩;refine ⟨_,rfl,t,_,1,1,rfl,rfl,hT,ZO,?_⟩;refine ⟨_,rfl,?_⟩;exact post (q % m) _ p (q / m) (RN.upd (PM.refl H).but) aF hp (Nt _ (by lia)) (Nh _ hm)
 refine ⟨_,rfl,t,_,0,_,rfl,rfl,P6.of hT,at0,?_⟩;refine ⟨_,rfl,t,_,0,_,rfl,rfl,Int.le_refl 0,P6.of hT,rfl,p,1,rfl,rfl,t,_,0,0,rfl,rfl,hT,ix0,?_⟩;refine ⟨_,rfl,(by show 0<=sizeLine;decide),λl hl=>?_⟩;have bt1:RN t H (upd H t (.lst ((V.int p::.int q::rest).set 0 (.int (p+1))))):=RN.upd (PM.refl H).but;have hlt:l≠t:=λz=>by rw [z,aF] at hl;cases hl
 have WY:=bt1.trans (bz hl (.lst [])).but
 have Yo:upd (upd H t (.lst ((V.int p::.int q::rest).set 0 (.int (p+1))))) l (.lst []) t=some (.lst (.int (p+1)::.int q::rest)):=by rw [aE (MD hlt)];exact aF
 have V5:=(hS.but WY hT).Q9;have hlen:((ns.map V.int).length:Int)=(ns.length:Int):=by rw [MK]
 refine ⟨a,l,_,[],ns.map D.int,[],rfl,rfl,V5,P6.of aF,lH ns,PF.nil,lO ns,(by unfold Qh;rfl),(by rw [jh];decide),_,rfl,?_⟩;show (if Qm (ns.map D.int) []=true then _ else _);rw [v9];refine yR (λc0=>?_) (λc0=>?_)
 ·refine ⟨_,rfl,_,rfl,p,m,rfl,rfl,hm,?_⟩;exact post _ _ (p+1) q WY Yo (by lia) (Nt _ (by lia)) (Nh _ hm)
 have WM:(0:Int) < ((ns.map V.int).length:Int):=by
  rw [hlen]
  cases ns with
  | nil=>exact absurd rfl c0
  | cons n ns=>rw [Nz];lia
 refine ⟨_,rfl,_,rfl,a,_,rfl,.inl V5,p,_,rfl,rfl,_,rfl,?_⟩;refine yR (λc1=>?_) (λc1=>?_)
 ·have c1':p < ((ns.map V.int).length:Int):=M1 c1;obtain ⟨z,hz⟩:=xj (ns:=ns) hp (by rw [<- hlen];exact c1');refine ⟨_,rfl,_,rfl,a,_,p,_,rfl,rfl,V5,hz,10,18,rfl,rfl,⟨by decide,by decide,by decide⟩,z,_,rfl,rfl,_,rfl,?_⟩;refine yR (λc2=>?_) (λc2=>?_)
  ·refine ⟨_,rfl,_,rfl,a,_,p,_,rfl,rfl,V5,hz,_,rfl,z,m,rfl,rfl,⟨hm,by lia⟩,10,60,rfl,rfl,⟨by decide,by decide,by decide⟩,10,60,rfl,rfl,⟨by decide,by decide,by decide⟩,_,_,rfl,rfl,IntMulOk.of_bits (by decide +kernel) (by decide +kernel),_,_,rfl,rfl,(by show (0:Int) < 10 ^ (60:Int).toNat * 10 ^ (60:Int).toNat;decide +kernel),?_⟩;refine ⟨_,rfl,t,_,1,1,rfl,rfl,Yo,ZO,?_⟩;refine ⟨_,rfl,_,rfl,a,_,p,_,rfl,rfl,(hS.but WY.upd hT).Q9,hz,_,rfl,z,m,rfl,rfl,hm,?_⟩;exact post _ _ (p+1) _ WY.upd aF (by lia) (Nt _ (by lia)) (Nh _ hm)
  ·refine ⟨_,rfl,_,rfl,_,rfl,a,_,rfl,.inl V5,p,_,rfl,rfl,WM,?_⟩;obtain ⟨z2,hz2⟩:=xj (ns:=ns) (Nt p (by lia:((ns.map V.int).length:Int)≠0)) (by rw [<- hlen];exact Nh p WM);refine ⟨a,_,_,_,rfl,rfl,V5,hz2,z2,1103515245,rfl,rfl,.inr ⟨by decide,by decide⟩,_,rfl,7919,p,rfl,rfl,.inl ⟨by decide,by decide⟩,_,_,rfl,rfl,_,_,rfl,rfl,_,_,rfl,rfl,(by show (0:Int) < 2147483647;decide),?_⟩;have m1:=Nt (z2 * 1103515245+7919 * p+12345) (by decide:(2147483647:Int)≠0);have m2:=Nh (z2 * 1103515245+7919 * p+12345) (by decide:(0:Int) < 2147483647);refine ⟨_,rfl,_,5,rfl,rfl,⟨by decide,by decide,by lia⟩,_,_,rfl,rfl,(by show (0:Int) < 2147483647;decide),_,_,rfl,rfl,(by show (0:Int) < 999983;decide),_,rfl,_,m,rfl,rfl,hm,?_⟩;exact post _ _ (p+1) q WY Yo (by lia) (Nt _ (by lia)) (Nh _ hm)
 ·refine ⟨_,rfl,_,rfl,_,rfl,a,_,rfl,.inl V5,p,_,rfl,rfl,WM,?_⟩;obtain ⟨z2,hz2⟩:=xj (ns:=ns) (Nt p (by lia:((ns.map V.int).length:Int)≠0)) (by rw [<- hlen];exact Nh p WM);refine ⟨a,_,_,_,rfl,rfl,V5,hz2,z2,1103515245,rfl,rfl,.inr ⟨by decide,by decide⟩,_,rfl,7919,p,rfl,rfl,.inl ⟨by decide,by decide⟩,_,_,rfl,rfl,_,_,rfl,rfl,_,_,rfl,rfl,(by show (0:Int) < 2147483647;decide),?_⟩;have m1:=Nt (z2 * 1103515245+7919 * p+12345) (by decide:(2147483647:Int)≠0);have m2:=Nh (z2 * 1103515245+7919 * p+12345) (by decide:(0:Int) < 2147483647);refine ⟨_,rfl,_,5,rfl,rfl,⟨by decide,by decide,by lia⟩,_,_,rfl,rfl,(by show (0:Int) < 2147483647;decide),_,_,rfl,rfl,(by show (0:Int) < 999983;decide),_,rfl,_,m,rfl,rfl,hm,?_⟩;exact post _ _ (p+1) q WY Yo (by lia) (Nt _ (by lia)) (Nh _ hm)
noncomputable def dO (K:W.Frag):Sp:=λvs H Q _=>∃ (a t l:Addr) (ns:List Int) (xs:List V) (p q:Int) (rest:List V),vs=[.ref a,.ref t,.ref l]/\Vk K H a ns/\P6 K H l xs/\l≠t/\0 < xs.length/\xs.length<=1000000 /\
 H t=some (.lst (.int p::.int q::rest))/\0<=p/\∀ (i:Nat) (x:V) (H':Hp) (p' q':Int),RN t H H'->H' t=some (.lst (.int p'::.int q'::rest))->0<=p'->xs[i]?=some x->Q x H'
theorem ia (T:Txt P w K mg) (LJ:Ok P w base k T.J9 (xU K)):Ok P w base (k+1) T.F1 (dO K):=by
 refine T.F1.f.ok R3 (λvs H Q E h=>?_) (λcdv A outer s H vs Q E hr h=>?_)
 ·obtain ⟨a,t,l,ns,xs,p,q,rest,rfl,_⟩:=h;rfl
 have nd:=R3.nd;obtain ⟨a,t,l,ns,xs,p,q,rest,rfl,hS,hL,hlt,hx0,Sw,hT,hp,post⟩:=h;refine ⟨_,(cy (dc (fg Ql (pv 2) (pc (D:=T.J9) LJ hr (a9 (pv 0) (a9 (pv 1) (a9 (bf aw rfl T.GQ bb (a9 (pv 2) aM)) aM))))))),?_⟩;refine ⟨_,rfl,_,rfl,_,rfl,_,rfl,l,xs,rfl,.inl hL,a,t,ns,(xs.length:Int),p,q,rest,rfl,hS,hT,hp,by lia,by lia,λr H1 p1 q1 b1 t1 g1 r0 r1=>?_⟩;have hr':r.toNat < xs.length:=by lia
 have er:r=((r.toNat:Nat):Int):=by lia
 have z:Uk xs ((r.toNat:Nat):Int)=some xs[r.toNat]:=fW (Ms hr');rw [<- er] at z;exact ⟨l,xs,r,xs[r.toNat],rfl,rfl,b1.Q9 hlt hL,z,post r.toNat _ H1 p1 q1 b1 t1 g1 (Ms hr')⟩
theorem AU {b:Bool} (h:(!b)=true):b=false:=by cases b with | true=>cases h | false=>rfl
theorem AS {b:Bool} (h:(!b)=false):b=true:=by cases b with | true=>rfl | false=>cases h
noncomputable def sgn (c:Nat):Bool:=(!decide (([c]:List Nat) < ("a":Str).cps.toList)) && !decide (("z":Str).cps.toList < ([c]:List Nat))
noncomputable def hV:D->Bool
 | .str x=>(decide (1<=(x.length:Int)) && decide ((x.length:Int)<=8)) && (x.cps.toList.map sgn).all id
 | _=>false
noncomputable def Ek:D->Prop
 | .str x=>x.length<=sizeLine
 | _=>True
noncomputable def Dk (ds:List D) (d:D):Prop:=∃ x,ds=[x]/\Ek x/\d=.bl (hV x)
theorem pW {x:D} (h:∀ y,x≠.str y):pV x "str"=false:=by
 cases x with
 | str y=>exact absurd rfl (h y)
 | _=>rfl
theorem wM {x:D} (h:∀ y,x≠.str y):hV x=false:=by
 cases x with
 | str y=>exact absurd rfl (h y)
 | _=>rfl
theorem qm (T:Txt P w K mg)  : Ok P w base (k+1) T.Jo (spD K Dk):=by
 refine T.Jo.f.ok SR (λvs H Q E h=>?_) (λcdv A outer s H vs Q E hr h=>?_)
 ·obtain ⟨ds,d,hd,⟨x,rfl,_⟩,_⟩:=h;exact hd.length.symm
 have nd:=SR.nd;obtain ⟨ds,d,hd,⟨x,rfl,hx,rfl⟩,post⟩:=h;obtain ⟨v0,rfl,h0⟩:=Dq hd;refine ⟨_,(aS (lT (PW.pt (xr (mU (km (bf (vj BX) rfl T.F2 aB (aX (pv 0) (aX (cx (v:=.ty "str") rfl T.L9 uZ rfl) aM))) (λ_=>rfl))) (bT (mU (oV jn jn bB (bf mm rfl T.GQ bb (a9 (pv 0) aM)) (aW (v:=.int 8) rfl T.Iq ⟨_,rfl⟩)))))) (cy (dc rq)) eV)
 (cy (dc (bf (dk rfl) rfl T.KZ fB (a9 (rB (own:=["sign"]) (fr:=[]) (N':=["sign"]) (Cu (pv 0)) rfl (by show bj ["thing"] (λx=>(ag iV).names.lookup x) _ _ _ _=true;decide +kernel) rfl (λ_ _ _ _ _=>(rC (i:=0) (by show List.Nodup [("sign":Str)];decide +kernel) rfl (Or.inl rfl))) (λ_ _ _ _ _=>oR) (λ_ _ _ _ _=>(oQ wY wY iK (pv 0) iK))) aM))))),?_⟩
 by_cases hs:∃ y,x=.str y
 ·obtain ⟨y,rfl⟩:=hs;have hx:y.length<=sizeLine:=hx;refine iQ (K:=K) (b:=!(decide (1<=(y.length:Int)) && decide ((y.length:Int)<=8))) ?_ (λc H1 s1=>?_) (λc H1 s1=>?_)
  ·exact RT.as (lV (gH (eI (xN (ku h0)))) λ_=>gH (iq (xM (p:=λi j=>decide (i<=j)) (r:=λi j=>decide (i<=j)) iO (zS (ku h0) hx) λ_=>iO))) rfl
  ·refine gG (K:=K) (d:=.bl (hV (.str y))) ?_ λv H' s q=>post v H' (s1.trans s) q
   have e:hV (.str y)=false:=by show (_ && _)=false;have c':=AU c;rw [c',O5]
   rw [e];exact AE
  ·have c':=AS c
   have hy:y.cps.size<=8:=by rw [MC] at c';have:=M1 c'.2;have e:y.length=y.cps.size:=rfl;lia
   refine gG (K:=K) (d:=.bl (hV (.str y))) ?_ λv H' s q=>post v H' (s1.trans s) q
   have e:hV (.str y)=(y.cps.toList.map sgn).all id:=by show (_ && _)=_;rw [c',Bool.true_and]
   rw [e];refine zR (bs:=y.cps.toList.map sgn) (CQ (ku (s1.dat h0)) (by lia) _ (by simp) rfl (λH2 i c d s2 hc hd2=>?_));rw [MH,MH] at hd2;have hc':y.cps.toList[i]?=some c:=by simpa using hc
   rw [hc'] at hd2;cases hd2;refine RE.as (uy (p:=λi j=>!decide (j.cps.toList < i.cps.toList)) (q':=λi j=>!decide (j.cps.toList < i.cps.toList)) iP (ku (Dat.Vh _)) λ_=>iP) rfl
 ·have hs':∀ y,x≠.str y:=λy e=>hs ⟨y,e⟩;refine iQ (K:=K) (b:=true) ?_ (λc H1 s1=>?_) (λc=>nomatch c)
  ·exact RT.as (lV (b:=true) (c:=true) (RT.as (gH (eI (xN (ku h0)))) (by rw [pW hs'];rfl)) λc=>nomatch c) rfl
  ·refine gG (K:=K) (d:=.bl (hV x)) ?_ λv H' s q=>post v H' (s1.trans s) q;rw [wM hs'];exact AE
theorem AN:∀ p ∈ TM,∃ i,p.2=.flat (.int i):=by intro p hp;simp only [TM,MA,MR,NF] at hp;rcases hp with rfl | rfl | rfl <;> exact ⟨_,rfl⟩
noncomputable def qT (T:Txt P w K mg) (D:Addr) (j:Nat):Prop:=(D=T.Gc/\j=1)\/(D=T.Gi/\j=7)\/(D=T.F4/\j=8)\/(D=T.F8/\j=9)
noncomputable abbrev xO (j:Nat):D:=.tup [.str "refused",.int j]
noncomputable def jL (T:Txt P w K mg):Sp:=λvs H Q _=>∃ (x D:Addr) (j:Nat),vs=[.ref x]/\H x=some (gi x D)/\qT T D j/\∀ v H',PM H H'->Dat K H' (xO j) v->Q v H'
theorem kY (T:Txt P w K mg)  : qS P w K mg base (k+1) T.Ic.a T.Ic.d ["_law_e"] (jL T):=by
 refine T.Ic.f.okH Rz (λvs H Q E h=>?_) (λcdv A outer s H vs Q E hr h=>?_)
 ·obtain ⟨x,D,j,rfl,_⟩:=h;rfl
 have nd:=Rz.nd;obtain ⟨x,D,j,rfl,hx,hw,post⟩:=h;refine ⟨_,(aS (gE (i:=1) nd rfl (Or.inl rfl) (d7 (a9 (bf bu rfl T.F2 aB (aX (pv 0) (aX (aW (v:=.ref T.IS) rfl T.Kn rfl) aM))) (a9 (bf bu rfl T.F2 aB (aX (pv 0) (aX (aW (v:=.ref T.Gc) rfl T.JZ rfl) aM))) (a9 (bf bu rfl T.F2 aB (aX (pv 0) (aX (aW (v:=.ref T.IP) rfl T.Kk rfl) aM))) (a9 (bf bu rfl T.F2 aB (aX (pv 0) (aX (aW (v:=.ref T.IQ) rfl T.Kl rfl) aM))) aM))))))
 (aS (jK (lS NH ME MG aZ (pv 1) (a9 (d7 (a9 (bf bu rfl T.F2 aB (aX (pv 0) (aX (aW (v:=.ref T.HJ) rfl T.JU rfl) aM))) (a9 (bf bu rfl T.F2 aB (aX (pv 0) (aX (aW (v:=.ref T.JO) rfl T.La rfl) aM))) (a9 (bf bu rfl T.F2 aB (aX (pv 0) (aX (aW (v:=.ref T.HI) rfl T.JT rfl) aM))) (a9 (bf bu rfl T.F2 aB (aX (pv 0) (aX (aW (v:=.ref T.Gi) rfl T.Ks rfl) aM))) aM))))) aM)))
 (aS (jK (lS NH ME MG aZ (pv 1) (a9 (d7 (a9 (bf bu rfl T.F2 aB (aX (pv 0) (aX (aW (v:=.ref T.F4) rfl T.Jl rfl) aM))) (a9 (bf bu rfl T.F2 aB (aX (pv 0) (aX (aW (v:=.ref T.F8) rfl T.JG rfl) aM))) (a9 (bf bu rfl T.F2 aB (aX (pv 0) (aX (aW (v:=.ref T.IR) rfl T.Km rfl) aM))) (a9 (bf bu rfl T.F2 aB (aX (pv 0) (aX (aW (v:=.ref T.Jt) rfl T.KG rfl) aM))) aM))))) aM)))
 (aS (jK (lS NH ME MG aZ (pv 1) (a9 (d7 (a9 (bf bu rfl T.F2 aB (aX (pv 0) (aX (aW (v:=.ref T.Hf) rfl T.JQ rfl) aM))) (a9 (bf bu rfl T.F2 aB (aX (pv 0) (aX (aW (v:=.ref T.IM) rfl T.Kj rfl) aM))) aM))) aM)))
 (aS (lT (PW.pt (xr (dY Em (lS NH F.slot_list_count F.type_list_count uc (pv 1) (a9 rq aM)) bB (aI _)) (bT (mU (km (bf bu rfl T.F2 aB (aX (pv 0) (aX (cx (v:=.ty "ValueError") rfl T.KY kQ rfl) aM))) (λ_=>rfl)))))) (cy (dc (mR (a9 iK (a9 (Au kO bB) aM))))) eV)
 (cy (dc (mR (a9 iK (a9 (lS NH Oa Pq ud (pv 1) (a9 rq aM)) aM)))))))))),?_⟩
 rcases hw with ⟨rfl,rfl⟩ | ⟨rfl,rfl⟩ | ⟨rfl,rfl⟩ | ⟨rfl,rfl⟩
 ·refine ng (kA (K:=K) (ay (aq (c:=.ref T.IS) hx T.GD T.Ia (.inl ⟨_,rfl⟩)) (ay (aq (c:=.ref T.Gc) hx T.GD T.Ib (.inl ⟨_,rfl⟩)) (ay (aq (c:=.ref T.IP) hx T.GD T.HX (.inl ⟨_,rfl⟩)) (ay (aq (c:=.ref T.IQ) hx T.GD T.HY (.inl ⟨_,rfl⟩)) b4)))) λlb x0 H1 s1 hb e0=>?_);have Sw:upd H1 lb (.lst x0) x=some (gi x T.Gc):=(s1.trans (bz hb _)) _ _ hx;have Ux:lb≠x:=λz=>by rw [z] at hb;rw [s1 _ _ hx] at hb;cases hb
  have hlb:H lb=none:=s1.free hb;have e0:=(bz hb (.lst x0)).Us e0;have h0:upd H1 lb (.lst x0) lb=some (.lst x0):=aF;have l0:x0.length=4:=e0.length.symm;have Ww:RN lb H (upd H1 lb (.lst x0)):=(s1.trans (bz hb _)).but;refine cI (K:=K) (ay (aq (c:=.ref T.HJ) Sw T.GD T.HA (.inl ⟨_,rfl⟩)) (ay (aq (c:=.ref T.JO) Sw T.GD T.IZ (.inl ⟨_,rfl⟩)) (ay (aq (c:=.ref T.HI) Sw T.GD T.Hz (.inl ⟨_,rfl⟩)) (ay (aq (c:=.ref T.Gi) Sw T.GD T.ID (.inl ⟨_,rfl⟩)) b4)))) h0 (by lia) λx1 G1 b1 h1 f1=>?_;have SS:=b1 _ _ (MD Ux) Sw;have e1:=PF.append (PF.mono (b1.grow h0 h1) _ e0) f1;have l1:(x0++x1).length=8:=e1.length.symm;have Wx:=Ww.trans b1;refine cI (K:=K) (ay (aq (c:=.ref T.F4) SS T.GD T.Hx (.inl ⟨_,rfl⟩)) (ay (aq (c:=.ref T.F8) SS T.GD T.Hy (.inl ⟨_,rfl⟩)) (ay (aq (c:=.ref T.IR) SS T.GD T.HZ (.inl ⟨_,rfl⟩)) (ay (aq (c:=.ref T.Jt) SS T.GD T.IE (.inl ⟨_,rfl⟩)) b4)))) h1 (by lia) λx2 G2 b2 h2 f2=>?_;have Uy:=b2 _ _ (MD Ux) SS;have e2:=PF.append (PF.mono (b2.grow h1 h2) _ e1) f2;have l2:(x0++x1++x2).length=12:=e2.length.symm;have Wy:=Wx.trans b2;refine cI (K:=K) (ay (aq (c:=.ref T.Hf) Uy T.GD T.IC (.inl ⟨_,rfl⟩)) (ay (aq (c:=.ref T.IM) Uy T.GD T.HW (.inl ⟨_,rfl⟩)) b4)) h2 (by lia) λx3 G3 b3 h3 f3=>?_;have Wz:=b3 _ _ (MD Ux) Uy;have e3:=PF.append (PF.mono (b3.grow h2 h3) _ e2) f3;have l3:(x0++x1++x2++x3).length=14:=e3.length.symm;have WA:=Wy.trans b3;have sm:PM H G3:=λb o Vy=>WA b o (aV Vy hlb) Vy;have ev:=lG (bs:=[false,true,false,false,false,false,false,false,false,false,false,false,false,false]) e3;have h3':G3 lb=some (.lst (Uc [false,true,false,false,false,false,false,false,false,false,false,false,false,false])):=by rw [<- show _=Uc [false,true,false,false,false,false,false,false,false,false,false,false,false,false] from ev];exact h3
  refine iQ (K:=K) (b:=false) ?_ (λc=>nomatch c) (λ_ H5 s5=>?_)
  ·exact RT.as (lV (iq (mY (gg h3') iO)) λ_=>gH (eI (aq (c:=.ty "ValueError") Wz T.GD T.GO (.inr ⟨_,rfl⟩)))) rfl
  ·refine gG (K:=K) (d:=xO 1) (mZ (ay iP (ay (gh (j:=1) (s5 _ _ h3') (by decide) rfl (λm hm=>?_)) b4))) λv H' s q=>post v H' (sm.trans (s5.trans s)) q
   match m,hm with
   | 0,_=>rfl
 ·refine ng (kA (K:=K) (ay (aq (c:=.ref T.IS) hx T.Hb T.IA (.inl ⟨_,rfl⟩)) (ay (aq (c:=.ref T.Gc) hx T.Hb T.IB (.inl ⟨_,rfl⟩)) (ay (aq (c:=.ref T.IP) hx T.Hb T.Iw (.inl ⟨_,rfl⟩)) (ay (aq (c:=.ref T.IQ) hx T.Hb T.Iy (.inl ⟨_,rfl⟩)) b4)))) λlb x0 H1 s1 hb e0=>?_);have Sw:upd H1 lb (.lst x0) x=some (gi x T.Gi):=(s1.trans (bz hb _)) _ _ hx;have Ux:lb≠x:=λz=>by rw [z] at hb;rw [s1 _ _ hx] at hb;cases hb
  have hlb:H lb=none:=s1.free hb;have e0:=(bz hb (.lst x0)).Us e0;have h0:upd H1 lb (.lst x0) lb=some (.lst x0):=aF;have l0:x0.length=4:=e0.length.symm;have Ww:RN lb H (upd H1 lb (.lst x0)):=(s1.trans (bz hb _)).but;refine cI (K:=K) (ay (aq (c:=.ref T.HJ) Sw T.Hb T.HV (.inl ⟨_,rfl⟩)) (ay (aq (c:=.ref T.JO) Sw T.Hb T.Jn (.inl ⟨_,rfl⟩)) (ay (aq (c:=.ref T.HI) Sw T.Hb T.HU (.inl ⟨_,rfl⟩)) (ay (aq (c:=.ref T.Gi) Sw T.Hb T.IX (.inl ⟨_,rfl⟩)) b4)))) h0 (by lia) λx1 G1 b1 h1 f1=>?_;have SS:=b1 _ _ (MD Ux) Sw;have e1:=PF.append (PF.mono (b1.grow h0 h1) _ e0) f1;have l1:(x0++x1).length=8:=e1.length.symm;have Wx:=Ww.trans b1;refine cI (K:=K) (ay (aq (c:=.ref T.F4) SS T.Hb T.HR (.inl ⟨_,rfl⟩)) (ay (aq (c:=.ref T.F8) SS T.Hb T.HS (.inl ⟨_,rfl⟩)) (ay (aq (c:=.ref T.IR) SS T.Hb T.Iz (.inl ⟨_,rfl⟩)) (ay (aq (c:=.ref T.Jt) SS T.Hb T.IY (.inl ⟨_,rfl⟩)) b4)))) h1 (by lia) λx2 G2 b2 h2 f2=>?_;have Uy:=b2 _ _ (MD Ux) SS;have e2:=PF.append (PF.mono (b2.grow h1 h2) _ e1) f2;have l2:(x0++x1++x2).length=12:=e2.length.symm;have Wy:=Wx.trans b2;refine cI (K:=K) (ay (aq (c:=.ref T.Hf) Uy T.Hb T.IW (.inl ⟨_,rfl⟩)) (ay (aq (c:=.ref T.IM) Uy T.Hb T.Iv (.inl ⟨_,rfl⟩)) b4)) h2 (by lia) λx3 G3 b3 h3 f3=>?_;have Wz:=b3 _ _ (MD Ux) Uy;have e3:=PF.append (PF.mono (b3.grow h2 h3) _ e2) f3;have l3:(x0++x1++x2++x3).length=14:=e3.length.symm;have WA:=Wy.trans b3;have sm:PM H G3:=λb o Vy=>WA b o (aV Vy hlb) Vy;have ev:=lG (bs:=[false,false,false,false,false,false,false,true,false,false,false,false,false,false]) e3;have h3':G3 lb=some (.lst (Uc [false,false,false,false,false,false,false,true,false,false,false,false,false,false])):=by rw [<- show _=Uc [false,false,false,false,false,false,false,true,false,false,false,false,false,false] from ev];exact h3
  refine iQ (K:=K) (b:=false) ?_ (λc=>nomatch c) (λ_ H5 s5=>?_)
  ·exact RT.as (lV (iq (mY (gg h3') iO)) λ_=>gH (eI (aq (c:=.ty "ValueError") Wz T.Hb T.GT (.inr ⟨_,rfl⟩)))) rfl
  ·refine gG (K:=K) (d:=xO 7) (mZ (ay iP (ay (gh (j:=7) (s5 _ _ h3') (by decide) rfl (λm hm=>?_)) b4))) λv H' s q=>post v H' (sm.trans (s5.trans s)) q
   match m,hm with
   | 0,_=>rfl
   | 1,_=>rfl
   | 2,_=>rfl
   | 3,_=>rfl
   | 4,_=>rfl
   | 5,_=>rfl
   | 6,_=>rfl
 ·refine ng (kA (K:=K) (ay (aq (c:=.ref T.IS) hx T.Gn T.Ho (.inl ⟨_,rfl⟩)) (ay (aq (c:=.ref T.Gc) hx T.Gn T.Hq (.inl ⟨_,rfl⟩)) (ay (aq (c:=.ref T.IP) hx T.Gn T.Hl (.inl ⟨_,rfl⟩)) (ay (aq (c:=.ref T.IQ) hx T.Gn T.Hm (.inl ⟨_,rfl⟩)) b4)))) λlb x0 H1 s1 hb e0=>?_);have Sw:upd H1 lb (.lst x0) x=some (gi x T.F4):=(s1.trans (bz hb _)) _ _ hx;have Ux:lb≠x:=λz=>by rw [z] at hb;rw [s1 _ _ hx] at hb;cases hb
  have hlb:H lb=none:=s1.free hb;have e0:=(bz hb (.lst x0)).Us e0;have h0:upd H1 lb (.lst x0) lb=some (.lst x0):=aF;have l0:x0.length=4:=e0.length.symm;have Ww:RN lb H (upd H1 lb (.lst x0)):=(s1.trans (bz hb _)).but;refine cI (K:=K) (ay (aq (c:=.ref T.HJ) Sw T.Gn T.G6 (.inl ⟨_,rfl⟩)) (ay (aq (c:=.ref T.JO) Sw T.Gn T.Ir (.inl ⟨_,rfl⟩)) (ay (aq (c:=.ref T.HI) Sw T.Gn T.G5 (.inl ⟨_,rfl⟩)) (ay (aq (c:=.ref T.Gi) Sw T.Gn T.HL (.inl ⟨_,rfl⟩)) b4)))) h0 (by lia) λx1 G1 b1 h1 f1=>?_;have SS:=b1 _ _ (MD Ux) Sw;have e1:=PF.append (PF.mono (b1.grow h0 h1) _ e0) f1;have l1:(x0++x1).length=8:=e1.length.symm;have Wx:=Ww.trans b1;refine cI (K:=K) (ay (aq (c:=.ref T.F4) SS T.Gn T.G0 (.inl ⟨_,rfl⟩)) (ay (aq (c:=.ref T.F8) SS T.Gn T.G4 (.inl ⟨_,rfl⟩)) (ay (aq (c:=.ref T.IR) SS T.Gn T.Hn (.inl ⟨_,rfl⟩)) (ay (aq (c:=.ref T.Jt) SS T.Gn T.HM (.inl ⟨_,rfl⟩)) b4)))) h1 (by lia) λx2 G2 b2 h2 f2=>?_;have Uy:=b2 _ _ (MD Ux) SS;have e2:=PF.append (PF.mono (b2.grow h1 h2) _ e1) f2;have l2:(x0++x1++x2).length=12:=e2.length.symm;have Wy:=Wx.trans b2;refine cI (K:=K) (ay (aq (c:=.ref T.Hf) Uy T.Gn T.HK (.inl ⟨_,rfl⟩)) (ay (aq (c:=.ref T.IM) Uy T.Gn T.Hk (.inl ⟨_,rfl⟩)) b4)) h2 (by lia) λx3 G3 b3 h3 f3=>?_;have Wz:=b3 _ _ (MD Ux) Uy;have e3:=PF.append (PF.mono (b3.grow h2 h3) _ e2) f3;have l3:(x0++x1++x2++x3).length=14:=e3.length.symm;have WA:=Wy.trans b3;have sm:PM H G3:=λb o Vy=>WA b o (aV Vy hlb) Vy;have ev:=lG (bs:=[false,false,false,false,false,false,false,false,true,false,false,false,false,false]) e3;have h3':G3 lb=some (.lst (Uc [false,false,false,false,false,false,false,false,true,false,false,false,false,false])):=by rw [<- show _=Uc [false,false,false,false,false,false,false,false,true,false,false,false,false,false] from ev];exact h3
  refine iQ (K:=K) (b:=false) ?_ (λc=>nomatch c) (λ_ H5 s5=>?_)
  ·exact RT.as (lV (iq (mY (gg h3') iO)) λ_=>gH (eI (aq (c:=.ty "ValueError") Wz T.Gn T.GB (.inr ⟨_,rfl⟩)))) rfl
  ·refine gG (K:=K) (d:=xO 8) (mZ (ay iP (ay (gh (j:=8) (s5 _ _ h3') (by decide) rfl (λm hm=>?_)) b4))) λv H' s q=>post v H' (sm.trans (s5.trans s)) q
   match m,hm with
   | 0,_=>rfl
   | 1,_=>rfl
   | 2,_=>rfl
   | 3,_=>rfl
   | 4,_=>rfl
   | 5,_=>rfl
   | 6,_=>rfl
   | 7,_=>rfl
 ·refine ng (kA (K:=K) (ay (aq (c:=.ref T.IS) hx T.Gp T.Hv (.inl ⟨_,rfl⟩)) (ay (aq (c:=.ref T.Gc) hx T.Gp T.Hw (.inl ⟨_,rfl⟩)) (ay (aq (c:=.ref T.IP) hx T.Gp T.Hs (.inl ⟨_,rfl⟩)) (ay (aq (c:=.ref T.IQ) hx T.Gp T.Ht (.inl ⟨_,rfl⟩)) b4)))) λlb x0 H1 s1 hb e0=>?_);have Sw:upd H1 lb (.lst x0) x=some (gi x T.F8):=(s1.trans (bz hb _)) _ _ hx;have Ux:lb≠x:=λz=>by rw [z] at hb;rw [s1 _ _ hx] at hb;cases hb
  have hlb:H lb=none:=s1.free hb;have e0:=(bz hb (.lst x0)).Us e0;have h0:upd H1 lb (.lst x0) lb=some (.lst x0):=aF;have l0:x0.length=4:=e0.length.symm;have Ww:RN lb H (upd H1 lb (.lst x0)):=(s1.trans (bz hb _)).but;refine cI (K:=K) (ay (aq (c:=.ref T.HJ) Sw T.Gp T.Ha (.inl ⟨_,rfl⟩)) (ay (aq (c:=.ref T.JO) Sw T.Gp T.Iu (.inl ⟨_,rfl⟩)) (ay (aq (c:=.ref T.HI) Sw T.Gp T.G9 (.inl ⟨_,rfl⟩)) (ay (aq (c:=.ref T.Gi) Sw T.Gp T.HP (.inl ⟨_,rfl⟩)) b4)))) h0 (by lia) λx1 G1 b1 h1 f1=>?_;have SS:=b1 _ _ (MD Ux) Sw;have e1:=PF.append (PF.mono (b1.grow h0 h1) _ e0) f1;have l1:(x0++x1).length=8:=e1.length.symm;have Wx:=Ww.trans b1;refine cI (K:=K) (ay (aq (c:=.ref T.F4) SS T.Gp T.G7 (.inl ⟨_,rfl⟩)) (ay (aq (c:=.ref T.F8) SS T.Gp T.G8 (.inl ⟨_,rfl⟩)) (ay (aq (c:=.ref T.IR) SS T.Gp T.Hu (.inl ⟨_,rfl⟩)) (ay (aq (c:=.ref T.Jt) SS T.Gp T.HQ (.inl ⟨_,rfl⟩)) b4)))) h1 (by lia) λx2 G2 b2 h2 f2=>?_;have Uy:=b2 _ _ (MD Ux) SS;have e2:=PF.append (PF.mono (b2.grow h1 h2) _ e1) f2;have l2:(x0++x1++x2).length=12:=e2.length.symm;have Wy:=Wx.trans b2;refine cI (K:=K) (ay (aq (c:=.ref T.Hf) Uy T.Gp T.HN (.inl ⟨_,rfl⟩)) (ay (aq (c:=.ref T.IM) Uy T.Gp T.Hr (.inl ⟨_,rfl⟩)) b4)) h2 (by lia) λx3 G3 b3 h3 f3=>?_;have Wz:=b3 _ _ (MD Ux) Uy;have e3:=PF.append (PF.mono (b3.grow h2 h3) _ e2) f3;have l3:(x0++x1++x2++x3).length=14:=e3.length.symm;have WA:=Wy.trans b3;have sm:PM H G3:=λb o Vy=>WA b o (aV Vy hlb) Vy;have ev:=lG (bs:=[false,false,false,false,false,false,false,false,false,true,false,false,false,false]) e3;have h3':G3 lb=some (.lst (Uc [false,false,false,false,false,false,false,false,false,true,false,false,false,false])):=by rw [<- show _=Uc [false,false,false,false,false,false,false,false,false,true,false,false,false,false] from ev];exact h3
  refine iQ (K:=K) (b:=false) ?_ (λc=>nomatch c) (λ_ H5 s5=>?_)
  ·exact RT.as (lV (iq (mY (gg h3') iO)) λ_=>gH (eI (aq (c:=.ty "ValueError") Wz T.Gp T.GC (.inr ⟨_,rfl⟩)))) rfl
  ·refine gG (K:=K) (d:=xO 9) (mZ (ay iP (ay (gh (j:=9) (s5 _ _ h3') (by decide) rfl (λm hm=>?_)) b4))) λv H' s q=>post v H' (sm.trans (s5.trans s)) q
   match m,hm with
   | 0,_=>rfl
   | 1,_=>rfl
   | 2,_=>rfl
   | 3,_=>rfl
   | 4,_=>rfl
   | 5,_=>rfl
   | 6,_=>rfl
   | 7,_=>rfl
   | 8,_=>rfl
end
end My
namespace EV
open PySem PySem.Spec PyProof.Rows L2
section
variable {X:Cx} {g:Gx} {E:L2.St->XK} {a b c e:Expr} {ca cb cc ce:Ce} {pos:Pos}
theorem qv (i:Nat) {x:Str} (hN:X.N[i]?=some x:=by rfl) (hv:V8 X.env.scope x:=by first | exact Or.inl rfl | exact Or.inr (Or.inl rfl) | exact Or.inr (Or.inr rfl)) (hd:(x == ("__debug__":Str))=false:=by decide)
  (hcd:(x == ("__classdict__":Str))=false:=by decide):PE X (.Name x pos) (tE g E (cV i)):=q_v hN hv hd hcd
variable {j:Nat}
theorem qs {x:Str} {n:Nat} (h:g.ST[n]?=some x:=by rfl):PE X (.Constant (.str x) j pos) (tE g E (cC (.str n))):=Ey h
variable {p:Pos}
theorem Ew (ha:PE X a (tE g E ca)):PE X (.Compare a [.Is] [.Constant .none j p] pos) (tE g E (cU uG ca)):=Q2 (Cn (w9 ha)) λσ H Q h=>VJ.of wV h
theorem xB (ha:PE X a (tE g E ca)):PT X (.Compare a [.Is] [.Constant .none j p] pos) (tB g E (Qg (cU uG ca))):=V2 (xp (w9 ha)) λσ H Q h=>RJ.of (λ_ _ _ z=>VJ.of wV z) h
theorem rG (ha:PE X a (tE g E ca)):PT X (.Compare a [.IsNot] [.Constant .none j p] pos) (tB g E (Qg (cU rT ca))):=V2 (xp (zw ha)) λσ H Q h=>RJ.of (λ_ _ _ z=>VJ.of zj z) h
theorem FD (ha:PE X a (tE g E ca)) (hb:PE X b (tE g E cb)) (hc:PE X c (tE g E cc)) (hm:lastMarks [CmpOp.LtE,CmpOp.LtE] [b,c]=false:=by with_unfolding_all rfl):PE X (.Compare a [.LtE,.LtE] [b,c] pos) (tE g E (WX ca cb cc)):=Q2 (oQ jn jn ha hb hc hm) λσ H Q h=>Q8.of h
theorem Av (ha:PE X a (tE g E ca)) (hb:PE X b (tE g E cb)) (hc:PE X c (tE g E cc)) (hm:lastMarks [CmpOp.LtE,CmpOp.LtE] [b,c]=false:=by with_unfolding_all rfl):PT X (.Compare a [.LtE,.LtE] [b,c] pos) (tB g E (Qg (WX ca cb cc))):=V2 (oV jn jn ha hb hc hm) λσ H Q h=>RJ.of (λ_ _ _ z=>Q8.of z) h
end
mutual
noncomputable def Va (g:Gx):A->Bool
 | .PJ=>true
 | .bl _=>true
 | .int _=>true
 | .str n=>decide (n < g.ST.length)
 | .tup xs=>UY g xs
 | _=>false
noncomputable def UY (g:Gx):List A->Bool
 | []=>true
 | x::xs=>Va g x && UY g xs
end
section
variable {g:Gx} {H:Hp} {m:List Addr}
mutual
theorem R.V6:∀ (a:A) {v:V},Va g a=true->Dat g.K H (toD g a) v->R g H m a v
 | .PJ,v,_,h=>by unfold toD at h;rw [h.Qv];exact R.PJ
 | .bl b,v,_,h=>by unfold toD at h;rw [h.QL];exact R.bl b
 | .int i,v,_,h=>by unfold toD at h;rw [h.PY];exact R.int i
 | .str n,v,k,h=>by unfold Va at k;have hn:=M1 k;unfold toD at h;rw [h.Qd,NX,Ms hn];exact R.str (Ms hn)
 | .tup xs,v,k,h=>by unfold Va at k;unfold toD at h;obtain ⟨a,vs,rfl,q,r⟩:=h.P8;exact R.tup q (Rs.Uz xs k r)
 | .ref i,v,k,h=>by unfold Va at k;cases k
 | .cl i,v,k,h=>by unfold Va at k;cases k
 | .tab i,v,k,h=>by unfold Va at k;cases k
 | .RP i,v,k,h=>by unfold Va at k;cases k
 | .R5 i,v,k,h=>by unfold Va at k;cases k
 | .any,v,k,h=>by unfold Va at k;cases k
 | .Q0,v,k,h=>by unfold Va at k;cases k
theorem Rs.Uz:∀ (xs:List A) {vs:List V},UY g xs=true->PF g.K H (Qw g xs) vs->Rs g H m xs vs
 | [],vs,_,h=>by unfold Qw at h;rw [h.Qp];exact .nil
 | x::xs,vs,k,h=>by unfold UY at k;rw [MC] at k;unfold Qw at h;obtain ⟨v,r,rfl,h1,h2⟩:=h.PL;exact .cons (R.V6 x k.1 h1) (Rs.Uz xs k.2 h2)
end
variable {xs:List A} {ds:List D} {a:Addr}
theorem nK (h:c7 g.K (.tup ds) (.ref a)=true) (k:UY g xs=true) (e:Qw g xs=ds) (H:Hp) (m:List Addr):R g H m (.tup xs) (.ref a):=by refine R.V6 (.tup xs) (by unfold Va;exact k) ?_;unfold toD;rw [e];exact Fb h H
theorem fC (h:kb g.K ds a=true) (k:UY g xs=true) (e:Qw g xs=ds) (H:Hp) (m:List Addr):R g H m (.cl xs) (.ref a):=by obtain ⟨vs,q,r⟩:=mK h H;unfold R;exact ⟨a,vs,rfl,q,Rs.Uz xs k (e ▸ r)⟩
end
noncomputable def l9 (ST:List Str) (T:List (Str × KTD.Dat)) (ks:List (Nat × A)):Bool:=(T.all λp=>KTD.plain p.2) && (List.range ST.length).all λn=>match ST[n]? with
 | none=>true
 | some x=>(KTD.inKeys x T == (look n ks).isSome) && match look n ks with
  | none=>true
  | some (.int i)=>(match KTD.datumAt x T with | some (.flat (.int j))=>decide (i=j) | _=>false)
  | some (.str k)=>(match KTD.datumAt x T,ST[k]? with | some (.flat (.str z)),some y=>decide (y=z) | _,_=>false)
  | some _=>false
noncomputable def ka (ks:List (Nat × A)) (n:Nat):Bool:=ks.all λp=>decide (p.1 < n)
theorem rh:∀ {ks:List (Nat × A)} {n i:Nat} {a:A},ka ks n=true->look i ks=some a->i < n
 | [],_,_,_,_,h=>nomatch h
 | (k,b)::r,n,i,a,c,h=>by
  unfold ka at c;rw [N5,MC] at c;rw [aO] at h;by_cases z:k=i
  ·rw [<- z];exact M1 c.1
  ·rw [Mz z] at h;exact rh (ks:=r) c.2 h
variable {g:Gx}
theorem rQ {T:List (Str × KTD.Dat)} {ks:List (Nat × A)} (h:l9 g.ST T ks=true) (hk:ka ks g.ST.length=true):jN g T ks:=by
 unfold l9 at h;rw [MC] at h;obtain ⟨h0,h1⟩:=h
 have at':∀ (n:Nat) (x:Str),g.ST[n]?=some x->((KTD.inKeys x T == (look n ks).isSome) && match look n ks with
  | none=>true
  | some (.int i)=>(match KTD.datumAt x T with | some (.flat (.int j))=>decide (i=j) | _=>false)
  | some (.str k)=>(match KTD.datumAt x T,g.ST[k]? with | some (.flat (.str z)),some y=>decide (y=z) | _,_=>false)
  | some _=>false)=true:=λn x e=>by
  have:=ON.mp h1 n (List.mem_range.mpr (Mk.mp e).1);rw [e] at this;exact this
 refine ⟨λn x e=>?_,h0,λn x i e q=>?_,λn x k e q=>?_,λn x q=>?_⟩
 ·have:=at' n x e;rw [MC] at this;exact eq_of_beq this.1
 ·have:=at' n x e;rw [MC,q] at this;have h2:=this.2;dsimp only at h2;split at h2
  ·rename_i j w;rw [w,M1 h2]
  ·cases h2
 ·have:=at' n x e;rw [MC,q] at this;have h2:=this.2;dsimp only at h2;split at h2
  ·rename_i z y w1 w2;exact ⟨y,w2,by rw [w1,M1 h2]⟩
  ·cases h2
 ·have hn:=rh hk q;have:=at' n _ (Ms hn);rw [MC,q] at this;have h2:=this.2
  cases x with
  | int i=>exact .inl ⟨i,rfl⟩
  | str k=>exact .inr ⟨k,rfl⟩
  | _=>cases h2
variable {m:List Addr} {S:PD} {H:Hp}
theorem PN.same {H':Hp} (s:PN g m S H) (e:PM H H'):PN g m S H'/\Ext m S H m S H':=by
 have x:Ext m S H m S H':=⟨⟨[],by simp⟩,λa z=>e.free z,λa o _ h=>e a o h,λ_ c _ h o=>⟨c,h,o⟩⟩
 refine ⟨⟨s.len,s.nd,λa ha z=>s.up a ha (e.free z),λi c h=>?_⟩,x⟩;obtain ⟨a,q,ok⟩:=s.cell i c h;exact ⟨a,q,ok.mono x s λo q=>e a o q⟩
theorem aR {P:Program} {w:World} {K:W.Frag} {mg:Str->Option Value} {base:Heap} {CX:Tf} {k:Nat} {f:Addr} {fd:FuncData} {ps:List Str}:PB P w K mg base CX k f fd ps (PZ g λ_ _=>.bad) :=
 ⟨λvs H Q E ⟨m,S,as,s,r,h⟩=>h.elim,λA outer s H args us vs Q E hr he hb hv ⟨m,S,as,sm,r,h⟩=>h.elim⟩
section
variable {X:Cx} {g:Gx} {E:L2.St->XK} {a b o sl:Expr} {es:List Expr} {ca:Ce} {cs:Ca} {k1 k2:Cs} {pos Yg:Pos} {st:Stmt} {sts:List Stmt} {tl:TS}
theorem xA (fs:List (Addr × (List A->PD->Res A))) (hf:PE X o (λσ H Q=>∀ p,H p=none->Q (.ref p) (upd H p (.lst (fs.map λq=>V.ref q.1))))) (hi:PE X sl (tE g E ca)) (ha:PA X (a::es) (U7 g E cs)) (hp:jH sl)
  (hm:∀ q ∈ fs,W.keepIn X.K (.ref q.1)=true/\∃ (CX:Tf) (k:Nat) (fd:FuncData) (ps:List Str),PB X.prog X.w X.K X.mg X.base CX k q.1 fd ps (PZ g q.2)/\P5 k X.A/\Binds X.K fd ps []/\cm CX X E)
  (he:starEach (a::es) X.env=(false,eval a X.env)::starEach es X.env:=by rfl) (hpl:(backTo pos (starEach es X.env)).any (·.1)=false:=by rfl) :
  PE X (.Call (.Subscript o sl Yg) (a::es) [] pos) (tE g E (vg (fs.map (·.2)) ca cs)) :=
 Q2 (xb (E:=E) (fs.map λq=>(q.1,PZ g q.2)) (fg Ql hf hi hp) ha (λf sp h=>by
  obtain ⟨q,hq,e⟩:=List.mem_map.mp h;cases e;exact hm q hq) he hpl) λσ H Q ⟨m,ρ,S,s,re,h⟩ p hp0=>by
  have x0:Ext m S H m S (upd H p (.lst (fs.map λq=>V.ref q.1))):=Ext.new hp0 _;refine ⟨m,ρ,S,s.new hp0 _,re.mono x0 s,(h.bind.ext x0).mono λx m1 S1 H1 x1 s1 h1 v rv=>?_⟩
  cases x with
  | int k =>
   dsimp only at h1
   cases q:VS (fs.map (·.2)) k with
   | none=>rw [q] at h1;exact h1.elim
   | some F =>
    rw [q] at h1;have Ym:p ∉ m:=λz=>s.up p z hp0;have hq:=(x1.SG Ym aF).2
    have key:∃ f,Uk (fs.map λq=>V.ref q.1) k=some (.ref f)/\(f,F) ∈ fs:=by
     cases k with
     | ofNat n =>
      have q':(fs.map (·.2))[n]?=some F:=q;rw [MH] at q'
      cases z:fs[n]? with
      | none=>rw [z] at q';cases q'
      | some r =>rw [z] at q';have:r.2=F:=MB q';exact ⟨r.1,fW (by rw [MH,z];rfl),by rw [<- this];exact Ni z⟩
     | negSucc n =>
      unfold VS at q;dsimp only at q
      cases zl:Nat.ble (n+1) (fs.map (·.2)).length with
      | false=>rw [zl] at q;cases q
      | true =>
       rw [zl] at q;dsimp only at q;rw [MH,MK] at q
       cases z:fs[fs.length - (n+1)]? with
       | none=>rw [z] at q;cases q
       | some r =>
        rw [z] at q;have:r.2=F:=MB q;refine ⟨r.1,?_,by rw [<- this];exact Ni z⟩;have hn:=MY zl;rw [MK] at hn
        have e1:Up (fs.map λq=>V.ref q.1).length (Int.negSucc n)=some (fs.length - (n+1)):=by
         unfold Up;rw [MK];have a1:¬ (0:Int)<=Int.negSucc n:=by have:=Ou n;omega
         have a2:-(fs.length:Int)<=Int.negSucc n:=by rw [O6];omega
         rw [Mz a1,MF a2];congr 1;rw [O6];omega
        unfold Uk;rw [e1];show (fs.map λq=>V.ref q.1)[fs.length - (n+1)]?=_;rw [MH,z];rfl
    obtain ⟨f,e,hmem⟩:=key;refine ⟨p,_,k,.ref f,rfl,rv.PY,P6.of hq,e,f,PZ g F,rfl,List.mem_map.mpr ⟨(f,F),hmem,rfl⟩,m1,ρ,S1,s1,(re.mono x0 s).mono x1 (s.new hp0 _),h1.bind.mono λas m2 S2 H2 x2 s2 h2 vs rs=>⟨m2,S2,as,s2,rs,h2⟩⟩
  | _=>exact h1.elim
noncomputable def Yp (g:Gx) (E:L2.St->XK) (c:Cs) (tl:TS):TS:=λD σ H=>∃ m ρ S,PN g m S H/\Re g H m ρ σ/\QC g m S H (c ρ S) { D with nx:=tl D } E
theorem xy (h:PS X st tl):QI X [st] (Yp g E Qf tl):=yN (cy h) λD σ H ⟨m,ρ,S,s,re,h⟩=>h m H σ Ext.refl s re
theorem b7 (h:PS X st (tS g E k1)) (hr:QI X sts (Yp g E k2 tl)):QI X (st::sts) (Yp g E (sq k1 k2) tl) :=
 yN (aS h hr) λD σ H ⟨m,ρ,S,s,re,h⟩=>⟨m,ρ,S,s,re,by
  unfold sq at h
  cases q:k1 ρ S with
  | ok f S1 =>
   rw [q] at h
   cases f with
   | nx ρ1=>exact λm1 H1 σ1 x1 s1 Rr=>⟨m1,ρ1,S1,s1,Rr,QC.ext x1 h⟩
   | bk ρ1=>exact h
   | ct ρ1=>exact h
   | rt a=>exact h
  | exc c ρ1 S1=>rw [q] at h;exact h
  | bad=>rw [q] at h;exact h⟩
end
noncomputable def rM (b:Cs) (i r:Nat) (cs:List Nat):Cs:=λρ S=>match b ρ S with
 | .exc c ρ S=>match cL c cs with
  | true=>match ρ[i]? with
   | some _=>.ok (.rt (.tup [.str r,.int (.ofNat (c - 1))])) S
   | none=>.bad
  | false=>.bad
 | x=>x
noncomputable def Vz (g:Gx) (F:List A->PD->Option (List A × PD)):Sp:=λvs H Q _=>∃ m S as xs S',PN g m S H/\Rs g H m as vs/\F as S=some (xs,S')/\∀ (k:Nat) x,xs[k]?=some x->∀ m' H' v,Ext m S H m' S' H'->PN g m' S' H'->R g H' m' x v->Q v H'
noncomputable def Ui (c:Cs) (many b:Nat) (as:List A) (S:PD):Option (List A × PD):=match as with
 | [.Q0,.ref t]=>fl (as.map some++List.replicate (many - 2) none) λρ=>match c ρ S with
  | .ok (.nx ρ) S=>match (ρ[0]?:Option (Option A)),(ρ[1]?:Option (Option A)),(ρ[b]?:Option (Option A)) with
   | some (some .Q0),some (some (.ref t')),some (some (.ref j))=>match look t' S.cs,Ug S j with
    | some .RB,some (x::xs)=>match few 900 (x::xs) with
     | true=>some (x::xs,S)
     | false=>none
    | _,_=>none
   | _,_,_=>none
  | _=>none
 | _=>none
variable {E:L2.St->XK} {ρ:Env} {S':PD} {σ:L2.St}
theorem qQ {c:Ce} {Q:VK} {x:A} (s:PN g m S H) (re:Re g H m ρ σ) (e:c ρ S=.ok x S') (q:∀ m' H' v,Ext m S H m' S' H'->PN g m' S' H'->R g H' m' x v->Q v H'):tE g E c σ H Q :=
 ⟨m,ρ,S,s,re,by rw [e];exact λm' H' y s' v rv=>q m' H' v y s' rv⟩
theorem C9 {c:Cs} {ρ':Env} {D:Ends} (s:PN g m S H) (re:Re g H m ρ σ) (e:c ρ S=.ok (.nx ρ') S') (q:∀ m' H' σ',Ext m S H m' S' H'->PN g m' S' H'->Re g H' m' ρ' σ'->D.nx σ' H'):tS g E c D σ H :=
 ⟨m,ρ,S,s,re,by rw [e];exact q⟩
end EV
namespace L2
open PySem PySem.Spec PySem.Calls PyProof.Rows PySem.W PySem.Builtin PySem.Builtin.ObjectAttr
theorem xq (C:Addr) (h h3:Heap) (lt:C < h.objs.size) (l3:C < h3.objs.size):∃ g,Heap.SameBut C h g/\g.get? C=h3.get? C:=by
 refine ⟨h.update C λo=>(h3.objs[C]?).getD o,Heap.SameBut.update _ _ _,?_⟩;obtain ⟨objs,l⟩:=h;show Heap.get? ⟨objs.modify C _,l⟩ C=_;unfold Heap.get?
 have q:(objs.modify C λo=>(h3.objs[C]?).getD o)[C]?=h3.objs[C]?:=by rw [OS,MF rfl,Ow (xs:=objs) lt,Ow l3];rfl
 dsimp only;rw [q]
noncomputable def QE (base:Heap) (l:List Env) (e:Addr) (cls a0 fl:Value) (h:Heap):Prop:=base.StaysIn h/\base.get? e=none/\h.FunFrames base l/\h.TracedAtW base e cls a0 fl
section
variable {M:Model} {A:Around} {E:Value->Shared->Prop} {s:Shared} {base:Heap} {l:List Env} {e:Addr} {cls a0 fl:Value}
theorem QE.turn {T:Addr} {oT:Obj} {ts:Array Value} {x:Value} {h:Heap} (k:base.StaysIn h) (ne:base.get? e=none) (F:h.FunFrames base l) {oe:Obj} {vs:Array Value} (he:h.get? e=some oe) (hc:oe.cls=cls/\vs[0]?=some a0)
  (hd:oe.data=.fields vs) (h1:vs[1]?=some (.ref T)) (nT:base.get? T=none) (VA:T≠e) (hT:h.get? T=some oT) (dT:oT.data=.fields ts) (h3:3 < ts.size) :
  QE base l e cls a0 x (h.update T (Obj.mapFields (·.setIfInBounds 3 x)))/\h.UpToSlots (h.update T (Obj.mapFields (·.setIfInBounds 3 x)))/\(h.update T (Obj.mapFields (·.setIfInBounds 3 x))).get? e=h.get? e:=by
 have off:∀ b o,b≠T->h.get? b=some o->(h.update T (Obj.mapFields (·.setIfInBounds 3 x))).get? b=some o:=λb o n q=>by rw [NL _ _ (MD n)];exact q
 have plain:∀ b o,h.get? b=some o->(∀ ws,o.data≠.fields ws)->(h.update T (Obj.mapFields (·.setIfInBounds 3 x))).get? b=some o:=λb o q n =>
  off b o (λz=>by subst z;rw [hT] at q;cases q;exact n ts dT) q
 have dT':=Obj.data_mapFields dT (·.setIfInBounds 3 x);refine ⟨⟨λb o q=>off b o (λz=>by subst z;rw [nT] at q;cases q) (k b o q),ne,F.of_keeps λb o q n=>⟨o,plain b o q n,rfl⟩,?_⟩,λb o q n=>⟨o.slots,plain b o q n⟩,NL _ _ VA⟩;exact ⟨oe,vs,T,_,_,off e oe (MD VA) he,hc,hd,h1,nT,VA,Od _ hT (Obj.isFreed_of_fields dT'),dT',by rw [Array.getElem?_setIfInBounds_self_of_lt h3]⟩
theorem QE.flight {fr:Option Addr} {Q:Unit->Shared->Prop} (hh:QE base l e cls a0 fl s.heap)
  (hQ:∀ h',QE base l e cls a0 (fr.elim .none λf=>rawInt f) h'->s.heap.UpToSlots h'->h'.get? e=s.heap.get? e->Q () { s with heap:=h' }):wpAny M A (setFlight (.ref e) fr) Q E s:=by
 obtain ⟨k,ne,F,oe,vs,T,oT,ts,he,hc,hd,h1,nT,VA,hT,dT,h3⟩:=hh;have lt:=(Nv.mp h3).1;obtain ⟨y1,y2,y3⟩:=QE.turn (x:=fr.elim .none λf=>rawInt f) k ne F he hc hd h1 nT VA hT dT lt;unfold setFlight;refine pg (MP he hd h1 ?_);rw [MF (by simp)];exact wpAny_setField hT dT lt (hQ _ y1 y2 y3)
variable {env:Env}
theorem QE.passOn {what:String} {α:Type} {Q:α->Shared->Prop} (hh:QE base l e cls a0 fl s.heap)
  (hQ:∀ h',QE base l e cls a0 (env.frame.elim .none λf=>rawInt f) h'->s.heap.UpToSlots h'->h'.get? e=s.heap.get? e->E (.ref e) { s with heap:=h' }):wpAny M A (PySem.passOn what (.ref e) env:Sem α) Q E s:=by
 have Zp:=hh;obtain ⟨k,ne,F,oe,vs,T,oT,ts,he,hc,hd,h1,nT,VA,hT,dT,h3⟩:=Zp;unfold PySem.passOn;refine pg (MP he hd h1 ?_);rw [Mz (by simp)];exact pg (hh.flight λh' a b c=>wpAny_throw (hQ h' a b c))
theorem QE.leave {outer:List Env} {L:Addr} {fr:Option Addr} {Q:Unit->Shared->Prop} (hfr:A.frames=some (env::outer)) (hf:env.frame=some L)
  (hh:QE base (env::outer) e cls a0 (fr.elim .none λf=>rawInt f) s.heap) (hQ:∀ h',Heap.FlyingW base outer e cls a0 h'->s.heap.UpToSlots h'->Q () { s with heap:=h' }):wpAny M A (leaving env (.ref e)) Q E s:=by
 have fin:∀ {s1:Shared},Heap.HeldW base (env::outer) e cls a0 L s1.heap->(∀ h',Heap.FlyingW base outer e cls a0 h'->s1.heap.UpToSlots h'->Q () { s1 with heap:=h' })->wpAny M A (setFlight (.ref e) none) Q E s1:=λh0 q=>by refine wpAny_landsW h0 λh' ⟨k1,k2,⟨_,_,k3⟩,k4⟩ up=>q h' ⟨k1,k2,k3,k4⟩ up
 have Zp:=hh;obtain ⟨k,ne,F,oe,vs,T,oT,ts,he,hc,hd,h1,nT,VA,hT,dT,h3⟩:=Zp;have lt:=(Nv.mp h3).1;unfold leaving;by_cases same:fr=some L
 ·subst same;exact pg (wpAny_noteFrame_againW hf hh.2.2.2 (fin hh hQ))
 ·refine pg ?_;obtain ⟨y1,y2,y3⟩:=QE.turn (x:=.none) k ne F he hc hd h1 nT VA hT dT lt;obtain ⟨c1,c2⟩:=hc;subst c1;unfold noteFrame;simp only [hf];refine pg (MP he hd h1 ?_);rw [MF (by simp)];refine pg (MP hT dT h3 ?_)
  rw [Mz (by
   intro z;apply same
   cases fr with
   | none=>simp [rawInt] at z
   | some f=>simp [rawInt] at z;exact M5 some (Int.ofNat.inj z))]
  refine pg (wpAny_setField hT dT lt ?_);obtain ⟨z1,z2,z3,Z0,vs2,T2,oT2,ts2,WT,⟨hc2,hv2⟩,hd2,h12,WN,hTe2,hT2,dT2,h32⟩:=y1
  have ee:Z0=oe:=by rw [NL _ _ VA,he] at WT;exact (MB WT).symm
  subst ee;refine wpAny_entryW hfr z3 hf WT z1 z2 hd2 (Nv.mp h12).1 hv2 λh' ⟨x1,x2,x3,x4⟩=>?_;exact fin ⟨x1,ne,x2,x3⟩ λh'' f up=>hQ h'' f (y2.trans (Heap.UpToSlots.trans x4 up))
end
theorem j6 {h h' b b':Heap} {C:Addr} (k:∀ x,x≠C->h'.get? x=h.get? x) (hb:∀ x,b.get? x=none->x≠C/\b'.get? x=none):∀ {l:List Env},h.FunFrames b l->h'.FunFrames b' l
 | [],_=>trivial
 | _::_,⟨x1,⟨L,o,e1,e2,e3,e4⟩,x3⟩=>⟨x1,⟨L,o,e1,(hb L e2).2,(k L (hb L e2).1).trans e3,e4⟩,j6 k hb x3⟩
theorem uk {P:Program} {w:World} {K:W.Frag} {mg:Str->Option Value} {base:Heap} {N:List Str} {qual:Str} {scope:Scope} {f:Addr} {cd:Value} {A:Around} {outer:List Env} {s:Shared} {H:Hp} {E:XK} {Tq:List (Addr × Obj)} {σ0:St} {H0:Hp} {s0:Shared} {sc:Scope} {cl:List (Str × Addr)} {C:Addr} {N':List Str} {fp:List Addr} {use:Option (Value->Sem Unit)} {Q:Value->Shared->Prop} {acc:Value} {X:Cx}
  (eX:X=dm (PK P w) P w K mg base N qual scope f cd A outer s H E)
  (I0:Inv X Tq σ0 H0 s0) (f2:∀ b ∈ fp,iC X Tq H0 b) (hC:s0.heap.objs.size<=C) :
  Passes (PK P w) ((X.Qk sc cl C N' s0 H0 fp).Qe (notedBy (model P w) X.A (compEnvC sc cl C X.env) λx s2=>compPost (model P w) X.A X.xe use Q acc C (.error x) s2)) E:=by
 intro pins σ H1 s1 e s' I x;have eP:X.prog=P:=by rw [eX];rfl
 have eW:X.w=w:=by rw [eX];rfl
 obtain ⟨a,T,cls,a0,dx,H',rfl,os,bare,un,hok,⟨sa,sT,na,nT⟩,tr,da,q⟩:=x;have J:Inv _ pins σ H' s':=I.Rp (ch:=[]) os un (by rw [<- eP,<- eW] at hok;exact hok) bare (λb z=>absurd z (by simp))
 have back:∀ {H2:Hp} {s2:Shared} {σ2:St} {p2:List (Addr × Obj)},Inv ((X.Qk sc cl C N' s0 H0 fp).Qe (notedBy (model P w) X.A (compEnvC sc cl C X.env) λx s2=>compPost (model P w) X.A X.xe use Q acc C (.error x) s2)) p2 σ2 H2 s2->Inv X Tq σ0 H2 s2:=λI2 =>
  I0.Rp (ch:=fp) I2.os I2.base I2.hok I2.bare λb hb=>⟨(f2 b hb).2.2.2.1,(f2 b hb).2.1,(f2 b hb).2.2.2.2.1,(f2 b hb).2.2.2.2.2⟩
 have K1:=back I;have K2:=back J;obtain ⟨m1,hn1,_⟩:=I.loc;obtain ⟨m2,hn2,_⟩:=J.loc;have Zq:s1.heap.Ns C m1:=hn1;have WB:s'.heap.Ns C m2:=hn2;obtain ⟨oC,XM⟩:∃ o,s1.heap.get? C=some o:=Zq.elim λo z=>z.elim λ_ z=>z.elim λ_ z=>⟨o,z.1⟩
 obtain ⟨oD,hoD⟩:∃ o,s'.heap.get? C=some o:=WB.elim λo z=>z.elim λ_ z=>z.elim λ_ z=>⟨o,z.1⟩
 have Ca:C≠a:=λz=>by rw [z,sa] at XM;cases XM
 have CT:C≠T:=λz=>by rw [z,sT] at XM;cases XM
 have Cf:C ∉ frs X.stack:=λz=>by obtain ⟨_,o,ho,_⟩:=I0.stack.mem z;exact absurd (Mr ho) (Nat.not_lt.mpr hC)
 have fl:=we K2.stack tr;have hL:X.env.frame=some s.heap.objs.size:=by rw [eX];rfl
 have hst:X.stack=X.env::outer:=by rw [eX];rfl
 have hfr:X.A.frames=some (X.env::outer):=by rw [<- hst];exact I0.ok.frames
 show wpAny (model P w) X.A (noteFrame (.ref a) (compEnvC sc cl C X.env)) _ _ s';have en:noteFrame (.ref a) (compEnvC sc cl C X.env)=noteFrame (.ref a) X.env:=rfl;rw [en];rw [hst] at fl
 refine MT (cR (iX _ _) (wpAny_looks_onW (Q:=λ_ s2=>∃ h2,s2={ s' with heap:=h2 }/\Heap.HeldW (W.hideAll s'.heap (a::T::frs (X.env::outer))) (X.env::outer) a cls a0 s.heap.objs.size h2/\s'.heap.UpToSlots h2)
  hfr hL fl λh2 x2 up=>⟨h2,rfl,x2,up⟩)) (λ_ s2 ⟨⟨h2,e2,x2,Zr⟩,kp2⟩=>?_) λ_ _ z=>z
 subst e2;have lC2:C < h2.objs.size:=(Zr.ns WB).elim λo z=>z.elim λ_ z=>z.elim λ_ z=>Mr z.1
 suffices all:∀ h3,Heap.SameBut C h2 h3->∀ cenv:Env,cenv.locals=C->wpAny (model P w) X.A (PySem.passOn "comprehension.variables-let-go" (.ref a) cenv:Sem Value) (λ_ _=>False) X.xe { s' with heap:=h3 } by exact ⟨_,Zr.ns WB,all⟩
 intro h3 sb cenv ec;obtain ⟨g,sg,eg⟩:=xq C s'.heap h3 (Mr hoD) (by rw [sb.1];exact lC2);obtain ⟨g1,WC,Zs⟩:=xq C s1.heap h3 (Mr XM) (by rw [sb.1];exact lC2);have G1:Inv X Tq σ0 H1 { s1 with heap:=g1 }:=Inv.young I0 K1 hC I.free WC;have G2:Inv X Tq σ0 H' { s' with heap:=g }:=Inv.young I0 K2 hC J.free sg
 have un':Un (frs X.stack) [] H1 H' g1 g:=by
  refine ⟨λb o q n hf hx=>?_,λb o q n hf hx=>?_,λb o q n hx=>?_,λb o q hx=>?_,un.tups,un.R6,un.Sk⟩
  all_goals by_cases hb:b=C
  ·subst hb;rw [eg,<- Zs];exact q
  ·exact (sg.2 b hb).trans (un.keep b o ((WC.2 b hb).symm.trans q) n hf hx)
  ·subst hb;exact ⟨o.slots,by rw [eg,<- Zs];exact q⟩
  ·obtain ⟨sl,z⟩:=un.slot b o ((WC.2 b hb).symm.trans q) n hf hx;exact ⟨sl,(sg.2 b hb).trans z⟩
  ·subst hb;exact J.free
  ·exact un.free b o ((WC.2 b hb).symm.trans q) n hx
  ·subst hb;exact ⟨o,by rw [eg,<- Zs];exact q⟩
  ·obtain ⟨o',z⟩:=un.there b o ((WC.2 b hb).symm.trans q) hx;exact ⟨o',(sg.2 b hb).trans z⟩
 have sa':g1.get? a=none:=(WC.2 a (MD Ca)).trans sa;have sT':g1.get? T=none:=(WC.2 T (MD CT)).trans sT
 have nin:C ∉ a::T::frs (X.env::outer):=λz=>by
  rcases MA.mp z with z | z
  ·exact Ca z
  ·rcases MA.mp z with z | z
   ·exact CT z
   ·rw [<- hst] at z;exact Cf z
 have hb:∀ x,(W.hideAll s'.heap (a::T::frs (X.env::outer))).get? x=none->x≠C/\(W.hideAll g (a::T::frs (X.env::outer))).get? x=none:=λx z=>by
  have ne:x≠C:=λy=>by rw [y,Om _ hoD nin] at z;cases z
  refine ⟨ne,?_⟩
  cases r:(W.hideAll g (a::T::frs (X.env::outer))).get? x with
  | none=>rfl
  | some o =>
   have r1:=OT _ r;have r2:x ∉ a::T::frs (X.env::outer):=λy=>by rw [NJ _ y] at r;cases r
   rw [Om _ ((sg.2 x ne).symm.trans r1) r2] at z;cases z
 have hd3:QE (W.hideAll g (a::T::frs (X.env::outer))) (X.env::outer) a cls a0 (rawInt s.heap.objs.size) h3:=by
  obtain ⟨k1,k2,k3,oe,vs,T3,oT,ts,he,hc,hd,h1,nT3,VA,hT,dT,h33⟩:=x2;refine ⟨λb o r=>?_,NJ _ (.head _),j6 sb.2 hb k3,oe,vs,T3,oT,ts,(sb.2 a (MD Ca)).trans he,hc,hd,h1,(hb T3 nT3).2,VA,(sb.2 T3 (hb T3 nT3).1).trans hT,dT,h33⟩;have r1:=OT _ r;have r2:b ∉ a::T::frs (X.env::outer):=λy=>by rw [NJ _ y] at r;cases r
  by_cases WD:b=C
  ·subst WD;rw [<- eg];exact r1
  ·exact (sb.2 b WD).trans (k1 b o (Om _ ((sg.2 b WD).symm.trans r1) r2))
 have XN:g.UpToSlots h3:=λb o r n=>by
  by_cases WD:b=C
  ·subst WD;exact ⟨o.slots,by rw [<- eg];exact r⟩
  ·obtain ⟨sl,z⟩:=Zr b o ((sg.2 b WD).symm.trans r) n;exact ⟨sl,(sb.2 b WD).trans z⟩
 have d3:DictAt h3 a dx:=by obtain ⟨oe,he,hd⟩:=da;obtain ⟨ob,hob,_⟩:=x2.there;exact ⟨ob,(sb.2 a (MD Ca)).trans hob,(kp2.at he hob).trans hd⟩
 have hxe:∀ e2 s2,X.xe e2 s2=wpAny (model P w) X.A (leaving X.env e2) (λ_ s3=>PK P w outer H s E e2 s3) (λe3 s3=>PK P w outer H s E e3 s3) s2:=by rw [eX];intro _ _;rfl
 refine QE.passOn (s:={ s' with heap:=h3 }) hd3 λh4 x4 WS e4=>?_;rw [hxe];refine MT (cR (e7 _ _) (QE.leave (s:={ s' with heap:=h4 }) (Q:=λ_ s3=>∃ h5,s3={ s' with heap:=h5 }/\Heap.FlyingW (W.hideAll g (a::T::frs (X.env::outer))) outer a cls a0 h5/\h4.UpToSlots h5) hfr hL x4 λh5 f5 VZ=>⟨h5,rfl,f5,VZ⟩)) (λ_ s3 ⟨⟨h5,e5,f5,VZ⟩,Y0⟩=>?_) λ_ _ z=>z;subst e5;rw [<- hst] at f5;obtain ⟨T2,t2,hT2,k2,sl2⟩:=j5 G2.stack f5 (XN.trans (Heap.UpToSlots.trans WS VZ))
 have WN:H' T2=none:=by
  rcases hT2 with z | z
  ·rw [z];exact nT
  ·exact G2.hok.empty z
 have Xm:g1.get? T2=none:=by
  rcases hT2 with z | z
  ·rw [z];exact sT'
  ·cases r:g1.get? T2 with
   | none=>rfl
   | some o =>obtain ⟨o',r'⟩:=un'.there T2 o r (by simp);rw [z] at r';cases r'
 have J5:Inv X Tq σ0 H' { s' with heap:=h5 }:=G1.Rp (s':={ s' with heap:=h5 }) (ch:=[]) os (rV un' sa' sT' k2 sl2) (pT G2.hok na nT G2.RH k2) bare (λb z=>absurd z (by simp))
 have VY:∀ b,g1.get? b=none->s.heap.get? b=none:=λb z=>by
  cases r:s.heap.get? b with
  | none=>rfl
  | some o =>have hG:=G1.base;rw [eX] at hG;obtain ⟨o',r'⟩:=hG.there b o r (by show b ∉ ([]:List Addr);simp);have r2:g1.get? b=some o':=r';rw [z] at r2;cases r2
 have bs:=J5.base;have hk:=J5.hok;have hos:=J5.os;rw [eX] at bs hos;rw [eP,eW] at hk;refine ⟨a,T2,cls,a0,dx,H',rfl,hos,J5.bare,bs,hk,⟨VY a sa',VY T2 Xm,na,WN⟩,t2,Y0.dictAt ?_ t2,q⟩;obtain ⟨oe,he,hd⟩:=d3;exact ⟨oe,e4.trans he,hd⟩
end L2
namespace L2
open PySem PySem.Spec PyProof.Rows
section
variable {prog:Program} {w:World} {A:Around} {R:Result->Shared->Prop} {s:Shared}
theorem kS {elt target iter:Expr} {ifs:List Expr} {scope:Scope} {pos:Pos} {it acc:Value} {env:Env} {XE:Value->Shared->Prop} (hE:∀ x s,XE x s->notedBy (model prog w) A env (λx s=>R (.error x) s) x s) (J:Nat->Shared->Prop)
  (turn:∀ n s,J n s->wpAny (model prog w) A (pyNext it) (λr s₁=>match r with
   | none=>R (.ok .next) s₁
   | some v=>wpAny (model prog w) A (letOwnedTupleGo target it v) (λ_ s₂=>wpAny (model prog w) A (assign target env v) (λ_ s₃ =>
     wpAny (model prog w) A (forIn ifs true λc r=>if r=true then do let ok <- isTrue c env (eval c env);pure (ForInStep.yield ok) else pure (ForInStep.yield r)) (λok s₄ =>
      if ok=true then wpAny (model prog w) A (eval elt env) (λx s₅=>wpAny (model prog w) A (call (.builtin "list.append") [acc,x]) (λ_ s₆=>∃ m,m < n/\J m s₆) XE s₅) XE s₄
      else ∃ m,m < n/\J m s₄) XE s₃) XE s₂) XE s₁) XE s)
  (n:Nat) (h:J n s):codeAny (model prog w) A (.compLoop (.ListComp elt [⟨target,iter,ifs,0⟩] scope pos) 0 it acc env) R s:=by
 refine codeAny_loop rfl J (λn s hJ=>?_) n h;show wpAny (model prog w) A ((compTurn (.ListComp elt [⟨target,iter,ifs,0⟩] scope pos) 0 it acc env).onRaise λx=>do noteFrame x env;theTreesLotGoes x) _ _ s;refine wpAny_noted (MT (Q:=λr s=>_) ?_ (λ_ _ z=>z) hE);rw [compTurn_list];refine pg (NI (pg (PR (turn n s hJ) λr s₁ h₁=>?_)))
 cases r with
 | none=>exact Mq h₁
 | some v =>
  refine pg (PR h₁ λ_ s₂ h₂=>pg (PR h₂ λ_ s₃ h₃=>pg (PR h₃ λok s₄ h₄=>?_)))
  cases ok with
  | false=>exact Mq ⟨rfl,h₄⟩
  | true=>exact pg (pg (PR h₄ λx s₅ h₅=>pg (PR h₅ λ_ s₆ h₆=>Mq (Mq ⟨rfl,h₆⟩))))
end
section
variable {X:Cx} {elt iter tg:Expr} {ifs:List Expr} {sc:Scope} {pos:Pos} {wi:TI} {own:List Str} {fr:List Nat} {N':List Str} {g:TG} {tt:TT} {te:TE} {Ed:XK}
variable {H:Hp}
theorem sv {pins:List (Addr × Obj)} {σ:St} {s:Shared} {cl:List (Str × Addr)} {fp:List Addr} {it:Addr} {J:It} {tn:Nat->Heap->Prop} {E:Value->Shared->Prop} {Q:VK} {RR:Value->Addr->Result->Shared->Prop}
  (I:Inv X pins σ H s) (B:X7 X.N X.env.kindOf sc.names own fr N') (hk:sc.kind=.function) (hc:X.calm=true)
  (sub:∀ x c,cl.lookup x=some c->X.env.cells.lookup x=some c) (has:∀ p ∈ sc.names,p.2=.free->cl.lookup p.1=X.env.cells.lookup p.1)
  (T:iD X.prog X.w X.K tg J fp it tn) (st:tn 0 s.heap) (f2:∀ b ∈ fp,iC X pins H b)
  (hg:∀ cl C s H fp xe,Passes (PK X.prog X.w) ((X.Qk sc cl C N' s H fp).Qe xe) Ed->PG ((X.Qk sc cl C N' s H fp).Qe xe) tg g) (ht:∀ cl C s H fp xe,Passes (PK X.prog X.w) ((X.Qk sc cl C N' s H fp).Qe xe) Ed->jM ((X.Qk sc cl C N' s H fp).Qe xe) ifs tt) (he:∀ cl C s H fp xe,Passes (PK X.prog X.w) ((X.Qk sc cl C N' s H fp).Qe xe) Ed->PE ((X.Qk sc cl C N' s H fp).Qe xe) elt te)
  (hp:∀ C,s.heap.objs.size<=C->Passes (PK X.prog X.w) ((X.Qk sc cl C N' s H fp).Qe (notedBy (model X.prog X.w) X.A (compEnvC sc cl C X.env) λx s2=>RR (.ref s.heap.objs.size) C (.error x) s2)) Ed)
  (hw:∀ D,H D=none->∃ W:Nat->Nat->St->Hp->Prop,(∃ m,W 0 m (UD own fr σ) (upd H D (.lst [])))/\∀ i m σ' H',W i m σ' H' ->
   (J.stop i H'/\Q (.ref D) H') \/
   (J.go i H'/\∃ Nx:St->Hp->Prop,(∀ σ'' QS,Nx σ'' QS->∃ m',m' < m/\W (i+1) m' σ'' QS)/\∀ x QS,J.VE i H' x QS->g x σ' QS λσ2 H2=>tt σ2 H2 λb H3 =>
    if b=true then te σ2 H3 λv H4=>∃ ys,H4 D=some (.lst ys)/\ys.length < sizeLine/\Nx σ2 (upd H4 D (.lst (ys++[v]))) else Nx σ2 H3))
  (hRR:∀ D C σ' H' s',D=s.heap.objs.size->s.heap.objs.size<=C->Inv (X.Qk sc cl C N' s H fp) [] σ' H' s'->Q (.ref D) H'->RR (.ref D) C (.ok .next) s') :
  wpAny (model X.prog X.w) X.A (newList []) (λacc s₃=>wpAny (model X.prog X.w) X.A (newFunctionEnv sc X.env.globals cl [] X.env.qual none .none (some X.env)) (λcenv s₄ =>
   codeAny (model X.prog X.w) X.A (.compStart (.ListComp elt [⟨tg,iter,ifs,0⟩] sc pos) 0 (.ref it) acc { cenv with scope:=relabel sc X.env }) (RR acc cenv.locals) s₄) E s₃) E s:=by
 have fo:∀ b ∈ fp,b < s.heap.objs.size:=λb hb=>by obtain ⟨o,e,_⟩:=T.obj _ _ st b hb;exact Mr e
 refine Nr (wpAny_newFunctionEnv B.cell (by intro y hy;simp at hy) (λh₁ hns₁ hsb₁=>?_) hk);dsimp only at hns₁ hsb₁ ⊢;generalize Wh:s.heap.push { cls:=.type "list",dict:=none,data:=.seq ([]:List Value).toArray }=G at hns₁ hsb₁ ⊢;have hG:G.objs.size=s.heap.objs.size+1:=by rw [<- Wh,MM]
 have hlt:s.heap.objs.size < G.objs.size:=by rw [hG];exact Oj _
 have old:∀ b o,s.heap.get? b=some o->h₁.get? b=some o:=λb o e =>
  hsb₁.extBut b o (Mv (OA (Mr e) hlt)) (LD _ (Wh ▸ LD _ e))
 have hacc:h₁.get? s.heap.objs.size=some { cls:=.type "list",data:=.seq ([]:List Value).toArray } :=
  hsb₁.extBut _ _ (Mv hlt) (LD _ (Wh ▸ MI _ rfl))
 obtain ⟨W,⟨m0,w0⟩,turn⟩:=hw s.heap.objs.size (I.hok.fresh (Mu _));have st₁:tn 0 h₁:=T.keep _ _ _ st λb _ o e=>old b o e
 have Wi:h₁.Ns G.objs.size (λ_=>none):=by
  have e:(λx=>([]:List (Str × Value)).reverse.lookup x)=(λ_:Str=>(none:Option Value)):=by funext x;rfl
  first
   | exact hns₁
   | (rw [e] at hns₁;exact hns₁)
 have hP:=hp G.objs.size (NP hlt);generalize eXE:notedBy (model X.prog X.w) X.A (compEnvC sc cl G.objs.size X.env) (λx s2=>RR (.ref s.heap.objs.size) G.objs.size (.error x) s2)=XE at hP
 have loop:∀ s₃:Shared,s₃={ s with heap:=h₁,toks:=s.toks+([]:List (Str × Value)).length } ->
   codeAny (model X.prog X.w) X.A (.compLoop (.ListComp elt [⟨tg,iter,ifs,0⟩] sc pos) 0 (.ref it) (.ref s.heap.objs.size) (compEnvC sc cl G.objs.size X.env)) (RR (.ref s.heap.objs.size) G.objs.size) s₃:=by
  rintro s₃ rfl;have I0:=(lx (tk:=s.toks+([]:List (Str × Value)).length) I B hk sub has f2 fo rfl hlt Wi old hacc).Qe XE
  have iY:∀ {QN:List (Addr × Obj)} {H':Hp},QN=[]->(∀ b ∈ fp,H' b=none)->∀ b ∈ fp,iC ((X.Qk sc cl G.objs.size N' s H fp).Qe XE) QN H' b:=λep hn b hb=>by
   subst ep;refine ⟨hn b hb,Mv (OA (fo b hb) hlt),λz=>?_,.inl hb,λx c e=>(f2 b hb).2.2.2.2.1 x c (sub x c e),λp hp=>absurd (show p ∈ ([]:List (Addr × Obj)) from hp) (by simp)⟩;rcases MA.mp (I.Sx b z) with e | e
   ·exact (f2 b hb).2.1 e
   ·exact (f2 b hb).2.2.1 e
  have YG:∀ b ∈ fp,upd H s.heap.objs.size (.lst []) b=none:=λb hb=>by rw [aE (Mv (fo b hb))];exact (f2 b hb).1
  refine kS (XE:=XE) (λ_ _ z=>by rw [<- eXE] at z;exact z) (λn s'=>∃ i σ' H',Inv ((X.Qk sc cl G.objs.size N' s H fp).Qe XE) [] σ' H' s'/\tn i s'.heap/\(∀ b ∈ fp,H' b=none)/\W i n σ' H') ?_ m0 ⟨0,_,_,I0,st₁,YG,w0⟩;rintro n s3 ⟨i,σ3,H3,I3,st3,VU,w3⟩;rcases turn i n σ3 H3 w3 with ⟨stop,qn⟩ | ⟨go,Nx,hN,step⟩
  ·refine PR (T.done ((X.Qk sc cl G.objs.size N' s H fp).Qe XE) rfl rfl rfl hc i [] s3 σ3 H3 _ I3 (iY rfl VU) st3 stop) λr s4 ⟨hr,I4⟩=>?_;subst hr;exact hRR _ _ _ _ _ rfl (NP hlt) I4.QY qn
  ·refine PR (T.item ((X.Qk sc cl G.objs.size N' s H fp).Qe XE) rfl rfl rfl hc i [] s3 σ3 H3 _ I3 (iY rfl VU) st3 go) λr s4 ⟨u,hr,h4⟩=>?_;subst hr;refine PR h4 λ_ s5 ⟨x,H5,I5,r5,y5,Ve,Xb⟩=>?_;have Xc:=I5.pinned (iY rfl Xb) (T.obj _ _ Ve);refine PR (hg cl G.objs.size s H fp XE hP _ s5 σ3 H5 x u _ Xc r5 (step x H5 y5)) λ_ s6 ⟨σ6,H6,I6,q6⟩=>?_;refine PR (ht cl G.objs.size s H fp XE hP _ s6 σ6 H6 _ I6 q6) λok s7 ⟨H7,I7,q7⟩=>?_
   have again:∀ {s8:Shared} {H8:Hp},Inv ((X.Qk sc cl G.objs.size N' s H fp).Qe XE) ([]++iM fp s5.heap) σ6 H8 s8->Nx σ6 H8 ->
     ∃ m,m < n/\∃ i σ' H',Inv ((X.Qk sc cl G.objs.size N' s H fp).Qe XE) [] σ' H' s8/\tn i s8.heap/\(∀ b ∈ fp,H' b=none)/\W i m σ' H':=λ{s8 H8} I8 n8=>by
    obtain ⟨m',hm,w8⟩:=hN σ6 H8 n8;refine ⟨m',hm,i+1,σ6,H8,I8.Q7,T.keep _ _ _ Ve λb hb o e=>(I8.pin (b,o) (MN _ (MN _ (c8 hb e)))).1,λb hb=>?_,w8⟩;obtain ⟨o,e,d⟩:=T.obj _ _ Ve b hb;exact (I8.pin (b,o) (MN _ (MN _ (c8 hb e)))).2.1
   cases ok with
   | false =>rw [Mz Mx] at q7 ⊢;exact again I7 q7
   | true =>rw [MF rfl] at q7 ⊢;refine PR (he cl G.objs.size s H fp XE hP _ s7 σ6 H7 _ I7 q7) λy s8 ⟨v,H8,I8,rv,ys,YH,hz,nx⟩=>?_;refine PR (ck (X:=(X.Qk sc cl G.objs.size N' s H fp).Qe XE) _ s8 σ6 H8 (.ref s.heap.objs.size) [v] (.ref s.heap.objs.size) [y] (λ_ H9=>Nx σ6 H9) I8 rfl (.cons rv .nil) ⟨_,ys,v,rfl,rfl,YH,hz,nx⟩) λ_ s9 ⟨_,H9,I9,_,n9⟩=>?_;exact again I9 n9
 exact codeAny_compStart_list (loop _ rfl) (T.self _ 0 _ _ _ st₁ (loop _ rfl))
theorem oU {P:Program} {w:World} {K:W.Frag} {mg:Str->Option Value} {base:Heap} {N:List Str} {qual:Str} {scope:Scope} {f:Addr} {cd:Value} {A:Around} {outer:List Env} {s:Shared} (eX:X=dm (PK P w) P w K mg base N qual scope f cd A outer s H Ed) {i:Nat} {y:Str} {py spos:Pos} (hi:PI X tg iter wi) (hk:sc.kind=.function) (hb:bj X.N X.env.kindOf sc.names own fr N'=true) (hc:X.calm=true)
  (hg:∀ cl C s H fp xe,Passes (PK X.prog X.w) ((X.Qk sc cl C N' s H fp).Qe xe) Ed->PG ((X.Qk sc cl C N' s H fp).Qe xe) tg g) (ht:∀ cl C s H fp xe,Passes (PK X.prog X.w) ((X.Qk sc cl C N' s H fp).Qe xe) Ed->jM ((X.Qk sc cl C N' s H fp).Qe xe) ifs tt) (he:∀ cl C s H fp xe,Passes (PK X.prog X.w) ((X.Qk sc cl C N' s H fp).Qe xe) Ed->PE ((X.Qk sc cl C N' s H fp).Qe xe) elt te)
  (hN:X.N.Nodup) (hy:X.N[i]?=some y) (hx:X.env.scope.names.lookup y=some .local)
  (hsw:swapsWith (.ListComp elt [⟨tg,iter,ifs,0⟩] sc pos) (some (.Name y py)) spos.line X.env=pure true)
  (hs:∀ x,foldedSetIterable iter X.env x=pure x:=by intro _;rfl):PS X (.Assign [.Name y py] (.ListComp elt [⟨tg,iter,ifs,0⟩] sc pos) spos) (RI (RM wi (UD own fr) g tt te) (ff i)):=by
 intro pins s σ H D I h;have B:=pD hb;obtain ⟨cl,hcl,sub,has⟩:=AY sc X.env λp hp e=>I.ok.has p.1 (B.free p hp e);rw [exec_Assign_Name_used _ _ _ _ hsw];refine pg (NI (pg ?_));show wpAny _ _ (do let _ <- comprehension (.ListComp elt [⟨tg,iter,ifs,0⟩] sc pos) sc X.env _ (newList []) false (eval iter X.env) (some (assign (.Name y py) X.env))) _ _ s
 refine pg (MT (OB (use:=some (assign (.Name y py) X.env)) (Q:=λ_ s'=>SP X pins D .next s') rfl hs hcl hk B.loc
  (PR (hi pins s σ H _ I h) λv s1 h1=>PR h1 λitv s2 h2=>?_)) (λ_ s' hq=>Mq (Mq hq)) λ_ _ e=>e)
 obtain ⟨it,fp,tn,J,H2,e,I2,T,st2,f2,body⟩:=h2;subst e;have eP:X.prog=P:=by rw [eX];rfl
 have eW:X.w=w:=by rw [eX];rfl
 refine sv (Ed:=Ed) (Q:=λv H'=>D.nx (σ.set i (some v)) H') (RR:=λacc C=>compPost (model X.prog X.w) X.A X.xe (some (assign (.Name y py) X.env)) (λ_ s'=>SP X pins D .next s') acc C) I2 B hk hc sub has T st2 f2 hg ht he (λC hC=>by rw [eP,eW];exact uk eX I2 f2 hC) body ?_;intro D' C σ' H' s' eD hC J' q;have I3:=mi I2 f2 J';show wpAny _ _ (assign (.Name y py) X.env (.ref D')) _ _ s';refine Pg (iZ I3 hN hy (.inl hx) (v:=.ref D') rfl (λs4 I4 ⟨a,hsb,ha⟩=>?_) (.inr hx));obtain ⟨m,hn,_⟩:=J'.loc
 have YI:C≠a:=by
  rcases ha with e | e
  ·rw [e];exact M0 (Mw I2.lt hC)
  ·obtain ⟨v,z⟩:=I2.cell _ _ e;exact M0 (Mw z.lt hC)
 refine ⟨m,hn.sameBut hsb YI,λh' hs'=>⟨_,H',?_,q⟩⟩;exact Inv.young I2 I4 hC J'.free hs'
end
end L2
namespace EV
open PySem PySem.Spec PyProof.Rows L2
section
variable {X:Cx} {g:Gx} {E:L2.St->XK} {elt iter tgt:Expr} {ifs:List Expr} {sc:Scope} {pos:Pos} {own:List Str} {fr:List Nat} {N':List Str} {tg:SD} {ct:Ct} {ce:Ce} {ci:Ci}
variable {H:Hp}
theorem WE.of {σ:L2.St} {Q:VK} (h:tE g E (ml ci own.length fr tg ct ce) σ H Q):RM (tI g E ci) (UD own fr) (tG g tg) (tB g (λ_=>E σ) ct) (tE g (λ_=>E σ) ce) σ H Q:=by
 obtain ⟨m,ρ,S,s,re,h⟩:=h;refine ⟨m,ρ,S,s,re,h.bind.mono λp m1 S1 H1 x1 s1 h1 J it D hD=>?_⟩;have Rr:=re.mono x1 s
 cases q9:few 900 p.1 with
 | false=>rw [q9] at h1;exact h1.elim
 | true =>
 rw [q9] at h1;dsimp only at h1;have h9:=dA q9;rw [bW,gd] at h1;have Zm:D ∉ m1:=λz=>s1.up D z hD
 refine ⟨λi n σ' H'=>∃ m2 ρ2 S2 ys vs,n=p.1.length - i/\i<=p.1.length/\Ext m1 (SE p.2 S1) H1 m2 S2 H'/\PN g m2 S2 H'/\Re g H' m2 ρ2 σ'/\D ∉ m2/\H' D=some (.lst vs)/\Rs g H' m2 ys vs/\vs.length<=i /\
   Out g m1 S1 H1 (((TR tg ct ce (p.1.drop i) ρ2 ys S2).back S1 p.2).b λys S=>new ys S) (λa m' _ H'=>∀ v,R g H' m' a v->Q v H') (E σ),
  ⟨_,m1,Qk own.length fr ρ,SE p.2 S1,[],[],rfl,Nd _,Ext.refl.Qs hD,s1.lock.new hD _,(xK Rr own fr).mono (Ext.new (S:=S1) hD _) s1,Zm,aF,.nil,Nd _,by rw [Of];exact h1⟩,?_⟩
 rintro i n σ2 H2 ⟨m2,ρ2,S2,ys,vs,hn,hil,x2,s2,T4,Wv,XD,XF,hvl,h2⟩;obtain ⟨go,stop⟩:=it m2 S2 H2 x2 s2
 cases q:p.1[i]? with
 | none =>
  have hle:=NB.mp q;have:i=p.1.length:=by omega
  subst this;refine .inl ⟨stop,?_⟩;rw [List.drop_length] at h2;have h2':Out g m1 S1 H1 ((cJ S1 p.2 S2 λS=>Res.ok ys S).b λys S=>new ys S) (λa m' _ H'=>∀ v,R g H' m' a v->Q v H') (E σ):=h2;rw [cw] at h2';obtain ⟨x3,s3⟩:=x2.unlock s1 s2;have h3:Out g m1 S1 H1 (new ys (U8 S1 p.2 S2)) (λa m' _ H'=>∀ v,R g H' m' a v->Q v H') (E σ):=h2';unfold new at h3
  cases q9:few 900 ys with
  | false=>rw [q9] at h3;exact h3.elim
  | true =>
   rw [q9] at h3;dsimp only at h3;rw [bW,oH] at h3;have s4:=s3.adopt (c:=.lst ys) Wv ⟨vs,XD,Rs.more _ _ XF⟩;obtain ⟨k,ek,hk⟩:=x3.pre;refine h3 (m2++[D]) H2 ⟨⟨k++[D],by rw [ek,N9],λa ha=>?_⟩,x3.low,x3.keep,λj c hj e o=>?_⟩ s4 _ (R.ref (by rw [<- s3.len];simp))
   ·rcases Nc.mp ha with z | z
    ·exact hk a z
    ·rw [MS.mp z];exact hD
   ·rw [aO] at e;by_cases z:(U8 S1 p.2 S2).nx=j
    ·have:=s3.len;rw [ek,MO] at this;omega
    ·rw [Mz z] at e;exact x3.bk j c hj e o
 | some x =>
  have hlt:=(Mk.mp q).1;obtain ⟨g1,yl⟩:=go i x q;rw [nI q] at h2
  refine .inr ⟨g1,λσ' H'=>∃ m2 ρ2 S2 ys vs,Ext m1 (SE p.2 S1) H1 m2 S2 H'/\PN g m2 S2 H'/\Re g H' m2 ρ2 σ'/\D ∉ m2/\H' D=some (.lst vs)/\Rs g H' m2 ys vs/\vs.length<=i+1 /\
   Out g m1 S1 H1 (((TR tg ct ce (p.1.drop (i+1)) ρ2 ys S2).back S1 p.2).b λys S=>new ys S) (λa m' _ H'=>∀ v,R g H' m' a v->Q v H') (E σ),
   λσ' H' ⟨m3,ρ3,S3,ys,vs,x3,s3,Tg,d1,d2,d3,d4,h3⟩=>⟨p.1.length - (i+1),by omega,m3,ρ3,S3,ys,vs,rfl,hlt,x3,s3,Tg,d1,d2,d3,d4,h3⟩,λv H3 yd=>?_⟩
  obtain ⟨x3,s3,rv⟩:=yl v H3 yd;have Tg:=T4.mono x3 s2;have Zn:=Rs.mono x3 s2 ys XF;have Zo:=(x3.SG Wv XD).2
  cases qt:tg x ρ2 with
  | none=>rw [qt] at h2;exact h2.elim
  | some ρ3 =>
   rw [qt] at h2;dsimp only at h2;refine ⟨m2,ρ2,S2,x,ρ3,s3,Tg,rv,qt,λσ4 Um=>⟨m2,ρ3,S2,s3,Um,?_⟩⟩
   cases qc:ct ρ3 S2 with
   | bad=>rw [qc] at h2;exact h2.elim
   | exc c S5 =>rw [qc] at h2;have h2':Out g m1 S1 H1 ((cJ S1 p.2 S5 λS=>(Res.exc c S:Res (List A))).b λys S=>new ys S) (λa m' _ H'=>∀ v,R g H' m' a v->Q v H') (E σ):=h2;rw [cw] at h2';intro m5 H5 dx x5 s5;obtain ⟨x6,s6⟩:=((x2.trans x3).trans x5).unlock s1 s5;exact h2' m5 H5 dx x6 s6
   | ok b S5 =>
    rw [qc] at h2;intro m5 H5 x5 s5;obtain ⟨XG,XH⟩:=x5.SG Wv Zo;have Sn:=Um.mono x5 s3;have XI:=Rs.mono x5 s3 ys Zn;have xx:=(x2.trans x3).trans x5
    cases b with
    | false =>rw [Mz Mx];exact ⟨m5,ρ3,S5,ys,vs,xx,s5,Sn,XG,XH,XI,by omega,h2⟩
    | true =>
     rw [MF rfl];refine ⟨m5,ρ3,S5,s5,Sn,?_⟩
     cases qe:ce ρ3 S5 with
     | bad =>have h2':Out g m1 S1 H1 ((((ce ρ3 S5).b λy S=>TR tg ct ce (p.1.drop (i+1)) ρ3 (ys++[y]) S).back S1 p.2).b λys S=>new ys S) (λa m' _ H'=>∀ v,R g H' m' a v->Q v H') (E σ):=h2;rw [qe] at h2';exact h2'.elim
     | exc c S6 =>have h2':Out g m1 S1 H1 ((((ce ρ3 S5).b λy S=>TR tg ct ce (p.1.drop (i+1)) ρ3 (ys++[y]) S).back S1 p.2).b λys S=>new ys S) (λa m' _ H'=>∀ v,R g H' m' a v->Q v H') (E σ):=h2;rw [qe] at h2';have h3':Out g m1 S1 H1 ((cJ S1 p.2 S6 λS=>(Res.exc c S:Res (List A))).b λys S=>new ys S) (λa m' _ H'=>∀ v,R g H' m' a v->Q v H') (E σ):=h2';rw [cw] at h3';intro m6 H6 dx x6 s6;obtain ⟨x7,s7⟩:=(xx.trans x6).unlock s1 s6;exact h3' m6 H6 dx x7 s7
     | ok y S6 =>have h2':Out g m1 S1 H1 ((((ce ρ3 S5).b λy S=>TR tg ct ce (p.1.drop (i+1)) ρ3 (ys++[y]) S).back S1 p.2).b λys S=>new ys S) (λa m' _ H'=>∀ v,R g H' m' a v->Q v H') (E σ):=h2;rw [qe] at h2';intro m6 H6 x6 s6 u ru;obtain ⟨XJ,Vw⟩:=x6.SG XG XH;refine ⟨vs,Vw,?_,m6,ρ3,S6,ys++[y],vs++[u],(xx.trans x6).Qs hD,s6.Qs XJ Vw,(Sn.mono x6 s5).Qs Vw,XJ,aF,(Rs.Qs Vw _ (Rs.mono x6 s5 ys XI)).append (.cons (R.Qs Vw _ ru) .nil),by rw [MO];show vs.length+1<=i+1;omega,h2'⟩;rw [Na];omega
theorem qB {P:Program} {w:World} {K:W.Frag} {mg:Str->Option Value} {base:Heap} {N:List Str} {qual:Str} {scope:Scope} {f:Addr} {cd:Value} {A:Around} {outer:List PySem.Env} {s:Shared} {Ed:XK} (eX:X=dm (PK P w) P w K mg base N qual scope f cd A outer s H Ed) {i:Nat} {y:Str} {py spos:Pos} (hi:PI X tgt iter (tI g (λ_=>Ed) ci)) (hk:sc.kind=.function) (hb:bj X.N X.env.kindOf sc.names own fr N'=true) (hc:X.calm=true)
  (hg:∀ cl C s H fp xe,Passes (PK X.prog X.w) ((X.Qk sc cl C N' s H fp).Qe xe) Ed->PG ((X.Qk sc cl C N' s H fp).Qe xe) tgt (tG g tg)) (ht:∀ cl C s H fp xe,Passes (PK X.prog X.w) ((X.Qk sc cl C N' s H fp).Qe xe) Ed->jM ((X.Qk sc cl C N' s H fp).Qe xe) ifs (tB g (λ_=>Ed) ct)) (he:∀ cl C s H fp xe,Passes (PK X.prog X.w) ((X.Qk sc cl C N' s H fp).Qe xe) Ed->PE ((X.Qk sc cl C N' s H fp).Qe xe) elt (tE g (λ_=>Ed) ce))
  (hN:X.N.Nodup) (hy:X.N[i]?=some y) (hx:X.env.scope.names.lookup y=some .local)
  (hsw:swapsWith (.ListComp elt [⟨tgt,iter,ifs,0⟩] sc pos) (some (.Name y py)) spos.line X.env=pure true)
  (hs:∀ x,foldedSetIterable iter X.env x=pure x:=by intro _;rfl):PS X (.Assign [.Name y py] (.ListComp elt [⟨tgt,iter,ifs,0⟩] sc pos) spos) (tS g (λ_=>Ed) (bF i (ml ci own.length fr tg ct ce))) :=
 TZ (oU eX hi hk hb hc hg ht he hN hy hx hsw hs) λD σ H h=>WE.of (E:=λ_=>Ed) (show tE g (λ_=>Ed) (ml ci own.length fr tg ct ce) σ H _ from RI.of h)
end
end EV
namespace My
open PySem L2 EV PyProof.Rows
noncomputable def cn:List (Nat × EV.A):=[(6,.int (.ofNat 9999)),(2,.int (.ofNat 3))]
noncomputable def bG:List (Nat × EV.A):=[(14,.int (.ofNat 2)),(16,.int (.ofNat 2)),(25,.int (.ofNat 2)),(26,.int (.ofNat 2)),(3,.int (.ofNat 3))]
noncomputable def P7:List (Nat × EV.A):=[(4,.int (.ofNat 2)),(1,.int (.ofNat 3)),(7,.int (.ofNat 2))]
noncomputable def cD:List (Nat × EV.A):=[(8,.str 1),(9,.str 1),(2,.str 7)]
noncomputable abbrev Io:EV.A:=.tup [.tup [.str 27,.int (.ofNat 0)],.tup [.str 28,.int (.ofNat 1)],.tup [.str 22,.int (.ofNat 2)],.tup [.str 29,.int (.ofNat 1)],.tup [.str 14,.int (.ofNat 0)],.tup [.str 16,.int (.ofNat 0)],.tup [.str 25,.int (.ofNat 0)],.tup [.str 26,.int (.ofNat 0)],.tup [.str 30,.int (.ofNat 1)],.tup [.str 31,.int (.ofNat 2)],.tup [.str 32,.int (.ofNat 1)],.tup [.str 33,.int (.ofNat 2)],.tup [.str 34,.int (.ofNat 1)],.tup [.str 35,.int (.ofNat 0)],.tup [.str 36,.int (.ofNat 0)],.tup [.str 10,.int (.ofNat 2)],.tup [.str 37,.int (.ofNat 0)]]
noncomputable abbrev Kr:EV.A:=.tup [.str 28,.str 22,.str 29,.str 14,.str 16,.str 25,.str 26,.str 34,.str 35,.str 36]
noncomputable abbrev Lg:EV.A:=.tup [.int (.ofNat 10),.int (.ofNat 11)]
noncomputable abbrev KU:EV.A:=.tup [.int (.ofNat 8),.int (.ofNat 9)]
noncomputable abbrev Gy:EV.A:=.cl [.tup [.str 38,.tup [.str 1,.int (.ofNat 0),.int (.ofNat 99)],.tup [.int (.ofNat 1),.tup [.str 8,.int (.ofNat 0)]]],.tup [.str 39,.tup [.str 1,.int (.ofNat 0),.int (.ofNat 9999)],.tup [.int (.ofNat 2),.tup [.str 8,.int (.ofNat 0)],.tup [.str 9,.int (.ofNat 0)]]],.tup [.str 7,.tup [.str 7,.int (.ofNat 0)],.tup [.int (.ofNat 3),.tup [.str 2,.int (.ofNat 0)]]],.tup [.str 14,.tup [.str 14,.tup [.str 4,.int (.ofNat 0)],.tup [.str 4,.int (.ofNat 1)]],.tup [.int (.ofNat 4)]],.tup [.str 16,.tup [.str 16,.tup [.str 4,.int (.ofNat 0)],.tup [.str 4,.int (.ofNat 1)]],.tup [.int (.ofNat 5)]],.tup [.str 25,.tup [.str 25,.tup [.str 4,.int (.ofNat 0)],.tup [.str 4,.int (.ofNat 1)]],.tup [.int (.ofNat 6)]],.tup [.str 26,.tup [.str 26,.tup [.str 4,.int (.ofNat 0)],.tup [.str 4,.int (.ofNat 1)]],.tup [.int (.ofNat 7)]],.tup [.str 34,.tup [.str 14,.tup [.str 4,.int (.ofNat 0)],.tup [.str 1,.int (.ofNat 0),.int (.ofNat 99)]],.tup [.int (.ofNat 12),.tup [.str 8,.int (.ofNat 0)]]]]
noncomputable abbrev ST:List Str:=[("this is no tree":Str),("gap":Str),("arg":Str),("pick":Str),("hole":Str),("a set is a list of 1 to 16 pieces with unlike names":Str),("num":Str),("slot":Str),("low":Str),("high":Str),("call":Str),("the pieces do not cover this tree":Str),("this is no covering of the tree":Str),("these are not up to 6 unlike parts of the tree":Str),("add":Str),("div":Str),("sub":Str),("a":Str),("":Str),("A":Str),("abcdefghi":Str),("mid":Str),("far":Str),("refused":Str),("parts":Str),("mul":Str),("less":Str),("end":Str),("put":Str),("load":Str),("skip":Str),("jump":Str),("zero":Str),("none":Str),("more":Str),("twice":Str),("about":Str),("back":Str),("one":Str),("two":Str)]
theorem Dm:ST.Nodup:=by decide +kernel
noncomputable def jV (P:Nat->List EV.A->PD->Res EV.A):List EV.A->PD->Res EV.A:=bE 3 3 (aQ (Vv (cU (UW 2) (cV 0)) (Vv (cNt (cU (UW 1) (cV 0))) (WX (cV 1) (cV 0) (cV 2)))))
noncomputable def ja (P:Nat->List EV.A->PD->Res EV.A):List EV.A->PD->Res EV.A:=bE 1 1 (aQ (Vv (cU (UW 4) (cV 0)) (Vv (cO Ws (cU cB (cV 0)) (cC (.int (.ofNat 0)))) (cU (UW 3) (cO Qc (cV 0) (cC (.int (.ofNat 0))))))))
noncomputable def lC (P:Nat->List EV.A->PD->Res EV.A):List EV.A->PD->Res EV.A:=bE 1 2 (sq (Qi (RG (tV (au (P 1) (aC (cV 0) aN)))) (aQ (cC (.bl false))) Qf) (sq (bF 1 (cO Qc (cV 0) (cC (.int (.ofNat 0))))) (sq (Qi (Qg (rY cn (cV 1))) (aQ (Vv (cO oEq (cU cB (cV 0)) (cC (.int (.ofNat 2)))) (au (P 0) (aC (cO Qc (cV 0) (cC (.int (.ofNat 1)))) (aC (cC (.int (.ofNat 0))) (aC (yq cn (cV 1)) aN)))))) Qf) (aQ (Vv (rY bG (cV 1)) (cO oEq (cU cB (cV 0)) (cO c9 (cC (.int (.ofNat 1))) (yq bG (cV 1)))))))))
noncomputable def fE (P:Nat->List EV.A->PD->Res EV.A):List EV.A->PD->Res EV.A:=bE 1 1 (sq (Qi (Qg (rY bG (cO Qc (cV 0) (cC (.int (.ofNat 0)))))) (aQ (cO qG (cV 0) (cC (.int (.ofNat 1))))) Qf) (aQ (av aN)))
noncomputable def lD (P:Nat->List EV.A->PD->Res EV.A):List EV.A->PD->Res EV.A:=bE 1 5 (sq (bF 1 (a8 (aC (av (aC (cV 0) (aC (cC (.int (.ofNat 1))) aN))) aN))) (sq (bF 2 (cC (.int (.ofNat 0)))) (sq (CW (tV (cV 1)) (sq (iU (gT [(gN 3),(gN 4)]) (cU wJ (cV 1))) (sq (xP 2 (cC (.int (.ofNat 1)))) (sq (Qi (Su (Qg (cO Ws (cV 2) (cC (.int (.ofNat 40))))) (Su (Qg (cO Ws (cV 4) (cC (.int (.ofNat 8))))) (RG (tV (au (P 2) (aC (cV 3) aN)))))) (aQ (cC (.bl false))) Qf) (QB (cM dQ (cV 1) (bV (iT (au (P 3) (aC (cV 3) aN))) 1 [4] (gN 0) tT (av (aC (cV 0) (aC (cO c9 (cV 1) (cC (.int (.ofNat 1)))) aN)))))))))) (aQ (cC (.bl true))))))
noncomputable def jf (P:Nat->List EV.A->PD->Res EV.A):List EV.A->PD->Res EV.A:=bE 1 1 (Qi (RG (tV (au (P 4) (aC (cV 0) aN)))) (iS 2 (aC (cC (.str 0)) aN)) Qf)
noncomputable def nP (P:Nat->List EV.A->PD->Res EV.A):List EV.A->PD->Res EV.A:=bE 1 3 (sq (bF 1 (a8 (aC (cV 0) aN))) (sq (iR (iT (au (P 3) (aC (cV 0) aN))) (gN 2) (QB (cM dQ (cV 1) (au (P 6) (aC (cV 2) aN))))) (aQ (cV 1))))
noncomputable def eB (P:Nat->List EV.A->PD->Res EV.A):List EV.A->PD->Res EV.A:=bE 2 5 (sq (Qi (Su (Qg (cO Y9 (cV 1) (cU cB (cV 0)))) (Qg (cO Y9 (cO Qc (cV 0) (cV 1)) (cU cB (cC Io))))) (nh 13 (cV 1)) Qf) (sq (iU (gT [(gN 2),(gN 3)]) (cO Qc (cC Io) (cO Qc (cV 0) (cV 1)))) (sq (bF 4 (cU ny (cSl (cV 0) (cO c9 (cV 1) (cC (.int (.ofNat 1)))) (cO c9 (cO c9 (cV 1) (cC (.int (.ofNat 1)))) (cV 3))))) (sq (Qi (Qg (cO oLt (cU cB (cV 4)) (cV 3))) (nh 13 (cV 1)) Qf) (aQ (av (aC (cV 2) (aC (cV 4) aN))))))))
noncomputable def lB (P:Nat->List EV.A->PD->Res EV.A):List EV.A->PD->Res EV.A:=bE 1 1 (sq (Qi (Su (RG (tV (au (P 1) (aC (cV 0) aN)))) (Qg (cO Tn (cU cB (cV 0)) (Ac P7 (cO Qc (cV 0) (cC (.int (.ofNat 0)))) (.ofNat 0))))) (aQ (cC (.bl false))) Qf) (sq (Qi (RG (tV (au (P 0) (aC (cO Qc (cV 0) (cC (.int (.ofNat 1)))) (aC (cC (.int (.ofNat 0))) (aC (cC (.int (.ofNat 1))) aN)))))) (aQ (cC (.bl false))) Qf) (aQ (Yl (cO Tn (cO Qc (cV 0) (cC (.int (.ofNat 0)))) (cC (.str 1))) (au (P 0) (aC (cO Qc (cV 0) (cC (.int (.ofNat 2)))) (aC (cC (.int (.ofNat 0))) (aC (cC (.int (.ofNat 9999))) aN))))))))
noncomputable def dS (P:Nat->List EV.A->PD->Res EV.A):List EV.A->PD->Res EV.A:=bE 2 2 (sq (Qi (Qg (cO Ws (cV 1) (cC (.int (.ofNat 3))))) (aQ (cC (.bl false))) Qf) (sq (Qi (tV (au (P 8) (aC (cV 0) aN))) (aQ (cC (.bl true))) Qf) (sq (Qi (Su (RG (tV (au (P 2) (aC (cV 0) aN)))) (Qg (cO Ei (cO Qc (cV 0) (cC (.int (.ofNat 0)))) (av (aC (cC (.str 2)) (aC (cC (.str 3)) aN)))))) (aQ (cC (.bl false))) Qf) (aQ (cU nv (bV (iT (au (P 3) (aC (cV 0) aN))) 1 [1] (gN 0) tT (au (P 9) (aC (cV 0) (aC (cO c9 (cV 1) (cC (.int (.ofNat 1)))) aN)))))))))
noncomputable def jX (P:Nat->List EV.A->PD->Res EV.A):List EV.A->PD->Res EV.A:=bE 2 4 (sq (Qi (Qg (cO oEq (cO Qc (cV 0) (cC (.int (.ofNat 0)))) (cV 1))) (aQ (a8 (aC (cV 0) aN))) Qf) (sq (bF 2 (a8 aN)) (sq (iR (iT (au (P 3) (aC (cV 0) aN))) (gN 3) (QB (cM dQ (cV 2) (au (P 10) (aC (cV 3) (aC (cV 1) aN)))))) (aQ (cV 2)))))
noncomputable def gp (P:Nat->List EV.A->PD->Res EV.A):List EV.A->PD->Res EV.A:=bE 2 3 (sq (bF 2 (bV (iL (au (P 10) (aC (cV 0) (aC (cV 1) aN)))) 1 [] (gN 0) tT (cO Qc (cV 0) (cC (.int (.ofNat 1)))))) (aQ (cO oEq (cV 2) (cU AJ (cU C6 (cU cB (cV 2)))))))
noncomputable def gO (P:Nat->List EV.A->PD->Res EV.A):List EV.A->PD->Res EV.A:=bE 1 1 (sq (Qi (Su (RG (tV (au (P 9) (aC (cV 0) (aC (cC (.int (.ofNat 1))) aN))))) (Qg (cO oEq (cO Qc (cV 0) (cC (.int (.ofNat 0)))) (cC (.str 4))))) (aQ (cC (.bl false))) Qf) (aQ (cU nv (bV (EV.VP P7) 1 [0] (gN 0) tT (au (P 11) (aC (cV 1) (aC (cV 0) aN)))))))
noncomputable def gM (P:Nat->List EV.A->PD->Res EV.A):List EV.A->PD->Res EV.A:=bE 2 2 (sq (Qi (Su (RG (tV (au (P 1) (aC (cV 0) aN)))) (Su (Qg (cO Tn (cU cB (cV 0)) (cC (.int (.ofNat 2))))) (Qg (Ad cD (cO Qc (cV 0) (cC (.int (.ofNat 0)))))))) (aQ (cC (.bl false))) Qf) (aQ (au (P 0) (aC (cO Qc (cV 0) (cC (.int (.ofNat 1)))) (aC (cC (.int (.ofNat 0))) (aC (cO wR (cU cB (au (P 10) (aC (cV 1) (aC (yq cD (cO Qc (cV 0) (cC (.int (.ofNat 0))))) aN)))) (cC (.int (.ofNat 1)))) aN))))))
noncomputable def lA (P:Nat->List EV.A->PD->Res EV.A):List EV.A->PD->Res EV.A:=bE 2 2 (aQ (Yl (au (P 0) (aC (cV 0) (aC (cC (.int (.ofNat 0))) (aC (cC (.int (.ofNat 99))) aN)))) (au (P 13) (aC (cV 0) (aC (cV 1) aN)))))
noncomputable def dG (P:Nat->List EV.A->PD->Res EV.A):List EV.A->PD->Res EV.A:=bE 2 5 (sq (bF 2 (cC (.int (.ofNat 0)))) (sq (CW (Qg (cO oLt (cV 2) (cU cB (cV 0)))) (sq (Qi (RG (tV (au (P 0) (aC (cO Qc (cV 0) (cV 2)) (aC (cC (.int (.ofNat 0))) (aC (cC (.int (.ofNat 99))) aN)))))) (aQ (cC (.bl false))) Qf) (sq (zV (iU (gT [(gN 3),(gN 4)]) (au (P 7) (aC (cV 0) (aC (cV 2) aN)))) [13] (aQ (cC (.bl false)))) (sq (Qi (Su (Qg (cO Ao (cV 3) (cC Kr))) (RG (tV (cU nv (bV (iT (cV 4)) 1 [1] (gN 0) tT (au (P 14) (aC (cV 0) (aC (cV 1) aN)))))))) (aQ (cC (.bl false))) Qf) (xP 2 (cO c9 (cC (.int (.ofNat 1))) (cU cB (cV 4)))))))) (aQ (cC (.bl true)))))
noncomputable def jU (P:Nat->List EV.A->PD->Res EV.A):List EV.A->PD->Res EV.A:=bE 1 4 (sq (Qi (Su (RG (tV (cU (UW 4) (cV 0)))) (Qg (cO Tn (cU cB (cV 0)) (cC (.int (.ofNat 3)))))) (aQ (cC (.bl false))) Qf) (sq (iU (gT [(gN 1),(gN 2),(gN 3)]) (cV 0)) (sq (Qi (Su (RG (tV (au (P 48) (aC (cV 1) aN)))) (Su (Qg (cO oEq (cV 1) (cC (.str 3)))) (RG (tV (au (P 12) (aC (cV 2) aN)))))) (aQ (cC (.bl false))) Qf) (sq (Qi (Su (RG (tV (cU (UW 4) (cV 3)))) (RG (Qg (WX (cC (.int (.ofNat 1))) (cU cB (cV 3)) (cC (.int (.ofNat 12))))))) (aQ (cC (.bl false))) Qf) (aQ (au (P 15) (aC (cV 3) (aC (cV 2) aN))))))))
noncomputable def nN (P:Nat->List EV.A->PD->Res EV.A):List EV.A->PD->Res EV.A:=bE 1 1 (sq (Qi (Su (RG (tV (cU (UW 5) (cV 0)))) (RG (Qg (WX (cC (.int (.ofNat 1))) (cU cB (cV 0)) (cC (.int (.ofNat 16))))))) (aQ (cC (.bl false))) Qf) (sq (Qi (RG (tV (cU nv (bV (iL (cV 0)) 1 [] (gN 0) tT (au (P 16) (aC (cV 0) aN)))))) (aQ (cC (.bl false))) Qf) (aQ (cO oEq (cU ya (cU C7 (bV (iL (cV 0)) 1 [] (gN 0) tT (cO Qc (cV 0) (cC (.int (.ofNat 0))))))) (cU cB (cV 0))))))
noncomputable def jY (P:Nat->List EV.A->PD->Res EV.A):List EV.A->PD->Res EV.A:=bE 1 1 (Qi (RG (tV (au (P 17) (aC (cV 0) aN)))) (iS 8 (aC (cC (.str 5)) aN)) Qf)
noncomputable def fe (P:Nat->List EV.A->PD->Res EV.A):List EV.A->PD->Res EV.A:=bE 2 2 (sq (Qi (Qg (cO oEq (cO Qc (cV 0) (cC (.int (.ofNat 0)))) (cC (.str 1)))) (aQ (Vv (cO oEq (cO Qc (cV 1) (cC (.int (.ofNat 0)))) (cC (.str 6))) (cO oLe (cO Qc (cV 1) (cC (.int (.ofNat 1)))) (cO Qc (cV 0) (cC (.int (.ofNat 2))))))) Qf) (aQ (Yl (cO oEq (cO Qc (cV 0) (cC (.int (.ofNat 0)))) (cC (.str 4))) (cO oEq (cO Qc (cV 1) (cC (.int (.ofNat 0)))) (cC (.str 2))))))
noncomputable def lE (P:Nat->List EV.A->PD->Res EV.A):List EV.A->PD->Res EV.A:=bE 3 4 (sq (bF 3 (cO Qc (cV 0) (cC (.int (.ofNat 0))))) (sq (Qi (Qg (rY P7 (cV 3))) (sq (Qi (RG (tV (au (P 19) (aC (cV 0) (aC (cV 1) aN))))) (aQ (cC (.bl false))) Qf) (sq (QB (cM kX (cO uf (cV 2) (cV 3)) (Zb (Qg (cO oEq (cV 3) (cC (.str 4)))) (cV 1) (cO Qc (cV 1) (cC (.int (.ofNat 1))))))) (aQ (cC (.bl true))))) Qf) (sq (Qi (Qg (cO Tn (cO Qc (cV 1) (cC (.int (.ofNat 0)))) (cV 3))) (aQ (cC (.bl false))) Qf) (sq (Qi (Qg (cO oEq (cV 3) (cC (.str 6)))) (aQ (cO oEq (cO Qc (cV 1) (cC (.int (.ofNat 1)))) (cO Qc (cV 0) (cC (.int (.ofNat 1)))))) Qf) (aQ (Vv (au (P 20) (aC (cO Qc (cV 0) (cC (.int (.ofNat 1)))) (aC (cO Qc (cV 1) (cC (.int (.ofNat 1)))) (aC (cV 2) aN)))) (au (P 20) (aC (cO Qc (cV 0) (cC (.int (.ofNat 2)))) (aC (cO Qc (cV 1) (cC (.int (.ofNat 2)))) (aC (cV 2) aN))))))))))
noncomputable def jT (P:Nat->List EV.A->PD->Res EV.A):List EV.A->PD->Res EV.A:=bE 2 3 (sq (bF 2 (Dp [4,1,7] (aC (a8 aN) (aC (a8 aN) (aC (a8 aN) aN))))) (sq (Qi (RG (tV (au (P 20) (aC (cO Qc (cV 0) (cC (.int (.ofNat 1)))) (aC (cV 1) (aC (cV 2) aN)))))) (aQ (cC (.PJ))) Qf) (aQ (av (aC (cU ny (cO uf (cV 2) (cC (.str 4)))) (aC (cU ny (cO uf (cV 2) (cC (.str 1)))) (aC (cU ny (cO uf (cV 2) (cC (.str 7)))) aN)))))))
noncomputable def gm (P:Nat->List EV.A->PD->Res EV.A):List EV.A->PD->Res EV.A:=bE 3 3 (sq (Qi (tV (cU (UW 2) (cV 0))) (aQ (cV 0)) Qf) (sq (Qi (Qg (cO oEq (cO Qc (cV 0) (cC (.int (.ofNat 0)))) (cC (.str 8)))) (aQ (cO y0 (cO Qc (cV 1) (cO Qc (cV 0) (cC (.int (.ofNat 1))))) (cC (.int (.ofNat 100))))) Qf) (sq (Qi (Qg (cO oEq (cO Qc (cV 0) (cC (.int (.ofNat 0)))) (cC (.str 9)))) (aQ (cO wQ (cO Qc (cV 1) (cO Qc (cV 0) (cC (.int (.ofNat 1))))) (cC (.int (.ofNat 100))))) Qf) (aQ (cO Qc (cV 2) (cO Qc (cV 0) (cC (.int (.ofNat 1)))))))))
noncomputable def jb (P:Nat->List EV.A->PD->Res EV.A):List EV.A->PD->Res EV.A:=bE 2 4 (sq (iU (gT [(gN 2),(gN 3)]) (cV 1)) (sq (Qi (Qg (cO oLe (cV 0) (cC (.int (.ofNat 9))))) (aQ (a8 (aC (cV 2) (aC (cV 0) aN)))) Qf) (aQ (a8 (aC (cV 3) (aC (cO y0 (cV 0) (cC (.int (.ofNat 100)))) (aC (cO wQ (cV 0) (cC (.int (.ofNat 100)))) aN)))))))
noncomputable def fc (P:Nat->List EV.A->PD->Res EV.A):List EV.A->PD->Res EV.A:=bE 2 4 (sq (bF 2 (au (P 23) (aC (cV 1) (aC (cC KU) aN)))) (sq (bF 3 (au (P 23) (aC (cO c9 (cV 0) (cU cB (cV 2))) (aC (cC Lg) aN)))) (aQ (av (aC (cV 3) (aC (cV 2) aN))))))
noncomputable def lF (P:Nat->List EV.A->PD->Res EV.A):List EV.A->PD->Res EV.A:=bE 2 5 (sq (Qi (Qg (cO oEq (cO Qc (cV 0) (cC (.int (.ofNat 0)))) (cC (.str 3)))) (aQ (a8 (aC (av (aC (cC (.str 3)) (aC (av aN) (aC (cO qG (cV 0) (cC (.int (.ofNat 1)))) aN)))) aN))) Qf) (sq (bF 2 (a8 aN)) (sq (iR (iL (cV 1)) (gN 3) (sq (bF 4 (au (P 21) (aC (cV 3) (aC (cV 0) aN)))) (Qi (Qg (cU rT (cV 4))) (QB (cM kX (cV 2) (av (aC (cO Qc (cV 3) (cC (.int (.ofNat 0)))) (aC (cO Qc (cV 3) (cC (.int (.ofNat 2)))) (aC (cO Qc (cV 4) (cC (.int (.ofNat 0)))) aN)))))) Qf))) (aQ (cV 2)))))
noncomputable def jd (P:Nat->List EV.A->PD->Res EV.A):List EV.A->PD->Res EV.A:=bE 3 6 (sq (bF 3 (cU cB (cV 1))) (sq (Qi (Qg (cO oEq (cV 0) (cC (.str 3)))) (sq (iU (gT [(gN 4),(gN 5)]) (au (P 24) (aC (cO Qc (cV 2) (cC (.int (.ofNat 1)))) (aC (cO Qc (cV 2) (cC (.int (.ofNat 2)))) aN)))) (bF 3 (cO c9 (cU cB (cV 4)) (cU cB (cV 5))))) Qf) (aQ (cO c9 (cV 3) (cU C8 (cV 2))))))
noncomputable def fD (P:Nat->List EV.A->PD->Res EV.A):List EV.A->PD->Res EV.A:=bE 4 10 (sq (Qi (Qg (cO oEq (cO Qc (cV 0) (cC (.int (.ofNat 0)))) (cC (.str 10)))) (aQ (av (aC (cC (.int (.ofNat 3))) (aC (av aN) aN)))) Qf) (sq (bF 4 (cC (.PJ))) (sq (iR (iL (au (P 25) (aC (cV 0) (aC (cV 1) aN)))) (gT [(gN 5),(gN 6),(gN 7)]) (sq (bF 8 (bV (iT (cV 7)) 1 [2,3] (gN 0) tT (cO Qc (cV 2) (cM yX (cV 1) (cV 0))))) (sq (Qi (tV (cU C5 (bV (iL (cV 8)) 1 [] (gN 0) tT (cU uG (cV 0))))) Zc Qf) (sq (bF 9 (au (P 26) (aC (cV 5) (aC (cV 6) (aC (bV (iL (cV 8)) 1 [] (gN 0) tT (cO Qc (cV 0) (cC (.int (.ofNat 0))))) aN))))) (Qi (Su (Qg (cU uG (cV 4))) (Qg (cO oLt (cV 9) (cO Qc (cV 4) (cC (.int (.ofNat 0))))))) (bF 4 (av (aC (cV 9) (aC (av (aC (cV 5) (aC (cU ny (bV (iL (cV 8)) 1 [] (gN 0) tT (cO Qc (cV 0) (cC (.int (.ofNat 1)))))) aN))) aN)))) Qf))))) (aQ (cV 4)))))
noncomputable def e8 (P:Nat->List EV.A->PD->Res EV.A):List EV.A->PD->Res EV.A:=bE 2 5 (sq (bF 2 (a8 aN)) (sq (bF 3 (a8 aN)) (sq (iR (yL (au (P 6) (aC (cV 0) aN))) (gN 4) (sq (QB (cM kX (cV 3) (au (P 27) (aC (cV 4) (aC (cV 1) (aC (cV 2) (aC (cV 3) aN))))))) (QB (cM kX (cV 2) (cV 4))))) (sq (Qi (Qg (cU uG (cO Qc (cV 3) (cU yc (cC (.int (.ofNat 1))))))) (iS 9 (aC (cC (.str 11)) aN)) Qf) (aQ (cO Qc (cV 3) (cU yc (cC (.int (.ofNat 1))))))))))
noncomputable def e9 (P:Nat->List EV.A->PD->Res EV.A):List EV.A->PD->Res EV.A:=bE 3 6 (sq (Qi (Su (RG (tV (au (P 1) (aC (cV 2) aN)))) (Su (Qg (cO Tn (cU cB (cV 2)) (cC (.int (.ofNat 2))))) (RG (tV (cU (UW 4) (cO Qc (cV 2) (cC (.int (.ofNat 1))))))))) (aQ (cC (.bl false))) Qf) (sq (iR (iL (au (P 25) (aC (cV 0) (aC (cV 1) aN)))) (gT [(gN 3),(gN 4),(gN 5)]) (Qi (Qg (cO oEq (cV 3) (cO Qc (cV 2) (cC (.int (.ofNat 0)))))) (aQ (au (P 30) (aC (cV 5) (aC (cV 1) (aC (cO Qc (cV 2) (cC (.int (.ofNat 1)))) aN))))) Qf)) (aQ (cC (.bl false)))))
noncomputable def eA (P:Nat->List EV.A->PD->Res EV.A):List EV.A->PD->Res EV.A:=bE 3 3 (sq (Qi (Qg (cO Tn (cU cB (cV 0)) (cU cB (cV 2)))) (aQ (cC (.bl false))) Qf) (aQ (cU nv (bV (yM (cV 0) (cV 2)) 2 [1] (gT [(gN 0),(gN 1)]) tT (au (P 29) (aC (cV 0) (aC (cV 2) (aC (cV 1) aN))))))))
noncomputable def je (P:Nat->List EV.A->PD->Res EV.A):List EV.A->PD->Res EV.A:=bE 2 2 (sq (QB (au (P 5) (aC (cV 0) aN))) (sq (QB (au (P 18) (aC (cV 1) aN))) (aQ (cO Qc (au (P 28) (aC (cV 0) (aC (cV 1) aN))) (cC (.int (.ofNat 0)))))))
noncomputable def jS (P:Nat->List EV.A->PD->Res EV.A):List EV.A->PD->Res EV.A:=bE 2 2 (sq (QB (au (P 5) (aC (cV 0) aN))) (sq (QB (au (P 18) (aC (cV 1) aN))) (aQ (cO Qc (au (P 28) (aC (cV 0) (aC (cV 1) aN))) (cC (.int (.ofNat 1)))))))
noncomputable def gn (P:Nat->List EV.A->PD->Res EV.A):List EV.A->PD->Res EV.A:=bE 3 3 (sq (QB (au (P 5) (aC (cV 0) aN))) (sq (QB (au (P 18) (aC (cV 1) aN))) (aQ (au (P 29) (aC (cV 0) (aC (cV 1) (aC (cV 2) aN)))))))
noncomputable def jc (P:Nat->List EV.A->PD->Res EV.A):List EV.A->PD->Res EV.A:=bE 4 9 (sq (EM [(gN 4),(gN 5),(gN 6)] (bV (yM (cO qG (cV 0) (cC (.int (.ofNat 1)))) (cO Qc (cV 2) (cC (.int (.ofNat 1))))) 2 [1,3] (gT [(gN 0),(gN 1)]) tT (au (P 36) (aC (cV 0) (aC (cV 2) (aC (cV 1) (aC (cV 3) aN))))))) (sq (iU (gT [(gN 7),(gN 8)]) (au (P 24) (aC (cU cB (cV 5)) (aC (cU cB (cV 6)) aN)))) (aQ (cO c9 (cO c9 (cO c9 (cO c9 (cV 4) (cV 7)) (cV 5)) (cV 8)) (cV 6)))))
noncomputable def gR (P:Nat->List EV.A->PD->Res EV.A):List EV.A->PD->Res EV.A:=bE 4 13 (sq (iU (gT [(gN 4),(gN 5)]) (cV 2)) (sq (bF 6 (cO Qc (bV (iL (cV 1)) 1 [4] (gN 0) (Qg (cO oEq (cO Qc (cV 0) (cC (.int (.ofNat 0)))) (cV 1))) (cV 0)) (cC (.int (.ofNat 0))))) (sq (iU (gT [(gN 7),(gN 8),(gN 9)]) (au (P 21) (aC (cV 6) (aC (cV 0) aN)))) (sq (bF 10 (a8 aN)) (sq (iR (yM (cV 7) (cV 5)) (gT [(gN 11),(gN 12)]) (QB (cM dQ (cV 10) (au (P 36) (aC (cV 11) (aC (cV 1) (aC (cV 12) (aC (cV 3) aN)))))))) (aQ (cO c9 (cV 10) (bV (iT (cO Qc (cV 6) (cC (.int (.ofNat 2))))) 1 [8,9] (gN 0) tT (au (P 22) (aC (cV 0) (aC (cV 1) (aC (cV 2) aN))))))))))))
noncomputable def gQ (P:Nat->List EV.A->PD->Res EV.A):List EV.A->PD->Res EV.A:=bE 4 5 (sq (Qi (Qg (cO oEq (cO Qc (cV 0) (cC (.int (.ofNat 0)))) (cC (.str 10)))) (sq (bF 4 (cO Qc (cV 3) (cO Qc (cV 0) (cC (.int (.ofNat 1)))))) (aQ (a8 (aC (cC (.int (.ofNat 15))) (aC (cO y0 (cV 4) (cC (.int (.ofNat 100)))) (aC (cO wQ (cV 4) (cC (.int (.ofNat 100)))) aN)))))) Qf) (sq (Qi (Qg (cO oEq (cO Qc (cV 0) (cC (.int (.ofNat 0)))) (cC (.str 3)))) (aQ (au (P 34) (aC (cV 0) (aC (cV 1) (aC (cV 2) (aC (cV 3) aN)))))) Qf) (aQ (au (P 35) (aC (cV 0) (aC (cV 1) (aC (cV 2) (aC (cV 3) aN))))))))
noncomputable def ly (P:Nat->List EV.A->PD->Res EV.A):List EV.A->PD->Res EV.A:=bE 2 4 (sq (iU (gT [(gN 2),(gN 3)]) (au (P 28) (aC (cV 0) (aC (cV 1) aN)))) (aQ (cO c9 (au (P 36) (aC (cV 0) (aC (cV 1) (aC (cV 3) (aC (a8 aN) aN))))) (a8 (aC (cC (.int (.ofNat 0))) aN)))))
noncomputable def Ae (P:Nat->List EV.A->PD->Res EV.A):List EV.A->PD->Res EV.A:=bE 2 2 (sq (QB (au (P 5) (aC (cV 0) aN))) (sq (QB (au (P 18) (aC (cV 1) aN))) (aQ (au (P 37) (aC (cV 0) (aC (cV 1) aN))))))
noncomputable def vo (P:Nat->List EV.A->PD->Res EV.A):List EV.A->PD->Res EV.A:=bE 3 3 (sq (QB (au (P 5) (aC (cV 0) aN))) (sq (QB (au (P 18) (aC (cV 1) aN))) (sq (Qi (RG (tV (au (P 29) (aC (cV 0) (aC (cV 1) (aC (cV 2) aN)))))) (iS 9 (aC (cC (.str 12)) aN)) Qf) (aQ (cO c9 (au (P 36) (aC (cV 0) (aC (cV 1) (aC (cV 2) (aC (a8 aN) aN))))) (a8 (aC (cC (.int (.ofNat 0))) aN)))))))
noncomputable def i7 (P:Nat->List EV.A->PD->Res EV.A):List EV.A->PD->Res EV.A:=bE 2 3 (sq (Qi (Su (RG (tV (cU (UW 5) (cV 0)))) (Qg (cO Ws (cU cB (cV 0)) (cC (.int (.ofNat 6)))))) (aQ (cC (.bl false))) Qf) (sq (Qi (RG (tV (cU nv (bV (iL (cV 0)) 1 [] (gN 0) tT (au (P 4) (aC (cV 0) aN)))))) (aQ (cC (.bl false))) Qf) (sq (bF 2 (au (P 6) (aC (cV 1) aN))) (aQ (cU nv (bV (D3 (cV 0)) 2 [0,2] (gT [(gN 0),(gN 1)]) tT (Vv (cO Za (cV 1) (cV 3)) (cO Ej (cV 1) (cO CZ (cV 2) (cV 0))))))))))
noncomputable def gS (P:Nat->List EV.A->PD->Res EV.A):List EV.A->PD->Res EV.A:=bE 2 2 (Qi (RG (tV (au (P 40) (aC (cV 0) (aC (cV 1) aN))))) (iS 10 (aC (cC (.str 13)) aN)) Qf)
noncomputable def gU (P:Nat->List EV.A->PD->Res EV.A):List EV.A->PD->Res EV.A:=bE 2 2 (sq (Qi (Qg (cO Za (cV 0) (cV 1))) (aQ (av (aC (cC (.str 10)) (aC (cO c9 (cM yX (cV 1) (cV 0)) (cC (.int (.ofNat 1)))) aN)))) Qf) (aQ (au (P 43) (aC (cV 0) (aC (cV 1) aN)))))
noncomputable def dC (P:Nat->List EV.A->PD->Res EV.A):List EV.A->PD->Res EV.A:=bE 2 3 (sq (bF 2 (au (P 3) (aC (cV 0) aN))) (sq (Qi (RG (tV (cV 2))) (aQ (cV 0)) Qf) (aQ (cO c9 (av (aC (cO Qc (cV 0) (cC (.int (.ofNat 0)))) aN)) (cU ny (bV (iT (cV 2)) 1 [1] (gN 0) tT (au (P 42) (aC (cV 0) (aC (cV 1) aN)))))))))
noncomputable def i9 (P:Nat->List EV.A->PD->Res EV.A):List EV.A->PD->Res EV.A:=bE 3 13 (sq (bF 3 (cO c9 (a8 (aC (au (P 42) (aC (cV 0) (aC (cV 2) aN))) aN)) (bV (iL (cV 2)) 1 [2] (gN 0) tT (au (P 43) (aC (cV 0) (aC (cV 1) aN)))))) (sq (bF 4 (cO c9 (a8 (aC (cC (.int (.ofNat 0))) aN)) (cO hX (a8 (aC (cC (.int (.ofNat 16))) aN)) (cU cB (cV 2))))) (sq (bF 5 (ml (iL (cV 3)) 1 [1] (gN 0) tT (au (P 28) (aC (cV 0) (aC (cV 1) aN))))) (sq (bF 6 (a8 aN)) (sq (bF 7 (cC (.int (.ofNat 0)))) (sq (iR (iL (cV 5)) (gT [(gN 8),(gN 9)]) (sq (QB (cM kX (cV 6) (cV 7))) (xP 7 (cO c9 (cV 8) (cC (.int (.ofNat 1))))))) (sq (bF 10 (a8 aN)) (sq (iR (qZ (cV 3) (cV 5) (cV 4)) (gT [(gN 11),(gT [(gN 8),(gN 9)]),(gN 12)]) (sq (QB (cM dQ (cV 10) (au (P 36) (aC (cV 11) (aC (cV 1) (aC (cV 9) (aC (cV 6) aN))))))) (QB (cM kX (cV 10) (cV 12))))) (aQ (cV 10))))))))))
noncomputable def jW (P:Nat->List EV.A->PD->Res EV.A):List EV.A->PD->Res EV.A:=bE 3 3 (sq (QB (au (P 5) (aC (cV 0) aN))) (sq (QB (au (P 18) (aC (cV 1) aN))) (sq (QB (au (P 41) (aC (cV 2) (aC (cV 0) aN)))) (aQ (au (P 44) (aC (cV 0) (aC (cV 1) (aC (cV 2) aN))))))))
noncomputable def vn (P:Nat->List EV.A->PD->Res EV.A):List EV.A->PD->Res EV.A:=bE 3 3 (sq (QB (au (P 5) (aC (cV 0) aN))) (sq (QB (au (P 18) (aC (cV 1) aN))) (sq (QB (au (P 41) (aC (a8 (aC (cV 2) aN)) (aC (cV 0) aN)))) (aQ (cO wR (cU cB (au (P 37) (aC (cV 0) (aC (cV 1) aN)))) (cU cB (au (P 44) (aC (cV 0) (aC (cV 1) (aC (a8 (aC (cV 2) aN)) aN))))))))))
noncomputable def i8 (P:Nat->List EV.A->PD->Res EV.A):List EV.A->PD->Res EV.A:=bE 2 7 (sq (QB (au (P 5) (aC (cV 0) aN))) (sq (QB (au (P 18) (aC (cV 1) aN))) (sq (bF 2 (cU cB (au (P 37) (aC (cV 0) (aC (cV 1) aN))))) (sq (bF 3 (cC (.PJ))) (sq (bF 4 (cC (.int (.ofNat 0)))) (sq (iR (iL (au (P 6) (aC (cV 0) aN))) (gN 5) (sq (zV (bF 6 (cO wR (cV 2) (cU cB (au (P 44) (aC (cV 0) (aC (cV 1) (aC (a8 (aC (cV 5) aN)) aN))))))) [9] Zc) (Qi (Qg (cO Ws (cV 6) (cV 4))) (EL [gN 3,gN 4] (aC (cV 5) (aC (cV 6) aN))) Qf))) (aQ (cV 3))))))))
noncomputable def nms:List Nat:=[1,2,3,4,6,7,8,9,10,14,15,16,17,21,22,23,24,25,26,27,28,29,30,31,32,33,34,35,36,37,38,39]
noncomputable def lR (as:List EV.A) (S:PD):Res EV.A:=match as with
 | [.str n]=>bA (some (cL n nms)) S
 | _=>.bad
noncomputable def cv (as:List EV.A) (S:PD):Res EV.A:=match as with
 | [.Q0,.ref i,.ref j]=>match look i S.cs with
  | some .RB=>match Ug S j with
   | some (x::xs)=>match few 900 (x::xs) with
    | true=>.ok .any S
    | false=>.bad
   | _=>.bad
  | _=>.bad
 | _=>.bad
noncomputable def dsp (P:Nat->List EV.A->PD->Res EV.A) (f:Nat):List EV.A->PD->Res EV.A:=match f with
 | 0=>jV P
 | 1=>ja P
 | 2=>lC P
 | 3=>fE P
 | 4=>lD P
 | 5=>jf P
 | 6=>nP P
 | 7=>eB P
 | 8=>lB P
 | 9=>dS P
 | 10=>jX P
 | 11=>gp P
 | 12=>gO P
 | 13=>gM P
 | 14=>lA P
 | 15=>dG P
 | 16=>jU P
 | 17=>nN P
 | 18=>jY P
 | 19=>fe P
 | 20=>lE P
 | 21=>jT P
 | 22=>gm P
 | 23=>jb P
 | 24=>fc P
 | 25=>lF P
 | 26=>jd P
 | 27=>fD P
 | 28=>e8 P
 | 29=>e9 P
 | 30=>eA P
 | 31=>je P
 | 32=>jS P
 | 33=>gn P
 | 34=>jc P
 | 35=>gR P
 | 36=>gQ P
 | 37=>ly P
 | 38=>Ae P
 | 39=>vo P
 | 40=>i7 P
 | 41=>gS P
 | 42=>gU P
 | 43=>dC P
 | 44=>i9 P
 | 45=>jW P
 | 46=>vn P
 | 47=>i8 P
 | 48=>lR
 | 49=>cv
 | _=>λ_ _=>.bad
noncomputable def cN:Nat->Nat->List EV.A->PD->Res EV.A
 | 0,_=>λ_ _=>.bad
 | n+1,f=>dsp (cN n) f
section
variable {P:Program} {w:World} {K:W.Frag} {mg:Str->Option Value} {base:Heap} {n:Nat}
noncomputable def E9 (T:Txt P w K mg):Nat->Addr
 | 0=>T.GI
 | 1=>T.IS
 | 2=>T.Gc
 | 3=>T.IP
 | 4=>T.IQ
 | 5=>T.HJ
 | 6=>T.JO
 | 7=>T.HI
 | 8=>T.Gi
 | 9=>T.F4
 | 10=>T.F8
 | 11=>T.IR
 | 12=>T.Jt
 | 13=>T.Hf
 | 14=>T.IM
 | _=>0
noncomputable abbrev gx (T:Txt P w K mg):Gx:=⟨K,ST,Dm,E9 T,λ_=>0⟩
theorem fz {T:Txt P w K mg}:jN (gx T) TL cn:=rQ (show l9 ST TL cn=true by decide +kernel) (show ka cn ST.length=true by decide +kernel)
theorem cQ {T:Txt P w K mg}:jN (gx T) TB bG:=rQ (show l9 ST TB bG=true by decide +kernel) (show ka bG ST.length=true by decide +kernel)
theorem fw {T:Txt P w K mg}:jN (gx T) TM P7:=rQ (show l9 ST TM P7=true by decide +kernel) (show ka P7 ST.length=true by decide +kernel)
theorem fV {T:Txt P w K mg}:jN (gx T) TF cD:=rQ (show l9 ST TF cD=true by decide +kernel) (show ka cD ST.length=true by decide +kernel)
theorem jG {T:Txt P w K mg}:Sd (gx T) (P7.map (·.1)) ["hole","gap","slot"]:=.cons rfl (.cons rfl (.cons rfl .nil))
theorem wc (T:Txt P w K mg):∀ c,cL c [13]=true->W.exmOne K (.ref ((gx T).cls c)) (.ref T.Hf)=some true:=λc h=>by
 have e:13=c:=by unfold cL at h;cases q:Nat.beq 13 c with | true=>exact ML q | false=>rw [q] at h;cases h
 subst e;exact T.IT
theorem pQ (T:Txt P w K mg):∀ c,cL c [9]=true->W.exmOne K (.ref ((gx T).cls c)) (.ref T.F4)=some true:=λc h=>by
 have e:9=c:=by unfold cL at h;cases q:Nat.beq 9 c with | true=>exact ML q | false=>rw [q] at h;cases h
 subst e;exact T.GZ
structure Al (base:Heap) (T:Txt P w K mg) (n:Nat):Prop where
 JE:PB P w K mg base (PK P w) (3+n) T.Ge.a T.Ge.d ["thing","low","high"] (PZ (gx T) (cN n 0))
 J8:PB P w K mg base (PK P w) (3+n) T.Gj.a T.Gj.d ["thing"] (PZ (gx T) (cN n 1))
 Lu:PB P w K mg base (PK P w) (3+n) T.IF.a T.IF.d ["thing"] (PZ (gx T) (cN n 2))
 Jc:PB P w K mg base (PK P w) (3+n) T.F5.a T.F5.d ["tree"] (PZ (gx T) (cN n 3))
 Lv:PB P w K mg base (PK P w) (3+n) T.IG.a T.IG.d ["thing"] (PZ (gx T) (cN n 4))
 II:PB P w K mg base (PK P w) (3+n) T.F3.a T.F3.d ["tree"] (PZ (gx T) (cN n 5))
 KQ:PB P w K mg base (PK P w) (3+n) T.GX.a T.GX.d ["tree"] (PZ (gx T) (cN n 6))
 K5:PB P w K mg base (PK P w) (3+n) T.GF.a T.GF.d ["cells","place"] (PZ (gx T) (cN n 7))
 LZ:PB P w K mg base (PK P w) (3+n) T.Jz.a T.Jz.d ["thing"] (PZ (gx T) (cN n 8))
 J7:PB P w K mg base (PK P w) (3+n) T.Gg.a T.Gg.d ["thing","deep"] (PZ (gx T) (cN n 9))
 KL:PB P w K mg base (PK P w) (3+n) T.GJ.a T.GJ.d ["pattern","kind"] (PZ (gx T) (cN n 10))
 Ls:PB P w K mg base (PK P w) (3+n) T.Hi.a T.Hi.d ["pattern","kind"] (PZ (gx T) (cN n 11))
 Ly:PB P w K mg base (PK P w) (3+n) T.Ig.a T.Ig.d ["thing"] (PZ (gx T) (cN n 12))
 Lx:PB P w K mg base (PK P w) (3+n) T.Ie.a T.Ie.d ["thing","pattern"] (PZ (gx T) (cN n 13))
 LY:PB P w K mg base (PK P w) (3+n) T.Jy.a T.Jy.d ["thing","pattern"] (PZ (gx T) (cN n 14))
 KJ:PB P w K mg base (PK P w) (3+n) T.Gq.a T.Gq.d ["cells","pattern"] (PZ (gx T) (cN n 15))
 LU:PB P w K mg base (PK P w) (3+n) T.Jh.a T.Jh.d ["thing"] (PZ (gx T) (cN n 16))
 L6:PB P w K mg base (PK P w) (3+n) T.JM.a T.JM.d ["thing"] (PZ (gx T) (cN n 17))
 Jb:PB P w K mg base (PK P w) (3+n) T.F6.a T.F6.d ["some"] (PZ (gx T) (cN n 18))
 Le:PB P w K mg base (PK P w) (3+n) T.GP.a T.GP.d ["mark","tree"] (PZ (gx T) (cN n 19))
 K6:PB P w K mg base (PK P w) (3+n) T.Hd.a T.Hd.d ["pattern","tree","found"] (PZ (gx T) (cN n 20))
 Lj:PB P w K mg base (PK P w) (3+n) T.HH.a T.HH.d ["piece","tree"] (PZ (gx T) (cN n 21))
 Lq:PB P w K mg base (PK P w) (3+n) T.Hh.a T.Hh.d ["cell","nums","ks"] (PZ (gx T) (cN n 22))
 Lb:PB P w K mg base (PK P w) (3+n) T.GW.a T.GW.d ["many","kinds"] (PZ (gx T) (cN n 23))
 Kw:PB P w K mg base (PK P w) (3+n) T.Gk.a T.Gk.d ["second","third"] (PZ (gx T) (cN n 24))
 Lw:PB P w K mg base (PK P w) (3+n) T.IH.a T.IH.d ["tree","some"] (PZ (gx T) (cN n 25))
 LN:PB P w K mg base (PK P w) (3+n) T.IL.a T.IL.d ["name","cells","lengths"] (PZ (gx T) (cN n 26))
 Li:PB P w K mg base (PK P w) (3+n) T.GV.a T.GV.d ["tree","some","done","bests"] (PZ (gx T) (cN n 27))
 Js:PB P w K mg base (PK P w) (3+n) T.F7.a T.F7.d ["tree","some"] (PZ (gx T) (cN n 28))
 JN:PB P w K mg base (PK P w) (3+n) T.Gd.a T.Gd.d ["tree","some","thing"] (PZ (gx T) (cN n 29))
 K3:PB P w K mg base (PK P w) (3+n) T.GE.a T.GE.d ["trees","some","things"] (PZ (gx T) (cN n 30))
 LO:PB P w K mg base (PK P w) (3+n) T.Hj.a T.Hj.d ["tree","some"] (PZ (gx T) (cN n 31))
 LS:PB P w K mg base (PK P w) (3+n) T.Ik.a T.Ik.d ["tree","some"] (PZ (gx T) (cN n 32))
 Lr:PB P w K mg base (PK P w) (3+n) T.GH.a T.GH.d ["tree","some","thing"] (PZ (gx T) (cN n 33))
 LM:PB P w K mg base (PK P w) (3+n) T.IK.a T.IK.d ["tree","some","cover","places"] (PZ (gx T) (cN n 34))
 Lz:PB P w K mg base (PK P w) (3+n) T.Ih.a T.Ih.d ["tree","some","cover","places"] (PZ (gx T) (cN n 35))
 JA:PB P w K mg base (PK P w) (3+n) T.F9.a T.F9.d ["tree","some","cover","places"] (PZ (gx T) (cN n 36))
 K4:PB P w K mg base (PK P w) (3+n) T.Hc.a T.Hc.d ["tree","some"] (PZ (gx T) (cN n 37))
 Mp:PB P w K mg base (PK P w) (3+n) T.KI.a T.KI.d ["tree","some"] (PZ (gx T) (cN n 38))
 Mo:PB P w K mg base (PK P w) (3+n) T.Kc.a T.Kc.d ["tree","some","thing"] (PZ (gx T) (cN n 39))
 LK:PB P w K mg base (PK P w) (3+n) T.IJ.a T.IJ.d ["thing","tree"] (PZ (gx T) (cN n 40))
 KP:PB P w K mg base (PK P w) (3+n) T.GK.a T.GK.d ["parts","tree"] (PZ (gx T) (cN n 41))
 KR:PB P w K mg base (PK P w) (3+n) T.GL.a T.GL.d ["tree","parts"] (PZ (gx T) (cN n 42))
 JP:PB P w K mg base (PK P w) (3+n) T.Gb.a T.Gb.d ["tree","parts"] (PZ (gx T) (cN n 43))
 Kx:PB P w K mg base (PK P w) (3+n) T.Gv.a T.Gv.d ["tree","some","parts"] (PZ (gx T) (cN n 44))
 LV:PB P w K mg base (PK P w) (3+n) T.Il.a T.Il.d ["tree","some","parts"] (PZ (gx T) (cN n 45))
 Mn:PB P w K mg base (PK P w) (3+n) T.Kb.a T.Kb.d ["tree","some","part"] (PZ (gx T) (cN n 46))
 LL:PB P w K mg base (PK P w) (3+n) T.Hg.a T.Hg.d ["tree","some"] (PZ (gx T) (cN n 47))
 L5:PB P w K mg base (PK P w) (3+n) T.Jo.a T.Jo.d ["thing"] (PZ (gx T) (cN n 48))
 Mi:PB P w K mg base (PK P w) (3+n) T.F1.a T.F1.d ["_law_script","_law_town","_law_some"] (PZ (gx T) (cN n 49))
theorem pL {T:Txt P w K mg} (A:Al base T n):PB P w K mg base (PK P w) (3+n+1) T.Ge.a T.Ge.d ["thing","low","high"] (PZ (gx T) (jV (cN n))):=by refine a7 (g:=gx T) T.Ge.f Sa λcdv A' outer s H E hr=>?_;have nd:=Sa.nd;exact (ao (aD (d8 (fP (t:=2) (by decide) (by decide) rfl T.F2 rfl aB (qv 0) (cx (v:=.ty "int") rfl T.L8 uX rfl)) (d8 (CN (fP (t:=1) (by decide) (by decide) rfl T.F2 rfl aB (qv 0) (cx (v:=.ty "bool") rfl T.L7 yp rfl))) (dI (FD (qv 1) (qv 0) (qv 2)))))))
theorem nV {T:Txt P w K mg} (A:Al base T n):PB P w K mg base (PK P w) (3+n+1) T.Gj.a T.Gj.d ["thing"] (PZ (gx T) (ja (cN n))):=by refine a7 (g:=gx T) T.Gj.f RQ λcdv A' outer s H E hr=>?_;have nd:=RQ.nd;exact (ao (aD (d8 (fP (t:=4) (by decide) (by decide) rfl T.F2 rfl aB (qv 0) (cx (v:=.ty "tuple") rfl T.Jv cq rfl)) (d8 (dJ ki lP (b0 aw bw rfl T.GQ bb (qv 0)) af (aI _)) (dI (fP (t:=3) (by decide) (by decide) rfl T.F2 rfl aB (aY ax aJ (qv 0) af (λ_ _=>rfl)) (cx (v:=.ty "str") rfl T.L9 uZ rfl)))))))
theorem tP {T:Txt P w K mg} (A:Al base T n):PB P w K mg base (PK P w) (3+n+1) T.IF.a T.IF.d ["thing"] (PZ (gx T) (lC (cN n))):=by
 refine a7 (g:=gx T) T.IF.f SH λcdv A' outer s H E hr=>?_;have nd:=SH.nd;exact (aH (aU (bx (cG rfl (aj A.J8 hr rfl T.Gj.m T.Gj.f.kp T.Gj.b (Passes.s aA) (aa (qv 0) ae)) (λ_=>rfl))) (ao (aD bX)) br)
 (aH (bg (i:=1) nd rfl (Or.inl rfl) (aY ax aJ (qv 0) af (λ_ _=>rfl)))
 (aH (aU (qC fz rfl T.HF (qv 1) (aW (v:=.ref T.Je) rfl T.HD rfl) (by with_unfolding_all rfl)) (ao (aD (d8 (dJ ((bJ hr).or (bD hr)) cj (b0 aw bw rfl T.GQ bb (qv 0)) af (aI _)) (dI (aj A.JE hr rfl T.Ge.m T.Ge.f.kp T.Ge.b (Passes.s aA) (aa (aY ax aJ (qv 0) af (λ_ _=>rfl)) (aa af (aa (xw fz rfl T.HF (aW (v:=.ref T.Je) rfl T.HD rfl) (qv 1) (λ_ _=>rfl)) ae)))))))) br)
 (ao (aD (d8 (Eu cQ rfl T.Gu (qv 1) (aW (v:=.ref T.GY) rfl T.Gs rfl) (by with_unfolding_all rfl)) (dI (dJ ((bJ hr).or (bD hr)) cj (b0 aw bw rfl T.GQ bb (qv 0)) (bU (P0.or (PU.or bq)) bI af (xw cQ rfl T.Gu (aW (v:=.ref T.GY) rfl T.Gs rfl) (qv 1) (λ_ _=>rfl))) (aI _)))))))))
theorem j3 {T:Txt P w K mg} (A:Al base T n):PB P w K mg base (PK P w) (3+n+1) T.F5.a T.F5.d ["tree"] (PZ (gx T) (fE (cN n))):=by
 refine a7 (g:=gx T) T.F5.f Q3 λcdv A' outer s H E hr=>?_;have nd:=Q3.nd;exact (aH (aU (qC cQ rfl T.Gu (aY ax aJ (qv 0) af (λ_ _=>rfl)) (aW (v:=.ref T.GY) rfl T.Gs rfl) (by with_unfolding_all rfl)) (ao (aD (kq rfl (qv 0) af))) br)
 (ao (aD (ah ae))))
theorem tQ {T:Txt P w K mg} (A:Al base T n):PB P w K mg base (PK P w) (3+n+1) T.IG.a T.IG.d ["thing"] (PZ (gx T) (lD (cN n))):=by
 refine a7 (g:=gx T) T.IG.f SI λcdv A' outer s H E hr=>?_;have nd:=SI.nd;exact (aH (bg (i:=1) nd rfl (Or.inl rfl) (aL (aa (ah (aa (qv 0) (aa af ae))) ae)))
 (aH (bg (i:=2) nd rfl (Or.inl rfl) af)
 (aH (Ax bR (cG rfl (qv 1) (λ_=>rfl)) (aH (fj (FF F.slot_list_pop F.type_list_pop B5 Cb xm rfl (qv 1)) (dR rfl rfl (aG (a6 (i:=3) nd rfl (Or.inl rfl)) (aG (a6 (i:=4) nd rfl (Or.inr rfl)) bN))))
 (aH (xu (i:=2) nd rfl (Or.inl rfl) af)
 (aH (aU (PW.pt (dM (aT ki lP (qv 2) (cF (v:=.int 40) rfl T.Jk ⟨_,rfl⟩ (λ_ _=>R.int _)) (aI _)) (dM (aT ki lP (qv 4) (cF (v:=.int 8) rfl T.Jw ⟨_,rfl⟩ (λ_ _=>R.int _)) (aI _)) (bT (bx (cG rfl (aj A.Lu hr rfl T.IF.m T.IF.f.kp T.IF.b (Passes.s aA) (aa (qv 3) ae)) (λ_=>rfl))))))) (ao (aD bX)) br)
 (ao (bO (cS ME MG aZ bZ rfl (qv 1) (bP (own:=["within"]) (fr:=[4]) (N':=["within","deep"]) (kZ rfl (aj A.Jc hr rfl T.F5.m T.F5.f.kp T.F5.b (Passes.s aA) (aa (qv 3) ae))) rfl (by show bj ["thing","waiting","parts","part","deep"] (λx=>(ag iW).names.lookup x) _ _ _ _=true;decide +kernel) rfl (λ_ _ _ _ _=>(a6 (i:=0) (by show List.Nodup [("within":Str),("deep":Str)];decide +kernel) rfl (Or.inl rfl))) (λ_ _ _ _ _=>dD) (λ_ _ _ _ _=>(ah (aa (qv 0) (aa (bU (P0.or (PU.or bq)) bI (qv 1) af) ae))))))))))))
 (ao (aD bX)))))
theorem n0 {T:Txt P w K mg} (A:Al base T n):PB P w K mg base (PK P w) (3+n+1) T.F3.a T.F3.d ["tree"] (PZ (gx T) (jf (cN n))):=by refine a7 (g:=gx T) T.F3.f RS λcdv A' outer s H E hr=>?_;have nd:=RS.nd;exact (ao (aU (bx (cG rfl (aj A.Lv hr rfl T.IG.m T.IG.f.kp T.IG.b (Passes.s aA) (aa (qv 0) ae)) (λ_=>rfl))) (ao (ip MV rfl MV T.Ko gJ rfl T.JZ rfl (aa qs ae))) br))
theorem v8 {T:Txt P w K mg} (A:Al base T n):PB P w K mg base (PK P w) (3+n+1) T.GX.a T.GX.d ["tree"] (PZ (gx T) (nP (cN n))):=by
 refine a7 (g:=gx T) T.GX.f To λcdv A' outer s H E hr=>?_;have nd:=To.nd;exact (aH (bg (i:=1) nd rfl (Or.inl rfl) (aL (aa (qv 0) ae)))
 (aH (fh bR rfl (kZ rfl (aj A.Jc hr rfl T.F5.m T.F5.f.kp T.F5.b (Passes.s aA) (aa (qv 0) ae))) (a6 (i:=2) nd rfl (Or.inl rfl)) (ao (bO (cS ME MG aZ bZ rfl (qv 1) (aj A.KQ hr rfl T.GX.m T.GX.f.kp T.GX.b (Passes.s aA) (aa (qv 2) ae))))))
 (ao (aD (qv 1)))))
theorem iF {T:Txt P w K mg} (A:Al base T n):PB P w K mg base (PK P w) (3+n+1) T.GF.a T.GF.d ["cells","place"] (PZ (gx T) (eB (cN n))):=by
 refine a7 (g:=gx T) T.GF.f QG λcdv A' outer s H E hr=>?_;have nd:=QG.nd;exact (aH (aU (PW.pt (dM (aT wW Aq (qv 1) (b0 aw bw rfl T.GQ bb (qv 0)) (aI _)) (bT (aT wW Aq (aY ax aJ (qv 0) (qv 1) (λ_ _=>rfl)) (b0 aw bw rfl T.GQ bb (cF (v:=.ref T.Jd) rfl T.HC rfl (nK T.Io (by rfl) (by rfl)))) (aI _))))) (ao (oW T.LA (fN (k:=1) T) (nE T) (hr.mono (by omega)) gJ rfl T.JQ rfl (qv 1))) br)
 (aH (fj (aY ax aJ (cF (v:=.ref T.Jd) rfl T.HC rfl (nK T.Io (by rfl) (by rfl))) (aY ax aJ (qv 0) (qv 1) (λ_ _=>rfl)) (λ_ _=>rfl)) (dR rfl rfl (aG (a6 (i:=2) nd rfl (Or.inl rfl)) (aG (a6 (i:=3) nd rfl (Or.inl rfl)) bN))))
 (aH (bg (i:=4) nd rfl (Or.inl rfl) (iN bS gC rfl T.Jv cq (CL rfl (qv 0) (bU (P0.or (PU.or bq)) bI (qv 1) af) (bU (P0.or (PU.or bq)) bI (bU (P0.or (PU.or bq)) bI (qv 1) af) (qv 3)))))
 (aH (aU (aT lQ oN (b0 aw bw rfl T.GQ bb (qv 4)) (qv 3) (aI _)) (ao (oW T.LA (fN (k:=1) T) (nE T) (hr.mono (by omega)) gJ rfl T.JQ rfl (qv 1))) br)
 (ao (aD (ah (aa (qv 2) (aa (qv 4) ae)))))))))
theorem tO {T:Txt P w K mg} (A:Al base T n):PB P w K mg base (PK P w) (3+n+1) T.Jz.a T.Jz.d ["thing"] (PZ (gx T) (lB (cN n))):=by
 refine a7 (g:=gx T) T.Jz.f SJ λcdv A' outer s H E hr=>?_;have nd:=SJ.nd;exact (aH (aU (PW.pt (dM (bx (cG rfl (aj A.J8 hr rfl T.Gj.m T.Gj.f.kp T.Gj.b (Passes.s aA) (aa (qv 0) ae)) (λ_=>rfl))) (bT (aT ((cf hr).or (cg hr)) cX (b0 aw bw rfl T.GQ bb (qv 0)) (CD fw AN rfl T.HE (aW (v:=.ref T.HB) rfl T.GU rfl) (aY ax aJ (qv 0) af (λ_ _=>rfl)) ⟨rfl,rfl,rfl,rfl⟩) (aI _))))) (ao (aD bX)) br)
 (aH (aU (bx (cG rfl (aj A.JE hr rfl T.Ge.m T.Ge.f.kp T.Ge.b (Passes.s aA) (aa (aY ax aJ (qv 0) af (λ_ _=>rfl)) (aa af (aa af ae)))) (λ_=>rfl))) (ao (aD bX)) br)
 (ao (aD (xC (dJ ((cf hr).or (cg hr)) cX (aY ax aJ (qv 0) af (λ_ _=>rfl)) qs (aI _)) (dI (aj A.JE hr rfl T.Ge.m T.Ge.f.kp T.Ge.b (Passes.s aA) (aa (aY ax aJ (qv 0) af (λ_ _=>rfl)) (aa af (aa (cF (v:=.int 9999) rfl T.JF ⟨_,rfl⟩ (λ_ _=>R.int _)) ae))))))))))
theorem gW {T:Txt P w K mg} (A:Al base T n):PB P w K mg base (PK P w) (3+n+1) T.Gg.a T.Gg.d ["thing","deep"] (PZ (gx T) (dS (cN n))):=by
 refine a7 (g:=gx T) T.Gg.f QD λcdv A' outer s H E hr=>?_;have nd:=QD.nd;exact (aH (aU (aT ki lP (qv 1) (cF (v:=.int 3) rfl T.GN ⟨_,rfl⟩ (λ_ _=>R.int _)) (aI _)) (ao (aD bX)) br)
 (aH (aU (cG rfl (aj A.LZ hr rfl T.Jz.m T.Jz.f.kp T.Jz.b (Passes.s aA) (aa (qv 0) ae)) (λ_=>rfl)) (ao (aD bX)) br)
 (aH (aU (PW.pt (dM (bx (cG rfl (aj A.Lu hr rfl T.IF.m T.IF.f.kp T.IF.b (Passes.s aA) (aa (qv 0) ae)) (λ_=>rfl))) (bT (aT uh B7 (aY ax aJ (qv 0) af (λ_ _=>rfl)) (ah (aa qs (aa qs ae))) (by with_unfolding_all rfl))))) (ao (aD bX)) br)
 (ao (aD (b0 (dk rfl) gB rfl T.KZ fB (bP (own:=["within"]) (fr:=[1]) (N':=["within","deep"]) (kZ rfl (aj A.Jc hr rfl T.F5.m T.F5.f.kp T.F5.b (Passes.s aA) (aa (qv 0) ae))) rfl (by show bj ["thing","deep"] (λx=>(ag cY).names.lookup x) _ _ _ _=true;decide +kernel) rfl (λ_ _ _ _ _=>(a6 (i:=0) (by show List.Nodup [("within":Str),("deep":Str)];decide +kernel) rfl (Or.inl rfl))) (λ_ _ _ _ _=>dD) (λ_ _ _ _ _=>(aj A.J7 hr rfl T.Gg.m T.Gg.f.kp T.Gg.b bY (aa (qv 0) (aa (bU (P0.or (PU.or bq)) bI (qv 1) af) ae)))))))))))
theorem pN {T:Txt P w K mg} (A:Al base T n):PB P w K mg base (PK P w) (3+n+1) T.GJ.a T.GJ.d ["pattern","kind"] (PZ (gx T) (jX (cN n))):=by
 refine a7 (g:=gx T) T.GJ.f Sb λcdv A' outer s H E hr=>?_;have nd:=Sb.nd;exact (aH (aU (aT ((bJ hr).or (bD hr)) cj (aY ax aJ (qv 0) af (λ_ _=>rfl)) (qv 1) (aI _)) (ao (aD (aL (aa (qv 0) ae)))) br)
 (aH (bg (i:=2) nd rfl (Or.inl rfl) (aL ae))
 (aH (fh bR rfl (kZ rfl (aj A.Jc hr rfl T.F5.m T.F5.f.kp T.F5.b (Passes.s aA) (aa (qv 0) ae))) (a6 (i:=3) nd rfl (Or.inl rfl)) (ao (bO (cS ME MG aZ bZ rfl (qv 2) (aj A.KL hr rfl T.GJ.m T.GJ.f.kp T.GJ.b (Passes.s aA) (aa (qv 3) (aa (qv 1) ae)))))))
 (ao (aD (qv 2))))))
theorem kW {T:Txt P w K mg} (A:Al base T n):PB P w K mg base (PK P w) (3+n+1) T.Hi.a T.Hi.d ["pattern","kind"] (PZ (gx T) (gp (cN n))):=by
 refine a7 (g:=gx T) T.Hi.f Rg λcdv A' outer s H E hr=>?_;have nd:=Rg.nd;exact (aH (lU (i:=2) (own:=["mark"]) (fr:=[]) (N':=["mark"]) (gF rfl (aj A.KL hr rfl T.GJ.m T.GJ.f.kp T.GJ.b (Passes.s aA) (aa (qv 0) (aa (qv 1) ae)))) rfl (by show bj ["pattern","kind","numbers"] (λx=>(ag d9).names.lookup x) _ _ _ _=true;decide +kernel) rfl (λ_ _ _ _ _=>(a6 (i:=0) (by show List.Nodup [("mark":Str)];decide +kernel) rfl (Or.inl rfl))) (λ_ _ _ _ _=>dD) (λ_ _ _ _ _=>(aY ax aJ (qv 0) af (λ_ _=>rfl))) nd rfl rfl rfl)
 (ao (aD (dJ ((bJ hr).or (bD hr)) cj (qv 2) (iN (kR rfl) zd rfl T.Kz eQ (iN vk Cc rfl T.Kt uY (b0 aw bw rfl T.GQ bb (qv 2)))) (aI _)))))
theorem mw {T:Txt P w K mg} (A:Al base T n):PB P w K mg base (PK P w) (3+n+1) T.Ig.a T.Ig.d ["thing"] (PZ (gx T) (gO (cN n))):=by
 refine a7 (g:=gx T) T.Ig.f Rt λcdv A' outer s H E hr=>?_;have nd:=Rt.nd;exact (aH (aU (PW.pt (dM (bx (cG rfl (aj A.J7 hr rfl T.Gg.m T.Gg.f.kp T.Gg.b (Passes.s aA) (aa (qv 0) (aa af ae))) (λ_=>rfl))) (bT (aT ((bJ hr).or (bD hr)) cj (aY ax aJ (qv 0) af (λ_ _=>rfl)) qs (aI _))))) (ao (aD bX)) br)
 (ao (aD (b0 (dk rfl) gB rfl T.KZ fB (bP (own:=["kind"]) (fr:=[0]) (N':=["kind","thing"]) (CH T.Ky jG (aW (v:=.ref T.HB) rfl T.GU rfl)) rfl (by show bj ["thing"] (λx=>(ag eY).names.lookup x) _ _ _ _=true;decide +kernel) rfl (λ_ _ _ _ _=>(a6 (i:=0) (by show List.Nodup [("kind":Str),("thing":Str)];decide +kernel) rfl (Or.inl rfl))) (λ_ _ _ _ _=>dD) (λ_ _ _ _ _=>(aj A.Ls hr rfl T.Hi.m T.Hi.f.kp T.Hi.b bY (aa (qv 1) (aa (qv 0) ae)))))))))
theorem mr {T:Txt P w K mg} (A:Al base T n):PB P w K mg base (PK P w) (3+n+1) T.Ie.a T.Ie.d ["thing","pattern"] (PZ (gx T) (gM (cN n))):=by
 refine a7 (g:=gx T) T.Ie.f Ru λcdv A' outer s H E hr=>?_;have nd:=Ru.nd;exact (aH (aU (PW.pt (dM (bx (cG rfl (aj A.J8 hr rfl T.Gj.m T.Gj.f.kp T.Gj.b (Passes.s aA) (aa (qv 0) ae)) (λ_=>rfl))) (dM (aT ((cf hr).or (cg hr)) cX (b0 aw bw rfl T.GQ bb (qv 0)) af (aI _)) (bT (zK fV rfl T.Ij (aY ax aJ (qv 0) af (λ_ _=>rfl)) (aW (v:=.ref T.Jp) rfl T.Ii rfl) (by with_unfolding_all rfl)))))) (ao (aD bX)) br)
 (ao (aD (aj A.JE hr rfl T.Ge.m T.Ge.f.kp T.Ge.b (Passes.s aA) (aa (aY ax aJ (qv 0) af (λ_ _=>rfl)) (aa af (aa (bU mQ mM (b0 aw bw rfl T.GQ bb (aj A.KL hr rfl T.GJ.m T.GJ.f.kp T.GJ.b (Passes.s aA) (aa (qv 1) (aa (xw fV rfl T.Ij (aW (v:=.ref T.Jp) rfl T.Ii rfl) (aY ax aJ (qv 0) af (λ_ _=>rfl)) (λ_ _=>rfl)) ae)))) af) ae)))))))
theorem tN {T:Txt P w K mg} (A:Al base T n):PB P w K mg base (PK P w) (3+n+1) T.Jy.a T.Jy.d ["thing","pattern"] (PZ (gx T) (lA (cN n))):=by refine a7 (g:=gx T) T.Jy.f SK λcdv A' outer s H E hr=>?_;have nd:=SK.nd;exact (ao (aD (xC (aj A.JE hr rfl T.Ge.m T.Ge.f.kp T.Ge.b (Passes.s aA) (aa (qv 0) (aa af (aa (cF (v:=.int 99) rfl T.Jf ⟨_,rfl⟩ (λ_ _=>R.int _)) ae)))) (dI (aj A.Lx hr rfl T.Ie.m T.Ie.f.kp T.Ie.b (Passes.s aA) (aa (qv 0) (aa (qv 1) ae)))))))
theorem gz {T:Txt P w K mg} (A:Al base T n):PB P w K mg base (PK P w) (3+n+1) T.Gq.a T.Gq.d ["cells","pattern"] (PZ (gx T) (dG (cN n))):=by
 refine a7 (g:=gx T) T.Gq.f Qy λcdv A' outer s H E hr=>?_;have nd:=Qy.nd;exact (aH (bg (i:=2) nd rfl (Or.inl rfl) af)
 (aH (Ax bR (aT lQ oN (qv 2) (b0 aw bw rfl T.GQ bb (qv 0)) (aI _)) (aH (aU (bx (cG rfl (aj A.JE hr rfl T.Ge.m T.Ge.f.kp T.Ge.b (Passes.s aA) (aa (aY ax aJ (qv 0) (qv 2) (λ_ _=>rfl)) (aa af (aa (cF (v:=.int 99) rfl T.Jf ⟨_,rfl⟩ (λ_ _=>R.int _)) ae)))) (λ_=>rfl))) (ao (aD bX)) br)
 (aH (Aw (λpn xe E hx=>(ao (fj (aj A.K5 hr rfl T.GF.m T.GF.f.kp T.GF.b hx (aa (qv 0) (aa (qv 2) ae))) (dR rfl rfl (aG (a6 (i:=3) nd rfl (Or.inl rfl)) (aG (a6 (i:=4) nd rfl (Or.inl rfl)) bN)))))) rfl T.JQ (wc T) (λe=>(ao (aD bX))))
 (aH (aU (PW.pt (dM (aT mO zi (qv 3) (cF (v:=.ref T.Kq) rfl T.JH rfl (nK T.Kr (by rfl) (by rfl))) (by with_unfolding_all rfl)) (bT (bx (cG rfl (b0 (dk rfl) gB rfl T.KZ fB (bP (own:=["cell"]) (fr:=[1]) (N':=["cell","pattern"]) (kZ rfl (qv 4)) rfl (by show bj ["cells","pattern","place","name","behind"] (λx=>(ag cP).names.lookup x) _ _ _ _=true;decide +kernel) rfl (λ_ _ _ _ _=>(a6 (i:=0) (by show List.Nodup [("cell":Str),("pattern":Str)];decide +kernel) rfl (Or.inl rfl))) (λ_ _ _ _ _=>dD) (λ_ _ _ _ _=>(aj A.LY hr rfl T.Jy.m T.Jy.f.kp T.Jy.b bY (aa (qv 0) (aa (qv 1) ae)))))) (λ_=>rfl)))))) (ao (aD bX)) br)
 (ao (xu (i:=2) nd rfl (Or.inl rfl) (bU (P0.or (PU.or bq)) bI af (b0 aw bw rfl T.GQ bb (qv 4)))))))))
 (ao (aD bX))))
theorem pK {T:Txt P w K mg} (A:Al base T n):PB P w K mg base (PK P w) (3+n+1) T.Jh.a T.Jh.d ["thing"] (PZ (gx T) (jU (cN n))):=by
 refine a7 (g:=gx T) T.Jh.f Se λcdv A' outer s H E hr=>?_;have nd:=Se.nd;exact (aH (aU (PW.pt (dM (bx (cG rfl (fP (t:=4) (by decide) (by decide) rfl T.F2 rfl aB (qv 0) (cx (v:=.ty "tuple") rfl T.Jv cq rfl)) (λ_=>rfl))) (bT (aT ((cf hr).or (cg hr)) cX (b0 aw bw rfl T.GQ bb (qv 0)) af (aI _))))) (ao (aD bX)) br)
 (aH (fj (qv 0) (dR rfl rfl (aG (a6 (i:=1) nd rfl (Or.inl rfl)) (aG (a6 (i:=2) nd rfl (Or.inl rfl)) (aG (a6 (i:=3) nd rfl (Or.inl rfl)) bN)))))
 (aH (aU (PW.pt (dM (bx (cG rfl (aj A.L5 hr rfl T.Jo.m T.Jo.f.kp T.Jo.b (Passes.s aA) (aa (qv 1) ae)) (λ_=>rfl))) (dM (aT ((bJ hr).or (bD hr)) cj (qv 1) qs (aI _)) (bT (bx (cG rfl (aj A.Ly hr rfl T.Ig.m T.Ig.f.kp T.Ig.b (Passes.s aA) (aa (qv 2) ae)) (λ_=>rfl))))))) (ao (aD bX)) br)
 (aH (aU (PW.pt (dM (bx (cG rfl (fP (t:=4) (by decide) (by decide) rfl T.F2 rfl aB (qv 3) (cx (v:=.ty "tuple") rfl T.Jv cq rfl)) (λ_=>rfl))) (bT (bx (Av af (b0 aw bw rfl T.GQ bb (qv 3)) (cF (v:=.int 12) rfl T.GS ⟨_,rfl⟩ (λ_ _=>R.int _))))))) (ao (aD bX)) br)
 (ao (aD (aj A.KJ hr rfl T.Gq.m T.Gq.f.kp T.Gq.b (Passes.s aA) (aa (qv 3) (aa (qv 2) ae)))))))))
theorem vZ {T:Txt P w K mg} (A:Al base T n):PB P w K mg base (PK P w) (3+n+1) T.JM.a T.JM.d ["thing"] (PZ (gx T) (nN (cN n))):=by
 refine a7 (g:=gx T) T.JM.f Tp λcdv A' outer s H E hr=>?_;have nd:=Tp.nd;exact (aH (aU (PW.pt (dM (bx (cG rfl (fP (t:=5) (by decide) (by decide) rfl T.F2 rfl aB (qv 0) (cx (v:=.ty "list") rfl T.Kz eQ rfl)) (λ_=>rfl))) (bT (bx (Av af (b0 aw bw rfl T.GQ bb (qv 0)) (cF (v:=.int 16) rfl T.IU ⟨_,rfl⟩ (λ_ _=>R.int _))))))) (ao (aD bX)) br)
 (aH (aU (bx (cG rfl (b0 (dk rfl) gB rfl T.KZ fB (bP (own:=["piece"]) (fr:=[]) (N':=["piece"]) (gF rfl (qv 0)) rfl (by show bj ["thing"] (λx=>(ag iw).names.lookup x) _ _ _ _=true;decide +kernel) rfl (λ_ _ _ _ _=>(a6 (i:=0) (by show List.Nodup [("piece":Str)];decide +kernel) rfl (Or.inl rfl))) (λ_ _ _ _ _=>dD) (λ_ _ _ _ _=>(aj A.LU hr rfl T.Jh.m T.Jh.f.kp T.Jh.b bY (aa (qv 0) ae))))) (λ_=>rfl))) (ao (aD bX)) br)
 (ao (aD (dJ ((bJ hr).or (bD hr)) cj (b0 nG y9 rfl T.GQ bb (iN (r9 rfl) Cd rfl T.Ml AW (bP (own:=["piece"]) (fr:=[]) (N':=["piece"]) (gF rfl (qv 0)) rfl (by show bj ["thing"] (λx=>(ag iw).names.lookup x) _ _ _ _=true;decide +kernel) rfl (λ_ _ _ _ _=>(a6 (i:=0) (by show List.Nodup [("piece":Str)];decide +kernel) rfl (Or.inl rfl))) (λ_ _ _ _ _=>dD) (λ_ _ _ _ _=>(aY ax aJ (qv 0) af (λ_ _=>rfl)))))) (b0 aw bw rfl T.GQ bb (qv 0)) (aI _))))))
theorem pO {T:Txt P w K mg} (A:Al base T n):PB P w K mg base (PK P w) (3+n+1) T.F6.a T.F6.d ["some"] (PZ (gx T) (jY (cN n))):=by refine a7 (g:=gx T) T.F6.f Sf λcdv A' outer s H E hr=>?_;have nd:=Sf.nd;exact (ao (aU (bx (cG rfl (aj A.L6 hr rfl T.JM.m T.JM.f.kp T.JM.b (Passes.s aA) (aa (qv 0) ae)) (λ_=>rfl))) (ao (ip MV rfl MV T.KH gJ rfl T.Ks rfl (aa qs ae))) br))
theorem jE {T:Txt P w K mg} (A:Al base T n):PB P w K mg base (PK P w) (3+n+1) T.GP.a T.GP.d ["mark","tree"] (PZ (gx T) (fe (cN n))):=by
 refine a7 (g:=gx T) T.GP.f QT λcdv A' outer s H E hr=>?_;have nd:=QT.nd;exact (aH (aU (aT ((bJ hr).or (bD hr)) cj (aY ax aJ (qv 0) af (λ_ _=>rfl)) qs (aI _)) (ao (aD (d8 (dJ ((bJ hr).or (bD hr)) cj (aY ax aJ (qv 1) af (λ_ _=>rfl)) qs (aI _)) (dI (dJ jn rp (aY ax aJ (qv 1) af (λ_ _=>rfl)) (aY ax aJ (qv 0) af (λ_ _=>rfl)) (aI _)))))) br)
 (ao (aD (xC (dJ ((bJ hr).or (bD hr)) cj (aY ax aJ (qv 0) af (λ_ _=>rfl)) qs (aI _)) (dI (dJ ((bJ hr).or (bD hr)) cj (aY ax aJ (qv 1) af (λ_ _=>rfl)) qs (aI _)))))))
theorem tR {T:Txt P w K mg} (A:Al base T n):PB P w K mg base (PK P w) (3+n+1) T.Hd.a T.Hd.d ["pattern","tree","found"] (PZ (gx T) (lE (cN n))):=by
 refine a7 (g:=gx T) T.Hd.f SM λcdv A' outer s H E hr=>?_;have nd:=SM.nd;exact (aH (bg (i:=3) nd rfl (Or.inl rfl) (aY ax aJ (qv 0) af (λ_ _=>rfl)))
 (aH (aU (qC fw rfl T.HE (qv 3) (aW (v:=.ref T.HB) rfl T.GU rfl) (by with_unfolding_all rfl)) (aH (aU (bx (cG rfl (aj A.Le hr rfl T.GP.m T.GP.f.kp T.GP.b (Passes.s aA) (aa (qv 0) (aa (qv 1) ae))) (λ_=>rfl))) (ao (aD bX)) br)
 (aH (bO (cS Ng Np ck fO rfl (mV hr (qv 2) (qv 3) (λ_ _=>rfl)) (Et (aT ((bJ hr).or (bD hr)) cj (qv 3) qs (aI _)) (qv 1) (aY ax aJ (qv 1) af (λ_ _=>rfl)))))
 (ao (aD bX)))) br)
 (aH (aU (aT ((cf hr).or (cg hr)) cX (aY ax aJ (qv 1) af (λ_ _=>rfl)) (qv 3) (aI _)) (ao (aD bX)) br)
 (aH (aU (aT ((bJ hr).or (bD hr)) cj (qv 3) qs (aI _)) (ao (aD (dJ ((bJ hr).or (bD hr)) cj (aY ax aJ (qv 1) af (λ_ _=>rfl)) (aY ax aJ (qv 0) af (λ_ _=>rfl)) (aI _)))) br)
 (ao (aD (d8 (aj A.K6 hr rfl T.Hd.m T.Hd.f.kp T.Hd.b (Passes.s aA) (aa (aY ax aJ (qv 0) af (λ_ _=>rfl)) (aa (aY ax aJ (qv 1) af (λ_ _=>rfl)) (aa (qv 2) ae)))) (dI (aj A.K6 hr rfl T.Hd.m T.Hd.f.kp T.Hd.b (Passes.s aA) (aa (aY ax aJ (qv 0) af (λ_ _=>rfl)) (aa (aY ax aJ (qv 1) af (λ_ _=>rfl)) (aa (qv 2) ae))))))))))))
theorem pJ {T:Txt P w K mg} (A:Al base T n):PB P w K mg base (PK P w) (3+n+1) T.HH.a T.HH.d ["piece","tree"] (PZ (gx T) (jT (cN n))):=by
 refine a7 (g:=gx T) T.HH.f Sg λcdv A' outer s H E hr=>?_;have nd:=Sg.nd;refine' aH ?_ ?_
 ·exact (bg (i:=2) nd rfl (Or.inl rfl) (Es (mT (aL ae) (mT (aL ae) (mT (aL ae) Cy))) (.cons rfl (.cons rfl (.cons rfl .nil))) (by decide) (by decide) rfl rfl (by simp) (by decide)))
 refine' aH ?_ ?_
 ·exact (aU (bx (cG rfl (aj A.K6 hr rfl T.Hd.m T.Hd.f.kp T.Hd.b (Passes.s aA) (aa (aY ax aJ (qv 0) af (λ_ _=>rfl)) (aa (qv 1) (aa (qv 2) ae)))) (λ_=>rfl))) (ao (aD dy)) br)
 refine' ao ?_;refine' aD ?_;refine' ah ?_;refine' aa ?_ ?_
 ·exact (iN bS gC rfl T.Jv cq (mV hr (qv 2) qs (λ_ _=>rfl)))
 exact (aa (iN bS gC rfl T.Jv cq (mV hr (qv 2) qs (λ_ _=>rfl))) (aa (iN bS gC rfl T.Jv cq (mV hr (qv 2) qs (λ_ _=>rfl))) ae))
theorem kT {T:Txt P w K mg} (A:Al base T n):PB P w K mg base (PK P w) (3+n+1) T.Hh.a T.Hh.d ["cell","nums","ks"] (PZ (gx T) (gm (cN n))):=by
 refine a7 (g:=gx T) T.Hh.f Rh λcdv A' outer s H E hr=>?_;have nd:=Rh.nd;exact (aH (aU (cG rfl (fP (t:=2) (by decide) (by decide) rfl T.F2 rfl aB (qv 0) (cx (v:=.ty "int") rfl T.L8 uX rfl)) (λ_=>rfl)) (ao (aD (qv 0))) br)
 (aH (aU (aT ((bJ hr).or (bD hr)) cj (aY ax aJ (qv 0) af (λ_ _=>rfl)) qs (aI _)) (ao (aD (bU dB qp (aY ax aJ (qv 1) (aY ax aJ (qv 0) af (λ_ _=>rfl)) (λ_ _=>rfl)) af))) br)
 (aH (aU (aT ((bJ hr).or (bD hr)) cj (aY ax aJ (qv 0) af (λ_ _=>rfl)) qs (aI _)) (ao (aD (bU ic qk (aY ax aJ (qv 1) (aY ax aJ (qv 0) af (λ_ _=>rfl)) (λ_ _=>rfl)) af))) br)
 (ao (aD (aY ax aJ (qv 2) (aY ax aJ (qv 0) af (λ_ _=>rfl)) (λ_ _=>rfl)))))))
theorem nW {T:Txt P w K mg} (A:Al base T n):PB P w K mg base (PK P w) (3+n+1) T.GW.a T.GW.d ["many","kinds"] (PZ (gx T) (jb (cN n))):=by
 refine a7 (g:=gx T) T.GW.f RU λcdv A' outer s H E hr=>?_;have nd:=RU.nd;exact (aH (fj (qv 1) (dR rfl rfl (aG (a6 (i:=2) nd rfl (Or.inl rfl)) (aG (a6 (i:=3) nd rfl (Or.inl rfl)) bN))))
 (aH (aU (aT jn rp (qv 0) (cF (v:=.int 9) rfl T.Jx ⟨_,rfl⟩ (λ_ _=>R.int _)) (aI _)) (ao (aD (aL (aa (qv 2) (aa (qv 0) ae))))) br)
 (ao (aD (aL (aa (qv 3) (aa (bU dB qp (qv 0) af) (aa (bU ic qk (qv 0) af) ae))))))))
theorem jD {T:Txt P w K mg} (A:Al base T n):PB P w K mg base (PK P w) (3+n+1) T.Gk.a T.Gk.d ["second","third"] (PZ (gx T) (fc (cN n))):=by
 refine a7 (g:=gx T) T.Gk.f QU λcdv A' outer s H E hr=>?_;have nd:=QU.nd;exact (aH (bg (i:=2) nd rfl (Or.inl rfl) (aj A.Lb hr rfl T.GW.m T.GW.f.kp T.GW.b (Passes.s aA) (aa (qv 1) (aa (cF (v:=.ref T.KS) rfl T.Ki rfl (nK T.KU (by rfl) (by rfl))) ae))))
 (aH (bg (i:=3) nd rfl (Or.inl rfl) (aj A.Lb hr rfl T.GW.m T.GW.f.kp T.GW.b (Passes.s aA) (aa (bU (P0.or (PU.or bq)) bI (qv 0) (b0 aw bw rfl T.GQ bb (qv 2))) (aa (cF (v:=.ref T.Lf) rfl T.KD rfl (nK T.Lg (by rfl) (by rfl))) ae))))
 (ao (aD (ah (aa (qv 3) (aa (qv 2) ae)))))))
theorem tU {T:Txt P w K mg} (A:Al base T n):PB P w K mg base (PK P w) (3+n+1) T.IH.a T.IH.d ["tree","some"] (PZ (gx T) (lF (cN n))):=by
 refine a7 (g:=gx T) T.IH.f SN λcdv A' outer s H E hr=>?_;have nd:=SN.nd;exact (aH (aU (aT ((bJ hr).or (bD hr)) cj (aY ax aJ (qv 0) af (λ_ _=>rfl)) qs (aI _)) (ao (aD (aL (aa (ah (aa qs (aa (ah ae) (aa (kq rfl (qv 0) af) ae)))) ae)))) br)
 (aH (bg (i:=2) nd rfl (Or.inl rfl) (aL ae))
 (aH (fh bR rfl (gF rfl (qv 1)) (a6 (i:=3) nd rfl (Or.inl rfl)) (aH (bg (i:=4) nd rfl (Or.inl rfl) (aj A.Lj hr rfl T.HH.m T.HH.f.kp T.HH.b (Passes.s aA) (aa (qv 3) (aa (qv 0) ae))))
 (ao (aU (rG (qv 4)) (ao (bO (cS Ng Np ck fO rfl (qv 2) (ah (aa (aY ax aJ (qv 3) af (λ_ _=>rfl)) (aa (aY ax aJ (qv 3) af (λ_ _=>rfl)) (aa (aY ax aJ (qv 4) af (λ_ _=>rfl)) ae))))))) br))))
 (ao (aD (qv 2))))))
theorem nY {T:Txt P w K mg} (A:Al base T n):PB P w K mg base (PK P w) (3+n+1) T.IL.a T.IL.d ["name","cells","lengths"] (PZ (gx T) (jd (cN n))):=by
 refine a7 (g:=gx T) T.IL.f RV λcdv A' outer s H E hr=>?_;have nd:=RV.nd;exact (aH (bg (i:=3) nd rfl (Or.inl rfl) (b0 aw bw rfl T.GQ bb (qv 1)))
 (aH (aU (aT ((bJ hr).or (bD hr)) cj (qv 0) qs (aI _)) (aH (fj (aj A.Kw hr rfl T.Gk.m T.Gk.f.kp T.Gk.b (Passes.s aA) (aa (aY ax aJ (qv 2) af (λ_ _=>rfl)) (aa (aY ax aJ (qv 2) af (λ_ _=>rfl)) ae))) (dR rfl rfl (aG (a6 (i:=4) nd rfl (Or.inl rfl)) (aG (a6 (i:=5) nd rfl (Or.inl rfl)) bN))))
 (ao (bg (i:=3) nd rfl (Or.inl rfl) (bU (P0.or (PU.or bq)) bI (b0 aw bw rfl T.GQ bb (qv 4)) (b0 aw bw rfl T.GQ bb (qv 5)))))) br)
 (ao (aD (bU (P0.or (PU.or bq)) bI (qv 3) (b0 (vm rfl) Cg rfl T.Mm AX (qv 2)))))))
theorem j2 {T:Txt P w K mg} (A:Al base T n):PB P w K mg base (PK P w) (3+n+1) T.GV.a T.GV.d ["tree","some","done","bests"] (PZ (gx T) (fD (cN n))):=by
 refine a7 (g:=gx T) T.GV.f Q4 λcdv A' outer s H E hr=>?_;have nd:=Q4.nd;refine' aH ?_ ?_
 ·exact (aU (aT ((bJ hr).or (bD hr)) cj (aY ax aJ (qv 0) af (λ_ _=>rfl)) qs (aI _)) (ao (aD (ah (aa (cF (v:=.int 3) rfl T.Jj ⟨_,rfl⟩ (λ_ _=>R.int _)) (aa (ah ae) ae))))) br)
 refine' aH ?_ ?_
 ·exact (bg (i:=4) nd rfl (Or.inl rfl) dy)
 refine' aH ?_ ?_
 ·refine' fh bR ?_ ?_ ?_ ?_
  ·exact rfl
  ·exact (gF rfl (aj A.Lw hr rfl T.IH.m T.IH.f.kp T.IH.b (Passes.s aA) (aa (qv 0) (aa (qv 1) ae))))
  ·exact (dR rfl rfl (aG (a6 (i:=5) nd rfl (Or.inl rfl)) (aG (a6 (i:=6) nd rfl (Or.inl rfl)) (aG (a6 (i:=7) nd rfl (Or.inl rfl)) bN))))
  refine' aH ?_ ?_
  ·refine' lU (i:=8) (own:=["one"]) (fr:=[2,3]) (N':=["one","done","bests"]) ?_ ?_ ?_ ?_ ?_ ?_ ?_ ?_ ?_ ?_ ?_
   ·exact (kZ rfl (qv 7))
   ·exact rfl
   ·show bj ["tree","some","done","bests","best","name","cells","trees","within","length"] (λx=>(ag b5).names.lookup x) _ _ _ _=true;decide +kernel
   ·exact rfl
   ·exact (λ_ _ _ _ _=>(a6 (i:=0) (by show List.Nodup [("one":Str),("done":Str),("bests":Str)];decide +kernel) rfl (Or.inl rfl)))
   ·exact (λ_ _ _ _ _=>dD)
   ·exact (λ_ _ _ _ _=>(aY ax aJ (qv 2) (cS Oa Pq (lN hr) wU rfl (qv 1) (qv 0)) (λ_ _=>rfl)))
   ·exact nd
   ·exact rfl
   ·exact rfl
   exact rfl
  refine' aH ?_ ?_
  ·refine' aU ?_ ?_ ?_
   ·refine' cG ?_ ?_ ?_
    ·exact rfl
    ·refine' b0 (vh rfl) B6 ?_ T.Mj AV ?_
     ·exact rfl
     refine' bP (own:=["one"]) (fr:=[]) (N':=["one"]) ?_ ?_ ?_ ?_ ?_ ?_ ?_
     ·exact (gF rfl (qv 8))
     ·exact rfl
     ·show bj ["tree","some","done","bests","best","name","cells","trees","within","length"] (λx=>(ag b5).names.lookup x) _ _ _ _=true;decide +kernel
     ·exact rfl
     ·exact (λ_ _ _ _ _=>(a6 (i:=0) (by show List.Nodup [("one":Str)];decide +kernel) rfl (Or.inl rfl)))
     ·exact (λ_ _ _ _ _=>dD)
     exact (λ_ _ _ _ _=>(Ew (qv 0)))
    exact (λ_=>rfl)
   ·exact (ao Er)
   exact br
  refine' aH ?_ ?_
  ·refine' bg (i:=9) ?_ ?_ ?_ ?_
   ·exact nd
   ·exact rfl
   ·exact (Or.inl rfl)
   refine' aj A.LN ?_ ?_ T.IL.m T.IL.f.kp T.IL.b ?_ ?_
   ·exact hr
   ·exact rfl
   ·exact (Passes.s aA)
   refine' aa (qv 5) ?_;refine' aa (qv 6) ?_;refine' aa ?_ ?_
   ·refine' bP (own:=["one"]) (fr:=[]) (N':=["one"]) ?_ ?_ ?_ ?_ ?_ ?_ ?_
    ·exact (gF rfl (qv 8))
    ·exact rfl
    ·show bj ["tree","some","done","bests","best","name","cells","trees","within","length"] (λx=>(ag b5).names.lookup x) _ _ _ _=true;decide +kernel
    ·exact rfl
    ·exact (λ_ _ _ _ _=>(a6 (i:=0) (by show List.Nodup [("one":Str)];decide +kernel) rfl (Or.inl rfl)))
    ·exact (λ_ _ _ _ _=>dD)
    exact (λ_ _ _ _ _=>(aY ax aJ (qv 0) af (λ_ _=>rfl)))
   exact ae
  refine' ao ?_;refine' aU ?_ ?_ ?_
  ·exact (PW.pt (dM (xB (qv 4)) (bT (aT lQ oN (qv 9) (aY ax aJ (qv 4) af (λ_ _=>rfl)) (aI _)))))
  ·refine' ao ?_;refine' bg (i:=4) ?_ ?_ ?_ ?_
   ·exact nd
   ·exact rfl
   ·exact (Or.inl rfl)
   refine' ah ?_;refine' aa (qv 9) ?_;refine' aa ?_ ?_
   ·refine' ah ?_;refine' aa (qv 5) ?_;refine' aa ?_ ?_
    ·refine' iN bS gC ?_ T.Jv cq ?_
     ·exact rfl
     refine' bP (own:=["one"]) (fr:=[]) (N':=["one"]) ?_ ?_ ?_ ?_ ?_ ?_ ?_
     ·exact (gF rfl (qv 8))
     ·exact rfl
     ·show bj ["tree","some","done","bests","best","name","cells","trees","within","length"] (λx=>(ag b5).names.lookup x) _ _ _ _=true;decide +kernel
     ·exact rfl
     ·exact (λ_ _ _ _ _=>(a6 (i:=0) (by show List.Nodup [("one":Str)];decide +kernel) rfl (Or.inl rfl)))
     ·exact (λ_ _ _ _ _=>dD)
     exact (λ_ _ _ _ _=>(aY ax aJ (qv 0) af (λ_ _=>rfl)))
    exact ae
   exact ae
  exact br
 exact (ao (aD (qv 4)))
theorem jB {T:Txt P w K mg} (A:Al base T n):PB P w K mg base (PK P w) (3+n+1) T.F7.a T.F7.d ["tree","some"] (PZ (gx T) (e8 (cN n))):=by
 refine a7 (g:=gx T) T.F7.f QV λcdv A' outer s H E hr=>?_;have nd:=QV.nd;exact (aH (bg (i:=2) nd rfl (Or.inl rfl) (aL ae))
 (aH (bg (i:=3) nd rfl (Or.inl rfl) (aL ae))
 (aH (fh bR rfl (CG rfl rfl T.Lm (aj A.KQ hr rfl T.GX.m T.GX.f.kp T.GX.b (Passes.s aA) (aa (qv 0) ae))) (a6 (i:=4) nd rfl (Or.inl rfl)) (aH (bO (cS Ng Np ck fO rfl (qv 3) (aj A.Li hr rfl T.GV.m T.GV.f.kp T.GV.b (Passes.s aA) (aa (qv 4) (aa (qv 1) (aa (qv 2) (aa (qv 3) ae)))))))
 (ao (bO (cS Ng Np ck fO rfl (qv 2) (qv 4))))))
 (aH (aU (xB (aY ax aJ (qv 3) (zL kO mL af) (λ_ _=>rfl))) (ao (ip MV rfl MV T.JI gJ rfl T.Jl rfl (aa qs ae))) br)
 (ao (aD (aY ax aJ (qv 3) (zL kO mL af) (λ_ _=>rfl))))))))
theorem jC {T:Txt P w K mg} (A:Al base T n):PB P w K mg base (PK P w) (3+n+1) T.Gd.a T.Gd.d ["tree","some","thing"] (PZ (gx T) (e9 (cN n))):=by
 refine a7 (g:=gx T) T.Gd.f QW λcdv A' outer s H E hr=>?_;have nd:=QW.nd;exact (aH (aU (PW.pt (dM (bx (cG rfl (aj A.J8 hr rfl T.Gj.m T.Gj.f.kp T.Gj.b (Passes.s aA) (aa (qv 2) ae)) (λ_=>rfl))) (dM (aT ((cf hr).or (cg hr)) cX (b0 aw bw rfl T.GQ bb (qv 2)) af (aI _)) (bT (bx (cG rfl (fP (t:=4) (by decide) (by decide) rfl T.F2 rfl aB (aY ax aJ (qv 2) af (λ_ _=>rfl)) (cx (v:=.ty "tuple") rfl T.Jv cq rfl)) (λ_=>rfl))))))) (ao (aD bX)) br)
 (aH (fh bR rfl (gF rfl (aj A.Lw hr rfl T.IH.m T.IH.f.kp T.IH.b (Passes.s aA) (aa (qv 0) (aa (qv 1) ae)))) (dR rfl rfl (aG (a6 (i:=3) nd rfl (Or.inl rfl)) (aG (a6 (i:=4) nd rfl (Or.inl rfl)) (aG (a6 (i:=5) nd rfl (Or.inl rfl)) bN)))) (ao (aU (aT ((bJ hr).or (bD hr)) cj (qv 3) (aY ax aJ (qv 2) af (λ_ _=>rfl)) (aI _)) (ao (aD (aj A.K3 hr rfl T.GE.m T.GE.f.kp T.GE.b (Passes.s aA) (aa (qv 5) (aa (qv 1) (aa (aY ax aJ (qv 2) af (λ_ _=>rfl)) ae)))))) br)))
 (ao (aD bX))))
theorem iE {T:Txt P w K mg} (A:Al base T n):PB P w K mg base (PK P w) (3+n+1) T.GE.a T.GE.d ["trees","some","things"] (PZ (gx T) (eA (cN n))):=by
 refine a7 (g:=gx T) T.GE.f QH λcdv A' outer s H E hr=>?_;have nd:=QH.nd;exact (aH (aU (aT ((cf hr).or (cg hr)) cX (b0 aw bw rfl T.GQ bb (qv 0)) (b0 aw bw rfl T.GQ bb (qv 2)) (aI _)) (ao (aD bX)) br)
 (ao (aD (b0 (dk rfl) gB rfl T.KZ fB (bP (own:=["tree","thing"]) (fr:=[1]) (N':=["tree","thing","some"]) (qA rfl rfl T.LP (qv 0) (qv 2)) rfl (by show bj ["trees","some","things"] (λx=>(ag dh).names.lookup x) _ _ _ _=true;decide +kernel) rfl (λ_ _ _ _ _=>(dR rfl rfl (aG (a6 (i:=0) (by show List.Nodup [("tree":Str),("thing":Str),("some":Str)];decide +kernel) rfl (Or.inl rfl)) (aG (a6 (i:=1) (by show List.Nodup [("tree":Str),("thing":Str),("some":Str)];decide +kernel) rfl (Or.inl rfl)) bN)))) (λ_ _ _ _ _=>dD) (λ_ _ _ _ _=>(aj A.JN hr rfl T.Gd.m T.Gd.f.kp T.Gd.b bY (aa (qv 0) (aa (qv 2) (aa (qv 1) ae))))))))))
theorem nZ {T:Txt P w K mg} (A:Al base T n):PB P w K mg base (PK P w) (3+n+1) T.Hj.a T.Hj.d ["tree","some"] (PZ (gx T) (je (cN n))):=by
 refine a7 (g:=gx T) T.Hj.f RW λcdv A' outer s H E hr=>?_;have nd:=RW.nd;exact (aH (bO (aj A.II hr rfl T.F3.m T.F3.f.kp T.F3.b (Passes.s aA) (aa (qv 0) ae)))
 (aH (bO (aj A.Jb hr rfl T.F6.m T.F6.f.kp T.F6.b (Passes.s aA) (aa (qv 1) ae)))
 (ao (aD (aY ax aJ (aj A.Js hr rfl T.F7.m T.F7.f.kp T.F7.b (Passes.s aA) (aa (qv 0) (aa (qv 1) ae))) af (λ_ _=>rfl))))))
theorem pI {T:Txt P w K mg} (A:Al base T n):PB P w K mg base (PK P w) (3+n+1) T.Ik.a T.Ik.d ["tree","some"] (PZ (gx T) (jS (cN n))):=by
 refine a7 (g:=gx T) T.Ik.f Sh λcdv A' outer s H E hr=>?_;have nd:=Sh.nd;exact (aH (bO (aj A.II hr rfl T.F3.m T.F3.f.kp T.F3.b (Passes.s aA) (aa (qv 0) ae)))
 (aH (bO (aj A.Jb hr rfl T.F6.m T.F6.f.kp T.F6.b (Passes.s aA) (aa (qv 1) ae)))
 (ao (aD (aY ax aJ (aj A.Js hr rfl T.F7.m T.F7.f.kp T.F7.b (Passes.s aA) (aa (qv 0) (aa (qv 1) ae))) af (λ_ _=>rfl))))))
theorem kU {T:Txt P w K mg} (A:Al base T n):PB P w K mg base (PK P w) (3+n+1) T.GH.a T.GH.d ["tree","some","thing"] (PZ (gx T) (gn (cN n))):=by
 refine a7 (g:=gx T) T.GH.f Ri λcdv A' outer s H E hr=>?_;have nd:=Ri.nd;exact (aH (bO (aj A.II hr rfl T.F3.m T.F3.f.kp T.F3.b (Passes.s aA) (aa (qv 0) ae)))
 (aH (bO (aj A.Jb hr rfl T.F6.m T.F6.f.kp T.F6.b (Passes.s aA) (aa (qv 1) ae)))
 (ao (aD (aj A.JN hr rfl T.Gd.m T.Gd.f.kp T.Gd.b (Passes.s aA) (aa (qv 0) (aa (qv 1) (aa (qv 2) ae))))))))
theorem nX {T:Txt P w K mg} (A:Al base T n):PB P w K mg base (PK P w) (3+n+1) T.IK.a T.IK.d ["tree","some","cover","places"] (PZ (gx T) (jc (cN n))):=by
 refine a7 (g:=gx T) T.IK.f RX λcdv A' outer s H E hr=>?_;have nd:=RX.nd;exact (aH (Ez rfl rfl (bP (own:=["one","within"]) (fr:=[1,3]) (N':=["one","within","some","places"]) (qA rfl rfl T.LP (kq rfl (qv 0) af) (aY ax aJ (qv 2) af (λ_ _=>rfl))) rfl (by show bj ["tree","some","cover","places","first","second","third","ahead","behind"] (λx=>(ag fR).names.lookup x) _ _ _ _=true;decide +kernel) rfl (λ_ _ _ _ _=>(dR rfl rfl (aG (a6 (i:=0) (by show List.Nodup [("one":Str),("within":Str),("some":Str),("places":Str)];decide +kernel) rfl (Or.inl rfl)) (aG (a6 (i:=1) (by show List.Nodup [("one":Str),("within":Str),("some":Str),("places":Str)];decide +kernel) rfl (Or.inl rfl)) bN)))) (λ_ _ _ _ _=>dD) (λ_ _ _ _ _=>(aj A.JA hr rfl T.F9.m T.F9.f.kp T.F9.b bY (aa (qv 0) (aa (qv 2) (aa (qv 1) (aa (qv 3) ae))))))) (aG (a6 (i:=4) nd rfl (Or.inl rfl)) (aG (a6 (i:=5) nd rfl (Or.inl rfl)) (aG (a6 (i:=6) nd rfl (Or.inl rfl)) bN))))
 (aH (fj (aj A.Kw hr rfl T.Gk.m T.Gk.f.kp T.Gk.b (Passes.s aA) (aa (b0 aw bw rfl T.GQ bb (qv 5)) (aa (b0 aw bw rfl T.GQ bb (qv 6)) ae))) (dR rfl rfl (aG (a6 (i:=7) nd rfl (Or.inl rfl)) (aG (a6 (i:=8) nd rfl (Or.inl rfl)) bN))))
 (ao (aD (bU (P0.or (PU.or bq)) bI (bU (P0.or (PU.or bq)) bI (bU (P0.or (PU.or bq)) bI (bU (P0.or (PU.or bq)) bI (qv 4) (qv 7)) (qv 5)) (qv 8)) (qv 6))))))
theorem my {T:Txt P w K mg} (A:Al base T n):PB P w K mg base (PK P w) (3+n+1) T.Ih.a T.Ih.d ["tree","some","cover","places"] (PZ (gx T) (gR (cN n))):=by
 refine a7 (g:=gx T) T.Ih.f Rv λcdv A' outer s H E hr=>?_;have nd:=Rv.nd;exact (aH (fj (qv 2) (dR rfl rfl (aG (a6 (i:=4) nd rfl (Or.inr rfl)) (aG (a6 (i:=5) nd rfl (Or.inl rfl)) bN))))
 (aH (bg (i:=6) nd rfl (Or.inl rfl) (aY ax aJ (bP (own:=["one"]) (fr:=[4]) (N':=["one","name"]) (gF rfl (qv 1)) rfl (by show bj ["tree","some","cover","places","name","within","piece","holes","nums","ks","cells","hole","inner"] (λx=>(ag dE).names.lookup x) _ _ _ _=true;decide +kernel) rfl (λ_ _ _ _ _=>(a6 (i:=0) (by show List.Nodup [("one":Str),("name":Str)];decide +kernel) rfl (Or.inl rfl))) (λ_ _ _ _ _=>(xl (aT ((bJ hr).or (bD hr)) cj (aY ax aJ (qv 0) af (λ_ _=>rfl)) (qv 1) (aI _)))) (λ_ _ _ _ _=>(qv 0))) af (λ_ _=>rfl)))
 (aH (fj (aj A.Lj hr rfl T.HH.m T.HH.f.kp T.HH.b (Passes.s aA) (aa (qv 6) (aa (qv 0) ae))) (dR rfl rfl (aG (a6 (i:=7) nd rfl (Or.inl rfl)) (aG (a6 (i:=8) nd rfl (Or.inr rfl)) (aG (a6 (i:=9) nd rfl (Or.inr rfl)) bN)))))
 (aH (bg (i:=10) nd rfl (Or.inl rfl) (aL ae))
 (aH (fh bR rfl (qA rfl rfl T.LP (qv 7) (qv 5)) (dR rfl rfl (aG (a6 (i:=11) nd rfl (Or.inl rfl)) (aG (a6 (i:=12) nd rfl (Or.inl rfl)) bN))) (ao (bO (cS ME MG aZ bZ rfl (qv 10) (aj A.JA hr rfl T.F9.m T.F9.f.kp T.F9.b (Passes.s aA) (aa (qv 11) (aa (qv 1) (aa (qv 12) (aa (qv 3) ae)))))))))
 (ao (aD (bU (P0.or (PU.or bq)) bI (qv 10) (bP (own:=["cell"]) (fr:=[8,9]) (N':=["cell","nums","ks"]) (kZ rfl (aY ax aJ (qv 6) af (λ_ _=>rfl))) rfl (by show bj ["tree","some","cover","places","name","within","piece","holes","nums","ks","cells","hole","inner"] (λx=>(ag dE).names.lookup x) _ _ _ _=true;decide +kernel) rfl (λ_ _ _ _ _=>(a6 (i:=0) (by show List.Nodup [("cell":Str),("nums":Str),("ks":Str)];decide +kernel) rfl (Or.inl rfl))) (λ_ _ _ _ _=>dD) (λ_ _ _ _ _=>(aj A.Lq hr rfl T.Hh.m T.Hh.f.kp T.Hh.b bY (aa (qv 0) (aa (qv 1) (aa (qv 2) ae))))))))))))))
theorem mx {T:Txt P w K mg} (A:Al base T n):PB P w K mg base (PK P w) (3+n+1) T.F9.a T.F9.d ["tree","some","cover","places"] (PZ (gx T) (gQ (cN n))):=by
 refine a7 (g:=gx T) T.F9.f Rw λcdv A' outer s H E hr=>?_;have nd:=Rw.nd;exact (aH (aU (aT ((bJ hr).or (bD hr)) cj (aY ax aJ (qv 0) af (λ_ _=>rfl)) qs (aI _)) (aH (bg (i:=4) nd rfl (Or.inl rfl) (aY ax aJ (qv 3) (aY ax aJ (qv 0) af (λ_ _=>rfl)) (λ_ _=>rfl)))
 (ao (aD (aL (aa (cF (v:=.int 15) rfl T.K9 ⟨_,rfl⟩ (λ_ _=>R.int _)) (aa (bU dB qp (qv 4) af) (aa (bU ic qk (qv 4) af) ae))))))) br)
 (aH (aU (aT ((bJ hr).or (bD hr)) cj (aY ax aJ (qv 0) af (λ_ _=>rfl)) qs (aI _)) (ao (aD (aj A.LM hr rfl T.IK.m T.IK.f.kp T.IK.b (Passes.s aA) (aa (qv 0) (aa (qv 1) (aa (qv 2) (aa (qv 3) ae))))))) br)
 (ao (aD (aj A.Lz hr rfl T.Ih.m T.Ih.f.kp T.Ih.b (Passes.s aA) (aa (qv 0) (aa (qv 1) (aa (qv 2) (aa (qv 3) ae)))))))))
theorem tM {T:Txt P w K mg} (A:Al base T n):PB P w K mg base (PK P w) (3+n+1) T.Hc.a T.Hc.d ["tree","some"] (PZ (gx T) (ly (cN n))):=by
 refine a7 (g:=gx T) T.Hc.f SQ λcdv A' outer s H E hr=>?_;have nd:=SQ.nd;exact (aH (fj (aj A.Js hr rfl T.F7.m T.F7.f.kp T.F7.b (Passes.s aA) (aa (qv 0) (aa (qv 1) ae))) (dR rfl rfl (aG (a6 (i:=2) nd rfl (Or.inl rfl)) (aG (a6 (i:=3) nd rfl (Or.inl rfl)) bN))))
 (ao (aD (bU (P0.or (PU.or bq)) bI (aj A.JA hr rfl T.F9.m T.F9.f.kp T.F9.b (Passes.s aA) (aa (qv 0) (aa (qv 1) (aa (qv 3) (aa (aL ae) ae))))) (aL (aa (cF (v:=.int 0) rfl T.Lc ⟨_,rfl⟩ (λ_ _=>R.int _)) ae))))))
theorem DW {T:Txt P w K mg} (A:Al base T n):PB P w K mg base (PK P w) (3+n+1) T.KI.a T.KI.d ["tree","some"] (PZ (gx T) (Ae (cN n))):=by
 refine a7 (g:=gx T) T.KI.f Vx λcdv A' outer s H E hr=>?_;have nd:=Vx.nd;exact (aH (bO (aj A.II hr rfl T.F3.m T.F3.f.kp T.F3.b (Passes.s aA) (aa (qv 0) ae)))
 (aH (bO (aj A.Jb hr rfl T.F6.m T.F6.f.kp T.F6.b (Passes.s aA) (aa (qv 1) ae)))
 (ao (aD (aj A.K4 hr rfl T.Hc.m T.Hc.f.kp T.Hc.b (Passes.s aA) (aa (qv 0) (aa (qv 1) ae)))))))
theorem BS {T:Txt P w K mg} (A:Al base T n):PB P w K mg base (PK P w) (3+n+1) T.Kc.a T.Kc.d ["tree","some","thing"] (PZ (gx T) (vo (cN n))):=by
 refine a7 (g:=gx T) T.Kc.f UG λcdv A' outer s H E hr=>?_;have nd:=UG.nd;exact (aH (bO (aj A.II hr rfl T.F3.m T.F3.f.kp T.F3.b (Passes.s aA) (aa (qv 0) ae)))
 (aH (bO (aj A.Jb hr rfl T.F6.m T.F6.f.kp T.F6.b (Passes.s aA) (aa (qv 1) ae)))
 (aH (aU (bx (cG rfl (aj A.JN hr rfl T.Gd.m T.Gd.f.kp T.Gd.b (Passes.s aA) (aa (qv 0) (aa (qv 1) (aa (qv 2) ae)))) (λ_=>rfl))) (ao (ip MV rfl MV T.JI gJ rfl T.Jl rfl (aa qs ae))) br)
 (ao (aD (bU (P0.or (PU.or bq)) bI (aj A.JA hr rfl T.F9.m T.F9.f.kp T.F9.b (Passes.s aA) (aa (qv 0) (aa (qv 1) (aa (qv 2) (aa (aL ae) ae))))) (aL (aa (cF (v:=.int 0) rfl T.Lc ⟨_,rfl⟩ (λ_ _=>R.int _)) ae))))))))
theorem nR {T:Txt P w K mg} (A:Al base T n):PB P w K mg base (PK P w) (3+n+1) T.IJ.a T.IJ.d ["thing","tree"] (PZ (gx T) (i7 (cN n))):=by
 refine a7 (g:=gx T) T.IJ.f RY λcdv A' outer s H E hr=>?_;have nd:=RY.nd;exact (aH (aU (PW.pt (dM (bx (cG rfl (fP (t:=5) (by decide) (by decide) rfl T.F2 rfl aB (qv 0) (cx (v:=.ty "list") rfl T.Kz eQ rfl)) (λ_=>rfl))) (bT (aT ki lP (b0 aw bw rfl T.GQ bb (qv 0)) (cF (v:=.int 6) rfl T.IV ⟨_,rfl⟩ (λ_ _=>R.int _)) (aI _))))) (ao (aD bX)) br)
 (aH (aU (bx (cG rfl (b0 (dk rfl) gB rfl T.KZ fB (bP (own:=["part"]) (fr:=[]) (N':=["part"]) (gF rfl (qv 0)) rfl (by show bj ["thing","tree","there"] (λx=>(ag dZ).names.lookup x) _ _ _ _=true;decide +kernel) rfl (λ_ _ _ _ _=>(a6 (i:=0) (by show List.Nodup [("part":Str)];decide +kernel) rfl (Or.inl rfl))) (λ_ _ _ _ _=>dD) (λ_ _ _ _ _=>(aj A.Lv hr rfl T.IG.m T.IG.f.kp T.IG.b bY (aa (qv 0) ae))))) (λ_=>rfl))) (ao (aD bX)) br)
 (aH (bg (i:=2) nd rfl (Or.inr rfl) (aj A.KQ hr rfl T.GX.m T.GX.f.kp T.GX.b (Passes.s aA) (aa (qv 1) ae)))
 (ao (aD (b0 (dk rfl) gB rfl T.KZ fB (bP (own:=["at","part"]) (fr:=[0,2]) (N':=["at","part","thing","there"]) (CF rfl rfl T.Ld (qv 0)) rfl (by show bj ["thing","tree","there"] (λx=>(ag dZ).names.lookup x) _ _ _ _=true;decide +kernel) rfl (λ_ _ _ _ _=>(dR rfl rfl (aG (a6 (i:=0) (by show List.Nodup [("at":Str),("part":Str),("thing":Str),("there":Str)];decide +kernel) rfl (Or.inl rfl)) (aG (a6 (i:=1) (by show List.Nodup [("at":Str),("part":Str),("thing":Str),("there":Str)];decide +kernel) rfl (Or.inl rfl)) bN)))) (λ_ _ _ _ _=>dD) (λ_ _ _ _ _=>(d8 (dJ (wX hr) As (qv 1) (qv 3) (by with_unfolding_all rfl)) (dI (dJ (uj hr) B9 (qv 1) (CJ rfl (qv 2) (qv 0)) (by with_unfolding_all rfl))))))))))))
theorem mz {T:Txt P w K mg} (A:Al base T n):PB P w K mg base (PK P w) (3+n+1) T.GK.a T.GK.d ["parts","tree"] (PZ (gx T) (gS (cN n))):=by refine a7 (g:=gx T) T.GK.f Rx λcdv A' outer s H E hr=>?_;have nd:=Rx.nd;exact (ao (aU (bx (cG rfl (aj A.LK hr rfl T.IJ.m T.IJ.f.kp T.IJ.b (Passes.s aA) (aa (qv 0) (aa (qv 1) ae))) (λ_=>rfl))) (ao (ip MV rfl MV T.JV gJ rfl T.JG rfl (aa qs ae))) br))
theorem mB {T:Txt P w K mg} (A:Al base T n):PB P w K mg base (PK P w) (3+n+1) T.GL.a T.GL.d ["tree","parts"] (PZ (gx T) (gU (cN n))):=by
 refine a7 (g:=gx T) T.GL.f Ry λcdv A' outer s H E hr=>?_;have nd:=Ry.nd;exact (aH (aU (aT (wX hr) As (qv 0) (qv 1) (by with_unfolding_all rfl)) (ao (aD (ah (aa qs (aa (bU (P0.or (PU.or bq)) bI (cS Oa Pq (lN hr) wU rfl (qv 1) (qv 0)) af) ae))))) br)
 (ao (aD (aj A.JP hr rfl T.Gb.m T.Gb.f.kp T.Gb.b (Passes.s aA) (aa (qv 0) (aa (qv 1) ae))))))
theorem gj {T:Txt P w K mg} (A:Al base T n):PB P w K mg base (PK P w) (3+n+1) T.Gb.a T.Gb.d ["tree","parts"] (PZ (gx T) (dC (cN n))):=by
 refine a7 (g:=gx T) T.Gb.f Qu λcdv A' outer s H E hr=>?_;have nd:=Qu.nd;exact (aH (bg (i:=2) nd rfl (Or.inl rfl) (aj A.Jc hr rfl T.F5.m T.F5.f.kp T.F5.b (Passes.s aA) (aa (qv 0) ae)))
 (aH (aU (bx (cG rfl (qv 2) (λ_=>rfl))) (ao (aD (qv 0))) br)
 (ao (aD (bU (P0.or (PU.or bq)) bI (ah (aa (aY ax aJ (qv 0) af (λ_ _=>rfl)) ae)) (iN bS gC rfl T.Jv cq (bP (own:=["one"]) (fr:=[1]) (N':=["one","parts"]) (kZ rfl (qv 2)) rfl (by show bj ["tree","parts","within"] (λx=>(ag cz).names.lookup x) _ _ _ _=true;decide +kernel) rfl (λ_ _ _ _ _=>(a6 (i:=0) (by show List.Nodup [("one":Str),("parts":Str)];decide +kernel) rfl (Or.inl rfl))) (λ_ _ _ _ _=>dD) (λ_ _ _ _ _=>(aj A.KR hr rfl T.GL.m T.GL.f.kp T.GL.b bY (aa (qv 0) (aa (qv 1) ae)))))))))))
theorem nU {T:Txt P w K mg} (A:Al base T n):PB P w K mg base (PK P w) (3+n+1) T.Gv.a T.Gv.d ["tree","some","parts"] (PZ (gx T) (i9 (cN n))):=by
 refine a7 (g:=gx T) T.Gv.f RZ λcdv A' outer s H E hr=>?_;have nd:=RZ.nd;exact (aH (bg (i:=3) nd rfl (Or.inl rfl) (bU (P0.or (PU.or bq)) bI (aL (aa (aj A.KR hr rfl T.GL.m T.GL.f.kp T.GL.b (Passes.s aA) (aa (qv 0) (aa (qv 2) ae))) ae)) (bP (own:=["part"]) (fr:=[2]) (N':=["part","parts"]) (gF rfl (qv 2)) rfl (by show bj ["tree","some","parts","roots","closings","bests","places","place","length","cover","code","root","closing"] (λx=>(ag d5).names.lookup x) _ _ _ _=true;decide +kernel) rfl (λ_ _ _ _ _=>(a6 (i:=0) (by show List.Nodup [("part":Str),("parts":Str)];decide +kernel) rfl (Or.inl rfl))) (λ_ _ _ _ _=>dD) (λ_ _ _ _ _=>(aj A.JP hr rfl T.Gb.m T.Gb.f.kp T.Gb.b bY (aa (qv 0) (aa (qv 1) ae)))))))
 (aH (bg (i:=4) nd rfl (Or.inl rfl) (bU (P0.or (PU.or bq)) bI (aL (aa (cF (v:=.int 0) rfl T.Lc ⟨_,rfl⟩ (λ_ _=>R.int _)) ae)) (bU gD eU (aL (aa (cF (v:=.int 16) rfl T.K8 ⟨_,rfl⟩ (λ_ _=>R.int _)) ae)) (b0 aw bw rfl T.GQ bb (qv 2)))))
 (aH (qB rfl (i:=5) (own:=["root"]) (fr:=[1]) (N':=["root","some"]) (gF rfl (qv 3)) rfl (by show bj ["tree","some","parts","roots","closings","bests","places","place","length","cover","code","root","closing"] (λx=>(ag d5).names.lookup x) _ _ _ _=true;decide +kernel) rfl (λ_ _ _ _ _ _ hp=>(a6 (i:=0) (by show List.Nodup [("root":Str),("some":Str)];decide +kernel) rfl (Or.inl rfl))) (λ_ _ _ _ _ _ hp=>dD) (λ_ _ _ _ _ _ hp=>(aj A.Js hr rfl T.F7.m T.F7.f.kp T.F7.b (Passes.s hp) (aa (qv 0) (aa (qv 1) ae)))) nd rfl rfl rfl)
 (aH (bg (i:=6) nd rfl (Or.inl rfl) (aL ae))
 (aH (bg (i:=7) nd rfl (Or.inl rfl) af)
 (aH (fh bR rfl (gF rfl (qv 5)) (dR rfl rfl (aG (a6 (i:=8) nd rfl (Or.inl rfl)) (aG (a6 (i:=9) nd rfl (Or.inl rfl)) bN))) (aH (bO (cS Ng Np ck fO rfl (qv 6) (qv 7)))
 (ao (xu (i:=7) nd rfl (Or.inl rfl) (bU (P0.or (PU.or bq)) bI (qv 8) af)))))
 (aH (bg (i:=10) nd rfl (Or.inl rfl) (aL ae))
 (aH (fh bR rfl (zJ rfl rfl T.LP (qv 3) (qv 5) (qv 4)) (dR rfl rfl (aG (a6 (i:=11) nd rfl (Or.inl rfl)) (aG (dR rfl rfl (aG (a6 (i:=8) nd rfl (Or.inl rfl)) (aG (a6 (i:=9) nd rfl (Or.inl rfl)) bN))) (aG (a6 (i:=12) nd rfl (Or.inl rfl)) bN)))) (aH (bO (cS ME MG aZ bZ rfl (qv 10) (aj A.JA hr rfl T.F9.m T.F9.f.kp T.F9.b (Passes.s aA) (aa (qv 11) (aa (qv 1) (aa (qv 9) (aa (qv 6) ae)))))))
 (ao (bO (cS Ng Np ck fO rfl (qv 10) (qv 12))))))
 (ao (aD (qv 10)))))))))))
theorem pM {T:Txt P w K mg} (A:Al base T n):PB P w K mg base (PK P w) (3+n+1) T.Il.a T.Il.d ["tree","some","parts"] (PZ (gx T) (jW (cN n))):=by
 refine a7 (g:=gx T) T.Il.f Si λcdv A' outer s H E hr=>?_;have nd:=Si.nd;exact (aH (bO (aj A.II hr rfl T.F3.m T.F3.f.kp T.F3.b (Passes.s aA) (aa (qv 0) ae)))
 (aH (bO (aj A.Jb hr rfl T.F6.m T.F6.f.kp T.F6.b (Passes.s aA) (aa (qv 1) ae)))
 (aH (bO (aj A.KP hr rfl T.GK.m T.GK.f.kp T.GK.b (Passes.s aA) (aa (qv 2) (aa (qv 0) ae))))
 (ao (aD (aj A.Kx hr rfl T.Gv.m T.Gv.f.kp T.Gv.b (Passes.s aA) (aa (qv 0) (aa (qv 1) (aa (qv 2) ae)))))))))
theorem BR {T:Txt P w K mg} (A:Al base T n):PB P w K mg base (PK P w) (3+n+1) T.Kb.a T.Kb.d ["tree","some","part"] (PZ (gx T) (vn (cN n))):=by
 refine a7 (g:=gx T) T.Kb.f UH λcdv A' outer s H E hr=>?_;have nd:=UH.nd;exact (aH (bO (aj A.II hr rfl T.F3.m T.F3.f.kp T.F3.b (Passes.s aA) (aa (qv 0) ae)))
 (aH (bO (aj A.Jb hr rfl T.F6.m T.F6.f.kp T.F6.b (Passes.s aA) (aa (qv 1) ae)))
 (aH (bO (aj A.KP hr rfl T.GK.m T.GK.f.kp T.GK.b (Passes.s aA) (aa (aL (aa (qv 2) ae)) (aa (qv 0) ae))))
 (ao (aD (bU mQ mM (b0 aw bw rfl T.GQ bb (aj A.K4 hr rfl T.Hc.m T.Hc.f.kp T.Hc.b (Passes.s aA) (aa (qv 0) (aa (qv 1) ae)))) (b0 aw bw rfl T.GQ bb (aj A.Kx hr rfl T.Gv.m T.Gv.f.kp T.Gv.b (Passes.s aA) (aa (qv 0) (aa (qv 1) (aa (aL (aa (qv 2) ae)) ae)))))))))))
theorem nS {T:Txt P w K mg} (A:Al base T n):PB P w K mg base (PK P w) (3+n+1) T.Hg.a T.Hg.d ["tree","some"] (PZ (gx T) (i8 (cN n))):=by
 refine a7 (g:=gx T) T.Hg.f R0 λcdv A' outer s H E hr=>?_;have nd:=R0.nd;exact (aH (bO (aj A.II hr rfl T.F3.m T.F3.f.kp T.F3.b (Passes.s aA) (aa (qv 0) ae)))
 (aH (bO (aj A.Jb hr rfl T.F6.m T.F6.f.kp T.F6.b (Passes.s aA) (aa (qv 1) ae)))
 (aH (bg (i:=2) nd rfl (Or.inl rfl) (b0 aw bw rfl T.GQ bb (aj A.K4 hr rfl T.Hc.m T.Hc.f.kp T.Hc.b (Passes.s aA) (aa (qv 0) (aa (qv 1) ae)))))
 (aH (bg (i:=3) nd rfl (Or.inl rfl) dy)
 (aH (bg (i:=4) nd rfl (Or.inl rfl) af)
 (aH (fh bR rfl (gF rfl (aj A.KQ hr rfl T.GX.m T.GX.f.kp T.GX.b (Passes.s aA) (aa (qv 0) ae))) (a6 (i:=5) nd rfl (Or.inl rfl)) (aH (Aw (λpn xe E hx=>(ao (bg (i:=6) nd rfl (Or.inl rfl) (bU mQ mM (qv 2) (b0 aw bw rfl T.GQ bb (aj A.Kx hr rfl T.Gv.m T.Gv.f.kp T.Gv.b hx (aa (qv 0) (aa (qv 1) (aa (aL (aa (qv 5) ae)) ae))))))))) rfl T.Jl (pQ T) (λe=>(ao Er)))
 (ao (aU (aT ki lP (qv 6) (qv 4) (aI _)) (ao (Ex (i:=3) (j:=4) rfl nd rfl rfl (by decide) rfl rfl (aa (qv 5) (aa (qv 6) ae)) (by kernel_rfl))) br))))
 (ao (aD (qv 3)))))))))
theorem Eh:∀ n x,ST[n]?=some x->hV (.str x)=cL n nms/\x.length<=100:=by
 have h:(List.range ST.length).all (λn=>match ST[n]? with | some x=>(hV (.str x) == cL n nms) && decide (x.length<=100) | none=>true)=true:=by decide +kernel
 intro n x e;have:=ON.mp h n (List.mem_range.mpr (Mk.mp e).1);rw [e,MC] at this;exact ⟨eq_of_beq this.1,M1 this.2⟩
theorem yZ {T:Txt P w K mg}:PB P w K mg base (PK P w) (3+n+1) T.Jo.a T.Jo.d ["thing"] (EV.PZ (gx T) lR) :=
 (PB.imp (qm (k:=3+n) T) λvs H Q E ⟨m,S,as,s,r,h⟩=>by
  match as,r with
  | [],r=>exact h.elim
  | [a],r =>
   obtain ⟨v,t,rfl,r1,r2⟩:=r.PL;have r2:=r2.Qp;subst r2
   cases a with
   | str k =>obtain ⟨x,e,rfl⟩:=r1.Qd;obtain ⟨b,eb,q⟩:=Out.bA h s;cases eb;have hn:=Eh k x e;refine ⟨[.str x],.bl (cL k nms),PF.cons (Dat.Vh x) PF.nil,⟨.str x,rfl,dj (by have:=hn.2;omega),by rw [hn.1]⟩,λv H' sm d=>?_⟩;obtain ⟨s2,x2⟩:=s.same sm;rw [d.QL];have h':Out (gx T) m S H (bA (some (cL k nms)) S) (An (gx T) Q) E:=h;have h2:=Out.bA (h'.ext x2) s2;obtain ⟨b,eb,q⟩:=h2;cases eb;exact q
   | _=>exact h.elim
  | a::b::c,r=>cases a <;> exact h.elim).YS
variable {H:Hp} {i:Nat}
theorem kj {T:Txt P w K mg} {m:List Addr} {S:PD} {va vt vl:V} {j:Nat} {xs:List EV.A} {Q:VK} {E:XK} (s:PN (gx T) m S H) (ra:R (gx T) H m .Q0 va) (rt:R (gx T) H m (.ref i) vt) (ht:look i S.cs=some .RB) (rl:R (gx T) H m (.ref j) vl) (hl:Ug S j=some xs) (h0:0 < xs.length) (h9:xs.length<=900)
  (q:∀ (k:Nat) x,xs[k]?=some x->∀ H' v,Ext m S H m S H'->PN (gx T) m S H'->R (gx T) H' m x v->Q v H'):dO K [va,vt,vl] H Q E:=by
 obtain ⟨a,ns,rfl,sc⟩:=ra.Vt;obtain ⟨t,et,rfl⟩:=rt.RD;obtain ⟨l,el,rfl⟩:=rl.RD;obtain ⟨t',et',p,q',rest,hT,hp⟩:=s.cell i _ ht;rw [et] at et';cases et';obtain ⟨l',vs,el',hL,rs⟩:=P6.look s hl;rw [el] at el';cases el'
 have hlt:l≠t:=λz=>by have:=s.uniq el (z ▸ et);subst this;unfold Ug at hl;rw [ht] at hl;cases hl
 have hlen:=rs.length;refine ⟨a,t,l,ns,vs,p,q',rest,rfl,sc,P6.of hL,hlt,by omega,by omega,hT,hp,λk x H' p' q'' bt hT' Zd hx=>?_⟩;have lv:Ud m S t:=⟨i,_,et,ht,rfl⟩
 have lo:∀ b,H' b=none->H b=none:=λb z=>by
  cases hb:H b with
  | none=>rfl
  | some o =>
   by_cases e:b=t
   ·rw [e,hT'] at z;cases z
   ·rw [bt b o e hb] at z;cases z
 have x2:Ext m S H m S H':=⟨⟨[],by simp⟩,lo,λb o hn hb=>bt b o (λe=>hn (e ▸ lv)) hb,λ_ c _ e o=>⟨c,e,o⟩⟩
 have s2:PN (gx T) m S H':=⟨s.len,s.nd,λb hb z=>s.up b hb (x2.low b z),λk c e=>by
  obtain ⟨b,eb,ok⟩:=s.cell k c e;refine ⟨b,eb,?_⟩;by_cases z:b=t
  ·subst z;have:=s.uniq eb et;subst this;rw [ht] at e;cases e;exact ⟨p',q'',rest,hT',Zd⟩
  ·exact ok.mono x2 s λo h=>bt b o z h⟩
 cases hk:xs[k]? with
 | none =>have h1:=NB.mp hk;have h2:=(Mk.mp hx).1;omega
 | some y=>exact q k y hk H' x x2 s2 (R.mono x2 s y (rs.at hk hx))
theorem rD {T:Txt P w K mg} (F:PB P w K mg base Ul (3+n+1) T.F1.a T.F1.d ["_law_script","_law_town","_law_some"] (dO K)):PB P w K mg base (PK P w) (3+n+1) T.F1.a T.F1.d ["_law_script","_law_town","_law_some"] (EV.PZ (gx T) cv) :=
 (PB.imp F λvs H Q E ⟨m,S,as,s,r,h⟩=>by
  unfold cv at h;split at h
  ·rename_i i j;obtain ⟨va,t,rfl,r1,r2⟩:=r.PL;obtain ⟨vt,t,rfl,r3,r4⟩:=r2.PL;obtain ⟨vl,t,rfl,r5,r6⟩:=r4.PL;rw [r6.Qp];split at h
   ·rename_i ht;split at h
    ·rename_i x xs hl;split at h
     ·rename_i h9;exact kj s r1 r3 ht r5 hl (by simp) (dA h9) λk y hy H' v x2 s2 rv=>(h.ext x2).ret s2 v R.any
     ·exact h.elim
    ·exact h.elim
   ·exact h.elim
  ·exact h.elim).YS
theorem al0 {T:Txt P w K mg}:Al base T 0:=⟨aR,aR,aR,aR,aR,aR,aR,aR,aR,aR,aR,aR,aR,aR,aR,aR,aR,aR,aR,aR,aR,aR,aR,aR,aR,aR,aR,aR,aR,aR,aR,aR,aR,aR,aR,aR,aR,aR,aR,aR,aR,aR,aR,aR,aR,aR,aR,aR,aR,aR⟩
theorem alS {T:Txt P w K mg} (A:Al base T n):Al base T (n+1):=⟨pL A,nV A,tP A,j3 A,tQ A,n0 A,v8 A,iF A,tO A,gW A,pN A,kW A,mw A,mr A,tN A,gz A,pK A,vZ A,pO A,jE A,tR A,pJ A,kT A,nW A,jD A,tU A,nY A,j2 A,jB A,jC A,iE A,nZ A,pI A,kU A,nX A,my A,mx A,tM A,DW A,BS A,nR A,mz A,mB A,gj A,nU A,pM A,BR A,nS A,yZ,rD (ia (k:=3+n) T (hZ (k:=2+n) T |>.mono (by omega)))⟩
theorem alN (T:Txt P w K mg):∀ n,Al base T n
 | 0=>al0
 | n+1=>alS (alN T n)
theorem E1 (T:Txt P w K mg):∀ c,cL c [2,8,9,10]=true->W.exmOne K (.ref ((gx T).cls c)) (.ref T.GI)=some true/\qT T ((gx T).cls c) (c - 1):=λc h=>by
 have e:c=2\/c=8\/c=9\/c=10:=by
  unfold cL at h
  cases q0:Nat.beq 2 c with
  | true=>exact .inl (ML q0).symm
  | false =>
  rw [q0] at h;dsimp only at h;unfold cL at h
  cases q1:Nat.beq 8 c with
  | true=>exact .inr (.inl (ML q1).symm)
  | false =>
  rw [q1] at h;dsimp only at h;unfold cL at h
  cases q2:Nat.beq 9 c with
  | true=>exact .inr (.inr (.inl (ML q2).symm))
  | false =>
  rw [q2] at h;dsimp only at h;unfold cL at h
  cases q3:Nat.beq 10 c with
  | true=>exact .inr (.inr (.inr ((ML q3).symm)))
  | false =>
  rw [q3] at h;dsimp only at h;unfold cL at h;cases h
 rcases e with rfl | rfl | rfl | rfl
 ·exact ⟨T.GM,.inl ⟨rfl,rfl⟩⟩
 ·exact ⟨T.GR,.inr (.inl ⟨rfl,rfl⟩)⟩
 ·exact ⟨T.Gz,.inr (.inr (.inl ⟨rfl,rfl⟩))⟩
 ·exact ⟨T.GA,.inr (.inr (.inr (⟨rfl,rfl⟩)))⟩
variable {E:L2.St->XK} {k1:Cs} {r:Nat} {cs:List Nat}
theorem Aa {T:Txt P w K mg} {D:Ends} {σ:L2.St} (h:tS (gx T) E (rM k1 i r cs) D σ H) (hr:ST[r]?=some "refused")
  (hcs:∀ c,cL c cs=true->W.exmOne K (.ref ((gx T).cls c)) (.ref T.GI)=some true/\qT T ((gx T).cls c) (c - 1)) :
  tS (gx T) (λσ' cls _ H'=>W.exmOne K cls (.ref T.GI)=some true/\∃ Dx,cls=.ref Dx/\∀ a,H' a=none->(xW (fU (jL T) [] (λ_ _ _=>False) (bh (eO i) dP))) (D.gone i) (σ'.set i (some (.ref a))) (upd H' a (gi a Dx))) k1 D σ H:=by
 obtain ⟨m,ρ,S,s,re,h⟩:=h;refine ⟨m,ρ,S,s,re,?_⟩;unfold rM at h
 cases q:k1 ρ S with
 | bad=>rw [q] at h;exact h
 | ok f S1=>rw [q] at h;cases f <;> exact h
 | exc c ρ1 S1 =>
  rw [q] at h;dsimp only at h
  cases qc:cL c cs with
  | false=>rw [qc] at h;exact h.elim
  | true =>
   rw [qc] at h;dsimp only at h
   cases qi:ρ1[i]? with
   | none=>rw [qi] at h;exact h.elim
   | some o =>rw [qi] at h;intro m1 H1 σ1 dx x1 s1 Rr;obtain ⟨hx,hw⟩:=hcs c qc;refine ⟨hx,_,rfl,λa ha=>⟨.ref a,NK (by rw [<- Rr.len];exact (Mk.mp qi).1),a,_,c - 1,rfl,aF,hw,λv H2 sm dv=>?_⟩⟩;have sm':=(bz ha (gi a ((gx T).cls c))).trans sm;obtain ⟨s2,x2⟩:=s1.same sm';refine h m1 H2 v (x1.trans x2) s2 ?_;obtain ⟨p,vs,rfl,sq,ds⟩:=dv.P8;obtain ⟨u,t,rfl,d1,d2⟩:=ds.PL;obtain ⟨u',t,rfl,d3,d4⟩:=d2.PL;have d4:=d4.Qp;subst d4;rw [d1.Qd,d3.PY] at sq;exact R.tup sq (.cons (R.str hr) (.cons (R.int _) .nil))
theorem CM {X:Cx} (T:Txt X.prog X.w X.K X.mg) {body suite:List Stmt} {b₀:Stmt} {np hpos pos:Pos} {x:Str}
  (hb:∀ (pn:List (Addr × Obj)) (xe:Value->Shared->Prop) (E:L2.St->XK),cm (PK X.prog X.w) { X with pn:=pn,xe:=xe } E->QI { X with pn:=pn,xe:=xe } body (tS (gx T) E k1)) (hg:Gl X "PieceError") (hN:X.N.Nodup) (hi:X.N[i]?=some x) (hl:X.env.kindOf x=some .local)
  (hh:∀ e:Value,QI (X.hand e) (b₀::suite) (xW (fU (jL T) [] (λ_ _ _=>False) (bh (eO i) dP)))) (hr:ST[r]?=some "refused") (hcs:∀ c,cL c cs=true->W.exmOne X.K (.ref ((gx T).cls c)) (.ref T.GI)=some true/\qT T ((gx T).cls c) (c - 1))
  (hst:X.stack=X.env::X.outer:=by rfl) (hfr:X.env.frame=some X.env.locals:=by rfl):PS X (.Try body [.ExceptHandler (some (.Name "PieceError" np)) (some x) (b₀::suite) hpos] [] [] pos) (tS (gx T) E (rM k1 i r cs)) :=
 TZ (uw (i:=i) (t:=λE=>tS (gx T) E k1) hb hg T.Jm hN hi hl hh hst hfr) λD σ H h=>Aa h hr hcs
theorem wj {T:Txt P w K mg} {x qual:Str} {st:Stmt} {f:Addr} {fd:FuncData} {N:List Str} {p0 p1:Str} {k b:Nat} {c:Cs} (F:UQ K x qual st f fd) (S:Pz N [p0,p1] (ag st))
  (hb:∀ (cdv:Value) (A:Around) (outer:List PySem.Env) (s:Shared) (H:Hp) (E:XK),P5 k (A.deeper (envOfC qual (ag st) s.heap.objs.size f cdv))->QI (dm (PK P w) P w K mg base N qual (ag st) f cdv A outer s H E) (b8 st)
   (Yp (gx T) (λ_=>E) c (xW λσ=>fU (dO K) [] E (bh (eO 0) (bh (eO 1) (bh (eO b) dP))) σ))) :
  PB P w K mg base (PK P w) (k+1) f fd [p0,p1] (Vz (gx T) (Ui c N.length b)):=by
 have hpl:2<=N.length:=by have:=M5 List.length S.pre;rw [N3] at this;simp at this;omega
 refine F.YZ S (λvs H Q E ⟨m,S,as,xs,S',s,r,h,_⟩=>?_) λcdv A outer s H vs Q E hr ⟨m,S',as,xs,S2,sm,r,h,q⟩=>⟨_,hb cdv A outer s H E hr,?_⟩
 ·rw [r.length];unfold Ui at h;split at h
  ·rfl
  ·cases h
 ·unfold Ui at h;split at h
  ·rename_i t;rw [bW] at h;refine ⟨m,_,S',sm,kr (as:=[.Q0,.ref t]) r (by rw [r.length];exact hpl),?_⟩;split at h
   ·rename_i ρ S3 hc;have hc':c (([.Q0,.ref t]:List EV.A).map some++List.replicate (N.length - ([.Q0,.ref t]:List EV.A).length) none) S'=.ok (.nx ρ) S3:=hc;rw [hc'];intro m3 H3 σ3 x3 s3 Tg;split at h
    ·rename_i t' j e0 e1 eb;split at h
     ·rename_i y ys ht hl;split at h
      ·rename_i h9;cases h;obtain ⟨v0,g0,r0⟩:=Tg.get 0 _ e0;obtain ⟨v1,g1,r1⟩:=Tg.get 1 _ e1;obtain ⟨vb,gb,rb⟩:=Tg.get b _ eb;exact ⟨v0,g0,v1,g1,vb,gb,kj (E:=E) s3 r0 r1 ht rb hl (by simp) (dA h9) λk x hx H4 v x4 s4 rv=>q k x hx m3 H4 v (x3.trans x4) s4 rv⟩
      ·cases h
     ·cases h
    ·cases h
   ·cases h
  ·cases h
noncomputable def ji (P:Nat->List EV.A->PD->Res EV.A):Cs:=(sq (Qi (Qg (cO oLt (cV 0) (cC (.int (.ofNat 4))))) (aQ (vg [P 31,P 32,P 38,P 47] (cV 0) (aC (cV 1) (aC (cV 2) aN)))) Qf) (aQ (vg [P 33,P 39,P 45,P 46] (cO wR (cV 0) (cC (.int (.ofNat 4)))) (aC (cV 1) (aC (cV 2) (aC (cV 3) aN))))))
noncomputable def gw (P:Nat->List EV.A->PD->Res EV.A):List EV.A->PD->Res EV.A:=bE 4 5 (rM (ji P) 4 23 [2,8,9,10])
theorem pH {T:Txt P w K mg} (A:Al base T n) (FW:qS P w K mg base (3+n) T.Ic.a T.Ic.d ["_law_e"] (jL T)):PB P w K mg base (PK P w) (3+n+1) T.F0.a T.F0.d ["_law_what","_law_tree_here","_law_some","_law_other"] (EV.PZ (gx T) (gw (cN n))):=by
 refine a7 (g:=gx T) T.F0.f Sj λcdv A' outer s H E hr=>?_;have nd:=Sj.nd;refine ao (CM (X:=dm (PK P w) P w K mg base ["_law_what","_law_tree_here","_law_some","_law_other","_law_e"] "_law_ask" (ag gI) T.F0.a cdv A' outer s H E) T (i:=4) (k1:=ji (cN n)) (λpn xe E hx=>?_) rfl nd rfl rfl (λe=>cy (dc (xa (E:=λ_ _ _=>False) FW hr.h.mark rfl T.Ic.m T.Ic.f.kp T.Ic.b .nil (a9 (pv 4) aM)))) rfl (E1 T));exact (aH (aU (aT lQ oN (qv 0) af (aI _)) (ao (aD (xA [(T.Hj.a,cN n 31),(T.Ik.a,cN n 32),(T.KI.a,cN n 38),(T.Hg.a,cN n 47)] (Q2 (d7 (a9 (aW (v:=.ref T.Hj.a) rfl T.Hj.m rfl) (a9 (aW (v:=.ref T.Ik.a) rfl T.Ik.m rfl) (a9 (aW (v:=.ref T.KI.a) rfl T.KI.m rfl) (a9 (aW (v:=.ref T.Hg.a) rfl T.Hg.m rfl) aM))))) λσ H Q h=>⟨dj (by show 4<=1000;decide),h⟩) (qv 0) (aa (qv 1) (aa (qv 2) ae)) (λ_ _=>rfl) (by intro q hq;simp only [MA,MR,NF] at hq;rcases hq with rfl | rfl | rfl | rfl;exact ⟨T.Hj.f.kp,_,_,_,_,A.LO,hr,T.Hj.b,hx⟩;exact ⟨T.Ik.f.kp,_,_,_,_,A.LS,hr,T.Ik.b,hx⟩;exact ⟨T.KI.f.kp,_,_,_,_,A.Mp,hr,T.KI.b,hx⟩;exact ⟨T.Hg.f.kp,_,_,_,_,A.LL,hr,T.Hg.b,hx⟩)))) br)
 (ao (aD (xA [(T.GH.a,cN n 33),(T.Kc.a,cN n 39),(T.Il.a,cN n 45),(T.Kb.a,cN n 46)] (Q2 (d7 (a9 (aW (v:=.ref T.GH.a) rfl T.GH.m rfl) (a9 (aW (v:=.ref T.Kc.a) rfl T.Kc.m rfl) (a9 (aW (v:=.ref T.Il.a) rfl T.Il.m rfl) (a9 (aW (v:=.ref T.Kb.a) rfl T.Kb.m rfl) aM))))) λσ H Q h=>⟨dj (by show 4<=1000;decide),h⟩) (bU mQ mM (qv 0) af) (aa (qv 1) (aa (qv 2) (aa (qv 3) ae))) (λ_ _=>rfl) (by intro q hq;simp only [MA,MR,NF] at hq;rcases hq with rfl | rfl | rfl | rfl;exact ⟨T.GH.f.kp,_,_,_,_,A.Lr,hr,T.GH.b,hx⟩;exact ⟨T.Kc.f.kp,_,_,_,_,A.Mo,hr,T.Kc.b,hx⟩;exact ⟨T.Il.f.kp,_,_,_,_,A.LV,hr,T.Il.b,hx⟩;exact ⟨T.Kb.f.kp,_,_,_,_,A.Mn,hr,T.Kb.b,hx⟩)))))
noncomputable def cA (as:List EV.A) (S:PD):Res EV.A:=gw (cN 30) as S
noncomputable def bL:List EV.A->PD->Res EV.A:=bE 2 5 (sq (bF 2 (av (aC (cC (.str 14)) (aC (av (aC (cC (.str 14)) (aC (av (aC (cC (.str 6)) (aC (cC (.int (.ofNat 1))) aN))) (aC (av (aC (cC (.str 6)) (aC (cC (.int (.ofNat 2))) aN))) aN)))) (aC (av (aC (cC (.str 16)) (aC (av (aC (cC (.str 6)) (aC (cC (.int (.ofNat 3))) aN))) (aC (av (aC (cC (.str 6)) (aC (cC (.int (.ofNat 4))) aN))) aN)))) aN))))) (sq (bF 3 (cO c9 (cO c9 (a8 (aC (cV 2) (aC (cO Qc (cV 2) (cC (.int (.ofNat 1)))) (aC (cO Qc (cV 2) (cC (.int (.ofNat 2)))) aN)))) (cU yb (cO qG (cO Qc (cV 2) (cC (.int (.ofNat 1)))) (cC (.int (.ofNat 1)))))) (cU yb (cO qG (cO Qc (cV 2) (cC (.int (.ofNat 2)))) (cC (.int (.ofNat 1))))))) (sq (Qi (Su (Qg (cO Tn (au cA (aC (cC (.int (.ofNat 6))) (aC (cV 2) (aC (cV 1) (aC (cV 3) aN))))) (av (aC (cC (.str 23)) (aC (cC (.int (.ofNat 9))) aN))))) (RG (tV (cU (UW 5) (au cA (aC (cC (.int (.ofNat 6))) (aC (cV 2) (aC (cV 1) (aC (cO C0 (cV 3) (cC (.int (.ofNat 1)))) aN))))))))) (aQ (cC (.bl false))) Qf) (sq (bF 4 (a8 (aC (cO Qc (cC Gy) (cC (.int (.ofNat 2)))) (aC (av (aC (cC (.str 22)) (aC (av (aC (cC (.str 14)) (aC (av (aC (cC (.str 4)) (aC (cC (.int (.ofNat 0))) aN))) (aC (av (aC (cC (.str 1)) (aC (cC (.int (.ofNat 0))) (aC (cC (.int (.ofNat 9999))) aN)))) aN)))) (aC (av (aC (cC (.int (.ofNat 2))) (aC (av (aC (cC (.str 8)) (aC (cC (.int (.ofNat 0))) aN))) (aC (av (aC (cC (.str 9)) (aC (cC (.int (.ofNat 0))) aN))) (aC (cC (.int (.ofNat 4))) aN))))) aN)))) aN)))) (sq (Qi (Su (Qg (cO Tn (au cA (aC (cC (.int (.ofNat 6))) (aC (cV 0) (aC (cV 4) (aC (a8 (aC (av (aC (cC (.str 6)) (aC (cC (.int (.ofNat 7))) aN))) aN)) aN))))) (av (aC (cC (.str 23)) (aC (cC (.int (.ofNat 8))) aN))))) (Qg (cO Tn (au cA (aC (cC (.int (.ofNat 7))) (aC (cV 0) (aC (cV 4) (aC (av (aC (cC (.str 6)) (aC (cC (.int (.ofNat 7))) aN))) aN))))) (av (aC (cC (.str 23)) (aC (cC (.int (.ofNat 8))) aN)))))) (aQ (cC (.bl false))) Qf) (sq (Qi (Su (Qg (cO Tn (au cA (aC (cC (.int (.ofNat 0))) (aC (cV 0) (aC (cV 4) (aC (cC (.PJ)) aN))))) (cC (.int (.ofNat 6))))) (Qg (cU rT (au cA (aC (cC (.int (.ofNat 3))) (aC (cV 0) (aC (cV 4) (aC (cC (.PJ)) aN)))))))) (aQ (cC (.bl false))) Qf) (aQ (cC (.bl true)))))))))
theorem gy {T:Txt P w K mg} (FA:PB P w K mg base (PK P w) (n+1) T.F0.a T.F0.d ["_law_what","_law_tree_here","_law_some","_law_other"] (EV.PZ (gx T) cA)):PB P w K mg base (PK P w) (n+1+1) T.Ga.a T.Ga.d ["_law_tree_here","_law_basic"] (EV.PZ (gx T) bL):=by
 refine a7 (g:=gx T) T.Ga.f Qz λcdv A' outer s H E hr=>?_;have nd:=Qz.nd;refine' aH ?_ ?_
 ·refine' bg (i:=2) ?_ ?_ ?_ ?_
  ·exact nd
  ·exact rfl
  ·exact (Or.inl rfl)
  refine' ah ?_;refine' aa ?_ ?_
  ·exact qs
  refine' aa ?_ ?_
  ·exact (ah (aa qs (aa (ah (aa qs (aa af ae))) (aa (ah (aa qs (aa af ae))) ae))))
  exact (aa (ah (aa qs (aa (ah (aa qs (aa af ae))) (aa (ah (aa qs (aa af ae))) ae)))) ae)
 refine' aH ?_ ?_
 ·refine' bg (i:=3) ?_ ?_ ?_ ?_
  ·exact nd
  ·exact rfl
  ·exact (Or.inl rfl)
  refine' bU (P0.or (PU.or bq)) bI ?_ ?_
  ·refine' bU (P0.or (PU.or bq)) bI ?_ ?_
   ·exact (aL (aa (qv 2) (aa (aY ax aJ (qv 2) af (λ_ _=>rfl)) (aa (aY ax aJ (qv 2) af (λ_ _=>rfl)) ae))))
   exact (iN eR qo rfl T.Kz eQ (kq rfl (aY ax aJ (qv 2) af (λ_ _=>rfl)) af))
  exact (iN eR qo rfl T.Kz eQ (kq rfl (aY ax aJ (qv 2) af (λ_ _=>rfl)) af))
 refine' aH ?_ ?_
 ·refine' aU ?_ ?_ ?_
  ·refine' PW.pt ?_;refine' dM ?_ ?_
   ·exact (aT ((cf hr).or (cg hr)) cX (aj FA hr rfl T.F0.m T.F0.f.kp T.F0.b (Passes.s aA) (aa af (aa (qv 2) (aa (qv 1) (aa (qv 3) ae))))) (ah (aa qs (aa af ae))) (aI _))
   refine' bT ?_;refine' bx ?_;refine' cG ?_ ?_ ?_
   ·exact rfl
   ·refine' fP (t:=5) ?_ ?_ ?_ T.F2 ?_ aB ?_ (cx (v:=.ty "list") rfl T.Kz eQ rfl)
    ·decide
    ·decide
    ·exact rfl
    ·exact rfl
    exact (aj FA hr rfl T.F0.m T.F0.f.kp T.F0.b (Passes.s aA) (aa af (aa (qv 2) (aa (qv 1) (aa (CK rfl (qv 3) af) ae)))))
   exact (λ_=>rfl)
  ·exact (ao (aD bX))
  exact br
 refine' aH ?_ ?_
 ·refine' bg (i:=4) ?_ ?_ ?_ ?_
  ·exact nd
  ·exact rfl
  ·exact (Or.inl rfl)
  refine' aL ?_;refine' aa ?_ ?_
  ·exact (aY ax aJ (cF (v:=.ref T.Ja) rfl T.Im rfl (fC T.Gy (by rfl) (by rfl))) af (λ_ _=>rfl))
  refine' aa ?_ ?_
  ·refine' ah ?_;refine' aa ?_ ?_
   ·exact qs
   refine' aa ?_ ?_
   ·exact (ah (aa qs (aa (ah (aa qs (aa af ae))) (aa (ah (aa qs (aa af (aa af ae)))) ae))))
   exact (aa (ah (aa af (aa (ah (aa qs (aa af ae))) (aa (ah (aa qs (aa af ae))) (aa af ae))))) ae)
  exact ae
 refine' aH ?_ ?_
 ·refine' aU ?_ ?_ ?_
  ·refine' PW.pt ?_;refine' dM ?_ ?_
   ·refine' aT ((cf hr).or (cg hr)) cX ?_ ?_ ?_
    ·exact (aj FA hr rfl T.F0.m T.F0.f.kp T.F0.b (Passes.s aA) (aa af (aa (qv 0) (aa (qv 4) (aa (aL (aa (ah (aa qs (aa af ae))) ae)) ae)))))
    ·exact (ah (aa qs (aa af ae)))
    exact (aI _)
   refine' bT ?_;refine' aT ((cf hr).or (cg hr)) cX ?_ ?_ ?_
   ·exact (aj FA hr rfl T.F0.m T.F0.f.kp T.F0.b (Passes.s aA) (aa af (aa (qv 0) (aa (qv 4) (aa (ah (aa qs (aa af ae))) ae)))))
   ·exact (ah (aa qs (aa af ae)))
   exact (aI _)
  ·exact (ao (aD bX))
  exact br
 refine' aH ?_ ?_
 ·refine' aU ?_ ?_ ?_
  ·refine' PW.pt ?_;refine' dM ?_ ?_
   ·exact (aT ((cf hr).or (cg hr)) cX (aj FA hr rfl T.F0.m T.F0.f.kp T.F0.b (Passes.s aA) (aa af (aa (qv 0) (aa (qv 4) (aa dy ae))))) af (aI _))
   exact (bT (rG (aj FA hr rfl T.F0.m T.F0.f.kp T.F0.b (Passes.s aA) (aa af (aa (qv 0) (aa (qv 4) (aa dy ae)))))))
  ·exact (ao (aD bX))
  exact br
 exact (ao (aD bX))
end
noncomputable def tPk (g:Gx) (cs:Ca):TE:=λσ H Q=>∃ m ρ S,PN g m S H/\Re g H m ρ σ/\∃ t j xs S1,cs ρ S=.ok [.Q0,.ref t,.ref j] S1/\look t S1.cs=some .RB/\Ug S1 j=some xs/\0 < xs.length/\xs.length<=900 /\
 ∀ (k:Nat) x,xs[k]?=some x->∀ m' H' v,Ext m S H m' S1 H'->PN g m' S1 H'->Re g H' m' ρ σ->R g H' m' x v->Q v H'
variable {X:Cx} {E:L2.St->XK} {a:Expr} {es:List Expr} {cs:Ca} {p pos:Pos}
theorem CI (T:Txt X.prog X.w X.K X.mg) {k:Nat}
  (FP:PB X.prog X.w X.K X.mg X.base (PK X.prog X.w) k T.F1.a T.F1.d ["_law_script","_law_town","_law_some"] (dO X.K)) (hr:P5 k X.A) (hg:Gl X "_law_pick") (hx:cm (PK X.prog X.w) X E)
  (ha:PA X (a::es) (U7 (gx T) E cs)) (hdb:(("_law_pick":Str) == ("__debug__":Str))=false:=by decide) (he:starEach (a::es) X.env=(false,eval a X.env)::starEach es X.env:=by rfl) (hpl:(backTo pos (starEach es X.env)).any (·.1)=false:=by rfl) :
  PE X (.Call (.Name "_law_pick" p) (a::es) [] pos) (tPk (gx T) cs) :=
 Q2 (eH (Sq:=[]) FP hr hg T.F1.m T.F1.f.kp T.F1.b .nil hx ha hdb he hpl) λσ H Q ⟨m,ρ,S,s,re,t,j,xs,S1,e,ht,hl,h0,h9,q⟩=>⟨m,ρ,S,s,re,by
  rw [e];intro m1 H1 x1 s1 vs rs;obtain ⟨v1,r1,rfl,q1,rs⟩:=rs.PL;obtain ⟨v2,r2,rfl,q2,rs⟩:=rs.PL;obtain ⟨v3,r3,rfl,q3,rs⟩:=rs.PL;have rs:=rs.Qp;subst rs;exact kj s1 q1 q2 ht q3 hl h0 h9 λk x hx H2 v x2 s2 rv=>q k x hx m1 H2 v (x1.trans x2) s2 ((re.mono x1 s).mono x2 s1) rv⟩
noncomputable def i4 (g:Gx) (i:Nat) (cs:Ca):TS:=λD σ H=>∃ m ρ S,PN g m S H/\Re g H m ρ σ/\∃ t j xs S1,cs ρ S=.ok [.Q0,.ref t,.ref j] S1/\look t S1.cs=some .RB/\Ug S1 j=some xs/\0 < xs.length/\xs.length<=900 /\
 ∀ (k:Nat) x,xs[k]?=some x->∀ m' H' σ',Ext m S H m' S1 H'->PN g m' S1 H'->Re g H' m' (ρ.set i (some x)) σ'->D.nx σ' H'
theorem gf (T:Txt X.prog X.w X.K X.mg) {k i:Nat} {pos' pos2:Pos} {y:Str}
  (FP:PB X.prog X.w X.K X.mg X.base (PK X.prog X.w) k T.F1.a T.F1.d ["_law_script","_law_town","_law_some"] (dO X.K)) (hr:P5 k X.A) (hg:Gl X "_law_pick") (hx:cm (PK X.prog X.w) X E)
  (ha:PA X (a::es) (U7 (gx T) E cs)) (hN:X.N.Nodup) (hi:X.N[i]?=some y) (hl:Loc X.env.scope y)
  (hs:swapsWith (.Call (.Name "_law_pick" p) (a::es) [] pos) (some (.Name y pos')) pos2.line X.env=pure false:=by rfl) (hf:X.fn y=true\/X.env.scope.names.lookup y=some .local:=by first | exact .inl rfl | exact .inr rfl | assumption)
  (he:starEach (a::es) X.env=(false,eval a X.env)::starEach es X.env:=by rfl) (hpl:(backTo pos (starEach es X.env)).any (·.1)=false:=by rfl) :
  PS X (.Assign [.Name y pos'] (.Call (.Name "_law_pick" p) (a::es) [] pos) pos2) (i4 (gx T) i cs) :=
 TZ (gE hN hi hl (CI T FP hr hg hx ha (by decide) he hpl) hs hf) λD σ H ⟨m,ρ,S,s,re,t,j,xs,S1,e,ht,hl,h0,h9,q⟩ =>
  ⟨m,ρ,S,s,re,t,j,xs,S1,e,ht,hl,h0,h9,λk x hx m' H' v x1 s1 Rr rv=>q k x hx m' H' _ x1 s1 (Rr.set rv i)⟩
theorem PN.Zt {g:Gx} {H:Hp} {m:List Addr} {S:PD} (s:PN g m S H) (i:Nat) {p q:Int} {rest:List EV.A} (h:look i S.cs=some (.lst (.int p::.int q::rest))) (hp:0<=p):PN g m ⟨S.nx,put i .RB S.cs⟩ H:=by
 refine ⟨s.len,s.nd,s.up,λj c e=>?_⟩;rcases eG e with ⟨rfl,rfl,_⟩ | ⟨_,z⟩
 ·obtain ⟨a,z,vs,hv,r⟩:=s.cell j _ h;obtain ⟨v1,r1,rfl,q1,r⟩:=r.PL;obtain ⟨v2,r2,rfl,q2,r⟩:=r.PL;rw [q1.PY,q2.PY] at hv;exact ⟨a,z,p,q,r2,hv,hp⟩
 ·exact s.cell j c z
section
variable {P:Program} {w:World} {K:W.Frag} {mg:Str->Option Value} {base:Heap} {k:Nat}
noncomputable def g6:Ca:=(aC (cV 0) (aC (cV 1) (aC (cV 5) aN)))
noncomputable def bo:Cs:=(Qi (Qg (cO Tn (bV (tZ (cC (.int (.ofNat 8)))) 1 [0,1,2,4,5] (gN 0) tT (au cA (aC (cV 0) (aC (cV 3) (aC (au cv (aC (cV 1) (aC (cV 2) (aC (a8 (aC (cV 5) (aC (cV 4) aN))) aN)))) (aC (cC (.PJ)) aN)))))) (cO hX (a8 (aC (av (aC (cC (.str 23)) (aC (cC (.int (.ofNat 1))) aN))) aN)) (cC (.int (.ofNat 8)))))) (aQ (cC (.bl false))) Qf)
noncomputable def aK:Cs:=(Qi (Qg (cO Tn (bV (tZ (cC (.int (.ofNat 8)))) 1 [3,5] (gN 0) tT (au cA (aC (cV 0) (aC (cV 1) (aC (cV 2) (aC (cC (.PJ)) aN)))))) (cO hX (a8 (aC (av (aC (cC (.str 23)) (aC (cC (.int (.ofNat 7))) aN))) aN)) (cC (.int (.ofNat 8)))))) (aQ (cC (.bl false))) Qf)
noncomputable def g7:Ca:=(aC (cV 0) (aC (cV 1) (aC (a8 (aC (a8 (aC (cO Qc (cC Gy) (cC (.int (.ofNat 3)))) aN)) (aC (a8 (aC (cO Qc (cC Gy) (cC (.int (.ofNat 0)))) (aC (cO Qc (cC Gy) (cC (.int (.ofNat 3)))) aN))) (aC (a8 (aC (cO Qc (cC Gy) (cC (.int (.ofNat 2)))) (aC (cO Qc (cC Gy) (cC (.int (.ofNat 4)))) aN))) aN)))) aN)))
noncomputable def jJ:Cs:=(bF 7 (a8 (aC (cC (.PJ)) (aC (av (aC (cV 3) aN)) (aC (a8 (aC (av (aC (cC (.str 6)) (aC (cC (.int (.ofNat 8))) aN))) aN)) (aC (a8 (aC (cV 3) (aC (cV 3) aN))) (aC (a8 (aC (cC (.PJ)) aN)) (aC (cO hX (a8 (aC (av (aC (cC (.str 2)) (aC (cC (.int (.ofNat 0))) aN))) aN)) (cC (.int (.ofNat 2)))) (aC (a8 (aC (cO Qc (cV 3) (cC (.int (.ofNat 1)))) (aC (av (aC (cC (.str 2)) (aC (cC (.int (.ofNat 1))) aN))) aN))) (aC (cC (.str 24)) aN))))))))))
noncomputable def g8:Ca:=(aC (cV 0) (aC (cV 1) (aC (cV 7) aN)))
noncomputable def bc:Cs:=(Qi (Qg (cO Tn (bV (iT (av (aC (cV 4) (aC (cV 6) aN)))) 1 [3,7] (gN 0) tT (au cA (aC (cC (.int (.ofNat 6))) (aC (cV 1) (aC (cV 0) (aC (cV 2) aN)))))) (cO hX (a8 (aC (av (aC (cC (.str 23)) (aC (cC (.int (.ofNat 9))) aN))) aN)) (cC (.int (.ofNat 2)))))) (aQ (cC (.bl false))) Qf)
noncomputable def fG:Ca:=(aC (cV 0) (aC (cV 1) (aC (a8 (aC (cC (.PJ)) (aC (av (aC (cC (.str 6)) (aC (cC (.int (.ofNat 8))) aN))) (aC (av (aC (cC (.str 2)) (aC (cC (.int (.ofNat 1))) aN))) (aC (cV 2) (aC (a8 (aC (cV 3) aN)) aN)))))) aN)))
noncomputable def ai:Cs:=(Qi (Qg (cO Tn (bV (iT (av (aC (cV 4) (aC (cV 6) aN)))) 1 [3,8] (gN 0) tT (au cA (aC (cC (.int (.ofNat 7))) (aC (cV 1) (aC (cV 0) (aC (cV 2) aN)))))) (cO hX (a8 (aC (av (aC (cC (.str 23)) (aC (cC (.int (.ofNat 9))) aN))) aN)) (cC (.int (.ofNat 2)))))) (aQ (cC (.bl false))) Qf)
noncomputable def dn:Cs:=(Qi (Qg (cO Tn (bV (tZ (cC (.int (.ofNat 4)))) 1 [3,6] (gN 0) tT (au cA (aC (cV 0) (aC (cV 1) (aC (cV 2) (aC (cC (.PJ)) aN)))))) (cO hX (a8 (aC (av (aC (cC (.str 23)) (aC (cC (.int (.ofNat 8))) aN))) aN)) (cC (.int (.ofNat 4)))))) (aQ (cC (.bl false))) Qf)
noncomputable def dq:Cs:=(Qi (Su (Qg (cO Tn (au cA (aC (cC (.int (.ofNat 6))) (aC (cV 3) (aC (cV 6) (aC (a8 aN) aN))))) (av (aC (cC (.str 23)) (aC (cC (.int (.ofNat 8))) aN))))) (Qg (cO Tn (au cA (aC (cC (.int (.ofNat 7))) (aC (cV 3) (aC (cV 6) (aC (cV 3) aN))))) (av (aC (cC (.str 23)) (aC (cC (.int (.ofNat 8))) aN)))))) (aQ (cC (.bl false))) Qf)
noncomputable def gY:Cs:=(Qi (Su (Qg (cO Am (au cA (aC (cC (.int (.ofNat 4))) (aC (cV 3) (aC (cV 4) (aC (cC (.PJ)) aN))))) (cC (.bl false)))) (Qg (cO Tn (au cA (aC (cC (.int (.ofNat 5))) (aC (cV 3) (aC (cV 4) (aC (av (aC (cC (.str 14)) (aC (av aN) aN))) aN))))) (av (aC (cC (.str 23)) (aC (cC (.int (.ofNat 8))) aN)))))) (aQ (cC (.bl false))) Qf)
noncomputable def gZ:Cs:=(Qi (RG (tV (au bL (aC (cV 3) (aC (cV 4) aN))))) (aQ (cC (.bl false))) Qf)
noncomputable def g5:Cs:=(aQ (Vv (cO oEq (au cA (aC (cC (.int (.ofNat 0))) (aC (cV 3) (aC (cV 4) (aC (cC (.PJ)) aN))))) (cC (.int (.ofNat 4)))) (cO oEq (au cA (aC (cC (.int (.ofNat 6))) (aC (cV 3) (aC (cV 4) (aC (a8 (aC (cV 3) aN)) aN))))) (a8 (aC (cC (.int (.ofNat 15))) (aC (cC (.int (.ofNat 4))) (aC (cC (.int (.ofNat 0))) (aC (cC (.int (.ofNat 0))) (aC (cC (.int (.ofNat 3))) (aC (cC (.int (.ofNat 0))) (aC (cC (.int (.ofNat 12))) (aC (cC (.int (.ofNat 7))) (aC (cC (.int (.ofNat 16))) aN)))))))))))))
theorem EH {T:Txt P w K mg} (FA:PB P w K mg base (PK P w) k T.F0.a T.F0.d ["_law_what","_law_tree_here","_law_some","_law_other"] (EV.PZ (gx T) cA)) (FR:PB P w K mg base (PK P w) k T.Ga.a T.Ga.d ["_law_tree_here","_law_basic"] (EV.PZ (gx T) bL)) (FP:PB P w K mg base (PK P w) k T.F1.a T.F1.d ["_law_script","_law_town","_law_some"] (dO K)) (FE:PB P w K mg base (PK P w) k T.F1.a T.F1.d ["_law_script","_law_town","_law_some"] (EV.PZ (gx T) cv)) {cdv:Value} {A':Around} {outer:List PySem.Env} {s:Shared} {H:Hp} {E:XK} (hr:P5 k (A'.deeper (envOfC "law" (ag eK) s.heap.objs.size T.KA.a cdv))) :
  QI (dm (PK P w) P w K mg base ["_law_script","_law_town","_law_bad","_law_tree_here","_law_basic","_law_odd","_law_few","_law_wrong","_law_part"] "law" (ag eK) T.KA.a cdv A' outer s H E) ((b8 eK).drop 3) (bK (i4 (gx T) 5 g6) (bK (tS (gx T) (λ_=>E) bo) (bK (tS (gx T) (λ_=>E) aK) (bK (i4 (gx T) 6 g7) (bK (tS (gx T) (λ_=>E) jJ) (bK (i4 (gx T) 7 g8) (bK (tS (gx T) (λ_=>E) bc) (bK (i4 (gx T) 8 fG) (bK (tS (gx T) (λ_=>E) ai) (bK (tS (gx T) (λ_=>E) dn) (bK (tS (gx T) (λ_=>E) dq) (bK (tS (gx T) (λ_=>E) gY) (bK (tS (gx T) (λ_=>E) gZ) (tS (gx T) (λ_=>E) g5)))))))))))))):=by
 have nd:=Uw.nd;refine' (aS (gf T (cs:=g6) (i:=5) FP hr rfl (Passes.s aA) (aa (qv 0) (aa (qv 1) (aa (qv 5) ae))) nd rfl (Or.inr rfl))
 (aS (aU (aT ((cf hr).or (cg hr)) cX (bP (own:=["_law_what"]) (fr:=[0,1,2,4,5]) (N':=["_law_what","_law_script","_law_town","_law_bad","_law_basic","_law_odd"]) (ko rfl T.Kt af) rfl (by show bj ["_law_script","_law_town","_law_bad","_law_tree_here","_law_basic","_law_odd","_law_few","_law_wrong","_law_part"] (λx=>(ag eK).names.lookup x) _ _ _ _=true;decide +kernel) rfl (λ_ _ _ _ _=>(a6 (i:=0) (by show List.Nodup [("_law_what":Str),("_law_script":Str),("_law_town":Str),("_law_bad":Str),("_law_basic":Str),("_law_odd":Str)];decide +kernel) rfl (Or.inl rfl))) (λ_ _ _ _ _=>dD) (λ_ _ _ _ _=>(aj FA hr rfl T.F0.m T.F0.f.kp T.F0.b bY (aa (qv 0) (aa (qv 3) (aa (aj FE hr rfl T.F1.m T.F1.f.kp T.F1.b bY (aa (qv 1) (aa (qv 2) (aa (aL (aa (qv 5) (aa (qv 4) ae))) ae)))) (aa dy ae))))))) (bU gD eU (aL (aa (ah (aa qs (aa af ae))) ae)) af) (aI _)) (ao (aD bX)) br)
 (aS (aU (aT ((cf hr).or (cg hr)) cX (bP (own:=["_law_what"]) (fr:=[3,5]) (N':=["_law_what","_law_tree_here","_law_odd"]) (ko rfl T.Kt af) rfl (by show bj ["_law_script","_law_town","_law_bad","_law_tree_here","_law_basic","_law_odd","_law_few","_law_wrong","_law_part"] (λx=>(ag eK).names.lookup x) _ _ _ _=true;decide +kernel) rfl (λ_ _ _ _ _=>(a6 (i:=0) (by show List.Nodup [("_law_what":Str),("_law_tree_here":Str),("_law_odd":Str)];decide +kernel) rfl (Or.inl rfl))) (λ_ _ _ _ _=>dD) (λ_ _ _ _ _=>(aj FA hr rfl T.F0.m T.F0.f.kp T.F0.b bY (aa (qv 0) (aa (qv 1) (aa (qv 2) (aa dy ae))))))) (bU gD eU (aL (aa (ah (aa qs (aa af ae))) ae)) af) (aI _)) (ao (aD bX)) br)
 (aS (gf T (cs:=g7) (i:=6) FP hr rfl (Passes.s aA) (aa (qv 0) (aa (qv 1) (aa (aL (aa (aL (aa (aY ax aJ (cF (v:=.ref T.Ja) rfl T.Im rfl (fC T.Gy (by rfl) (by rfl))) af (λ_ _=>rfl)) ae)) (aa (aL (aa (aY ax aJ (cF (v:=.ref T.Ja) rfl T.Im rfl (fC T.Gy (by rfl) (by rfl))) af (λ_ _=>rfl)) (aa (aY ax aJ (cF (v:=.ref T.Ja) rfl T.Im rfl (fC T.Gy (by rfl) (by rfl))) af (λ_ _=>rfl)) ae))) (aa (aL (aa (aY ax aJ (cF (v:=.ref T.Ja) rfl T.Im rfl (fC T.Gy (by rfl) (by rfl))) af (λ_ _=>rfl)) (aa (aY ax aJ (cF (v:=.ref T.Ja) rfl T.Im rfl (fC T.Gy (by rfl) (by rfl))) af (λ_ _=>rfl)) ae))) ae)))) ae))) nd rfl (Or.inr rfl))
 (aS (bg (i:=7) nd rfl (Or.inr rfl) (aL (aa dy (aa (ah (aa (qv 3) ae)) (aa (aL (aa (ah (aa qs (aa af ae))) ae)) (aa (aL (aa (qv 3) (aa (qv 3) ae))) (aa (aL (aa dy ae)) (aa (bU gD eU (aL (aa (ah (aa qs (aa af ae))) ae)) af) (aa (aL (aa (aY ax aJ (qv 3) af (λ_ _=>rfl)) (aa (ah (aa qs (aa af ae))) ae))) (aa qs ae))))))))))
 (aS (gf T (cs:=g8) (i:=7) FP hr rfl (Passes.s aA) (aa (qv 0) (aa (qv 1) (aa (qv 7) ae))) nd rfl (Or.inr rfl))
 (aS (aU (aT ((cf hr).or (cg hr)) cX (bP (own:=["_law_one"]) (fr:=[3,7]) (N':=["_law_one","_law_tree_here","_law_wrong"]) (kZ rfl (ah (aa (qv 4) (aa (qv 6) ae)))) rfl (by show bj ["_law_script","_law_town","_law_bad","_law_tree_here","_law_basic","_law_odd","_law_few","_law_wrong","_law_part"] (λx=>(ag eK).names.lookup x) _ _ _ _=true;decide +kernel) rfl (λ_ _ _ _ _=>(a6 (i:=0) (by show List.Nodup [("_law_one":Str),("_law_tree_here":Str),("_law_wrong":Str)];decide +kernel) rfl (Or.inl rfl))) (λ_ _ _ _ _=>dD) (λ_ _ _ _ _=>(aj FA hr rfl T.F0.m T.F0.f.kp T.F0.b bY (aa af (aa (qv 1) (aa (qv 0) (aa (qv 2) ae))))))) (bU gD eU (aL (aa (ah (aa qs (aa af ae))) ae)) af) (aI _)) (ao (aD bX)) br)
 (aS (gf T (cs:=fG) (i:=8) FP hr rfl (Passes.s aA) (aa (qv 0) (aa (qv 1) (aa (aL (aa dy (aa (ah (aa qs (aa af ae))) (aa (ah (aa qs (aa af ae))) (aa (qv 2) (aa (aL (aa (qv 3) ae)) ae)))))) ae))) nd rfl (Or.inr rfl))
 (aS (aU (aT ((cf hr).or (cg hr)) cX (bP (own:=["_law_one"]) (fr:=[3,8]) (N':=["_law_one","_law_tree_here","_law_part"]) (kZ rfl (ah (aa (qv 4) (aa (qv 6) ae)))) rfl (by show bj ["_law_script","_law_town","_law_bad","_law_tree_here","_law_basic","_law_odd","_law_few","_law_wrong","_law_part"] (λx=>(ag eK).names.lookup x) _ _ _ _=true;decide +kernel) rfl (λ_ _ _ _ _=>(a6 (i:=0) (by show List.Nodup [("_law_one":Str),("_law_tree_here":Str),("_law_part":Str)];decide +kernel) rfl (Or.inl rfl))) (λ_ _ _ _ _=>dD) (λ_ _ _ _ _=>(aj FA hr rfl T.F0.m T.F0.f.kp T.F0.b bY (aa af (aa (qv 1) (aa (qv 0) (aa (qv 2) ae))))))) (bU gD eU (aL (aa (ah (aa qs (aa af ae))) ae)) af) (aI _)) (ao (aD bX)) br)
 (aS (aU (aT ((cf hr).or (cg hr)) cX (bP (own:=["_law_what"]) (fr:=[3,6]) (N':=["_law_what","_law_tree_here","_law_few"]) (ko rfl T.Kt af) rfl (by show bj ["_law_script","_law_town","_law_bad","_law_tree_here","_law_basic","_law_odd","_law_few","_law_wrong","_law_part"] (λx=>(ag eK).names.lookup x) _ _ _ _=true;decide +kernel) rfl (λ_ _ _ _ _=>(a6 (i:=0) (by show List.Nodup [("_law_what":Str),("_law_tree_here":Str),("_law_few":Str)];decide +kernel) rfl (Or.inl rfl))) (λ_ _ _ _ _=>dD) (λ_ _ _ _ _=>(aj FA hr rfl T.F0.m T.F0.f.kp T.F0.b bY (aa (qv 0) (aa (qv 1) (aa (qv 2) (aa dy ae))))))) (bU gD eU (aL (aa (ah (aa qs (aa af ae))) ae)) af) (aI _)) (ao (aD bX)) br)
 (aS (aU (PW.pt (dM (aT ((cf hr).or (cg hr)) cX (aj FA hr rfl T.F0.m T.F0.f.kp T.F0.b (Passes.s aA) (aa af (aa (qv 3) (aa (qv 6) (aa (aL ae) ae))))) (ah (aa qs (aa af ae))) (aI _)) (bT (aT ((cf hr).or (cg hr)) cX (aj FA hr rfl T.F0.m T.F0.f.kp T.F0.b (Passes.s aA) (aa af (aa (qv 3) (aa (qv 6) (aa (qv 3) ae))))) (ah (aa qs (aa af ae))) (aI _))))) (ao (aD bX)) br)
 (aS (aU (PW.pt (dM (aT ui y8 (aj FA hr rfl T.F0.m T.F0.f.kp T.F0.b (Passes.s aA) (aa af (aa (qv 3) (aa (qv 4) (aa dy ae))))) bX (aI _)) (bT (aT ((cf hr).or (cg hr)) cX (aj FA hr rfl T.F0.m T.F0.f.kp T.F0.b (Passes.s aA) (aa af (aa (qv 3) (aa (qv 4) (aa (ah (aa qs (aa (ah ae) ae))) ae))))) (ah (aa qs (aa af ae))) (aI _))))) (ao (aD bX)) br)
 (aS (aU (bx (cG rfl (aj FR hr rfl T.Ga.m T.Ga.f.kp T.Ga.b (Passes.s aA) (aa (qv 3) (aa (qv 4) ae))) (λ_=>rfl))) (ao (aD bX)) br)
 (ao (aD (d8 (dJ ((bJ hr).or (bD hr)) cj (aj FA hr rfl T.F0.m T.F0.f.kp T.F0.b (Passes.s aA) (aa af (aa (qv 3) (aa (qv 4) (aa dy ae))))) af (aI _)) (dI (dJ ((bJ hr).or (bD hr)) cj (aj FA hr rfl T.F0.m T.F0.f.kp T.F0.b (Passes.s aA) (aa af (aa (qv 3) (aa (qv 4) (aa (aL (aa (qv 3) ae)) ae))))) (aL (aa af (aa af (aa af (aa af (aa af (aa af (aa af (aa af (aa af ae)))))))))) (aI _)))))))))))))))))))
end
section
variable {P:Program} {w:World} {K:W.Frag} {mg:Str->Option Value} {base:Heap} {n:Nat}
noncomputable def bM:Cs:=(sq (iU (gT [(gN 2),(gN 3)]) (av (aC (av (aC (cC (.str 6)) (aC (cC (.int (.ofNat 1))) aN))) (aC (av (aC (cC (.str 2)) (aC (cC (.int (.ofNat 0))) aN))) aN)))) (sq (bF 4 (cV 2)) (sq (iR (tZ (cC (.int (.ofNat 8)))) (gN 5) (bF 4 (av (aC (cC (.str 14)) (aC (cV 4) (aC (cV 3) aN)))))) (sq (bF 6 (cV 2)) (sq (iR (tZ (cC (.int (.ofNat 4)))) (gN 5) (bF 6 (Zb (Qg (cO oLt (cV 5) (cC (.int (.ofNat 3))))) (av (aC (cC (.str 3)) (aC (cV 6) (aC (cV 6) (aC (cV 6) aN))))) (av (aC (cC (.str 14)) (aC (cV 6) (aC (cV 2) aN))))))) (sq (bF 7 (a8 (aC (cC (.PJ)) (aC (av aN) (aC (cC (.str 6)) (aC (av (aC (cC (.str 6)) aN)) (aC (av (aC (cC (.str 6)) (aC (cU yc (cC (.int (.ofNat 1)))) aN))) (aC (av (aC (cC (.str 6)) (aC (cC (.int (.ofNat 10000))) aN))) (aC (av (aC (cC (.str 6)) (aC (cC (.bl true)) aN))) (aC (av (aC (cC (.str 2)) (aC (cC (.int (.ofNat 4))) aN))) (aC (av (aC (cC (.str 2)) (aC (cC (.int (.ofNat 0))) (aC (cC (.int (.ofNat 0))) aN)))) aN))))))))))) (sq (QB (cM dQ (cV 7) (a8 (aC (av (aC (cC (.str 14)) (aC (cV 2) aN))) aN)))) (sq (QB (cM dQ (cV 7) (a8 (aC (av (aC (cC (.str 14)) (aC (cV 2) (aC (cV 2) (aC (cV 2) aN))))) (aC (av (aC (cC (.str 3)) (aC (cV 2) (aC (cV 2) aN)))) (aC (av (aC (cC (.str 15)) (aC (cV 2) (aC (cV 2) aN)))) (aC (a8 (aC (cC (.str 6)) (aC (cC (.int (.ofNat 1))) aN))) (aC (av (aC (cC (.str 14)) (aC (cV 2) (aC (cC (.int (.ofNat 5))) aN)))) aN)))))))) (sq (QB (cM dQ (cV 7) (a8 (aC (av (aC (cC (.str 4)) (aC (cC (.int (.ofNat 0))) aN))) aN)))) (sq (QB (cM dQ (cV 7) (a8 (aC (av (aC (cC (.str 16)) (aC (cV 2) (aC (cC (.PJ)) aN)))) (aC (cV 4) (aC (av (aC (cC (.str 14)) (aC (cV 6) (aC (cV 6) aN)))) (aC (av (aC (cV 2) aN)) (aC (cC (.int (.ofNat 7))) aN)))))))) Qf))))))))))
theorem j1 {T:Txt P w K mg} (FP:PB P w K mg base (PK P w) n T.F1.a T.F1.d ["_law_script","_law_town","_law_some"] (dO K)):PB P w K mg base (PK P w) (n+1) T.Gw.a T.Gw.d ["_law_script","_law_town"] (Vz (gx T) (Ui bM 8 7)):=by
 refine wj (N:=["_law_script","_law_town","_law_num","_law_arg","_law_low","_law_k","_law_wide","_law_bad"]) T.Gw.f Q5 λcdv A' outer s H E hr=>?_;have nd:=Q5.nd;refine' b7 ?_ ?_
 ·refine' fj ?_ ?_ ?_ ?_
  ·exact (ah (aa (ah (aa qs (aa af ae))) (aa (ah (aa qs (aa af ae))) ae)))
  ·exact (dR rfl rfl (aG (a6 (i:=2) nd rfl (Or.inl rfl)) (aG (a6 (i:=3) nd rfl (Or.inl rfl)) bN)))
  ·rfl
  kernel_rfl
 refine' b7 ?_ ?_
 ·exact (bg (i:=4) nd rfl (Or.inl rfl) (qv 2))
 refine' b7 ?_ ?_
 ·exact (fh bR rfl (ko rfl T.Kt af) (a6 (i:=5) nd rfl (Or.inl rfl)) (ao (bg (i:=4) nd rfl (Or.inl rfl) (ah (aa qs (aa (qv 4) (aa (qv 3) ae)))))))
 refine' b7 ?_ ?_
 ·exact (bg (i:=6) nd rfl (Or.inl rfl) (qv 2))
 refine' b7 ?_ ?_
 ·refine' fh bR ?_ ?_ ?_ ?_
  ·exact rfl
  ·exact (ko rfl T.Kt af)
  ·exact (a6 (i:=5) nd rfl (Or.inl rfl))
  exact (ao (bg (i:=6) nd rfl (Or.inl rfl) (Et (aT lQ oN (qv 5) af (aI _)) (ah (aa qs (aa (qv 6) (aa (qv 6) (aa (qv 6) ae))))) (ah (aa qs (aa (qv 6) (aa (qv 2) ae)))))))
 refine' b7 ?_ ?_
 ·refine' bg (i:=7) ?_ ?_ ?_ ?_
  ·exact nd
  ·exact rfl
  ·exact (Or.inl rfl)
  refine' aL ?_;refine' aa ?_ ?_
  ·exact dy
  refine' aa ?_ ?_
  ·exact (ah ae)
  refine' aa ?_ ?_
  ·exact qs
  refine' aa ?_ ?_
  ·exact (ah (aa qs ae))
  refine' aa ?_ ?_
  ·exact (ah (aa qs (aa (zL kO mL af) ae)))
  exact (aa (ah (aa qs (aa af ae))) (aa (ah (aa qs (aa bX ae))) (aa (ah (aa qs (aa af ae))) (aa (ah (aa qs (aa af (aa af ae)))) ae))))
 refine' b7 ?_ ?_
 ·exact (bO (cS ME MG aZ bZ rfl (qv 7) (aL (aa (ah (aa qs (aa (qv 2) ae))) ae))))
 refine' b7 ?_ ?_
 ·refine' bO ?_;refine' cS ME MG aZ bZ ?_ (qv 7) ?_
  ·exact rfl
  refine' aL ?_;refine' aa ?_ ?_
  ·exact (ah (aa qs (aa (qv 2) (aa (qv 2) (aa (qv 2) ae)))))
  exact (aa (ah (aa qs (aa (qv 2) (aa (qv 2) ae)))) (aa (ah (aa qs (aa (qv 2) (aa (qv 2) ae)))) (aa (aL (aa qs (aa af ae))) (aa (ah (aa qs (aa (qv 2) (aa af ae)))) ae))))
 refine' b7 ?_ ?_
 ·exact (bO (cS ME MG aZ bZ rfl (qv 7) (aL (aa (ah (aa qs (aa af ae))) ae))))
 refine' b7 ?_ ?_
 ·refine' bO ?_;refine' cS ME MG aZ bZ ?_ (qv 7) ?_
  ·exact rfl
  exact (aL (aa (ah (aa qs (aa (qv 2) (aa dy ae)))) (aa (qv 4) (aa (ah (aa qs (aa (qv 6) (aa (qv 6) ae)))) (aa (ah (aa (qv 2) ae)) (aa af ae))))))
 exact (xy (dc (eH (E:=λ_=>E) FP hr rfl T.F1.m T.F1.f.kp T.F1.b .nil (Passes.s aA) (a9 (pv 0) (a9 (pv 1) (a9 (pv 7) aM))))))
noncomputable def bH:Cs:=(sq (iU (gT [(gN 2),(gN 3),(gN 4)]) (av (aC (av (aC (cC (.str 4)) (aC (cC (.int (.ofNat 0))) aN))) (aC (av (aC (cC (.str 1)) (aC (cC (.int (.ofNat 0))) (aC (cC (.int (.ofNat 99))) aN)))) (aC (av (aC (cC (.str 7)) (aC (cC (.int (.ofNat 0))) aN))) aN))))) (sq (bF 5 (av (aC (cC (.str 14)) (aC (cV 2) (aC (av (aC (cC (.str 4)) (aC (cC (.int (.ofNat 1))) aN))) aN))))) (sq (bF 6 (a8 (aC (cC (.PJ)) (aC (av aN) (aC (av (aC (cC (.str 17)) (aC (cV 5) aN))) (aC (av (aC (cC (.str 18)) (aC (cV 5) (aC (av (aC (cC (.int (.ofNat 4))) aN)) aN)))) (aC (av (aC (cC (.str 19)) (aC (cV 5) (aC (av (aC (cC (.int (.ofNat 4))) aN)) aN)))) (aC (av (aC (cC (.str 3)) (aC (cV 5) (aC (av (aC (cC (.int (.ofNat 4))) aN)) aN)))) aN)))))))) (sq (QB (cM dQ (cV 6) (a8 (aC (av (aC (cC (.str 20)) (aC (cV 5) (aC (av (aC (cC (.int (.ofNat 4))) aN)) aN)))) (aC (a8 (aC (cC (.str 17)) (aC (cV 5) (aC (av (aC (cC (.int (.ofNat 4))) aN)) aN)))) aN))))) (sq (QB (cM dQ (cV 6) (a8 (aC (av (aC (cC (.str 17)) (aC (cV 2) (aC (av (aC (cC (.int (.ofNat 4))) aN)) aN)))) (aC (av (aC (cC (.str 17)) (aC (cV 5) (aC (av aN) aN)))) (aC (av (aC (cC (.str 17)) (aC (cV 5) (aC (a8 (aC (cC (.int (.ofNat 4))) aN)) aN)))) (aC (av (aC (cC (.str 17)) (aC (cV 5) (aC (av (aC (cC (.int (.ofNat 8))) (aC (cC (.int (.ofNat 1))) aN))) aN)))) (aC (av (aC (cC (.str 17)) (aC (cV 5) (aC (av (aC (cC (.int (.ofNat 0))) aN)) aN)))) aN)))))))) (sq (QB (cM dQ (cV 6) (a8 (aC (av (aC (cC (.str 17)) (aC (cV 5) (aC (av (aC (cC (.int (.ofNat 15))) (aC (cC (.int (.ofNat 1))) (aC (cC (.int (.ofNat 0))) aN)))) aN)))) aN)))) (sq (QB (cM dQ (cV 6) (a8 (aC (av (aC (cC (.str 17)) (aC (cV 5) (aC (av (aC (cC (.int (.ofNat 1))) aN)) aN)))) (aC (av (aC (cC (.str 17)) (aC (cV 5) (aC (av (aC (cC (.int (.ofNat 2))) (aC (cC (.int (.ofNat 5))) aN))) aN)))) (aC (av (aC (cC (.str 17)) (aC (cV 5) (aC (cO Ap (av (aC (cC (.int (.ofNat 4))) aN)) (cC (.int (.ofNat 13)))) aN)))) (aC (av (aC (cC (.str 17)) (aC (cV 5) (aC (av (aC (cC (.int (.ofNat 100))) aN)) aN)))) aN))))))) (sq (QB (cM dQ (cV 6) (a8 (aC (av (aC (cC (.str 17)) (aC (cV 5) (aC (av (aC (cC (.bl true)) aN)) aN)))) (aC (av (aC (cC (.str 17)) (aC (cV 5) (aC (av (aC (cC (.int (.ofNat 17))) aN)) aN)))) aN))))) (sq (QB (cM dQ (cV 6) (a8 (aC (av (aC (cC (.str 17)) (aC (cV 3) (aC (av (aC (cC (.int (.ofNat 1))) (aC (av (aC (cC (.str 8)) (aC (cC (.int (.ofNat 1))) aN))) aN))) aN)))) (aC (av (aC (cC (.str 17)) (aC (cV 3) (aC (av (aC (cC (.int (.ofNat 1))) (aC (av (aC (cC (.str 2)) (aC (cC (.int (.ofNat 0))) aN))) aN))) aN)))) (aC (av (aC (cC (.str 17)) (aC (cV 3) (aC (av (aC (av (aC (cC (.str 8)) (aC (cC (.int (.ofNat 0))) aN))) (aC (cC (.int (.ofNat 1))) aN))) aN)))) aN)))))) (sq (QB (cM dQ (cV 6) (a8 (aC (av (aC (cC (.str 17)) (aC (cV 3) (aC (av (aC (cC (.int (.ofNat 1))) (aC (av (aC (cC (.str 21)) (aC (cC (.int (.ofNat 0))) aN))) aN))) aN)))) (aC (av (aC (cC (.str 17)) (aC (cV 4) (aC (av (aC (cC (.int (.ofNat 3))) aN)) aN)))) aN))))) (sq (QB (cM dQ (cV 6) (a8 (aC (av (aC (cC (.str 17)) (aC (av (aC (cC (.str 14)) (aC (av (aC (cC (.str 4)) (aC (cC (.int (.ofNat 1))) aN))) (aC (cV 2) aN)))) (aC (av (aC (cC (.int (.ofNat 4))) aN)) aN)))) (aC (av (aC (cC (.str 17)) (aC (av (aC (cC (.str 14)) (aC (cV 2) (aC (cV 2) aN)))) (aC (av (aC (cC (.int (.ofNat 4))) aN)) aN)))) aN))))) (sq (QB (cM dQ (cV 6) (a8 (aC (av (aC (cC (.str 17)) (aC (av (aC (cC (.str 14)) (aC (cV 2) (aC (av (aC (cC (.str 4)) (aC (cC (.int (.ofNat 2))) aN))) aN)))) (aC (av (aC (cC (.int (.ofNat 4))) aN)) aN)))) (aC (av (aC (cC (.str 17)) (aC (av (aC (cC (.str 3)) (aC (cV 2) (aC (cV 2) (aC (cV 2) aN))))) (aC (av (aC (cC (.int (.ofNat 4))) aN)) aN)))) aN))))) (sq (QB (cM dQ (cV 6) (a8 (aC (av (aC (cC (.str 17)) (aC (av (aC (cC (.str 1)) (aC (cC (.int (.ofNat 0))) aN))) (aC (av (aC (cC (.int (.ofNat 1))) (aC (cC (.int (.ofNat 1))) aN))) aN)))) (aC (av (aC (cC (.str 17)) (aC (av (aC (cC (.str 1)) (aC (cC (.int (.ofNat 0))) (aC (cC (.int (.ofNat 10000))) aN)))) (aC (av (aC (cC (.int (.ofNat 1))) (aC (cC (.int (.ofNat 1))) aN))) aN)))) (aC (av (aC (cC (.str 17)) (aC (av (aC (cC (.str 1)) (aC (cC (.int (.ofNat 1))) (aC (cC (.int (.ofNat 9))) aN)))) (aC (av (aC (cC (.int (.ofNat 1))) (aC (cC (.int (.ofNat 1))) aN))) aN)))) aN)))))) (sq (QB (cM dQ (cV 6) (a8 (aC (av (aC (cC (.str 17)) (aC (av (aC (cC (.str 2)) (aC (cC (.int (.ofNat 0))) aN))) (aC (av (aC (cC (.int (.ofNat 3))) (aC (cC (.int (.ofNat 0))) aN))) aN)))) (aC (av (aC (cC (.str 17)) (aC (av (aC (cC (.str 6)) (aC (cU yc (cC (.int (.ofNat 1)))) aN))) (aC (av (aC (cC (.int (.ofNat 1))) (aC (cC (.int (.ofNat 1))) aN))) aN)))) aN))))) (sq (QB (cM kX (cV 6) (av (aC (cC (.str 17)) (aC (av (aC (cC (.str 14)) (aC (av (aC (cC (.str 14)) (aC (av (aC (cC (.str 14)) (aC (cV 2) (aC (cV 3) aN)))) (aC (av (aC (cC (.str 6)) (aC (cC (.int (.ofNat 1))) aN))) aN)))) (aC (av (aC (cC (.str 6)) (aC (cC (.int (.ofNat 1))) aN))) aN)))) (aC (av (aC (cC (.int (.ofNat 4))) aN)) aN)))))) (sq (QB (cM kX (cV 6) (av (aC (cC (.str 17)) (aC (av (aC (cC (.str 14)) (aC (av (aC (cC (.str 14)) (aC (cV 2) (aC (av (aC (cC (.str 4)) (aC (cC (.int (.ofNat 1))) aN))) aN)))) (aC (av (aC (cC (.str 4)) (aC (cC (.int (.ofNat 2))) aN))) aN)))) (aC (av (aC (cC (.int (.ofNat 4))) (aC (cC (.int (.ofNat 4))) aN))) aN)))))) Qf))))))))))))))))
theorem jA {T:Txt P w K mg} (FP:PB P w K mg base (PK P w) n T.F1.a T.F1.d ["_law_script","_law_town","_law_some"] (dO K)):PB P w K mg base (PK P w) (n+1) T.Gr.a T.Gr.d ["_law_script","_law_town"] (Vz (gx T) (Ui bH 7 6)):=by
 refine wj (N:=["_law_script","_law_town","_law_hole","_law_gap","_law_slot","_law_two","_law_bad"]) T.Gr.f QX λcdv A' outer s H E hr=>?_;have nd:=QX.nd;refine' b7 ?_ ?_
 ·refine' fj ?_ ?_ ?_ ?_
  ·exact (ah (aa (ah (aa qs (aa af ae))) (aa (ah (aa qs (aa af (aa af ae)))) (aa (ah (aa qs (aa af ae))) ae))))
  ·exact (dR rfl rfl (aG (a6 (i:=2) nd rfl (Or.inl rfl)) (aG (a6 (i:=3) nd rfl (Or.inl rfl)) (aG (a6 (i:=4) nd rfl (Or.inl rfl)) bN))))
  ·rfl
  kernel_rfl
 refine' b7 ?_ ?_
 ·exact (bg (i:=5) nd rfl (Or.inl rfl) (ah (aa qs (aa (qv 2) (aa (ah (aa qs (aa af ae))) ae)))))
 refine' b7 ?_ ?_
 ·refine' bg (i:=6) ?_ ?_ ?_ ?_
  ·exact nd
  ·exact rfl
  ·exact (Or.inl rfl)
  refine' aL ?_;refine' aa ?_ ?_
  ·exact dy
  refine' aa ?_ ?_
  ·exact (ah ae)
  refine' aa ?_ ?_
  ·exact (ah (aa qs (aa (qv 5) ae)))
  refine' aa ?_ ?_
  ·exact (ah (aa qs (aa (qv 5) (aa (ah (aa af ae)) ae))))
  exact (aa (ah (aa qs (aa (qv 5) (aa (ah (aa af ae)) ae)))) (aa (ah (aa qs (aa (qv 5) (aa (ah (aa af ae)) ae)))) ae))
 refine' b7 ?_ ?_
 ·refine' bO ?_;refine' cS ME MG aZ bZ ?_ (qv 6) ?_
  ·exact rfl
  exact (aL (aa (ah (aa qs (aa (qv 5) (aa (ah (aa af ae)) ae)))) (aa (aL (aa qs (aa (qv 5) (aa (ah (aa af ae)) ae)))) ae)))
 refine' b7 ?_ ?_
 ·refine' bO ?_;refine' cS ME MG aZ bZ ?_ (qv 6) ?_
  ·exact rfl
  refine' aL ?_;refine' aa ?_ ?_
  ·exact (ah (aa qs (aa (qv 2) (aa (ah (aa af ae)) ae))))
  refine' aa ?_ ?_
  ·exact (ah (aa qs (aa (qv 5) (aa (ah ae) ae))))
  refine' aa ?_ ?_
  ·exact (ah (aa qs (aa (qv 5) (aa (aL (aa af ae)) ae))))
  exact (aa (ah (aa qs (aa (qv 5) (aa (ah (aa af (aa af ae))) ae)))) (aa (ah (aa qs (aa (qv 5) (aa (ah (aa af ae)) ae)))) ae))
 refine' b7 ?_ ?_
 ·exact (bO (cS ME MG aZ bZ rfl (qv 6) (aL (aa (ah (aa qs (aa (qv 5) (aa (ah (aa af (aa af (aa af ae)))) ae)))) ae))))
 refine' b7 ?_ ?_
 ·refine' bO ?_;refine' cS ME MG aZ bZ ?_ (qv 6) ?_
  ·exact rfl
  refine' aL ?_;refine' aa ?_ ?_
  ·exact (ah (aa qs (aa (qv 5) (aa (ah (aa af ae)) ae))))
  refine' aa ?_ ?_
  ·exact (ah (aa qs (aa (qv 5) (aa (ah (aa af (aa af ae))) ae))))
  exact (aa (ah (aa qs (aa (qv 5) (aa (bU zu zk (ah (aa af ae)) af) ae)))) (aa (ah (aa qs (aa (qv 5) (aa (ah (aa af ae)) ae)))) ae))
 refine' b7 ?_ ?_
 ·refine' bO ?_;refine' cS ME MG aZ bZ ?_ (qv 6) ?_
  ·exact rfl
  exact (aL (aa (ah (aa qs (aa (qv 5) (aa (ah (aa bX ae)) ae)))) (aa (ah (aa qs (aa (qv 5) (aa (ah (aa af ae)) ae)))) ae)))
 refine' b7 ?_ ?_
 ·refine' bO ?_;refine' cS ME MG aZ bZ ?_ (qv 6) ?_
  ·exact rfl
  refine' aL ?_;refine' aa ?_ ?_
  ·exact (ah (aa qs (aa (qv 3) (aa (ah (aa af (aa (ah (aa qs (aa af ae))) ae))) ae))))
  refine' aa ?_ ?_
  ·exact (ah (aa qs (aa (qv 3) (aa (ah (aa af (aa (ah (aa qs (aa af ae))) ae))) ae))))
  exact (aa (ah (aa qs (aa (qv 3) (aa (ah (aa (ah (aa qs (aa af ae))) (aa af ae))) ae)))) ae)
 refine' b7 ?_ ?_
 ·refine' bO ?_;refine' cS ME MG aZ bZ ?_ (qv 6) ?_
  ·exact rfl
  exact (aL (aa (ah (aa qs (aa (qv 3) (aa (ah (aa af (aa (ah (aa qs (aa af ae))) ae))) ae)))) (aa (ah (aa qs (aa (qv 4) (aa (ah (aa af ae)) ae)))) ae)))
 refine' b7 ?_ ?_
 ·refine' bO ?_;refine' cS ME MG aZ bZ ?_ (qv 6) ?_
  ·exact rfl
  refine' aL ?_;refine' aa ?_ ?_
  ·exact (ah (aa qs (aa (ah (aa qs (aa (ah (aa qs (aa af ae))) (aa (qv 2) ae)))) (aa (ah (aa af ae)) ae))))
  exact (aa (ah (aa qs (aa (ah (aa qs (aa (qv 2) (aa (qv 2) ae)))) (aa (ah (aa af ae)) ae)))) ae)
 refine' b7 ?_ ?_
 ·refine' bO ?_;refine' cS ME MG aZ bZ ?_ (qv 6) ?_
  ·exact rfl
  refine' aL ?_;refine' aa ?_ ?_
  ·exact (ah (aa qs (aa (ah (aa qs (aa (qv 2) (aa (ah (aa qs (aa af ae))) ae)))) (aa (ah (aa af ae)) ae))))
  exact (aa (ah (aa qs (aa (ah (aa qs (aa (qv 2) (aa (qv 2) (aa (qv 2) ae))))) (aa (ah (aa af ae)) ae)))) ae)
 refine' b7 ?_ ?_
 ·refine' bO ?_;refine' cS ME MG aZ bZ ?_ (qv 6) ?_
  ·exact rfl
  refine' aL ?_;refine' aa ?_ ?_
  ·exact (ah (aa qs (aa (ah (aa qs (aa af ae))) (aa (ah (aa af (aa af ae))) ae))))
  refine' aa ?_ ?_
  ·exact (ah (aa qs (aa (ah (aa qs (aa af (aa af ae)))) (aa (ah (aa af (aa af ae))) ae))))
  exact (aa (ah (aa qs (aa (ah (aa qs (aa af (aa af ae)))) (aa (ah (aa af (aa af ae))) ae)))) ae)
 refine' b7 ?_ ?_
 ·refine' bO ?_;refine' cS ME MG aZ bZ ?_ (qv 6) ?_
  ·exact rfl
  refine' aL ?_;refine' aa ?_ ?_
  ·exact (ah (aa qs (aa (ah (aa qs (aa af ae))) (aa (ah (aa af (aa af ae))) ae))))
  exact (aa (ah (aa qs (aa (ah (aa qs (aa (zL kO mL af) ae))) (aa (ah (aa af (aa af ae))) ae)))) ae)
 refine' b7 ?_ ?_
 ·refine' bO ?_;refine' cS Ng Np ck fO ?_ (qv 6) ?_
  ·exact rfl
  refine' ah ?_;refine' aa ?_ ?_
  ·exact qs
  refine' aa ?_ ?_
  ·exact (ah (aa qs (aa (ah (aa qs (aa (ah (aa qs (aa (qv 2) (aa (qv 3) ae)))) (aa (ah (aa qs (aa af ae))) ae)))) (aa (ah (aa qs (aa af ae))) ae))))
  exact (aa (ah (aa af ae)) ae)
 refine' b7 ?_ ?_
 ·refine' bO ?_;refine' cS Ng Np ck fO ?_ (qv 6) ?_
  ·exact rfl
  refine' ah ?_;exact (aa qs (aa (ah (aa qs (aa (ah (aa qs (aa (qv 2) (aa (ah (aa qs (aa af ae))) ae)))) (aa (ah (aa qs (aa af ae))) ae)))) (aa (ah (aa af (aa af ae))) ae)))
 exact (xy (dc (eH (E:=λ_=>E) FP hr rfl T.F1.m T.F1.f.kp T.F1.b .nil (Passes.s aA) (a9 (pv 0) (a9 (pv 1) (a9 (pv 6) aM))))))
end
section
variable {P:Program} {w:World} {K:W.Frag} {mg:Str->Option Value} {base:Heap} {k:Nat}
noncomputable def mH:Cs:=(bF 1 (a8 (aC (cC (.int (.ofNat 0))) (aC (cC (.int (.ofNat 0))) (aC (cC (.int (.ofNat 4))) aN)))))
noncomputable def fX:Ce:=(av (aC (cC (.str 14)) (aC (av (aC (cC (.str 2)) (aC (cC (.int (.ofNat 0))) aN))) (aC (av (aC (cC (.str 6)) (aC (cC (.int (.ofNat 7))) aN))) aN))))
noncomputable def fY:Ce:=(cU yb (cC Gy))
noncomputable def iH:SD:=(gT [(gN 2),(gN 3),(gN 4)])
noncomputable def gc:Ce:=(cO Qc (cC Gy) (cC (.int (.ofNat 0))))
noncomputable def f9:Ce:=(cO c9 (cC Gy) (a8 (aC (cO Qc (cC Gy) (cC (.int (.ofNat 0)))) aN)))
noncomputable def f7:Ce:=(cU ny (cC Gy))
noncomputable def f6:Ce:=(a8 aN)
noncomputable def fZ:Ce:=(cC (.PJ))
theorem CP {T:Txt P w K mg} (FA:PB P w K mg base (PK P w) k T.F0.a T.F0.d ["_law_what","_law_tree_here","_law_some","_law_other"] (EV.PZ (gx T) cA)) (FR:PB P w K mg base (PK P w) k T.Ga.a T.Ga.d ["_law_tree_here","_law_basic"] (EV.PZ (gx T) bL)) (FP:PB P w K mg base (PK P w) k T.F1.a T.F1.d ["_law_script","_law_town","_law_some"] (dO K)) (FE:PB P w K mg base (PK P w) k T.F1.a T.F1.d ["_law_script","_law_town","_law_some"] (EV.PZ (gx T) cv)) (FN:PB P w K mg base (PK P w) k T.Gw.a T.Gw.d ["_law_script","_law_town"] (Vz (gx T) (Ui bM 8 7))) (FQ:PB P w K mg base (PK P w) k T.Gr.a T.Gr.d ["_law_script","_law_town"] (Vz (gx T) (Ui bH 7 6))) {cdv:Value} {A':Around} {outer:List PySem.Env} {s:Shared} {H:Hp} {E:XK} (hr:P5 k (A'.deeper (envOfC "law" (ag eK) s.heap.objs.size T.KA.a cdv))) :
  QI (dm (PK P w) P w K mg base ["_law_script","_law_town","_law_bad","_law_tree_here","_law_basic","_law_odd","_law_few","_law_wrong","_law_part"] "law" (ag eK) T.KA.a cdv A' outer s H E) (b8 eK) (bK (tS (gx T) (λ_=>E) mH) (bK (RI (z8 (bh (λσ=>(fU (Vz (gx T) (Ui bM 8 7)) [] E (bh (eO 0) (bh (eO 1) dP))) σ) (bh (tE (gx T) (λ_=>E) fX) (bh (tE (gx T) (λ_=>E) fY) dP)))) (tG (gx T) iH)) (bK (RI (qI (bh (tE (gx T) (λ_=>E) fZ) (bh (tE (gx T) (λ_=>E) f6) (bh (tE (gx T) (λ_=>E) f7) (bh (qI (bh (λσ=>(fU (Vz (gx T) (Ui bH 7 6)) [] E (bh (eO 0) (bh (eO 1) dP))) σ) dP)) (bh (tE (gx T) (λ_=>E) f9) (bh (tE (gx T) (λ_=>E) gc) dP))))))) (ff 5)) (bK (i4 (gx T) 5 g6) (bK (tS (gx T) (λ_=>E) bo) (bK (tS (gx T) (λ_=>E) aK) (bK (i4 (gx T) 6 g7) (bK (tS (gx T) (λ_=>E) jJ) (bK (i4 (gx T) 7 g8) (bK (tS (gx T) (λ_=>E) bc) (bK (i4 (gx T) 8 fG) (bK (tS (gx T) (λ_=>E) ai) (bK (tS (gx T) (λ_=>E) dn) (bK (tS (gx T) (λ_=>E) dq) (bK (tS (gx T) (λ_=>E) gY) (bK (tS (gx T) (λ_=>E) gZ) (tS (gx T) (λ_=>E) g5))))))))))))))))):=by
 have nd:=Uw.nd;refine' (aS (bg (i:=1) nd rfl (Or.inr rfl) (aL (aa af (aa af (aa af ae))))) (aS (kl (mR (a9 (eH (E:=λ_=>E) FN hr rfl T.Gw.m T.Gw.f.kp T.Gw.b .nil (Passes.s aA) (a9 (pv 0) (a9 (pv 1) aM))) (a9 (ah (aa qs (aa (ah (aa qs (aa af ae))) (aa (ah (aa qs (aa af ae))) ae)))) (a9 (iN eR qo rfl T.Kz eQ (cF (v:=.ref T.Ja) rfl T.Im rfl (fC T.Gy (by rfl) (by rfl)))) aM)))) (dR rfl rfl (aG (a6 (i:=2) nd rfl (Or.inr rfl)) (aG (a6 (i:=3) nd rfl (Or.inr rfl)) (aG (a6 (i:=4) nd rfl (Or.inr rfl)) bN)))) (by rfl) (by kernel_rfl) (by rfl)) (aS (gE (i:=5) nd rfl (Or.inr rfl) (d7 (a9 dy (a9 (aL ae) (a9 (iN bS gC rfl T.Jv cq (cF (v:=.ref T.Ja) rfl T.Im rfl (fC T.Gy (by rfl) (by rfl)))) (a9 (d7 (a9 (eH (E:=λ_=>E) FQ hr rfl T.Gr.m T.Gr.f.kp T.Gr.b .nil (Passes.s aA) (a9 (pv 0) (a9 (pv 1) aM))) aM)) (a9 (bU (P0.or (PU.or bq)) bI (cF (v:=.ref T.Ja) rfl T.Im rfl (fC T.Gy (by rfl) (by rfl))) (aL (aa (aY ax aJ (cF (v:=.ref T.Ja) rfl T.Im rfl (fC T.Gy (by rfl) (by rfl))) af (λ_ _=>rfl)) ae))) (a9 (aY ax aJ (cF (v:=.ref T.Ja) rfl T.Im rfl (fC T.Gy (by rfl) (by rfl))) af (λ_ _=>rfl)) aM)))))))) (EH FA FR FP FE hr))))
end
end My
namespace EV
open PySem PySem.Spec PyProof.Rows L2
section
variable {g:Gx} {m m' k:List Addr} {S S':PD} {H H':Hp} {ρ ρ':Env} {σ:L2.St}
theorem qY {α:Type} {l k:List α} {i:Nat} {a b:α} (h:l[i]?=some a) (q:(l++k)[i]?=some b):l[i]?=some b:=by rw [M3 (Mk.mp h).1] at q;exact q
mutual
theorem R.cut:∀ (a:A) {v0 v:V},R g H m a v0->R g H' (m++k) a v->R g H' m a v
 | .PJ,_,v,_,h=>by unfold R at h ⊢;exact h
 | .bl b,_,v,_,h=>by unfold R at h ⊢;exact h
 | .int i,_,v,_,h=>by unfold R at h ⊢;exact h
 | .str n,_,v,_,h=>by unfold R at h ⊢;exact h
 | .tab t,_,v,_,h=>by unfold R at h ⊢;exact h
 | .any,_,v,_,h=>R.any
 | .Q0,_,v,_,h=>by unfold R at h ⊢;exact h
 | .tup xs,_,v,h0,h=>by obtain ⟨a0,ZL,_,_,r0⟩:=h0.P8;obtain ⟨a,vs,rfl,q,r⟩:=h.P8;exact R.tup q (Rs.cut xs r0 r)
 | .cl xs,_,v,h0,h=>by obtain ⟨a0,ZL,_,_,r0⟩:=h0.Vq;obtain ⟨a,vs,e,q,r⟩:=h.Vq;unfold R;exact ⟨a,vs,e,q,Rs.cut xs r0 r⟩
 | .ref i,_,v,h0,h=>by obtain ⟨a0,e0,_⟩:=h0.RD;obtain ⟨a,e,rfl⟩:=h.RD;exact R.ref (qY e0 e)
 | .RP n,_,v,_,h=>by unfold R at h ⊢;exact h
 | .R5 n,_,v,_,h=>by unfold R at h ⊢;exact h
theorem Rs.cut:∀ (xs:List A) {us vs:List V},Rs g H m xs us->Rs g H' (m++k) xs vs->Rs g H' m xs vs
 | [],_,vs,_,h=>by unfold Rs at h ⊢;exact h
 | a::xs,_,vs,h0,h=>by obtain ⟨v0,r0,rfl,q0,z0⟩:=h0.PL;obtain ⟨v,r,rfl,q,z⟩:=h.PL;exact .cons (R.cut a q0 q) (Rs.cut xs z0 z)
end
theorem Rk.cut:∀ {ks:List (Nat × A)} {us kvs:List (Key × V)},Rk g H m ks us->Rk g H' (m++k) ks kvs->Rk g H' m ks kvs
 | _,_,_,.nil,.nil=>.nil
 | _,_,_,.cons h0 t0,.cons h t=>.cons ⟨h.1,R.cut _ h0.2 h.2⟩ (Rk.cut t0 t)
theorem UU.cut {c:C} {a b:Addr} (h0:UU g H m c a) (h:UU g H' (m++k) c b):UU g H' m c b:=by
 cases c with
 | lst xs=>obtain ⟨_,_,r0⟩:=h0;obtain ⟨vs,e,r⟩:=h;exact ⟨vs,e,r0.cut xs r⟩
 | TJ xs=>obtain ⟨_,_,r0⟩:=h0;obtain ⟨vs,e,r⟩:=h;exact ⟨vs,e,r0.cut xs r⟩
 | dct ks=>obtain ⟨_,_,r0⟩:=h0;obtain ⟨vs,e,r⟩:=h;exact ⟨vs,e,Rk.cut r0 r⟩
 | RB=>exact h
theorem PN.cut (s:PN g m S H) (s':PN g (m++k) S' H') (e:old S.nx S'.cs=S.cs):PN g m S H' :=
 ⟨s.len,s.nd,λa ha=>s'.up a (Og _ ha),λi c q=>by
  obtain ⟨a,ea,ok⟩:=s.cell i c q;rw [<- e] at q;obtain ⟨b,eb,ok'⟩:=s'.cell i c (ib q).1;exact ⟨b,qY ea eb,ok.cut ok'⟩⟩
theorem Re.cut {σ':L2.St} (r0:Re g H m ρ σ) (r:Re g H' (m++k) ρ σ'):Re g H' m ρ σ' :=
 ⟨r.len,λi a h=>let ⟨_,_,q0⟩:=r0.get i a h;let ⟨v,e,q⟩:=r.get i a h;⟨v,e,R.cut a q0 q⟩⟩
noncomputable def fr (S:PD):XR->XR
 | .ok f S'=>.ok f ⟨S.nx,old S.nx S'.cs⟩
 | r=>r
theorem DX {r:XR} (h:fr S r=.ok (.nx ρ) S):∃ S',r=.ok (.nx ρ) S'/\old S.nx S'.cs=S.cs:=by
 cases r with
 | ok f S' =>unfold fr at h;injection h with h1 h2;subst h1;exact ⟨S',rfl,by have:=M5 PD.cs h2;exact this⟩
 | exc c ρ S=>cases h
 | bad=>cases h
variable {E:L2.St->XK} {c:Cs}
theorem o7 {D:Ends} (s:PN g m S H) (re:Re g H m ρ σ) (e:fr S (c ρ S)=.ok (.nx ρ) S) (q:∀ H' σ',PN g m S H'->Re g H' m ρ σ'->D.nx σ' H'):tS g E c D σ H:=by obtain ⟨S',h,o⟩:=DX e;refine C9 s re h λm' H' σ' x s' re'=>?_;obtain ⟨k,rfl,_⟩:=x.pre;exact q H' σ' (s.cut s' o) (re.cut re')
theorem FX {D:Ends} {a:A} (s:PN g m S H) (re:Re g H m ρ σ) (e:∃ S',c ρ S=.ok (.rt a) S') (q:∀ m' H' v,R g H' m' a v->D.rt v H'):tS g E c D σ H:=by obtain ⟨S',h⟩:=e;exact ⟨m,ρ,S,s,re,by rw [h];exact λm' H' v _ _ r=>q m' H' v r⟩
variable {xs:List A} {vs:List V} {Q:VK}
theorem FB (s:PN g m S H) (r:Rs g H m xs vs) (hf:few 900 xs=true)
  (q:∀ m' H' v,Ext m S H m' ⟨S.nx+1,(S.nx,.lst xs)::S.cs⟩ H'->PN g m' ⟨S.nx+1,(S.nx,.lst xs)::S.cs⟩ H'->R g H' m' (.ref S.nx) v->Q v H'):vs.length<=sizeLine/\∀ p,H p=none->Q (.ref p) (upd H p (.lst vs)):=by
 have h:Out g m S H (new xs S) (An g Q) (λ_ _ _=>False):=by
  have e:new xs S=.ok (.ref S.nx) ⟨S.nx+1,(S.nx,.lst xs)::S.cs⟩:=by unfold EV.new;rw [hf];dsimp only;rw [bW,oH]
  rw [e];exact λm' H' x s' v rv=>q m' H' v x s' rv
 obtain ⟨h1,h2⟩:=Out.new h s r;exact ⟨dj (by omega),h2⟩
theorem FC (s:PN g m S H) (r:Rs g H m xs vs) (hf:few 900 xs=true)
  (q:∀ m' H' v,Ext m S H m' S H'->PN g m' S H'->R g H' m' (.tup xs) v->Q v H'):vs.length<=sizeLine/\∀ p,H p=none->Q (.ref p) (upd H p (.tup vs)):=by
 have h:Out g m S H (kN xs S) (An g Q) (λ_ _ _=>False):=by
  have e:kN xs S=.ok (.tup xs) S:=by unfold kN;rw [hf];dsimp only;rw [bW]
  rw [e];exact λm' H' x s' v rv=>q m' H' v x s' rv
 obtain ⟨h1,h2,_⟩:=Out.tup h s r;exact ⟨dj (by omega),h2⟩
theorem Aj (s:PN g m S H) (r:Rs g H m xs vs) (hf:few 900 xs=true) :
  vs.length<=sizeLine/\∀ p,H p=none->∃ m',Ext m S H m' ⟨S.nx+1,(S.nx,.lst xs)::S.cs⟩ (upd H p (.lst vs))/\PN g m' ⟨S.nx+1,(S.nx,.lst xs)::S.cs⟩ (upd H p (.lst vs))/\R g (upd H p (.lst vs)) m' (.ref S.nx) (.ref p) :=
 FB (Q:=λv H'=>∃ m',Ext m S H m' ⟨S.nx+1,(S.nx,.lst xs)::S.cs⟩ H'/\PN g m' ⟨S.nx+1,(S.nx,.lst xs)::S.cs⟩ H'/\R g H' m' (.ref S.nx) v) s r hf λm' _ _ x s' q=>⟨m',x,s',q⟩
theorem Eg (s:PN g m S H) (r:Rs g H m xs vs) (hf:few 900 xs=true) :
  vs.length<=sizeLine/\∀ p,H p=none->∃ m',Ext m S H m' S (upd H p (.tup vs))/\PN g m' S (upd H p (.tup vs))/\R g (upd H p (.tup vs)) m' (.tup xs) (.ref p) :=
 FC (Q:=λv H'=>∃ m',Ext m S H m' S H'/\PN g m' S H'/\R g H' m' (.tup xs) v) s r hf λm' _ _ x s' q=>⟨m',x,s',q⟩
noncomputable def sub:List (Nat × C)->List Nat->List (Nat × C)
 | l,[]=>[]
 | l,i::r=>match look i l with
  | some c=>(i,c)::sub l r
  | none=>sub l r
theorem kM:∀ {l:List (Nat × C)} {js:List Nat} {i:Nat} {c:C},look i (sub l js)=some c->look i l=some c
 | l,[],_,_,h=>nomatch h
 | l,j::js,i,c,h=>by
  unfold sub at h
  cases q:look j l with
  | none=>rw [q] at h;exact kM h
  | some d =>
   rw [q] at h;dsimp only at h;rw [aO] at h;by_cases z:j=i
   ·rw [MF z] at h;cases h;rw [<- z];exact q
   ·rw [Mz z] at h;exact kM h
theorem PN.keep (js:List Nat) {S2:PD} (s:PN g m S H) (e:(⟨S.nx,sub S.cs js⟩:PD)=S2):PN g m S2 H:=e ▸ (s.drop λ_ _ h=>kM h).1
end
end EV
namespace My
open PySem L2 EV PyProof.Rows
noncomputable def bs:List EV.A:=match Gy with | .cl xs=>xs | _=>[]
noncomputable def bp (i:Nat):EV.A:=bs.getD i .PJ
noncomputable def UI:EV.A:=.tup [.str 14,.tup [.str 2,.int (.ofNat 0)],.tup [.str 6,.int (.ofNat 7)]]
noncomputable def aP:EV.A:=.tup [.str 6,.int (.ofNat 1)]
noncomputable def ba:EV.A:=.tup [.str 2,.int (.ofNat 0)]
noncomputable def Dc:EV.A:=.tup [.str 3,aP,aP,aP]
noncomputable def Dd:EV.A:=.tup [.str 3,Dc,Dc,Dc]
noncomputable def FZ:EV.A:=.tup [.str 3,Dd,Dd,Dd]
noncomputable def gk:EV.A:=.tup [.str 14,FZ,aP]
noncomputable def di:EV.A:=.tup [.str 4,.int (.ofNat 0)]
noncomputable def Da:EV.A:=.tup [.str 4,.int (.ofNat 1)]
noncomputable def b6:EV.A:=.tup [.str 14,di,Da]
noncomputable def dz:EV.A:=.tup [.int (.ofNat 4)]
noncomputable def la:EV.A:=.tup [.str 1,.int (.ofNat 0),.int (.ofNat 99)]
noncomputable def nD:List EV.A:=[.PJ,.tup [],.str 6,.tup [.str 6],.tup [.str 6,.int (.negSucc 0)],.tup [.str 6,.int (.ofNat 10000)],.tup [.str 6,.bl true],.tup [.str 2,.int (.ofNat 4)],.tup [.str 2,.int (.ofNat 0),.int (.ofNat 0)],.tup [.str 14,aP],.tup [.str 14,aP,aP,aP],.tup [.str 3,aP,aP],.tup [.str 15,aP,aP],.ref 3,.tup [.str 14,aP,.int (.ofNat 5)],di,.tup [.str 16,aP,.PJ],.tup [.str 14,.tup [.str 14,.tup [.str 14,.tup [.str 14,.tup [.str 14,.tup [.str 14,.tup [.str 14,.tup [.str 14,aP,ba],ba],ba],ba],ba],ba],ba],ba],.tup [.str 14,gk,gk],.tup [aP],.int (.ofNat 7)]
noncomputable def y6:List EV.A:=[.PJ,.tup [],.tup [.str 17,b6],.tup [.str 18,b6,dz],.tup [.str 19,b6,dz],.tup [.str 3,b6,dz],.tup [.str 20,b6,dz],.ref 10,.tup [.str 17,di,dz],.tup [.str 17,b6,.tup []],.tup [.str 17,b6,.ref 12],.tup [.str 17,b6,.tup [.int (.ofNat 8),.int (.ofNat 1)]],.tup [.str 17,b6,.tup [.int (.ofNat 0)]],.tup [.str 17,b6,.tup [.int (.ofNat 15),.int (.ofNat 1),.int (.ofNat 0)]],.tup [.str 17,b6,.tup [.int (.ofNat 1)]],.tup [.str 17,b6,.tup [.int (.ofNat 2),.int (.ofNat 5)]],.tup [.str 17,b6,.tup [.int (.ofNat 4),.int (.ofNat 4),.int (.ofNat 4),.int (.ofNat 4),.int (.ofNat 4),.int (.ofNat 4),.int (.ofNat 4),.int (.ofNat 4),.int (.ofNat 4),.int (.ofNat 4),.int (.ofNat 4),.int (.ofNat 4),.int (.ofNat 4)]],.tup [.str 17,b6,.tup [.int (.ofNat 100)]],.tup [.str 17,b6,.tup [.bl true]],.tup [.str 17,b6,.tup [.int (.ofNat 17)]],.tup [.str 17,la,.tup [.int (.ofNat 1),.tup [.str 8,.int (.ofNat 1)]]],.tup [.str 17,la,.tup [.int (.ofNat 1),ba]],.tup [.str 17,la,.tup [.tup [.str 8,.int (.ofNat 0)],.int (.ofNat 1)]],.tup [.str 17,la,.tup [.int (.ofNat 1),.tup [.str 21,.int (.ofNat 0)]]],.tup [.str 17,.tup [.str 7,.int (.ofNat 0)],.tup [.int (.ofNat 3)]],.tup [.str 17,.tup [.str 14,Da,di],dz],.tup [.str 17,.tup [.str 14,di,di],dz],.tup [.str 17,.tup [.str 14,di,.tup [.str 4,.int (.ofNat 2)]],dz],.tup [.str 17,.tup [.str 3,di,di,di],dz],.tup [.str 17,.tup [.str 1,.int (.ofNat 0)],.tup [.int (.ofNat 1),.int (.ofNat 1)]],.tup [.str 17,.tup [.str 1,.int (.ofNat 0),.int (.ofNat 10000)],.tup [.int (.ofNat 1),.int (.ofNat 1)]],.tup [.str 17,.tup [.str 1,.int (.ofNat 1),.int (.ofNat 9)],.tup [.int (.ofNat 1),.int (.ofNat 1)]],.tup [.str 17,ba,.tup [.int (.ofNat 3),.int (.ofNat 0)]],.tup [.str 17,.tup [.str 6,.int (.negSucc 0)],.tup [.int (.ofNat 1),.int (.ofNat 1)]],.tup [.str 17,.tup [.str 14,.tup [.str 14,.tup [.str 14,di,la],aP],aP],dz],.tup [.str 17,.tup [.str 14,b6,.tup [.str 4,.int (.ofNat 2)]],.tup [.int (.ofNat 4),.int (.ofNat 4)]]]
noncomputable def ro (x o f w p:Option EV.A):EV.Env:=[some .Q0,some (.ref 0),x,some UI,some (.ref 7),o,f,w,p]
noncomputable abbrev r5 (x o:EV.A):EV.Env:=ro (some x) (some o) none none none
noncomputable abbrev r6 (x o f:EV.A):EV.Env:=ro (some x) (some o) (some f) none none
noncomputable abbrev r7 (x o f w:EV.A):EV.Env:=ro (some x) (some o) (some f) (some w) none
noncomputable abbrev r8 (x o f w p:EV.A):EV.Env:=ro (some x) (some o) (some f) (some w) (some p)
noncomputable def S1:PD:=⟨8,[(7,.lst bs),(3,.lst [.str 6,.int (.ofNat 1)]),(0,.RB)]⟩
noncomputable def WZ:PD:=⟨9,[(8,.lst []),(7,.lst bs),(3,.lst [.str 6,.int (.ofNat 1)]),(0,.RB)]⟩
noncomputable def y4:List EV.A:=[.PJ,.ref 8,.tup bs,.ref 23,.ref 25,bp 0]
noncomputable def Zu (y:EV.A):PD:=⟨24,[(23,.lst [y]),(12,.lst [.int (.ofNat 4)]),(10,.lst [.str 17,b6,dz]),(8,.lst []),(7,.lst bs),(3,.lst [.str 6,.int (.ofNat 1)]),(0,.RB)]⟩
noncomputable def Zv (y:EV.A):PD:=⟨26,[(25,.lst (bs++[bp 0])),(23,.lst [y]),(12,.lst [.int (.ofNat 4)]),(10,.lst [.str 17,b6,dz]),(8,.lst []),(7,.lst bs),(3,.lst [.str 6,.int (.ofNat 1)]),(0,.RB)]⟩
noncomputable def S3 (y:EV.A):PD:=⟨27,[(26,.lst y4),(25,.lst (bs++[bp 0])),(23,.lst [y]),(12,.lst [.int (.ofNat 4)]),(10,.lst [.str 17,b6,dz]),(8,.lst []),(7,.lst bs),(3,.lst [.str 6,.int (.ofNat 1)]),(0,.RB)]⟩
noncomputable def S4 (y:EV.A):PD:=⟨27,[(25,.lst (bs++[bp 0])),(23,.lst [y]),(12,.lst [.int (.ofNat 4)]),(10,.lst [.str 17,b6,dz]),(8,.lst []),(7,.lst bs),(3,.lst [.str 6,.int (.ofNat 1)]),(0,.RB)]⟩
noncomputable def S6:PD:=⟨31,[(29,.lst [bp 2,bp 4]),(28,.lst [bp 0,bp 3]),(27,.lst [bp 3]),(7,.lst bs),(3,.lst [.str 6,.int (.ofNat 1)]),(0,.RB)]⟩
noncomputable def n8:EV.A:=.tup [.str 6,.int (.ofNat 8)]
noncomputable def a1:EV.A:=.tup [.str 2,.int (.ofNat 1)]
noncomputable def De:List EV.A:=[.PJ,.tup [UI],.ref 31,.ref 32,.ref 33,.ref 35,.ref 36,.str 24]
noncomputable def oq:List EV.A:=[.ref 27,.ref 28,.ref 29]
noncomputable def S7:PD:=⟨38,[(36,.lst [ba,a1]),(35,.lst [ba,ba]),(33,.lst [.PJ]),(32,.lst [UI,UI]),(31,.lst [n8]),(29,.lst [bp 2,bp 4]),(28,.lst [bp 0,bp 3]),(27,.lst [bp 3]),(7,.lst bs),(3,.lst [.str 6,.int (.ofNat 1)]),(0,.RB)]⟩
noncomputable def S8:PD:=⟨38,[(29,.lst [bp 2,bp 4]),(28,.lst [bp 0,bp 3]),(27,.lst [bp 3]),(7,.lst bs),(3,.lst [.str 6,.int (.ofNat 1)]),(0,.RB)]⟩
noncomputable def P9:PD:=⟨40,[(38,.lst [UI]),(29,.lst [bp 2,bp 4]),(28,.lst [bp 0,bp 3]),(27,.lst [bp 3]),(7,.lst bs),(3,.lst [.str 6,.int (.ofNat 1)]),(0,.RB)]⟩
noncomputable def R4 (P:EV.A->Prop):List EV.A->Prop
 | []=>True
 | x::r=>P x/\R4 P r
theorem R4.get {P:EV.A->Prop}:∀ {l:List EV.A} {k:Nat} {x:EV.A},R4 P l->l[k]?=some x->P x
 | [],_,_,_,e=>nomatch e
 | _::_,0,_,h,e=>MB e ▸ h.1
 | _::r,k+1,_,h,e=>R4.get (l:=r) (k:=k) h.2 (by simpa using e)
noncomputable def Zw:XR->Bool
 | .ok (.rt (.bl true)) _=>true
 | _=>false
noncomputable abbrev Kp (c:Cs) (ρ:EV.Env) (S:PD):Prop:=fr S (c ρ S)=.ok (.nx ρ) S
theorem Fd:∀ o y,Kp bo (r5 (.PJ) o) (S4 y):=λo y=>by kernel_rfl
theorem Fm:∀ o y,Kp bo (r5 (.tup [.str 2,.int (.ofNat 0),.int (.ofNat 0)]) o) (S4 y):=λo y=>by kernel_rfl
theorem DH:∀ o y,Kp bo (r5 (.tup [.str 16,aP,.PJ]) o) (S4 y):=λo y=>by kernel_rfl
theorem Ft:∀ x y,Kp aK (r5 x (.ref 25)) (S4 y):=λx y=>by kernel_rfl
theorem DS:∀ x,Kp aK (r5 x (.ref 23)) (S4 (.tup [.str 20,b6,dz])):=λx=>by kernel_rfl
theorem A6:∀ x,Kp aK (r5 x (.ref 23)) (S4 (.tup [.str 17,b6,.tup [.int (.ofNat 1)]])):=λx=>by kernel_rfl
theorem Be:∀ x,Kp aK (r5 x (.ref 23)) (S4 (.tup [.str 17,la,.tup [.tup [.str 8,.int (.ofNat 0)],.int (.ofNat 1)]])):=λx=>by kernel_rfl
theorem Bm:∀ x,Kp aK (r5 x (.ref 23)) (S4 (.tup [.str 17,.tup [.str 1,.int (.ofNat 0),.int (.ofNat 10000)],.tup [.int (.ofNat 1),.int (.ofNat 1)]])):=λx=>by kernel_rfl
theorem Bv:∀ x o,Kp bc (r7 x o (.ref 27) (.ref 31)) S7:=λx o=>by kernel_rfl
theorem BD:∀ x o,Kp bc (r7 x o (.ref 28) (.ref 31)) S7:=λx o=>by kernel_rfl
theorem BL:∀ x o,Kp bc (r7 x o (.ref 29) (.ref 31)) S7:=λx o=>by kernel_rfl
theorem yA:∀ x o w,Kp ai (r8 x o (.ref 27) w (a1)) P9:=λx o w=>by kernel_rfl
theorem vB:∀ o w,Kp ai (r8 (.tup [.str 6,.bl true]) o (.ref 27) w (.tup [.str 6,.bl true])) P9:=λo w=>by kernel_rfl
theorem sF:∀ o w,Kp ai (r8 (.tup [.str 14,aP,.int (.ofNat 5)]) o (.ref 27) w (.tup [.str 14,aP,.int (.ofNat 5)])) P9:=λo w=>by kernel_rfl
theorem Dw:∀ x o w p,Kp dq (r8 x o (.ref 27) w p) P9:=λx o w p=>by kernel_rfl
theorem vI:∀ o w,Kp ai (r8 (.tup [.str 6]) o (.ref 28) w (.tup [.str 6])) P9:=λo w=>by kernel_rfl
theorem sO:∀ o w,Kp ai (r8 (.tup [.str 3,aP,aP]) o (.ref 28) w (.tup [.str 3,aP,aP])) P9:=λo w=>by kernel_rfl
theorem sX:∀ o w,Kp ai (r8 (.tup [aP]) o (.ref 28) w (.tup [aP])) P9:=λo w=>by kernel_rfl
theorem vP:∀ o w,Kp ai (r8 (.PJ) o (.ref 29) w (.PJ)) P9:=λo w=>by kernel_rfl
theorem vX:∀ o w,Kp ai (r8 (.tup [.str 2,.int (.ofNat 0),.int (.ofNat 0)]) o (.ref 29) w (.tup [.str 2,.int (.ofNat 0),.int (.ofNat 0)])) P9:=λo w=>by kernel_rfl
theorem tD:∀ o w,Kp ai (r8 (.tup [.str 16,aP,.PJ]) o (.ref 29) w (.tup [.str 16,aP,.PJ])) P9:=λo w=>by kernel_rfl
theorem e15:∀ x o f w p,Kp gZ (r8 x o f w p) P9:=λx o f w p=>by kernel_rfl
theorem Fe:∀ o y,Kp bo (r5 (.tup []) o) (S4 y):=λo y=>by kernel_rfl
theorem Fo:∀ o y,Kp bo (r5 (.tup [.str 14,aP]) o) (S4 y):=λo y=>by kernel_rfl
theorem DI:∀ o y,Kp bo (r5 (.tup [.str 14,.tup [.str 14,.tup [.str 14,.tup [.str 14,.tup [.str 14,.tup [.str 14,.tup [.str 14,.tup [.str 14,aP,ba],ba],ba],ba],ba],ba],ba],ba]) o) (S4 y):=λo y=>by kernel_rfl
theorem Fu:∀ x y,Kp aK (r5 x (bp 0)) (S4 y):=λx y=>by kernel_rfl
theorem DT:∀ x,Kp aK (r5 x (.ref 23)) (S4 (.ref 10)):=λx=>by kernel_rfl
theorem A7:∀ x,Kp aK (r5 x (.ref 23)) (S4 (.tup [.str 17,b6,.tup [.int (.ofNat 2),.int (.ofNat 5)]])):=λx=>by kernel_rfl
theorem Bf:∀ x,Kp aK (r5 x (.ref 23)) (S4 (.tup [.str 17,la,.tup [.int (.ofNat 1),.tup [.str 21,.int (.ofNat 0)]]])):=λx=>by kernel_rfl
theorem Bo:∀ x,Kp aK (r5 x (.ref 23)) (S4 (.tup [.str 17,.tup [.str 1,.int (.ofNat 1),.int (.ofNat 9)],.tup [.int (.ofNat 1),.int (.ofNat 1)]])):=λx=>by kernel_rfl
theorem Bw:∀ x o,Kp bc (r7 x o (.ref 27) (.ref 32)) S7:=λx o=>by kernel_rfl
theorem BE:∀ x o,Kp bc (r7 x o (.ref 28) (.ref 32)) S7:=λx o=>by kernel_rfl
theorem BM:∀ x o,Kp bc (r7 x o (.ref 29) (.ref 32)) S7:=λx o=>by kernel_rfl
theorem yB:∀ x o w,Kp ai (r8 x o (.ref 27) w (.ref 38)) P9:=λx o w=>by kernel_rfl
theorem vC:∀ o w,Kp ai (r8 (.tup [.str 2,.int (.ofNat 4)]) o (.ref 27) w (.tup [.str 2,.int (.ofNat 4)])) P9:=λo w=>by kernel_rfl
theorem sG:∀ o w,Kp ai (r8 (di) o (.ref 27) w (di)) P9:=λo w=>by kernel_rfl
theorem yC:∀ x o w,Kp ai (r8 x o (.ref 28) w (.PJ)) P9:=λx o w=>by kernel_rfl
theorem vJ:∀ o w,Kp ai (r8 (.tup [.str 6,.int (.negSucc 0)]) o (.ref 28) w (.tup [.str 6,.int (.negSucc 0)])) P9:=λo w=>by kernel_rfl
theorem sP:∀ o w,Kp ai (r8 (.tup [.str 15,aP,aP]) o (.ref 28) w (.tup [.str 15,aP,aP])) P9:=λo w=>by kernel_rfl
theorem sY:∀ o w,Kp ai (r8 (.int (.ofNat 7)) o (.ref 28) w (.int (.ofNat 7))) P9:=λo w=>by kernel_rfl
theorem vQ:∀ o w,Kp ai (r8 (.tup []) o (.ref 29) w (.tup [])) P9:=λo w=>by kernel_rfl
theorem vY:∀ o w,Kp ai (r8 (.tup [.str 14,aP]) o (.ref 29) w (.tup [.str 14,aP])) P9:=λo w=>by kernel_rfl
theorem tF:∀ o w,Kp ai (r8 (.tup [.str 14,.tup [.str 14,.tup [.str 14,.tup [.str 14,.tup [.str 14,.tup [.str 14,.tup [.str 14,.tup [.str 14,aP,ba],ba],ba],ba],ba],ba],ba],ba]) o (.ref 29) w (.tup [.str 14,.tup [.str 14,.tup [.str 14,.tup [.str 14,.tup [.str 14,.tup [.str 14,.tup [.str 14,.tup [.str 14,aP,ba],ba],ba],ba],ba],ba],ba],ba])) P9:=λo w=>by kernel_rfl
theorem e16:∀ x o f w p,Zw (g5 (r8 x o f w p) P9)=true:=λx o f w p=>by kernel_rfl
theorem Ff:∀ o y,Kp bo (r5 (.str 6) o) (S4 y):=λo y=>by kernel_rfl
theorem DA:∀ o y,Kp bo (r5 (.tup [.str 14,aP,aP,aP]) o) (S4 y):=λo y=>by kernel_rfl
theorem DJ:∀ o y,Kp bo (r5 (.tup [.str 14,gk,gk]) o) (S4 y):=λo y=>by kernel_rfl
theorem DM:∀ x,Kp aK (r5 x (.ref 23)) (S4 (.PJ)):=λx=>by kernel_rfl
theorem DU:∀ x,Kp aK (r5 x (.ref 23)) (S4 (.tup [.str 17,di,dz])):=λx=>by kernel_rfl
theorem A8:∀ x,Kp aK (r5 x (.ref 23)) (S4 (.tup [.str 17,b6,.tup [.int (.ofNat 4),.int (.ofNat 4),.int (.ofNat 4),.int (.ofNat 4),.int (.ofNat 4),.int (.ofNat 4),.int (.ofNat 4),.int (.ofNat 4),.int (.ofNat 4),.int (.ofNat 4),.int (.ofNat 4),.int (.ofNat 4),.int (.ofNat 4)]])):=λx=>by kernel_rfl
theorem Bg:∀ x,Kp aK (r5 x (.ref 23)) (S4 (.tup [.str 17,.tup [.str 7,.int (.ofNat 0)],.tup [.int (.ofNat 3)]])):=λx=>by kernel_rfl
theorem Bp:∀ x,Kp aK (r5 x (.ref 23)) (S4 (.tup [.str 17,ba,.tup [.int (.ofNat 3),.int (.ofNat 0)]])):=λx=>by kernel_rfl
theorem Bx:∀ x o,Kp bc (r7 x o (.ref 27) (.ref 33)) S7:=λx o=>by kernel_rfl
theorem BF:∀ x o,Kp bc (r7 x o (.ref 28) (.ref 33)) S7:=λx o=>by kernel_rfl
theorem BN:∀ x o,Kp bc (r7 x o (.ref 29) (.ref 33)) S7:=λx o=>by kernel_rfl
theorem vv:∀ o w,Kp ai (r8 (.PJ) o (.ref 27) w (.PJ)) P9:=λo w=>by kernel_rfl
theorem vD:∀ o w,Kp ai (r8 (.tup [.str 2,.int (.ofNat 0),.int (.ofNat 0)]) o (.ref 27) w (.tup [.str 2,.int (.ofNat 0),.int (.ofNat 0)])) P9:=λo w=>by kernel_rfl
theorem sH:∀ o w,Kp ai (r8 (.tup [.str 16,aP,.PJ]) o (.ref 27) w (.tup [.str 16,aP,.PJ])) P9:=λo w=>by kernel_rfl
theorem yD:∀ x o w,Kp ai (r8 x o (.ref 28) w (n8)) P9:=λx o w=>by kernel_rfl
theorem vK:∀ o w,Kp ai (r8 (.tup [.str 6,.int (.ofNat 10000)]) o (.ref 28) w (.tup [.str 6,.int (.ofNat 10000)])) P9:=λo w=>by kernel_rfl
theorem sQ:∀ o w,Kp ai (r8 (.ref 3) o (.ref 28) w (.ref 3)) P9:=λo w=>by kernel_rfl
theorem Du:∀ x o w p,Kp dn (r8 x o (.ref 28) w p) P9:=λx o w p=>by kernel_rfl
theorem vR:∀ o w,Kp ai (r8 (.str 6) o (.ref 29) w (.str 6)) P9:=λo w=>by kernel_rfl
theorem sZ:∀ o w,Kp ai (r8 (.tup [.str 14,aP,aP,aP]) o (.ref 29) w (.tup [.str 14,aP,aP,aP])) P9:=λo w=>by kernel_rfl
theorem tH:∀ o w,Kp ai (r8 (.tup [.str 14,gk,gk]) o (.ref 29) w (.tup [.str 14,gk,gk])) P9:=λo w=>by kernel_rfl
theorem Fg:∀ o y,Kp bo (r5 (.tup [.str 6]) o) (S4 y):=λo y=>by kernel_rfl
theorem DB:∀ o y,Kp bo (r5 (.tup [.str 3,aP,aP]) o) (S4 y):=λo y=>by kernel_rfl
theorem DK:∀ o y,Kp bo (r5 (.tup [aP]) o) (S4 y):=λo y=>by kernel_rfl
theorem DN:∀ x,Kp aK (r5 x (.ref 23)) (S4 (.tup [])):=λx=>by kernel_rfl
theorem DV:∀ x,Kp aK (r5 x (.ref 23)) (S4 (.tup [.str 17,b6,.tup []])):=λx=>by kernel_rfl
theorem A9:∀ x,Kp aK (r5 x (.ref 23)) (S4 (.tup [.str 17,b6,.tup [.int (.ofNat 100)]])):=λx=>by kernel_rfl
theorem Bh:∀ x,Kp aK (r5 x (.ref 23)) (S4 (.tup [.str 17,.tup [.str 14,Da,di],dz])):=λx=>by kernel_rfl
theorem Bq:∀ x,Kp aK (r5 x (.ref 23)) (S4 (.tup [.str 17,.tup [.str 6,.int (.negSucc 0)],.tup [.int (.ofNat 1),.int (.ofNat 1)]])):=λx=>by kernel_rfl
theorem By:∀ x o,Kp bc (r7 x o (.ref 27) (.ref 35)) S7:=λx o=>by kernel_rfl
theorem BG:∀ x o,Kp bc (r7 x o (.ref 28) (.ref 35)) S7:=λx o=>by kernel_rfl
theorem BO:∀ x o,Kp bc (r7 x o (.ref 29) (.ref 35)) S7:=λx o=>by kernel_rfl
theorem vw:∀ o w,Kp ai (r8 (.tup []) o (.ref 27) w (.tup [])) P9:=λo w=>by kernel_rfl
theorem vE:∀ o w,Kp ai (r8 (.tup [.str 14,aP]) o (.ref 27) w (.tup [.str 14,aP])) P9:=λo w=>by kernel_rfl
theorem sI:∀ o w,Kp ai (r8 (.tup [.str 14,.tup [.str 14,.tup [.str 14,.tup [.str 14,.tup [.str 14,.tup [.str 14,.tup [.str 14,.tup [.str 14,aP,ba],ba],ba],ba],ba],ba],ba],ba]) o (.ref 27) w (.tup [.str 14,.tup [.str 14,.tup [.str 14,.tup [.str 14,.tup [.str 14,.tup [.str 14,.tup [.str 14,.tup [.str 14,aP,ba],ba],ba],ba],ba],ba],ba],ba])) P9:=λo w=>by kernel_rfl
theorem yE:∀ x o w,Kp ai (r8 x o (.ref 28) w (a1)) P9:=λx o w=>by kernel_rfl
theorem vL:∀ o w,Kp ai (r8 (.tup [.str 6,.bl true]) o (.ref 28) w (.tup [.str 6,.bl true])) P9:=λo w=>by kernel_rfl
theorem sR:∀ o w,Kp ai (r8 (.tup [.str 14,aP,.int (.ofNat 5)]) o (.ref 28) w (.tup [.str 14,aP,.int (.ofNat 5)])) P9:=λo w=>by kernel_rfl
theorem Dy:∀ x o w p,Kp dq (r8 x o (.ref 28) w p) P9:=λx o w p=>by kernel_rfl
theorem vS:∀ o w,Kp ai (r8 (.tup [.str 6]) o (.ref 29) w (.tup [.str 6])) P9:=λo w=>by kernel_rfl
theorem tj:∀ o w,Kp ai (r8 (.tup [.str 3,aP,aP]) o (.ref 29) w (.tup [.str 3,aP,aP])) P9:=λo w=>by kernel_rfl
theorem tJ:∀ o w,Kp ai (r8 (.tup [aP]) o (.ref 29) w (.tup [aP])) P9:=λo w=>by kernel_rfl
theorem Fh:∀ o y,Kp bo (r5 (.tup [.str 6,.int (.negSucc 0)]) o) (S4 y):=λo y=>by kernel_rfl
theorem DC:∀ o y,Kp bo (r5 (.tup [.str 15,aP,aP]) o) (S4 y):=λo y=>by kernel_rfl
theorem DL:∀ o y,Kp bo (r5 (.int (.ofNat 7)) o) (S4 y):=λo y=>by kernel_rfl
theorem DO:∀ x,Kp aK (r5 x (.ref 23)) (S4 (.tup [.str 17,b6])):=λx=>by kernel_rfl
theorem A2:∀ x,Kp aK (r5 x (.ref 23)) (S4 (.tup [.str 17,b6,.ref 12])):=λx=>by kernel_rfl
theorem Ba:∀ x,Kp aK (r5 x (.ref 23)) (S4 (.tup [.str 17,b6,.tup [.bl true]])):=λx=>by kernel_rfl
theorem Bi:∀ x,Kp aK (r5 x (.ref 23)) (S4 (.tup [.str 17,.tup [.str 14,di,di],dz])):=λx=>by kernel_rfl
theorem Br:∀ x,Kp aK (r5 x (.ref 23)) (S4 (.tup [.str 17,.tup [.str 14,.tup [.str 14,.tup [.str 14,di,la],aP],aP],dz])):=λx=>by kernel_rfl
theorem Bz:∀ x o,Kp bc (r7 x o (.ref 27) (.ref 36)) S7:=λx o=>by kernel_rfl
theorem BH:∀ x o,Kp bc (r7 x o (.ref 28) (.ref 36)) S7:=λx o=>by kernel_rfl
theorem BP:∀ x o,Kp bc (r7 x o (.ref 29) (.ref 36)) S7:=λx o=>by kernel_rfl
theorem vx:∀ o w,Kp ai (r8 (.str 6) o (.ref 27) w (.str 6)) P9:=λo w=>by kernel_rfl
theorem sA:∀ o w,Kp ai (r8 (.tup [.str 14,aP,aP,aP]) o (.ref 27) w (.tup [.str 14,aP,aP,aP])) P9:=λo w=>by kernel_rfl
theorem sJ:∀ o w,Kp ai (r8 (.tup [.str 14,gk,gk]) o (.ref 27) w (.tup [.str 14,gk,gk])) P9:=λo w=>by kernel_rfl
theorem yF:∀ x o w,Kp ai (r8 x o (.ref 28) w (.ref 38)) P9:=λx o w=>by kernel_rfl
theorem vM:∀ o w,Kp ai (r8 (.tup [.str 2,.int (.ofNat 4)]) o (.ref 28) w (.tup [.str 2,.int (.ofNat 4)])) P9:=λo w=>by kernel_rfl
theorem sS:∀ o w,Kp ai (r8 (di) o (.ref 28) w (di)) P9:=λo w=>by kernel_rfl
theorem yG:∀ x o w,Kp ai (r8 x o (.ref 29) w (.PJ)) P9:=λx o w=>by kernel_rfl
theorem vT:∀ o w,Kp ai (r8 (.tup [.str 6,.int (.negSucc 0)]) o (.ref 29) w (.tup [.str 6,.int (.negSucc 0)])) P9:=λo w=>by kernel_rfl
theorem tm:∀ o w,Kp ai (r8 (.tup [.str 15,aP,aP]) o (.ref 29) w (.tup [.str 15,aP,aP])) P9:=λo w=>by kernel_rfl
theorem tL:∀ o w,Kp ai (r8 (.int (.ofNat 7)) o (.ref 29) w (.int (.ofNat 7))) P9:=λo w=>by kernel_rfl
theorem Fi:∀ o y,Kp bo (r5 (.tup [.str 6,.int (.ofNat 10000)]) o) (S4 y):=λo y=>by kernel_rfl
theorem DE:∀ o y,Kp bo (r5 (.ref 3) o) (S4 y):=λo y=>by kernel_rfl
theorem Fp:∀ x y,Kp aK (r5 x (.PJ)) (S4 y):=λx y=>by kernel_rfl
theorem DP:∀ x,Kp aK (r5 x (.ref 23)) (S4 (.tup [.str 18,b6,dz])):=λx=>by kernel_rfl
theorem A3:∀ x,Kp aK (r5 x (.ref 23)) (S4 (.tup [.str 17,b6,.tup [.int (.ofNat 8),.int (.ofNat 1)]])):=λx=>by kernel_rfl
theorem Bb:∀ x,Kp aK (r5 x (.ref 23)) (S4 (.tup [.str 17,b6,.tup [.int (.ofNat 17)]])):=λx=>by kernel_rfl
theorem Bj:∀ x,Kp aK (r5 x (.ref 23)) (S4 (.tup [.str 17,.tup [.str 14,di,.tup [.str 4,.int (.ofNat 2)]],dz])):=λx=>by kernel_rfl
theorem Bs:∀ x,Kp aK (r5 x (.ref 23)) (S4 (.tup [.str 17,.tup [.str 14,b6,.tup [.str 4,.int (.ofNat 2)]],.tup [.int (.ofNat 4),.int (.ofNat 4)]])):=λx=>by kernel_rfl
theorem BA:∀ x o,Kp bc (r7 x o (.ref 27) (.str 24)) S7:=λx o=>by kernel_rfl
theorem BI:∀ x o,Kp bc (r7 x o (.ref 28) (.str 24)) S7:=λx o=>by kernel_rfl
theorem BQ:∀ x o,Kp bc (r7 x o (.ref 29) (.str 24)) S7:=λx o=>by kernel_rfl
theorem vy:∀ o w,Kp ai (r8 (.tup [.str 6]) o (.ref 27) w (.tup [.str 6])) P9:=λo w=>by kernel_rfl
theorem sC:∀ o w,Kp ai (r8 (.tup [.str 3,aP,aP]) o (.ref 27) w (.tup [.str 3,aP,aP])) P9:=λo w=>by kernel_rfl
theorem sL:∀ o w,Kp ai (r8 (.tup [aP]) o (.ref 27) w (.tup [aP])) P9:=λo w=>by kernel_rfl
theorem vF:∀ o w,Kp ai (r8 (.PJ) o (.ref 28) w (.PJ)) P9:=λo w=>by kernel_rfl
theorem vN:∀ o w,Kp ai (r8 (.tup [.str 2,.int (.ofNat 0),.int (.ofNat 0)]) o (.ref 28) w (.tup [.str 2,.int (.ofNat 0),.int (.ofNat 0)])) P9:=λo w=>by kernel_rfl
theorem sU:∀ o w,Kp ai (r8 (.tup [.str 16,aP,.PJ]) o (.ref 28) w (.tup [.str 16,aP,.PJ])) P9:=λo w=>by kernel_rfl
theorem yH:∀ x o w,Kp ai (r8 x o (.ref 29) w (n8)) P9:=λx o w=>by kernel_rfl
theorem vU:∀ o w,Kp ai (r8 (.tup [.str 6,.int (.ofNat 10000)]) o (.ref 29) w (.tup [.str 6,.int (.ofNat 10000)])) P9:=λo w=>by kernel_rfl
theorem tq:∀ o w,Kp ai (r8 (.ref 3) o (.ref 29) w (.ref 3)) P9:=λo w=>by kernel_rfl
theorem Dv:∀ x o w p,Kp dn (r8 x o (.ref 29) w p) P9:=λx o w p=>by kernel_rfl
theorem Fj:∀ o y,Kp bo (r5 (.tup [.str 6,.bl true]) o) (S4 y):=λo y=>by kernel_rfl
theorem DF:∀ o y,Kp bo (r5 (.tup [.str 14,aP,.int (.ofNat 5)]) o) (S4 y):=λo y=>by kernel_rfl
theorem Fq:∀ x y,Kp aK (r5 x (.ref 8)) (S4 y):=λx y=>by kernel_rfl
theorem DQ:∀ x,Kp aK (r5 x (.ref 23)) (S4 (.tup [.str 19,b6,dz])):=λx=>by kernel_rfl
theorem A4:∀ x,Kp aK (r5 x (.ref 23)) (S4 (.tup [.str 17,b6,.tup [.int (.ofNat 0)]])):=λx=>by kernel_rfl
theorem Bc:∀ x,Kp aK (r5 x (.ref 23)) (S4 (.tup [.str 17,la,.tup [.int (.ofNat 1),.tup [.str 8,.int (.ofNat 1)]]])):=λx=>by kernel_rfl
theorem Bk:∀ x,Kp aK (r5 x (.ref 23)) (S4 (.tup [.str 17,.tup [.str 3,di,di,di],dz])):=λx=>by kernel_rfl
theorem Bt:∀ x o,Kp bc (r7 x o (.ref 27) (.PJ)) S7:=λx o=>by kernel_rfl
theorem BB:∀ x o,Kp bc (r7 x o (.ref 28) (.PJ)) S7:=λx o=>by kernel_rfl
theorem BJ:∀ x o,Kp bc (r7 x o (.ref 29) (.PJ)) S7:=λx o=>by kernel_rfl
theorem yy:∀ x o w,Kp ai (r8 x o (.ref 27) w (.PJ)) P9:=λx o w=>by kernel_rfl
theorem vz:∀ o w,Kp ai (r8 (.tup [.str 6,.int (.negSucc 0)]) o (.ref 27) w (.tup [.str 6,.int (.negSucc 0)])) P9:=λo w=>by kernel_rfl
theorem sD:∀ o w,Kp ai (r8 (.tup [.str 15,aP,aP]) o (.ref 27) w (.tup [.str 15,aP,aP])) P9:=λo w=>by kernel_rfl
theorem sM:∀ o w,Kp ai (r8 (.int (.ofNat 7)) o (.ref 27) w (.int (.ofNat 7))) P9:=λo w=>by kernel_rfl
theorem vG:∀ o w,Kp ai (r8 (.tup []) o (.ref 28) w (.tup [])) P9:=λo w=>by kernel_rfl
theorem vO:∀ o w,Kp ai (r8 (.tup [.str 14,aP]) o (.ref 28) w (.tup [.str 14,aP])) P9:=λo w=>by kernel_rfl
theorem sV:∀ o w,Kp ai (r8 (.tup [.str 14,.tup [.str 14,.tup [.str 14,.tup [.str 14,.tup [.str 14,.tup [.str 14,.tup [.str 14,.tup [.str 14,aP,ba],ba],ba],ba],ba],ba],ba],ba]) o (.ref 28) w (.tup [.str 14,.tup [.str 14,.tup [.str 14,.tup [.str 14,.tup [.str 14,.tup [.str 14,.tup [.str 14,.tup [.str 14,aP,ba],ba],ba],ba],ba],ba],ba],ba])) P9:=λo w=>by kernel_rfl
theorem yI:∀ x o w,Kp ai (r8 x o (.ref 29) w (a1)) P9:=λx o w=>by kernel_rfl
theorem vV:∀ o w,Kp ai (r8 (.tup [.str 6,.bl true]) o (.ref 29) w (.tup [.str 6,.bl true])) P9:=λo w=>by kernel_rfl
theorem tu:∀ o w,Kp ai (r8 (.tup [.str 14,aP,.int (.ofNat 5)]) o (.ref 29) w (.tup [.str 14,aP,.int (.ofNat 5)])) P9:=λo w=>by kernel_rfl
theorem Dz:∀ x o w p,Kp dq (r8 x o (.ref 29) w p) P9:=λx o w p=>by kernel_rfl
theorem Fk:∀ o y,Kp bo (r5 (.tup [.str 2,.int (.ofNat 4)]) o) (S4 y):=λo y=>by kernel_rfl
theorem DG:∀ o y,Kp bo (r5 (di) o) (S4 y):=λo y=>by kernel_rfl
theorem Fs:∀ x y,Kp aK (r5 x (.tup bs)) (S4 y):=λx y=>by kernel_rfl
theorem DR:∀ x,Kp aK (r5 x (.ref 23)) (S4 (.tup [.str 3,b6,dz])):=λx=>by kernel_rfl
theorem A5:∀ x,Kp aK (r5 x (.ref 23)) (S4 (.tup [.str 17,b6,.tup [.int (.ofNat 15),.int (.ofNat 1),.int (.ofNat 0)]])):=λx=>by kernel_rfl
theorem Bd:∀ x,Kp aK (r5 x (.ref 23)) (S4 (.tup [.str 17,la,.tup [.int (.ofNat 1),ba]])):=λx=>by kernel_rfl
theorem Bl:∀ x,Kp aK (r5 x (.ref 23)) (S4 (.tup [.str 17,.tup [.str 1,.int (.ofNat 0)],.tup [.int (.ofNat 1),.int (.ofNat 1)]])):=λx=>by kernel_rfl
theorem Bu:∀ x o,Kp bc (r7 x o (.ref 27) (.tup [UI])) S7:=λx o=>by kernel_rfl
theorem BC:∀ x o,Kp bc (r7 x o (.ref 28) (.tup [UI])) S7:=λx o=>by kernel_rfl
theorem BK:∀ x o,Kp bc (r7 x o (.ref 29) (.tup [UI])) S7:=λx o=>by kernel_rfl
theorem yz:∀ x o w,Kp ai (r8 x o (.ref 27) w (n8)) P9:=λx o w=>by kernel_rfl
theorem vA:∀ o w,Kp ai (r8 (.tup [.str 6,.int (.ofNat 10000)]) o (.ref 27) w (.tup [.str 6,.int (.ofNat 10000)])) P9:=λo w=>by kernel_rfl
theorem sE:∀ o w,Kp ai (r8 (.ref 3) o (.ref 27) w (.ref 3)) P9:=λo w=>by kernel_rfl
theorem Dt:∀ x o w p,Kp dn (r8 x o (.ref 27) w p) P9:=λx o w p=>by kernel_rfl
theorem vH:∀ o w,Kp ai (r8 (.str 6) o (.ref 28) w (.str 6)) P9:=λo w=>by kernel_rfl
theorem sN:∀ o w,Kp ai (r8 (.tup [.str 14,aP,aP,aP]) o (.ref 28) w (.tup [.str 14,aP,aP,aP])) P9:=λo w=>by kernel_rfl
theorem sW:∀ o w,Kp ai (r8 (.tup [.str 14,gk,gk]) o (.ref 28) w (.tup [.str 14,gk,gk])) P9:=λo w=>by kernel_rfl
theorem yJ:∀ x o w,Kp ai (r8 x o (.ref 29) w (.ref 38)) P9:=λx o w=>by kernel_rfl
theorem vW:∀ o w,Kp ai (r8 (.tup [.str 2,.int (.ofNat 4)]) o (.ref 29) w (.tup [.str 2,.int (.ofNat 4)])) P9:=λo w=>by kernel_rfl
theorem tw:∀ o w,Kp ai (r8 (di) o (.ref 29) w (di)) P9:=λo w=>by kernel_rfl
theorem e14:∀ x o f w p,Kp gY (r8 x o f w p) P9:=λx o f w p=>by kernel_rfl
theorem e4s:R4 (λx=>∀ o y,Kp bo (r5 x o) (S4 y)) nD:=⟨Fd,Fe,Ff,Fg,Fh,Fi,Fj,Fk,Fm,Fo,DA,DB,DC,DE,DF,DG,DH,DI,DJ,DK,DL,trivial⟩
theorem Zx:R4 (λy=>∀ x,Kp aK (r5 x (.ref 23)) (S4 y)) y6:=⟨DM,DN,DO,DP,DQ,DR,DS,DT,DU,DV,A2,A3,A4,A5,A6,A7,A8,A9,Ba,Bb,Bc,Bd,Be,Bf,Bg,Bh,Bi,Bj,Bk,Bl,Bm,Bo,Bp,Bq,Br,Bs,trivial⟩
theorem e5s {y:EV.A} (h:∀ x,Kp aK (r5 x (.ref 23)) (S4 y)):R4 (λo=>∀ x,Kp aK (r5 x o) (S4 y)) y4:=⟨λx=>Fp x y,λx=>Fq x y,λx=>Fs x y,h,λx=>Ft x y,λx=>Fu x y,trivial⟩
theorem e9s:R4 (λf=>R4 (λw=>∀ x o,Kp bc (r7 x o f w) S7) De) oq:=⟨⟨Bt,Bu,Bv,Bw,Bx,By,Bz,BA,trivial⟩,⟨BB,BC,BD,BE,BF,BG,BH,BI,trivial⟩,⟨BJ,BK,BL,BM,BN,BO,BP,BQ,trivial⟩,trivial⟩
theorem Zy:R4 (λf=>R4 (λx=>∀ o w,Kp ai (r8 x o f w x) P9) nD) oq:=⟨⟨vv,vw,vx,vy,vz,vA,vB,vC,vD,vE,sA,sC,sD,sE,sF,sG,sH,sI,sJ,sL,sM,trivial⟩,⟨vF,vG,vH,vI,vJ,vK,vL,vM,vN,vO,sN,sO,sP,sQ,sR,sS,sU,sV,sW,sX,sY,trivial⟩,⟨vP,vQ,vR,vS,vT,vU,vV,vW,vX,vY,sZ,tj,tm,tq,tu,tw,tD,tF,tH,tJ,tL,trivial⟩,trivial⟩
noncomputable def Cj (x:EV.A):List EV.A:=[.PJ,n8,a1,x,.ref 38]
theorem Fc (x:EV.A):R4 (λf=>(∀ o w,Kp ai (r8 x o f w x) P9)->R4 (λp=>∀ o w,Kp ai (r8 x o f w p) P9) (Cj x)) oq:=⟨λh=>⟨λo w=>yy x o w,λo w=>yz x o w,λo w=>yA x o w,h,λo w=>yB x o w,trivial⟩,λh=>⟨λo w=>yC x o w,λo w=>yD x o w,λo w=>yE x o w,h,λo w=>yF x o w,trivial⟩,λh=>⟨λo w=>yG x o w,λo w=>yH x o w,λo w=>yI x o w,h,λo w=>yJ x o w,trivial⟩,trivial⟩
theorem Zz:R4 (λf=>∀ x o w p,Kp dn (r8 x o f w p) P9/\Kp dq (r8 x o f w p) P9) oq:=⟨λx o w p=>⟨Dt x o w p,Dw x o w p⟩,λx o w p=>⟨Du x o w p,Dy x o w p⟩,λx o w p=>⟨Dv x o w p,Dz x o w p⟩,trivial⟩
theorem FY {g:Gx} {m:List Addr} {S:PD} {H:Hp} {ρ:EV.Env} {σ:L2.St} {E:L2.St->XK} {c:Cs} {D:Ends} (s:PN g m S H) (re:Re g H m ρ σ) (e:Zw (c ρ S)=true) (q:∀ H,D.rt (.bl true) H):tS g E c D σ H:=by
 have h:∃ S',c ρ S=.ok (.rt (.bl true)) S':=by
  generalize c ρ S=r at e;unfold Zw at e;split at e
  ·exact ⟨_,rfl⟩
  ·cases e
 exact FX s re h λ_ H' v r=>by rw [r.QL];exact q H'
section
variable {P:Program} {w:World} {K:W.Frag} {mg:Str->Option Value} (T:Txt P w K mg) (E:XK)
noncomputable abbrev tk (c:Cs):TS:=tS (gx T) (λ_=>E) c
noncomputable def t12:TS:=bK (tk T E dn) (bK (tk T E dq) (bK (tk T E gY) (bK (tk T E gZ) (tk T E g5))))
noncomputable def t10:TS:=bK (i4 (gx T) 8 fG) (bK (tk T E ai) (t12 T E))
noncomputable def t7:TS:=bK (tk T E jJ) (bK (i4 (gx T) 7 g8) (bK (tk T E bc) (t10 T E)))
noncomputable def t3:TS:=bK (i4 (gx T) 5 g6) (bK (tk T E bo) (bK (tk T E aK) (bK (i4 (gx T) 6 g7) (t7 T E))))
variable {T E} {m:List Addr} {H:Hp} {σ:L2.St} {D:Ends} {x o f w' p y:EV.A}
theorem l12 (hD:∀ H,D.rt (.bl true) H) (hf:∀ x o w p,Kp dn (r8 x o f w p) P9/\Kp dq (r8 x o f w p) P9) (s:PN (gx T) m P9 H) (re:Re (gx T) H m (r8 x o f w' p) σ):t12 T E D σ H :=
 o7 s re (hf x o w' p).1 λ_ _ s re=>o7 s re (hf x o w' p).2 λ_ _ s re=>o7 s re (e14 x o f w' p) λ_ _ s re=>o7 s re (e15 x o f w' p) λ_ _ s re=>FY s re (e16 x o f w' p) hD
noncomputable def Dl (x:EV.A):PD:=⟨40,[(39,.lst (Cj x)),(38,.lst [UI]),(29,.lst [bp 2,bp 4]),(28,.lst [bp 0,bp 3]),(27,.lst [bp 3]),(7,.lst bs),(3,.lst [.str 6,.int (.ofNat 1)]),(0,.RB)]⟩
theorem p10 (x o f w:EV.A):fG (r7 x o f w) S8=.ok [.Q0,.ref 0,.ref 39] (Dl x):=by kernel_rfl
variable {kx kf:Nat}
theorem l10 (hD:∀ H,D.rt (.bl true) H) (hx:nD[kx]?=some x) (hf:oq[kf]?=some f) (s:PN (gx T) m S8 H) (re:Re (gx T) H m (r7 x o f w') σ):t10 T E D σ H:=by
 refine ⟨m,_,S8,s,re,0,39,Cj x,Dl x,p10 x o f w',by rfl,by rfl,(by show 0 < 5;decide),(by show 5<=900;decide),λk p hp m' H' σ' x1 s1 Rr=>?_⟩;have h11:=((Fc x).get hf) ((Zy.get hf).get hx)
 exact o7 (s1.keep [38,29,28,27,7,3,0] (by kernel_rfl)) Rr (h11.get hp o w') λ_ _ s re=>l12 hD (Zz.get hf) s re
noncomputable def XO:PD:=⟨38,[(37,.lst De),(36,.lst [ba,a1]),(35,.lst [ba,ba]),(34,.lst [ba]),(33,.lst [.PJ]),(32,.lst [UI,UI]),(31,.lst [n8]),(29,.lst [bp 2,bp 4]),(28,.lst [bp 0,bp 3]),(27,.lst [bp 3]),(7,.lst bs),(3,.lst [.str 6,.int (.ofNat 1)]),(0,.RB)]⟩
theorem p7 (x o f:EV.A):jJ (r6 x o f) S6=.ok (.nx (r7 x o f (.ref 37))) XO:=by kernel_rfl
theorem p8 (x o f:EV.A):g8 (r7 x o f (.ref 37)) XO=.ok [.Q0,.ref 0,.ref 37] XO:=by kernel_rfl
theorem l7 (hD:∀ H,D.rt (.bl true) H) (hx:nD[kx]?=some x) (hf:oq[kf]?=some f) (s:PN (gx T) m S6 H) (re:Re (gx T) H m (r6 x o f) σ):t7 T E D σ H:=by refine C9 s re (p7 x o f) λm1 H1 σ1 _ s1 Rr=>?_;refine ⟨m1,_,XO,s1,Rr,0,37,De,XO,p8 x o f,by rfl,by rfl,by decide,by decide,λk w hw m' H' σ' x1 s2 T4=>?_⟩;refine o7 (s2.keep [36,35,33,32,31,29,28,27,7,3,0] (by kernel_rfl)) T4 ((e9s.get hf).get hw x o) λH4 σ4 s4 Um=>?_;exact l10 hD hx hf (s4.keep [29,28,27,7,3,0] (by kernel_rfl)) Um
noncomputable def S6w (y:EV.A):PD:=⟨31,[(30,.lst oq),(29,.lst [bp 2,bp 4]),(28,.lst [bp 0,bp 3]),(27,.lst [bp 3]),(25,.lst (bs++[bp 0])),(23,.lst [y]),(12,.lst [.int (.ofNat 4)]),(10,.lst [.str 17,b6,dz]),(8,.lst []),(7,.lst bs),(3,.lst [.str 6,.int (.ofNat 1)]),(0,.RB)]⟩
theorem p6 (x o y:EV.A):g7 (r5 x o) (S4 y)=.ok [.Q0,.ref 0,.ref 30] (S6w y):=by kernel_rfl
theorem p3 (x y:EV.A):g6 (r5 x (.ref 26)) (S3 y)=.ok [.Q0,.ref 0,.ref 26] (S3 y):=by kernel_rfl
theorem l3 (hD:∀ H,D.rt (.bl true) H) {ky:Nat} (hx:nD[kx]?=some x) (hy:y6[ky]?=some y) (s:PN (gx T) m (S3 y) H) (re:Re (gx T) H m (r5 x (.ref 26)) σ):t3 T E D σ H:=by refine ⟨m,_,_,s,re,0,26,y4,S3 y,p3 x y,by rfl,by rfl,by decide,by decide,λk o ho m1 H1 σ1 x1 s1 Rr=>?_⟩;refine o7 (s1.keep [25,23,12,10,8,7,3,0] (by kernel_rfl):PN (gx T) m1 (S4 y) H1) Rr (e4s.get hx o y) λH2 σ2 s2 T4=>?_;refine o7 s2 T4 ((e5s (Zx.get hy)).get ho x) λH3 σ3 s3 Tg=>?_;refine ⟨m1,_,_,s3,Tg,0,30,oq,S6w y,p6 x o y,by rfl,by rfl,by decide,by decide,λk f hf m4 H4 σ4 x4 s4 Um=>?_⟩;exact l7 hD hx hf (s4.keep [29,28,27,7,3,0] (by kernel_rfl)) Um
noncomputable def gT:Option (List EV.A × PD):=Ui bM 8 7 [.Q0,.ref 0] ⟨1,[(0,.RB)]⟩
noncomputable def TU:PD:=match gT with | some q=>q.2 | none=>⟨0,[]⟩
theorem D0:Ui bM 8 7 [.Q0,.ref 0] ⟨1,[(0,.RB)]⟩=some (nD,TU):=by kernel_rfl
noncomputable def SA:PD:=⟨7,[(3,.lst [.str 6,.int (.ofNat 1)]),(0,.RB)]⟩
theorem BW:(⟨TU.nx,sub TU.cs [3,0]⟩:PD)=SA:=by kernel_rfl
noncomputable def gP:Option (List EV.A × PD):=Ui bH 7 6 [.Q0,.ref 0] WZ
noncomputable def Yq:PD:=match gP with | some q=>q.2 | none=>⟨0,[]⟩
theorem DZ:Ui bH 7 6 [.Q0,.ref 0] WZ=some (y6,Yq):=by kernel_rfl
noncomputable def SP:PD:=⟨23,[(12,.lst [.int (.ofNat 4)]),(10,.lst [.str 17,b6,dz]),(8,.lst []),(7,.lst bs),(3,.lst [.str 6,.int (.ofNat 1)]),(0,.RB)]⟩
theorem BV:(⟨Yq.nx,sub Yq.cs [12,10,8,7,3,0]⟩:PD)=SP:=by kernel_rfl
noncomputable def rS:EV.Env:=[some .Q0,some (.ref 0),none,none,none,none,none,none,none]
noncomputable def r1 (x:EV.A):EV.Env:=ro (some x) none none none none
theorem p0:mH [some .Q0,none,none,none,none,none,none,none,none] ⟨0,[]⟩=.ok (.nx rS) ⟨1,[(0,.lst [.int (.ofNat 0),.int (.ofNat 0),.int (.ofNat 4)])]⟩:=by kernel_rfl
theorem p11:fX rS SA=.ok UI SA:=by kernel_rfl
theorem p12:fY rS SA=.ok (.ref 7) S1:=by kernel_rfl
theorem p1t (x:EV.A):iH (.tup [x,UI,.ref 7]) rS=some (r1 x):=by kernel_rfl
theorem p20 (x:EV.A):fZ (r1 x) S1=.ok .PJ S1:=by kernel_rfl
theorem p21 (x:EV.A):f6 (r1 x) S1=.ok (.ref 8) WZ:=by kernel_rfl
theorem p22 (x:EV.A):f7 (r1 x) WZ=.ok (.tup bs) WZ:=by kernel_rfl
noncomputable def S2w (y:EV.A):PD:=⟨26,(25,.lst (bs++[bp 0]))::(24,.lst [bp 0])::(Zu y).cs⟩
theorem p24 (x y:EV.A):f9 (r1 x) (Zu y)=.ok (.ref 25) (S2w y):=by kernel_rfl
theorem p25 (x y:EV.A):gc (r1 x) (Zv y)=.ok (bp 0) (Zv y):=by kernel_rfl
section
variable (T E)
noncomputable def t2:TS:=bK (RI (qI (bh (tE (gx T) (λ_=>E) fZ) (bh (tE (gx T) (λ_=>E) f6) (bh (tE (gx T) (λ_=>E) f7) (bh (qI (bh (λσ=>(fU (Vz (gx T) (Ui bH 7 6)) [] E (bh (eO 0) (bh (eO 1) dP))) σ) dP)) (bh (tE (gx T) (λ_=>E) f9) (bh (tE (gx T) (λ_=>E) gc) dP))))))) (ff 5)) (t3 T E)
noncomputable def t1:TS:=bK (RI (z8 (bh (λσ=>(fU (Vz (gx T) (Ui bM 8 7)) [] E (bh (eO 0) (bh (eO 1) dP))) σ) (bh (tE (gx T) (λ_=>E) fX) (bh (tE (gx T) (λ_=>E) fY) dP)))) (tG (gx T) iH)) (t2 T E)
end
theorem l2 (hD:∀ H,D.rt (.bl true) H) (hx:nD[kx]?=some x) (s:PN (gx T) m S1 H) (re:Re (gx T) H m (r1 x) σ):t2 T E D σ H:=by show tE (gx T) (λ_=>E) fZ σ H _;refine qQ s re (p20 x) λm1 H1 v1 x1 s1 q1=>?_;have Rr:=re.mono x1 s;refine qQ (c:=f6) s1 Rr (p21 x) λm2 H2 v2 x2 s2 q2=>?_;have T4:=Rr.mono x2 s1;refine qQ (c:=f7) s2 T4 (p22 x) λm3 H3 v3 x3 s3 q3=>?_;have Tg:=T4.mono x3 s2;obtain ⟨u0,g0,k0⟩:=Tg.get 0 .Q0 rfl;obtain ⟨u1,g1,k1⟩:=Tg.get 1 (.ref 0) rfl;refine ⟨u0,g0,u1,g1,m3,WZ,[.Q0,.ref 0],y6,Yq,s3,.cons k0 (.cons k1 .nil),DZ,λk y hy m4 H4 v4 x4 s4 q4=>?_⟩;have Um:=Tg.mono x4 s3;have WG:PN (gx T) m4 SP H4:=s4.keep [12,10,8,7,3,0] BV;have nl:=Aj WG (.cons q4 .nil) rfl;refine ⟨nl.1,λp5 hp5=>?_⟩;obtain ⟨m5,x5,s5,q5⟩:=nl.2 p5 hp5;have Sn:=Um.mono x5 WG;refine qQ (c:=f9) (S:=Zu y) s5 Sn (p24 x y) λm6 H6 v6 x6 s6 q6=>?_;have Yr:=Sn.mono x6 s5;have XQ:PN (gx T) m6 (Zv y) H6:=s6.keep [25,23,12,10,8,7,3,0] (by kernel_rfl);refine qQ (c:=gc) XQ Yr (p25 x y) λm7 H7 v7 x7 s7 q7=>?_;have re7:=Yr.mono x7 XQ;have XN:∀ a v,R (gx T) H3 m3 a v->R (gx T) H7 m7 a v:=λa v r=>R.mono x7 XQ a (R.mono x6 s5 a (R.mono x5 WG a (R.mono x4 s3 a r)));have z1:=XN _ _ (R.mono x3 s2 _ (R.mono x2 s1 _ q1));have z2:=XN _ _ (R.mono x3 s2 _ q2);have z3:=XN _ _ q3;have z5:=R.mono x7 XQ _ (R.mono x6 s5 _ q5);have z6:=R.mono x7 XQ _ q6;have nl:=Aj (xs:=y4) s7 (.cons z1 (.cons z2 (.cons z3 (.cons z5 (.cons z6 (.cons q7 .nil)))))) rfl;refine ⟨nl.1,λp8 hp8=>?_⟩;obtain ⟨m8,x8,s8,q8⟩:=nl.2 p8 hp8;exact l3 hD hx hy s8 ((re7.mono x8 s7).set q8 5)
theorem l1 (hD:∀ H,D.rt (.bl true) H) (s:PN (gx T) m ⟨1,[(0,.RB)]⟩ H) (re:Re (gx T) H m rS σ):t1 T E D σ H:=by obtain ⟨u0,g0,k0⟩:=re.get 0 .Q0 rfl;obtain ⟨u1,g1,k1⟩:=re.get 1 (.ref 0) rfl;refine ⟨u0,g0,u1,g1,m,_,[.Q0,.ref 0],nD,TU,s,.cons k0 (.cons k1 .nil),D0,λk x hx m4 H4 v4 x4 s4 q4=>?_⟩;have Um:=re.mono x4 s;have WG:PN (gx T) m4 SA H4:=s4.keep [3,0] BW;refine qQ (c:=fX) WG Um p11 λm5 H5 v5 x5 s5 q5=>?_;have Sn:=Um.mono x5 WG;refine qQ (c:=fY) s5 Sn p12 λm6 H6 v6 x6 s6 q6=>?_;have Yr:=Sn.mono x6 s5;have nt:=Eg (xs:=[x,UI,.ref 7]) s6 (.cons (R.mono x6 s5 _ (R.mono x5 WG _ q4)) (.cons (R.mono x6 s5 _ q5) (.cons q6 .nil))) rfl;refine ⟨nt.1,λp7 hp7=>?_⟩;obtain ⟨m7,x7,s7,q7⟩:=nt.2 p7 hp7;exact ⟨m7,rS,S1,_,_,s7,Yr.mono x7 s6,q7,p1t x,λσ' re'=>l2 hD hx s7 re'⟩
theorem l0 (hD:∀ H,D.rt (.bl true) H) {v:V} (h:R (gx T) H [] .Q0 v):bK (tk T E mH) (t1 T E) D (L2.start ["_law_script","_law_town","_law_bad","_law_tree_here","_law_basic","_law_odd","_law_few","_law_wrong","_law_part"] [v]) H:=by
 have s:PN (gx T) [] ⟨0,[]⟩ H:=⟨rfl,.nil,(λ_ h=>nomatch h),(λ_ _ h=>nomatch h)⟩
 have re:Re (gx T) H [] [some .Q0,none,none,none,none,none,none,none,none] (L2.start ["_law_script","_law_town","_law_bad","_law_tree_here","_law_basic","_law_odd","_law_few","_law_wrong","_law_part"] [v]):=kr (as:=[.Q0]) (N:=["_law_script","_law_town","_law_bad","_law_tree_here","_law_basic","_law_odd","_law_few","_law_wrong","_law_part"]) (.cons h .nil) (by show 1<=9;decide);refine C9 s re p0 λm' H' σ' x' s' re'=>?_;exact l1 hD (PN.Zt s' 0 (p:=0) (q:=0) (rest:=[.int (.ofNat 4)]) rfl (by decide)) re'
end
noncomputable def o4 (K:W.Frag):Sp:=λvs H Q _=>∃ (a:Addr) (ns:List Int),vs=[.ref a]/\Vk K H a ns/\∀ H',Q (.bl true) H'
section
variable {P:Program} {w:World} {K:W.Frag} {mg:Str->Option Value} {base:Heap} {k:Nat}
theorem B8 {T:Txt P w K mg} (FA:PB P w K mg base (PK P w) k T.F0.a T.F0.d ["_law_what","_law_tree_here","_law_some","_law_other"] (EV.PZ (gx T) cA)) (FR:PB P w K mg base (PK P w) k T.Ga.a T.Ga.d ["_law_tree_here","_law_basic"] (EV.PZ (gx T) bL)) (FP:PB P w K mg base (PK P w) k T.F1.a T.F1.d ["_law_script","_law_town","_law_some"] (dO K)) (FE:PB P w K mg base (PK P w) k T.F1.a T.F1.d ["_law_script","_law_town","_law_some"] (EV.PZ (gx T) cv)) (FN:PB P w K mg base (PK P w) k T.Gw.a T.Gw.d ["_law_script","_law_town"] (Vz (gx T) (Ui bM 8 7))) (FQ:PB P w K mg base (PK P w) k T.Gr.a T.Gr.d ["_law_script","_law_town"] (Vz (gx T) (Ui bH 7 6))):PB P w K mg base (PK P w) (k+1) T.KA.a T.KA.d ["_law_script"] (o4 K):=by
 refine T.KA.f.YZ Uw (λvs H Q E ⟨a,ns,e,_⟩=>by rw [e];rfl) λcdv A' outer s H vs Q E hr ⟨a,ns,e,sc,q⟩=>⟨_,CP FA FR FP FE FN FQ hr,?_⟩
 subst e;exact l0 (T:=T) (E:=E) (D:={ nx:=λ_ H'=>Q .PJ H',rt:=Q }) q (by unfold R;exact ⟨a,ns,rfl,sc⟩)
end
end My
end
namespace My
open PySem L2 EV PyProof.Rows
section
variable {P:Program} {w:World} {K:W.Frag} {mg:Str->Option Value} {base:Heap}
theorem Do:gw (cN 30)=cA:=by funext as S;rfl
theorem chain (T:Txt P w K mg):PB P w K mg base (PK P w) 36 T.KA.a T.KA.d ["_law_script"] (o4 K):=by have A:=alN (base:=base) T 30;have ak:=pH A (kY (k:=32) T);rw [Do] at ak;have pr:=gy (n:=33) ak;have pk0:=ia (P:=P) (w:=w) (base:=base) (k:=1) T (hZ (k:=0) T);have pk:=pk0.YS (CX:=PK P w);have pe:=rD (n:=0) (PB.mono pk0 (by decide));have no:=j1 pk;have np:=jA pk;exact B8 (k:=35) (T:=T) (ak.mono (by decide)) pr (pk.mono (by decide)) (pe.mono (by decide)) (no.mono (by decide)) (np.mono (by decide))
end
noncomputable def XS {K:W.Frag} {h:Heap} {mg:Str->Option Value} {n:Str} {st:Stmt} {ps:List Str} {f:Addr} {oc:Value} {od an:Option Addr} {osl:Array (Option Value)} {kV doc pm cdv ct:Value} (X:K.In h) (G:h.Ns mainGlobals mg) (a:W.nsIn K mainGlobals n=some (some (.ref f))) (l:K.lookup f=some ⟨oc,od,.func (W.fnOf n n (dW st) (b8 st) (ag st) .none kV doc pm an cdv ct),osl⟩) (c:W.codeIn K cdv n=true) (k:W.keepIn K (.ref f)=true)
  (hb:∀ us:List Value,us.length=ps.length->bindArgs (W.fnOf n n (dW st) (b8 st) (ag st) .none kV doc pm an cdv ct) ⟨us,[]⟩=pure (ps.zip us)):Df K mg n st ps:=⟨f,_,wk l c k,W.mg_of X G a,.all hb⟩
variable {l:W.OpenLaw}
theorem all_mk {w:World} {K:W.Frag} {h:Heap} {mg:Str->Option Value} {fa:Addr} (X:K.In h) (G:h.Ns mainGlobals mg) (hfa:mg "law"=some (.ref fa)) (DD:Dfs K mg) {JD:Tok} {JK:Tok} {Jg:Tok} {JJ:Tok} {He:Tok} {J3:Tok} {HG:Tok} {Jq:Tok} {JL:Tok} {JC:Tok} {LR:Tok} {Lo:Tok} {Ln:Tok} {Jr:Tok} {JX:Addr} {JB:Addr} {Ip:Addr} {Ka:Addr} {JW:Addr} {KM:Addr} {LB:Addr} {Lk:Addr} {LC:Addr} {So:Obj} {Ji:Addr} {Kh:Addr} {Gm:Addr} {Ke:Addr} {Kf:Addr} {JS:Addr} {K7:Addr} {JR:Addr} {GG:Addr} {Gf:Addr} {Gh:Addr} {Kg:Addr} {KC:Addr} {Ju:Addr} {Kd:Addr} {Rl:Addr} {UZ Tr:Option Addr} {U0:Array (Option Value)} {U1 Tt Tu Tv R9 Tw:Value}
  (Jk:W.nsIn K mainGlobals "MOST_PARTS"=some (some (.int 40 JD)))
  (Jw:W.nsIn K mainGlobals "MOST_DEEP"=some (some (.int 8 JK)))
  (Iq:W.nsIn K mainGlobals "LONGEST_NAME"=some (some (.int 8 Jg)))
  (Jf:W.nsIn K mainGlobals "MOST_CELL"=some (some (.int 99 JJ)))
  (GN:W.nsIn K mainGlobals "MOST_PATTERN_DEEP"=some (some (.int 3 He)))
  (JF:W.nsIn K mainGlobals "MOST_GAP"=some (some (.int 9999 J3)))
  (GS:W.nsIn K mainGlobals "MOST_PIECE_CELLS"=some (some (.int 12 HG)))
  (IU:W.nsIn K mainGlobals "MOST_PIECES"=some (some (.int 16 Jq)))
  (Jx:W.nsIn K mainGlobals "MOST_NEAR"=some (some (.int 9 JL)))
  (Jj:W.nsIn K mainGlobals "CALL_CELLS"=some (some (.int 3 JC)))
  (Lc:W.nsIn K mainGlobals "END"=some (some (.int 0 LR)))
  (K9:W.nsIn K mainGlobals "CALL"=some (some (.int 15 Lo)))
  (K8:W.nsIn K mainGlobals "BACK"=some (some (.int 16 Ln)))
  (IV:W.nsIn K mainGlobals "MOST_SHARED"=some (some (.int 6 Jr)))
  (HD:W.nsIn K mainGlobals "MOST_IN_LEAF"=some (some (.ref JX))) (HF:KTD.tabLook (KTD.datLooks λb=>K.lookup b) (λb=>K.lookup b) JX TL=true)
  (Gs:W.nsIn K mainGlobals "TREES_IN_BRANCH"=some (some (.ref JB))) (Gu:KTD.tabLook (KTD.datLooks λb=>K.lookup b) (λb=>K.lookup b) JB TB=true)
  (GU:W.nsIn K mainGlobals "MARK_LENGTHS"=some (some (.ref Ip))) (HE:KTD.tabLook (KTD.datLooks λb=>K.lookup b) (λb=>K.lookup b) Ip TM=true)
  (Ii:W.nsIn K mainGlobals "FILLED_FROM"=some (some (.ref Ka))) (Ij:KTD.tabLook (KTD.datLooks λb=>K.lookup b) (λb=>K.lookup b) Ka TF=true)
  (HC:W.nsIn K mainGlobals "INSTRUCTIONS"=some (some (.ref JW))) (J4:c7 K (.tup INS) (.ref JW)=true)
  (JH:W.nsIn K mainGlobals "STRAIGHT"=some (some (.ref KM))) (KN:c7 K (.tup STR) (.ref KM)=true)
  (KD:W.nsIn K mainGlobals "AHEAD"=some (some (.ref LB))) (LF:c7 K (.tup AHE) (.ref LB)=true)
  (Ki:W.nsIn K mainGlobals "BEHIND"=some (some (.ref Lk))) (Lp:c7 K (.tup BEH) (.ref Lk)=true)
  (Im:W.nsIn K mainGlobals "BASIC"=some (some (.ref LC))) (LG:kb K BAS LC=true)
  (J0:K.lookup Ip=some So) (JY:KTD.tabLook KTD.flatLooks (λb=>K.lookup b) Ip ([("hole",.int 2),("gap",.int 3),("slot",.int 2)]:List (Str × PyData))=true) (J1:KTD.hashesOf (λb=>K.lookup b) Ip=([("hole",.int 2),("gap",.int 3),("slot",.int 2)]:List (Str × PyData)).map λp=>(PySem.strKind l.prog w).hash p.1)
  (Jm:W.nsIn K mainGlobals "PieceError"=some (some (.ref Ji)))
  (Kn:W.nsIn K mainGlobals "NoSize"=some (some (.ref Kh)))
  (JZ:W.nsIn K mainGlobals "NoTree"=some (some (.ref Gm)))
  (Kk:W.nsIn K mainGlobals "NoArgs"=some (some (.ref Ke)))
  (Kl:W.nsIn K mainGlobals "NoCode"=some (some (.ref Kf)))
  (JU:W.nsIn K mainGlobals "NoSteps"=some (some (.ref JS)))
  (La:W.nsIn K mainGlobals "Late"=some (some (.ref K7)))
  (JT:W.nsIn K mainGlobals "NoPiece"=some (some (.ref JR)))
  (Ks:W.nsIn K mainGlobals "NoSet"=some (some (.ref GG)))
  (Jl:W.nsIn K mainGlobals "NoCover"=some (some (.ref Gf)))
  (JG:W.nsIn K mainGlobals "NoParts"=some (some (.ref Gh)))
  (Km:W.nsIn K mainGlobals "NoName"=some (some (.ref Kg)))
  (KG:W.nsIn K mainGlobals "Taken"=some (some (.ref KC)))
  (JQ:W.nsIn K mainGlobals "Fault"=some (some (.ref Ju)))
  (Kj:W.nsIn K mainGlobals "Broken"=some (some (.ref Kd)))
  (Uj:W.findIn K (.ref Ju) "__init__"=some (some (.ref Rl))) (SV:K.lookup Rl=some ⟨U1,UZ,.func (W.fnOf "__init__" "Fault.__init__" (dW bC) (b8 bC) (ag bC) .none Tt Tu Tv Tr R9 Tw),U0⟩) (SW:W.codeIn K R9 "Fault.__init__"=true) (SX:W.keepIn K (.ref Rl)=true)
  (SY:pA K Ju Rl) (S9:uN K Ju "place")
  (K0:fA K Ju)
  (Ko:eE K Gm [.type "ValueError",.type "Exception",.type "BaseException",.type "object"] "ValueError.__new__" none=true) (GD:fA K Gm)
  (KH:eE K GG [.type "ValueError",.type "Exception",.type "BaseException",.type "object"] "ValueError.__new__" none=true) (Hb:fA K GG)
  (JI:eE K Gf [.type "ValueError",.type "Exception",.type "BaseException",.type "object"] "ValueError.__new__" none=true) (Gn:fA K Gf)
  (JV:eE K Gh [.type "ValueError",.type "Exception",.type "BaseException",.type "object"] "ValueError.__new__" none=true) (Gp:fA K Gh)
  (GM:W.exmOne K (.ref Gm) (.ref Ji)=some true)
  (GR:W.exmOne K (.ref GG) (.ref Ji)=some true)
  (Gz:W.exmOne K (.ref Gf) (.ref Ji)=some true)
  (GA:W.exmOne K (.ref Gh) (.ref Ji)=some true)
  (IT:W.exmOne K (.ref Ju) (.ref Ju)=some true)
  (GZ:W.exmOne K (.ref Gf) (.ref Gf)=some true)
  (Ia:W.kitOne K (.ref Gm) (.ref Kh)=some false)
  (Ib:W.kitOne K (.ref Gm) (.ref Gm)=some true)
  (HX:W.kitOne K (.ref Gm) (.ref Ke)=some false)
  (HY:W.kitOne K (.ref Gm) (.ref Kf)=some false)
  (HA:W.kitOne K (.ref Gm) (.ref JS)=some false)
  (IZ:W.kitOne K (.ref Gm) (.ref K7)=some false)
  (Hz:W.kitOne K (.ref Gm) (.ref JR)=some false)
  (ID:W.kitOne K (.ref Gm) (.ref GG)=some false)
  (Hx:W.kitOne K (.ref Gm) (.ref Gf)=some false)
  (Hy:W.kitOne K (.ref Gm) (.ref Gh)=some false)
  (HZ:W.kitOne K (.ref Gm) (.ref Kg)=some false)
  (IE:W.kitOne K (.ref Gm) (.ref KC)=some false)
  (IC:W.kitOne K (.ref Gm) (.ref Ju)=some false)
  (HW:W.kitOne K (.ref Gm) (.ref Kd)=some false)
  (IA:W.kitOne K (.ref GG) (.ref Kh)=some false)
  (IB:W.kitOne K (.ref GG) (.ref Gm)=some false)
  (Iw:W.kitOne K (.ref GG) (.ref Ke)=some false)
  (Iy:W.kitOne K (.ref GG) (.ref Kf)=some false)
  (HV:W.kitOne K (.ref GG) (.ref JS)=some false)
  (Jn:W.kitOne K (.ref GG) (.ref K7)=some false)
  (HU:W.kitOne K (.ref GG) (.ref JR)=some false)
  (IX:W.kitOne K (.ref GG) (.ref GG)=some true)
  (HR:W.kitOne K (.ref GG) (.ref Gf)=some false)
  (HS:W.kitOne K (.ref GG) (.ref Gh)=some false)
  (Iz:W.kitOne K (.ref GG) (.ref Kg)=some false)
  (IY:W.kitOne K (.ref GG) (.ref KC)=some false)
  (IW:W.kitOne K (.ref GG) (.ref Ju)=some false)
  (Iv:W.kitOne K (.ref GG) (.ref Kd)=some false)
  (Ho:W.kitOne K (.ref Gf) (.ref Kh)=some false)
  (Hq:W.kitOne K (.ref Gf) (.ref Gm)=some false)
  (Hl:W.kitOne K (.ref Gf) (.ref Ke)=some false)
  (Hm:W.kitOne K (.ref Gf) (.ref Kf)=some false)
  (G6:W.kitOne K (.ref Gf) (.ref JS)=some false)
  (Ir:W.kitOne K (.ref Gf) (.ref K7)=some false)
  (G5:W.kitOne K (.ref Gf) (.ref JR)=some false)
  (HL:W.kitOne K (.ref Gf) (.ref GG)=some false)
  (G0:W.kitOne K (.ref Gf) (.ref Gf)=some true)
  (G4:W.kitOne K (.ref Gf) (.ref Gh)=some false)
  (Hn:W.kitOne K (.ref Gf) (.ref Kg)=some false)
  (HM:W.kitOne K (.ref Gf) (.ref KC)=some false)
  (HK:W.kitOne K (.ref Gf) (.ref Ju)=some false)
  (Hk:W.kitOne K (.ref Gf) (.ref Kd)=some false)
  (Hv:W.kitOne K (.ref Gh) (.ref Kh)=some false)
  (Hw:W.kitOne K (.ref Gh) (.ref Gm)=some false)
  (Hs:W.kitOne K (.ref Gh) (.ref Ke)=some false)
  (Ht:W.kitOne K (.ref Gh) (.ref Kf)=some false)
  (Ha:W.kitOne K (.ref Gh) (.ref JS)=some false)
  (Iu:W.kitOne K (.ref Gh) (.ref K7)=some false)
  (G9:W.kitOne K (.ref Gh) (.ref JR)=some false)
  (HP:W.kitOne K (.ref Gh) (.ref GG)=some false)
  (G7:W.kitOne K (.ref Gh) (.ref Gf)=some false)
  (G8:W.kitOne K (.ref Gh) (.ref Gh)=some true)
  (Hu:W.kitOne K (.ref Gh) (.ref Kg)=some false)
  (HQ:W.kitOne K (.ref Gh) (.ref KC)=some false)
  (HN:W.kitOne K (.ref Gh) (.ref Ju)=some false)
  (Hr:W.kitOne K (.ref Gh) (.ref Kd)=some false)
  (GO:W.kitOne K (.ref Gm) (.type "ValueError")=some true)
  (GT:W.kitOne K (.ref GG) (.type "ValueError")=some true)
  (GB:W.kitOne K (.ref Gf) (.type "ValueError")=some true)
  (GC:W.kitOne K (.ref Gh) (.type "ValueError")=some true)
  (Md:W.nsIn K mainGlobals "len"=some none)
  (Kv:W.nsIn K mainGlobals "isinstance"=some none)
  (Mc:W.nsIn K mainGlobals "int"=some none)
  (LW:W.nsIn K mainGlobals "bool"=some none)
  (Mf:W.nsIn K mainGlobals "str"=some none)
  (LI:W.nsIn K mainGlobals "tuple"=some none)
  (LX:W.nsIn K mainGlobals "list"=some none)
  (LH:W.nsIn K mainGlobals "range"=some none)
  (Ma:W.nsIn K mainGlobals "all"=some none)
  (Mb:W.nsIn K mainGlobals "any"=some none)
  (Me:W.nsIn K mainGlobals "set"=some none)
  (Mg:W.nsIn K mainGlobals "sum"=some none)
  (KO:W.nsIn K mainGlobals "reversed"=some none)
  (Mh:W.nsIn K mainGlobals "zip"=some none)
  (KB:W.nsIn K mainGlobals "enumerate"=some none)
  (Ku:W.nsIn K mainGlobals "ValueError"=some none) :
  ∃ fd:FuncData,(∀ (s:Shared) (v:Value),BindsTo s fd ⟨[v],[]⟩ [("_law_script",v)])/\∀ base:Heap,K.In base->base.Ns mainGlobals mg->PB l.prog w K mg base (PK l.prog w) 36 fa fd ["_law_script"] (o4 K):=by
 have M:∀ {n:Str} {v:Value},W.nsIn K mainGlobals n=some (some v)->mg n=some v:=W.mg_of X G;have N:∀ {n:Str},W.nsIn K mainGlobals n=some none->mg n=none:=W.mg_none_of X G;have e:=hfa.symm.trans DD.KA.m;cases e
 let T:Txt l.prog w K mg :=
  {toDfs:=DD,
   JD:=JD,Jk:=M Jk,
   JK:=JK,Jw:=M Jw,
   Jg:=Jg,Iq:=M Iq,
   JJ:=JJ,Jf:=M Jf,
   He:=He,GN:=M GN,
   J3:=J3,JF:=M JF,
   HG:=HG,GS:=M GS,
   Jq:=Jq,IU:=M IU,
   JL:=JL,Jx:=M Jx,
   JC:=JC,Jj:=M Jj,
   LR:=LR,Lc:=M Lc,
   Lo:=Lo,K9:=M K9,
   Ln:=Ln,K8:=M K8,
   Jr:=Jr,IV:=M IV,
   Je:=JX,HD:=M HD,HF:=λh x=>Py x HF,
   GY:=JB,Gs:=M Gs,Gu:=λh x=>Py x Gu,
   HB:=Ip,GU:=M GU,HE:=λh x=>Py x HE,
   Jp:=Ka,Ii:=M Ii,Ij:=λh x=>Py x Ij,
   Jd:=JW,HC:=M HC,Io:=J4,
   Kq:=KM,JH:=M JH,Kr:=KN,
   Lf:=LB,KD:=M KD,Lg:=LF,
   KS:=Lk,Ki:=M Ki,KU:=Lp,
   Ja:=LC,Im:=M Im,Gy:=LG,
   Ky:=⟨⟨_,J0⟩,λh x=>⟨_,W.kt_tab_in l.prog w x JY (by decide +kernel) J1,rfl⟩⟩,
   GI:=Ji,Jm:=M Jm,
   IS:=Kh,Kn:=M Kn,
   Gc:=Gm,JZ:=M JZ,
   IP:=Ke,Kk:=M Kk,
   IQ:=Kf,Kl:=M Kl,
   HJ:=JS,JU:=M JU,
   JO:=K7,La:=M La,
   HI:=JR,JT:=M JT,
   Gi:=GG,Ks:=M Ks,
   F4:=Gf,Jl:=M Jl,
   F8:=Gh,JG:=M JG,
   IR:=Kg,Km:=M Km,
   Jt:=KC,KG:=M KG,
   Hf:=Ju,JQ:=M JQ,
   IM:=Kd,Kj:=M Kj,
   Lh:=Rl,KW:=W.fnOf "__init__" "Fault.__init__" (dW bC) (b8 bC) (ag bC) .none Tt Tu Tv Tr R9 Tw,Ll:=wk (st:=bC) SV SW SX,LA:=SY,LQ:=S9,
   K0:=K0,
   Ko:=Ko,GD:=GD,
   KH:=KH,Hb:=Hb,
   JI:=JI,Gn:=Gn,
   JV:=JV,Gp:=Gp,
   GM:=GM,
   GR:=GR,
   Gz:=Gz,
   GA:=GA,
   IT:=IT,
   GZ:=GZ,
   Ia:=Ia,
   Ib:=Ib,
   HX:=HX,
   HY:=HY,
   HA:=HA,
   IZ:=IZ,
   Hz:=Hz,
   ID:=ID,
   Hx:=Hx,
   Hy:=Hy,
   HZ:=HZ,
   IE:=IE,
   IC:=IC,
   HW:=HW,
   IA:=IA,
   IB:=IB,
   Iw:=Iw,
   Iy:=Iy,
   HV:=HV,
   Jn:=Jn,
   HU:=HU,
   IX:=IX,
   HR:=HR,
   HS:=HS,
   Iz:=Iz,
   IY:=IY,
   IW:=IW,
   Iv:=Iv,
   Ho:=Ho,
   Hq:=Hq,
   Hl:=Hl,
   Hm:=Hm,
   G6:=G6,
   Ir:=Ir,
   G5:=G5,
   HL:=HL,
   G0:=G0,
   G4:=G4,
   Hn:=Hn,
   HM:=HM,
   HK:=HK,
   Hk:=Hk,
   Hv:=Hv,
   Hw:=Hw,
   Hs:=Hs,
   Ht:=Ht,
   Ha:=Ha,
   Iu:=Iu,
   G9:=G9,
   HP:=HP,
   G7:=G7,
   G8:=G8,
   Hu:=Hu,
   HQ:=HQ,
   HN:=HN,
   Hr:=Hr,
   GO:=GO,
   GT:=GT,
   GB:=GB,
   GC:=GC,
   GQ:=N Md,
   F2:=N Kv,
   L8:=N Mc,
   L7:=N LW,
   L9:=N Mf,
   Jv:=N LI,
   Kz:=N LX,
   Kt:=N LH,
   KZ:=N Ma,
   Mj:=N Mb,
   Ml:=N Me,
   Mm:=N Mg,
   Lm:=N KO,
   LP:=N Mh,
   Ld:=N KB,
   KY:=N Ku }
 obtain ⟨_,_,_,_,_,_,_,_,_,e,_⟩:=DD.KA.f.ex;exact ⟨_,λs v=>by rw [e];exact .of_eq rfl,λbase _ _=>chain T⟩
theorem walk {q:Program} {loose:List Str} {XP:(Str->Option Value)->Heap->Prop} {YP:World->Heap->Prop} {d:DefRec} {K:Params->W.Frag} (hn:l.most=some 63) (hdf:d.params.defaults=[])
  (hY:∀ (w:World) (h:Heap),YP w h->(K w.params).In h)
  (F:∀ (w:World) (mg:Str->Option Value) (fa:Addr) (h:Heap),(K w.params).In h->h.Ns mainGlobals mg->mg d.name=some (.ref fa) ->
   ∃ fd:FuncData,(∀ (s:Shared) (u:Value),BindsTo s fd ⟨[u],[]⟩ [("_law_script",u)])/\∀ base:Heap,(K w.params).In base->base.Ns mainGlobals mg->PB l.prog w (K w.params) mg base (PK l.prog w) 36 fa fd ["_law_script"] (o4 (K w.params))) :
  W.WalkO q loose XP YP l.row.toRowW d [] (λf vs=>PySem.call f vs) :=
 L2.VN (n:=63) (k:=36) (x:="_law_script") (CX:=λw=>PK l.prog w) (sp:=λw=>o4 (K w.params)) hn (by decide) hdf ⟨rfl,by decide,by decide⟩ hY F (λ_ _ a ns hl hO hS=>⟨a,ns,rfl,CY hO hS,λ_=>rfl⟩) λ_ _ _ _ _ ⟨_,_,_,_,_,_,_,_,_,_,_,_,_,_,z⟩=>z
end My
open PySem PySem.W PyProof.Rows
set_option maxRecDepth 100000 in
set_option maxHeartbeats 0 in
theorem PySem.Challenge.cw_piecelay_k21_sharing_refused_holds : PySem.Challenge.rw_piecelay_k21_sharing_refused.Holds := by
 w_on;refine holds_law My.said λsaid=>?_
 refine holds_open (q:=My.view) (loose:=My.loose) (Xt:=My.xt) (XP:=XL My.view []) (Yf:=Hook.obs (kHook My.k0.heap_1 My.kas My.kas_ok)) (Ya:=Hook.val (kHook My.k0.heap_1 My.kas My.kas_ok)) (YP:=Hook.says (kHook My.k0.heap_1 My.kas My.kas_ok)) (N:=My.NN) My.left (Hook.of (kHook My.k0.heap_1 My.kas My.kas_ok)) (Hook.keeps (kHook My.k0.heap_1 My.kas My.kas_ok)) (λs e=>xl_of s (Bool.and_eq_true_iff.mp e).1) XL.keeps (by rfl) (by rfl) (by rfl) (λs e=>recFacts_of (Bool.and_eq_true_iff.mp e).2) (by rfl) (by first | assumption | decide +kernel) (by decide +kernel) ⟨rfl,rfl,rfl,rfl,rfl,by decide +kernel⟩ ?hw ?hc
 case hw=>w_witness2
 k_fill
 refine My.walk (l:=PySem.Challenge.rw_piecelay_k21_sharing_refused) rfl rfl (λw h Y=>PySem.W.kIn_of Y) ?F
 case F =>
  intro w mg fa h KX G hmg;refine' My.all_mk KX G hmg ?DD  ?Jk ?Jw ?Iq ?Jf ?GN ?JF ?GS ?IU ?Jx ?Jj ?Lc ?K9 ?K8 ?IV ?HD ?HF ?Gs ?Gu ?GU ?HE ?Ii ?Ij ?HC ?J4 ?JH ?KN ?KD ?LF ?Ki ?Lp ?Im ?LG ?J0 ?JY ?J1 ?Jm ?Kn ?JZ ?Kk ?Kl ?JU ?La ?JT ?Ks ?Jl ?JG ?Km ?KG ?JQ ?Kj ?Uj ?SV ?SW ?SX ?SY ?S9 ?K0 ?Ko ?GD ?KH ?Hb ?JI ?Gn ?JV ?Gp ?GM ?GR ?Gz ?GA ?IT ?GZ ?Ia ?Ib ?HX ?HY ?HA ?IZ ?Hz ?ID ?Hx ?Hy ?HZ ?IE ?IC ?HW ?IA ?IB ?Iw ?Iy ?HV ?Jn ?HU ?IX ?HR ?HS ?Iz ?IY ?IW ?Iv ?Ho ?Hq ?Hl ?Hm ?G6 ?Ir ?G5 ?HL ?G0 ?G4 ?Hn ?HM ?HK ?Hk ?Hv ?Hw ?Hs ?Ht ?Ha ?Iu ?G9 ?HP ?G7 ?G8 ?Hu ?HQ ?HN ?Hr ?GO ?GT ?GB ?GC ?Md ?Kv ?Mc ?LW ?Mf ?LI ?LX ?LH ?Ma ?Mb ?Me ?Mg ?KO ?Mh ?KB ?Ku
  case DD =>
   constructor
   all_goals
    refine' My.XS KX G ?a ?l ?c ?k ?b
    case a=>k_is
    case l=>change _=_;k_is
    case c=>k_is
    case k=>k_is
    case b=>exact λus hl=>by first | (match us,hl with | [],_=>rfl) | (match us,hl with | [_],_=>rfl) | (match us,hl with | [_,_],_=>rfl) | (match us,hl with | [_,_,_],_=>rfl) | (match us,hl with | [_,_,_,_],_=>rfl) | (match us,hl with | [_,_,_,_,_],_=>rfl) | (match us,hl with | [_,_,_,_,_,_],_=>rfl)
  case Jk | Jw | Iq | Jf | GN | JF | GS | IU | Jx | Jj | Lc | K9 | K8 | IV | HD | Gs | GU | Ii | HC | JH | KD | Ki | Im | J0 | Jm | Kn | JZ | Kk | Kl | JU | La | JT | Ks | Jl | JG | Km | KG | JQ | Kj | Uj | SV | SW | SX | Md | Kv | Mc | LW | Mf | LI | LX | LH | Ma | Mb | Me | Mg | KO | Mh | KB | Ku=>k_is
  case HF | Gu | HE | Ij | J4 | KN | LF | Lp | LG | JY=>first | rfl | decide +kernel
  case J1 | Ko | KH | JI | JV | GM | GR | Gz | GA | IT | GZ | Ia | Ib | HX | HY | HA | IZ | Hz | ID | Hx | Hy | HZ | IE | IC | HW | IA | IB | Iw | Iy | HV | Jn | HU | IX | HR | HS | Iz | IY | IW | Iv | Ho | Hq | Hl | Hm | G6 | Ir | G5 | HL | G0 | G4 | Hn | HM | HK | Hk | Hv | Hw | Hs | Ht | Ha | Iu | G9 | HP | G7 | G8 | Hu | HQ | HN | Hr | GO | GT | GB | GC=>first | rfl | kernel_rfl | decide +kernel
  case SY=>refine ⟨?_,?_,?_,?_⟩ <;> (first | rfl | kernel_rfl | decide +kernel)
  case S9=>refine ⟨?_,?_,?_,?_,?_⟩ <;> (first | rfl | kernel_rfl | decide +kernel)
  case K0 | GD | Hb | Gn | Gp=>refine ⟨?_,?_,?_,?_,?_,?_,?_,?_⟩ <;> (first | rfl | kernel_rfl | decide +kernel)
